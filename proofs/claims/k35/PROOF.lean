import PyProof.Rows.All
import Wide.All
import OpenK.AllK
import Wide.FinOn
import KE.KStateDown
import Lean
import HandS.ForMost
import HandS.Wide
import HandS.WideBits
import HandS.IsInst
import HandS.Walk
import HandS.Evl
import HandS.Style
import HandS.NoneIn
import HandS.Defaults
import HandS.Head0
import HandS.Head1
import HandS.Head2
import HandS.HeadEnd
import HandS.HeadHook1
import HandS.HeadHook2
import HandS.AnyAll
import HandS.Conv
import HandS.Dict
import HandS.DictComp
import HandS.EndTab
import HandS.Exc
import HandS.ExcIs
import HandS.ExcOwn
import HandS.Flow
import HandS.HeadHook3
import HandS.HeadHook4
import HandS.HeadWalk
import HandS.More
import HandS.Set
import HandS.SetBool
import HandS.SetFor
import HandS.Small
import HandS.SortInts
import HandS.SortKw
import HandS.Strs
import HandS.Style
import HandS.TryOnly
import HandS.TupAny
import HandS.TupMul
import HandS.WordsExc
import HandS.Zip
import KE.DataMinMax
import KE.GoesEnum
import KE.GoesMore
import KE.GoesSet
import KE.GoesZip
import KE.KDictWalk
import KE.KNest
import PyProof.GenCompT
import PyProof.ReprLen
import PyProof.ReprRoads
import PyProof.Rows.MatchSeqLen
import PyProof.RulesMatch
import PyProof.RulesMatchSeq
import PyProof.TupleOfGen
import PySem.Challenge.RW_shareones_k35_rows_by_formulas
set_option Elab.async false
set_option pp.maxSteps 250
set_option linter.all false
set_option maxRecDepth 100000
set_option maxHeartbeats 4000000
namespace Fq
open PySem PySem.Spec PyProof.Rows L2
section
variable {P : Program} {w : World} {K : PySem.W.Frag} {mg : Str → Option Value} {base : Heap}
def topS (i : Nat) : Stmt := PySem.Challenge.pw_shareones_k35_rows_by_formulas.main.body.getD i (.Pass ⟨0, 0, 0, 0⟩)
abbrev FnP (K : PySem.W.Frag) (x : Str) (st : Stmt) (f : Addr) (fd : FuncData) : Prop := FunD K x x (defArgs st) (defBody st) (defScope st) [] [] f fd
abbrev s_refuse_unlike : Stmt := topS 9
abbrev N_refuse_unlike : List Str := ["rows", "row"]
theorem sc_refuse_unlike : FnScope N_refuse_unlike ["rows"] (defScope s_refuse_unlike) := ⟨rfl, rfl, rfl, by decide +kernel, rfl, by decide +kernel, by decide +kernel⟩
abbrev s_turned : Stmt := topS 10
abbrev N_turned : List Str := ["row", "bit"]
theorem sc_turned : FnScope N_turned ["row"] (defScope s_turned) := ⟨rfl, rfl, rfl, by decide +kernel, rfl, by decide +kernel, by decide +kernel⟩
abbrev s_both : Stmt := topS 11
abbrev N_both : List Str := ["one", "other", "a", "b"]
theorem sc_both : FnScope N_both ["one", "other"] (defScope s_both) := ⟨rfl, rfl, rfl, by decide +kernel, rfl, by decide +kernel, by decide +kernel⟩
abbrev s_either : Stmt := topS 12
abbrev N_either : List Str := ["one", "other", "a", "b"]
theorem sc_either : FnScope N_either ["one", "other"] (defScope s_either) := ⟨rfl, rfl, rfl, by decide +kernel, rfl, by decide +kernel, by decide +kernel⟩
abbrev s_oneof : Stmt := topS 13
abbrev N_oneof : List Str := ["one", "other", "a", "b"]
theorem sc_oneof : FnScope N_oneof ["one", "other"] (defScope s_oneof) := ⟨rfl, rfl, rfl, by decide +kernel, rfl, by decide +kernel, by decide +kernel⟩
abbrev s_pick : Stmt := topS 14
abbrev N_pick : List Str := ["by", "one", "other", "bit", "a", "b"]
theorem sc_pick : FnScope N_pick ["by", "one", "other"] (defScope s_pick) := ⟨rfl, rfl, rfl, by decide +kernel, rfl, by decide +kernel, by decide +kernel⟩
abbrev s_sides_of : Stmt := topS 16
abbrev N_sides_of : List Str := ["part"]
theorem sc_sides_of : FnScope N_sides_of ["part"] (defScope s_sides_of) := ⟨rfl, rfl, rfl, by decide +kernel, rfl, by decide +kernel, by decide +kernel⟩
abbrev s_parts_of : Stmt := topS 17
abbrev N_parts_of : List Str := ["formula", "parts", "side"]
theorem sc_parts_of : FnScope N_parts_of ["formula"] (defScope s_parts_of) := ⟨rfl, rfl, rfl, by decide +kernel, rfl, by decide +kernel, by decide +kernel⟩
abbrev s_inputs_of : Stmt := topS 18
abbrev N_inputs_of : List Str := ["formula", "part"]
theorem sc_inputs_of : FnScope N_inputs_of ["formula"] (defScope s_inputs_of) := ⟨rfl, rfl, rfl, by decide +kernel, rfl, by decide +kernel, by decide +kernel⟩
abbrev s_thing_at : Stmt := topS 19
abbrev N_thing_at : List Str := ["things", "i", "other"]
theorem sc_thing_at : FnScope N_thing_at ["things", "i", "other"] (defScope s_thing_at) := ⟨rfl, rfl, rfl, by decide +kernel, rfl, by decide +kernel, by decide +kernel⟩
abbrev s_row_within : Stmt := topS 20
abbrev N_row_within : List Str := ["formula", "rows", "i", "f", "g", "h"]
theorem sc_row_within : FnScope N_row_within ["formula", "rows"] (defScope s_row_within) := ⟨rfl, rfl, rfl, by decide +kernel, rfl, by decide +kernel, by decide +kernel⟩
abbrev s_row_by : Stmt := topS 21
abbrev N_row_by : List Str := ["formula", "rows", "noughts", "i"]
theorem sc_row_by : FnScope N_row_by ["formula", "rows"] (defScope s_row_by) := ⟨rfl, rfl, rfl, by decide +kernel, rfl, by decide +kernel, by decide +kernel⟩
abbrev s__law_box : Stmt := topS 23
abbrev N__law_box : List Str := ["_law_script", "_law_k", "_law_cell"]
theorem sc__law_box : FnScope N__law_box ["_law_script", "_law_k"] (defScope s__law_box) := ⟨rfl, rfl, rfl, by decide +kernel, rfl, by decide +kernel, by decide +kernel⟩
abbrev s__law_take : Stmt := topS 24
abbrev N__law_take : List Str := ["_law_box_here", "_law_many", "_law_found", "_law_once"]
theorem sc__law_take : FnScope N__law_take ["_law_box_here", "_law_many"] (defScope s__law_take) := ⟨rfl, rfl, rfl, by decide +kernel, rfl, by decide +kernel, by decide +kernel⟩
abbrev s__law_folded : Stmt := topS 25
abbrev N__law_folded : List Str := ["_law_script", "_law_many", "_law_cells", "_law_k", "_law_cell"]
theorem sc__law_folded : FnScope N__law_folded ["_law_script", "_law_many"] (defScope s__law_folded) := ⟨rfl, rfl, rfl, by decide +kernel, rfl, by decide +kernel, by decide +kernel⟩
abbrev s__law_formula : Stmt := topS 26
abbrev N__law_formula : List Str := ["_law_box_here", "_law_deep", "_law_many", "_law_wide", "_law_way", "_law_left", "_law_word", "_law_turn"]
theorem sc__law_formula : FnScope N__law_formula ["_law_box_here", "_law_deep", "_law_many", "_law_wide"] (defScope s__law_formula) := ⟨rfl, rfl, rfl, by decide +kernel, rfl, by decide +kernel, by decide +kernel⟩
abbrev s__law_any : Stmt := topS 27
abbrev N__law_any : List Str := ["_law_box_here", "_law_great", "_law_wide"]
theorem sc__law_any : FnScope N__law_any ["_law_box_here"] (defScope s__law_any) := ⟨rfl, rfl, rfl, by decide +kernel, rfl, by decide +kernel, by decide +kernel⟩
abbrev s__law_inputs : Stmt := topS 28
abbrev N__law_inputs : List Str := ["_law_formula_here", "_law_found", "_law_part"]
theorem sc__law_inputs : FnScope N__law_inputs ["_law_formula_here"] (defScope s__law_inputs) := ⟨rfl, rfl, rfl, by decide +kernel, rfl, by decide +kernel, by decide +kernel⟩
abbrev s__law_bit : Stmt := topS 29
abbrev N__law_bit : List Str := ["_law_formula_here", "_law_bits", "_law_some", "_law_part"]
theorem sc__law_bit : FnScope N__law_bit ["_law_formula_here", "_law_bits"] (defScope s__law_bit) := ⟨rfl, rfl, rfl, by decide +kernel, rfl, by decide +kernel, by decide +kernel⟩
abbrev s__law_rows : Stmt := topS 30
abbrev N__law_rows : List Str := ["_law_box_here", "_law_many", "_law_size", "_law_found", "_law_k", "_law_wide", "_law_t"]
theorem sc__law_rows : FnScope N__law_rows ["_law_box_here", "_law_many"] (defScope s__law_rows) := ⟨rfl, rfl, rfl, by decide +kernel, rfl, by decide +kernel, by decide +kernel⟩
abbrev s__law_refused : Stmt := topS 31
abbrev N__law_refused : List Str := ["_law_formula_here", "_law_rows_here", "_law_caught", "error", "_law_others"]
theorem sc__law_refused : FnScope N__law_refused ["_law_formula_here", "_law_rows_here"] (defScope s__law_refused) := ⟨rfl, rfl, rfl, by decide +kernel, rfl, by decide +kernel, by decide +kernel⟩
abbrev s_law : Stmt := topS 32
abbrev N_law : List Str := ["_law_script", "_law_cells", "_law_k", "_law_box_here", "_law_formula_here", "_law_many", "_law_rows_here", "_law_size", "_law_due", "_law_handed", "_law_at", "_law_short", "_law_odd", "_law_t", "_law_row"]
theorem sc_law : FnScope N_law ["_law_script"] (defScope s_law) := ⟨rfl, rfl, rfl, by decide +kernel, rfl, by decide +kernel, by decide +kernel⟩
/-- the code object of the def at f is the one at c -/
def CodeAt (K : PySem.W.Frag) (f c : Addr) : Prop := ∀ (oc : Value) (od : Option Addr) (fd : FuncData) (osl : Array (Option Value)), K.lookup f = some ⟨oc, od, .func fd, osl⟩ → ∀ b, fd.code = .ref b → b = c
theorem okC {P : Program} {w : World} {K : PySem.W.Frag} {mg : Str → Option Value} {base : Heap} {x : Str} {st : Stmt} {f c : Addr} {fd : FuncData} {N ps : List Str} {k : Nat} {sp : Sp} (F : FnP K x st f fd) (hc : CodeAt K f c) (S : FnScope N ps (defScope st)) (len : ∀ vs H Q E, sp vs H Q E → vs.length = ps.length)
    (hb : ∀ (A : Around) (outer : List Env) (s : Shared) (H : Hp) (vs : List V) (Q : VK) (E : XK), Room k (A.deeper (envOfC x (defScope st) s.heap.objs.size f (.ref c))) → sp vs H Q E →
      ∃ t, PSs (cxOf CX0 P w K mg base N x (defScope st) f (.ref c) A outer s H E) (defBody st) t ∧ t { nx := fun _ H' => Q .non H', rt := Q } (L2.start N vs) H) : FnOk P w K mg base CX0 (k + 1) f fd ps sp := by
  obtain ⟨oc, od, dV, kV, doc, pm, an, cdv, ct, osl, rfl, lk, hcd, _, _⟩ := F.ex
  obtain ⟨b, rfl⟩ := He.codeIn_ref hcd
  have e := hc oc od _ osl lk b rfl
  subst e
  exact fn_of lk hcd S len hb
theorem okX {P : Program} {w : World} {K : PySem.W.Frag} {mg : Str → Option Value} {base : Heap} {x : Str} {st : Stmt} {f : Addr} {fd : FuncData} {N ps : List Str} {k : Nat} {sp : Sp} (F : FnP K x st f fd) (S : FnScope N ps (defScope st)) (len : ∀ vs H Q E, sp vs H Q E → vs.length = ps.length)
    (hb : ∀ (cdv : Value) (A : Around) (outer : List Env) (s : Shared) (H : Hp) (vs : List V) (Q : VK) (E : XK), Room k (A.deeper (envOfC x (defScope st) s.heap.objs.size f cdv)) → sp vs H Q E →
      ∃ t, PSs (cxOf (L2.CX P w) P w K mg base N x (defScope st) f cdv A outer s H E) (defBody st) t ∧ t { nx := fun _ H' => Q .non H', rt := Q } (L2.start N vs) H) : FnOk P w K mg base (L2.CX P w) (k + 1) f fd ps sp := by
  obtain ⟨oc, od, dV, kV, doc, pm, an, cdv, ct, osl, rfl, lk, hcd, _, _⟩ := F.ex
  exact fn_of lk hcd S len fun A outer s H vs Q E hr h => hb cdv A outer s H vs Q E hr h
theorem okXC {P : Program} {w : World} {K : PySem.W.Frag} {mg : Str → Option Value} {base : Heap} {x : Str} {st : Stmt} {f c : Addr} {fd : FuncData} {N ps : List Str} {k : Nat} {sp : Sp} (F : FnP K x st f fd) (hc : CodeAt K f c) (S : FnScope N ps (defScope st)) (len : ∀ vs H Q E, sp vs H Q E → vs.length = ps.length)
    (hb : ∀ (A : Around) (outer : List Env) (s : Shared) (H : Hp) (vs : List V) (Q : VK) (E : XK), Room k (A.deeper (envOfC x (defScope st) s.heap.objs.size f (.ref c))) → sp vs H Q E →
      ∃ t, PSs (cxOf (L2.CX P w) P w K mg base N x (defScope st) f (.ref c) A outer s H E) (defBody st) t ∧ t { nx := fun _ H' => Q .non H', rt := Q } (L2.start N vs) H) : FnOk P w K mg base (L2.CX P w) (k + 1) f fd ps sp := by
  obtain ⟨oc, od, dV, kV, doc, pm, an, cdv, ct, osl, rfl, lk, hcd, _, _⟩ := F.ex
  obtain ⟨b, rfl⟩ := He.codeIn_ref hcd
  have e := hc oc od _ osl lk b rfl
  subst e
  exact fn_of lk hcd S len hb
structure Defs (K : PySem.W.Frag) (mg : Str → Option Value) where
  f_refuse_unlike : Addr
  fd_refuse_unlike : FuncData
  F_refuse_unlike : FnP K "refuse_unlike" s_refuse_unlike f_refuse_unlike fd_refuse_unlike
  g_refuse_unlike : mg "refuse_unlike" = some (.ref f_refuse_unlike)
  b_refuse_unlike : Binds K fd_refuse_unlike ["rows"] []
  f_turned : Addr
  fd_turned : FuncData
  F_turned : FnP K "turned" s_turned f_turned fd_turned
  g_turned : mg "turned" = some (.ref f_turned)
  b_turned : Binds K fd_turned ["row"] []
  f_both : Addr
  fd_both : FuncData
  F_both : FnP K "both" s_both f_both fd_both
  g_both : mg "both" = some (.ref f_both)
  b_both : Binds K fd_both ["one", "other"] []
  f_either : Addr
  fd_either : FuncData
  F_either : FnP K "either" s_either f_either fd_either
  g_either : mg "either" = some (.ref f_either)
  b_either : Binds K fd_either ["one", "other"] []
  f_oneof : Addr
  fd_oneof : FuncData
  F_oneof : FnP K "oneof" s_oneof f_oneof fd_oneof
  g_oneof : mg "oneof" = some (.ref f_oneof)
  b_oneof : Binds K fd_oneof ["one", "other"] []
  f_pick : Addr
  fd_pick : FuncData
  F_pick : FnP K "pick" s_pick f_pick fd_pick
  g_pick : mg "pick" = some (.ref f_pick)
  b_pick : Binds K fd_pick ["by", "one", "other"] []
  f_sides_of : Addr
  fd_sides_of : FuncData
  F_sides_of : FnP K "sides_of" s_sides_of f_sides_of fd_sides_of
  g_sides_of : mg "sides_of" = some (.ref f_sides_of)
  b_sides_of : Binds K fd_sides_of ["part"] []
  f_parts_of : Addr
  fd_parts_of : FuncData
  F_parts_of : FnP K "parts_of" s_parts_of f_parts_of fd_parts_of
  g_parts_of : mg "parts_of" = some (.ref f_parts_of)
  b_parts_of : Binds K fd_parts_of ["formula"] []
  f_inputs_of : Addr
  fd_inputs_of : FuncData
  F_inputs_of : FnP K "inputs_of" s_inputs_of f_inputs_of fd_inputs_of
  g_inputs_of : mg "inputs_of" = some (.ref f_inputs_of)
  b_inputs_of : Binds K fd_inputs_of ["formula"] []
  f_thing_at : Addr
  fd_thing_at : FuncData
  F_thing_at : FnP K "thing_at" s_thing_at f_thing_at fd_thing_at
  g_thing_at : mg "thing_at" = some (.ref f_thing_at)
  b_thing_at : Binds K fd_thing_at ["things", "i", "other"] []
  f_row_within : Addr
  fd_row_within : FuncData
  F_row_within : FnP K "row_within" s_row_within f_row_within fd_row_within
  g_row_within : mg "row_within" = some (.ref f_row_within)
  b_row_within : Binds K fd_row_within ["formula", "rows"] []
  f_row_by : Addr
  fd_row_by : FuncData
  F_row_by : FnP K "row_by" s_row_by f_row_by fd_row_by
  g_row_by : mg "row_by" = some (.ref f_row_by)
  b_row_by : Binds K fd_row_by ["formula", "rows"] []
  f__law_box : Addr
  fd__law_box : FuncData
  F__law_box : FnP K "_law_box" s__law_box f__law_box fd__law_box
  g__law_box : mg "_law_box" = some (.ref f__law_box)
  b__law_box : Binds K fd__law_box ["_law_script", "_law_k"] []
  f__law_take : Addr
  fd__law_take : FuncData
  F__law_take : FnP K "_law_take" s__law_take f__law_take fd__law_take
  g__law_take : mg "_law_take" = some (.ref f__law_take)
  b__law_take : Binds K fd__law_take ["_law_box_here", "_law_many"] []
  f__law_folded : Addr
  fd__law_folded : FuncData
  F__law_folded : FnP K "_law_folded" s__law_folded f__law_folded fd__law_folded
  g__law_folded : mg "_law_folded" = some (.ref f__law_folded)
  b__law_folded : Binds K fd__law_folded ["_law_script", "_law_many"] []
  f__law_formula : Addr
  fd__law_formula : FuncData
  F__law_formula : FnP K "_law_formula" s__law_formula f__law_formula fd__law_formula
  g__law_formula : mg "_law_formula" = some (.ref f__law_formula)
  b__law_formula : Binds K fd__law_formula ["_law_box_here", "_law_deep", "_law_many", "_law_wide"] []
  f__law_any : Addr
  fd__law_any : FuncData
  F__law_any : FnP K "_law_any" s__law_any f__law_any fd__law_any
  g__law_any : mg "_law_any" = some (.ref f__law_any)
  b__law_any : Binds K fd__law_any ["_law_box_here"] []
  f__law_inputs : Addr
  fd__law_inputs : FuncData
  F__law_inputs : FnP K "_law_inputs" s__law_inputs f__law_inputs fd__law_inputs
  g__law_inputs : mg "_law_inputs" = some (.ref f__law_inputs)
  b__law_inputs : Binds K fd__law_inputs ["_law_formula_here"] []
  f__law_bit : Addr
  fd__law_bit : FuncData
  F__law_bit : FnP K "_law_bit" s__law_bit f__law_bit fd__law_bit
  g__law_bit : mg "_law_bit" = some (.ref f__law_bit)
  b__law_bit : Binds K fd__law_bit ["_law_formula_here", "_law_bits"] []
  f__law_rows : Addr
  fd__law_rows : FuncData
  F__law_rows : FnP K "_law_rows" s__law_rows f__law_rows fd__law_rows
  g__law_rows : mg "_law_rows" = some (.ref f__law_rows)
  b__law_rows : Binds K fd__law_rows ["_law_box_here", "_law_many"] []
  f__law_refused : Addr
  fd__law_refused : FuncData
  F__law_refused : FnP K "_law_refused" s__law_refused f__law_refused fd__law_refused
  g__law_refused : mg "_law_refused" = some (.ref f__law_refused)
  b__law_refused : Binds K fd__law_refused ["_law_formula_here", "_law_rows_here"] []
  f_law : Addr
  fd_law : FuncData
  F_law : FnP K "law" s_law f_law fd_law
  g_law : mg "law" = some (.ref f_law)
  b_law : Binds K fd_law ["_law_script"] []
  c_turned : Addr
  P_turned : Addr
  k_turned : CodeAt K f_turned c_turned
  c_both : Addr
  P_both : Addr
  k_both : CodeAt K f_both c_both
  c_either : Addr
  P_either : Addr
  k_either : CodeAt K f_either c_either
  c_oneof : Addr
  P_oneof : Addr
  k_oneof : CodeAt K f_oneof c_oneof
  c_pick : Addr
  P_pick : Addr
  k_pick : CodeAt K f_pick c_pick
  C_OnesError : Addr
  g_OnesError : mg "OnesError" = some (.ref C_OnesError)
  C_Unlike : Addr
  g_Unlike : mg "Unlike" = some (.ref C_Unlike)
  C_NoSuch : Addr
  g_NoSuch : mg "NoSuch" = some (.ref C_NoSuch)
  C_NoOne : Addr
  g_NoOne : mg "NoOne" = some (.ref C_NoOne)
  C_NoRound : Addr
  g_NoRound : mg "NoRound" = some (.ref C_NoRound)
  C_BadText : Addr
  g_BadText : mg "BadText" = some (.ref C_BadText)
  C_BadSheet : Addr
  g_BadSheet : mg "BadSheet" = some (.ref C_BadSheet)
  xi_Unlike : PySem.W.excIn K C_Unlike He.veBase "ValueError.__new__" = true
  xk_Unlike : PySem.W.keepIn K (.ref C_Unlike) = true
  xs_Unlike : PySem.W.subIn K (.ref C_Unlike) (.type "BaseException") = some true
  xt_Unlike : PySem.W.typeIn K (.ref C_Unlike) = some (.type "type")
  xc_Unlike : ExcC K C_Unlike
  xm_Unlike : PySem.W.exmOne K (.ref C_Unlike) (.ref C_OnesError) = some true
  xo_Unlike_OnesError : PySem.W.kitOne K (.ref C_Unlike) (.ref C_OnesError) = some true
  xo_Unlike_Unlike : PySem.W.kitOne K (.ref C_Unlike) (.ref C_Unlike) = some true
  xo_Unlike_NoSuch : PySem.W.kitOne K (.ref C_Unlike) (.ref C_NoSuch) = some false
  xo_Unlike_NoOne : PySem.W.kitOne K (.ref C_Unlike) (.ref C_NoOne) = some false
  xo_Unlike_NoRound : PySem.W.kitOne K (.ref C_Unlike) (.ref C_NoRound) = some false
  xo_Unlike_BadText : PySem.W.kitOne K (.ref C_Unlike) (.ref C_BadText) = some false
  xo_Unlike_BadSheet : PySem.W.kitOne K (.ref C_Unlike) (.ref C_BadSheet) = some false
  xv_Unlike : PySem.W.kitOne K (.ref C_Unlike) (.type "ValueError") = some true
  m_ValueError : mg "ValueError" = none
  m_abs : mg "abs" = none
  m_divmod : mg "divmod" = none
  m_enumerate : mg "enumerate" = none
  m_int : mg "int" = none
  m_isinstance : mg "isinstance" = none
  m_len : mg "len" = none
  m_list : mg "list" = none
  m_max : mg "max" = none
  m_range : mg "range" = none
  m_repr : mg "repr" = none
  m_sorted : mg "sorted" = none
  m_sum : mg "sum" = none
  m_tuple : mg "tuple" = none
  m_zip : mg "zip" = none
structure Tabs {K : PySem.W.Frag} {mg : Str → Option Value} (T : Defs K mg) (base : Heap) : Prop where
  t_turned : GxR.TabB base mg T.c_turned T.P_turned
  t_both : GxR.TabB base mg T.c_both T.P_both
  t_either : GxR.TabB base mg T.c_either T.P_either
  t_oneof : GxR.TabB base mg T.c_oneof T.P_oneof
  t_pick : GxR.TabB base mg T.c_pick T.P_pick
theorem bt_ValueError : bootBuiltins "ValueError" = some (.type "ValueError") := by decide +kernel
theorem bt_abs : bootBuiltins "abs" = some (.builtin "abs") := by decide +kernel
theorem bt_divmod : bootBuiltins "divmod" = some (.builtin "divmod") := by decide +kernel
theorem bt_enumerate : bootBuiltins "enumerate" = some (.type "enumerate") := by decide +kernel
theorem bt_int : bootBuiltins "int" = some (.type "int") := by decide +kernel
theorem bt_isinstance : bootBuiltins "isinstance" = some (.builtin "isinstance") := by decide +kernel
theorem bt_len : bootBuiltins "len" = some (.builtin "len") := by decide +kernel
theorem bt_list : bootBuiltins "list" = some (.type "list") := by decide +kernel
theorem bt_max : bootBuiltins "max" = some (.builtin "max") := by decide +kernel
theorem bt_range : bootBuiltins "range" = some (.type "range") := by decide +kernel
theorem bt_repr : bootBuiltins "repr" = some (.builtin "repr") := by decide +kernel
theorem bt_sorted : bootBuiltins "sorted" = some (.builtin "sorted") := by decide +kernel
theorem bt_sum : bootBuiltins "sum" = some (.builtin "sum") := by decide +kernel
theorem bt_tuple : bootBuiltins "tuple" = some (.type "tuple") := by decide +kernel
theorem bt_zip : bootBuiltins "zip" = some (.type "zip") := by decide +kernel
def frT (t b : Int) : Int := (b.sign * t) / (Int.gcd t b : Int)
def frB (t b : Int) : Int := (b.natAbs : Int) / (Int.gcd t b : Int)
theorem fr_ex (t : Int) {b : Int} (hb : b ≠ 0) : ∃ (g : Nat) (x y : Int), 0 < g ∧ Int.gcd t b = g ∧ t = (g : Int) * x ∧ b = (g : Int) * y ∧ y ≠ 0 ∧ Int.gcd x y = 1 := by
  have hg : 0 < Int.gcd t b := Int.gcd_pos_of_ne_zero_right t hb
  obtain ⟨x, hx⟩ := Int.gcd_dvd_left t b
  obtain ⟨y, hy⟩ := Int.gcd_dvd_right t b
  refine ⟨Int.gcd t b, x, y, hg, rfl, hx, hy, fun e => hb (by rw [hy, e, Int.mul_zero]), ?_⟩
  generalize eg : Int.gcd t b = g at hg hx hy
  have e : g = g * Int.gcd x y := by
    rw [← eg]
    conv => lhs; rw [hx, hy, Int.gcd_mul_left]
    rw [Int.natAbs_natCast, eg]
  exact Nat.eq_of_mul_eq_mul_left hg (by rw [← e, Nat.mul_one])
theorem sgn {b : Int} {g : Nat} {y : Int} (hg : 0 < g) (hb : b = (g : Int) * y) : b.sign = y.sign := by
  rw [hb, Int.sign_mul, Int.sign_eq_one_of_pos (by omega), Int.one_mul]
theorem fr_vals {t b : Int} {g : Nat} {x y : Int} (hg : 0 < g) (eg : Int.gcd t b = g) (ht : t = (g : Int) * x) (hb : b = (g : Int) * y) : frT t b = y.sign * x ∧ frB t b = (y.natAbs : Int) := by
  have g0 : (g : Int) ≠ 0 := by omega
  constructor
  · unfold frT
    rw [eg, sgn hg hb, ht, show y.sign * ((g : Int) * x) = (g : Int) * (y.sign * x) by rw [Int.mul_left_comm]]
    exact Int.mul_ediv_cancel_left _ g0
  · unfold frB
    rw [eg, hb, Int.natAbs_mul, Int.natAbs_natCast, Int.natCast_mul]
    exact Int.mul_ediv_cancel_left _ g0
theorem sgn_abs {y : Int} (hy : y ≠ 0) : y.sign.natAbs = 1 := Int.natAbs_sign_of_ne_zero hy
theorem fr_pos (t : Int) {b : Int} (hb : b ≠ 0) : 0 < frB t b := by
  obtain ⟨g, x, y, hg, eg, ht, hy, hy0, h1⟩ := fr_ex t hb
  rw [(fr_vals hg eg ht hy).2]
  omega
theorem fr_gcd (t : Int) {b : Int} (hb : b ≠ 0) : Int.gcd (frT t b) (frB t b) = 1 := by
  obtain ⟨g, x, y, hg, eg, ht, hy, hy0, h1⟩ := fr_ex t hb
  rw [(fr_vals hg eg ht hy).1, (fr_vals hg eg ht hy).2]
  show Nat.gcd (y.sign * x).natAbs ((y.natAbs : Int)).natAbs = 1
  rw [Int.natAbs_mul, sgn_abs hy0, Nat.one_mul, Int.natAbs_natCast]
  exact h1
theorem fr_eq (t : Int) {b : Int} (hb : b ≠ 0) : frT t b * b = t * frB t b := by
  obtain ⟨g, x, y, hg, eg, ht, hy, hy0, h1⟩ := fr_ex t hb
  rw [(fr_vals hg eg ht hy).1, (fr_vals hg eg ht hy).2]
  rw [ht, hy]
  have e : y * y.sign = (y.natAbs : Int) := Int.mul_sign_self y
  rw [← e]
  simp only [Int.mul_comm, Int.mul_left_comm, Int.mul_assoc]
theorem fr_absT (t : Int) {b : Int} (hb : b ≠ 0) : (frT t b).natAbs ≤ t.natAbs := by
  obtain ⟨g, x, y, hg, eg, ht, hy, hy0, h1⟩ := fr_ex t hb
  rw [(fr_vals hg eg ht hy).1, ht, Int.natAbs_mul, sgn_abs hy0, Nat.one_mul, Int.natAbs_mul, Int.natAbs_natCast]
  exact Nat.le_mul_of_pos_left _ hg
theorem fr_absB (t : Int) {b : Int} (hb : b ≠ 0) : (frB t b).natAbs ≤ b.natAbs := by
  obtain ⟨g, x, y, hg, eg, ht, hy, hy0, h1⟩ := fr_ex t hb
  rw [(fr_vals hg eg ht hy).2, hy, Int.natAbs_mul, Int.natAbs_natCast, Int.natAbs_natCast]
  exact Nat.le_mul_of_pos_left _ hg
theorem fr_negT (t b : Int) : frT (-t) (-b) = frT t b := by
  unfold frT
  rw [Int.sign_neg, Int.neg_mul_neg, Int.gcd_neg, Int.neg_gcd]
theorem fr_negB (t b : Int) : frB (-t) (-b) = frB t b := by
  unfold frB
  rw [Int.natAbs_neg, Int.gcd_neg, Int.neg_gcd]
/-- what the program's two ways reckon -/
theorem fd_pos {g : Nat} {x : Int} (hg : 0 < g) : ((g : Int) * x).fdiv (g : Int) = x := by
  rw [Int.fdiv_eq_ediv_of_nonneg _ (by omega)]
  exact Int.mul_ediv_cancel_left _ (by omega)
theorem fd_neg {g : Nat} {x : Int} (hg : 0 < g) : ((g : Int) * x).fdiv (-(g : Int)) = -x := by
  rw [show (g : Int) * x = -(g : Int) * (-x) by rw [Int.neg_mul_neg]]
  exact Int.mul_fdiv_cancel_left _ (by omega)
theorem fr_lt (t : Int) {b : Int} (hb : b < 0) : t.fdiv (-(Int.gcd t b : Int)) = frT t b ∧ b.fdiv (-(Int.gcd t b : Int)) = frB t b := by
  obtain ⟨g, x, y, hg, eg, ht, hy, hy0, h1⟩ := fr_ex t (show b ≠ 0 by omega)
  rw [(fr_vals hg eg ht hy).1, (fr_vals hg eg ht hy).2, eg]
  have yn : y < 0 := by
    rw [hy] at hb
    exact Int.neg_of_mul_neg_right hb (by omega)
  constructor
  · conv => lhs; rw [ht]
    rw [fd_neg hg, Int.sign_eq_neg_one_of_neg yn]
    omega
  · conv => lhs; rw [hy]
    rw [fd_neg hg]
    omega
theorem fr_ge (t : Int) {b : Int} (hb : 0 < b) : t.fdiv (Int.gcd t b : Int) = frT t b ∧ b.fdiv (Int.gcd t b : Int) = frB t b := by
  obtain ⟨g, x, y, hg, eg, ht, hy, hy0, h1⟩ := fr_ex t (show b ≠ 0 by omega)
  rw [(fr_vals hg eg ht hy).1, (fr_vals hg eg ht hy).2, eg]
  have yn : 0 < y := by
    rw [hy] at hb
    exact Int.pos_of_mul_pos_right hb (by omega)
  constructor
  · conv => lhs; rw [ht]
    rw [fd_pos hg, Int.sign_eq_one_of_pos yn]
    omega
  · conv => lhs; rw [hy]
    rw [fd_pos hg]
    omega
/-! sizes -/
def S (n : Nat) (x : Int) : Prop := x.natAbs < 2 ^ n
theorem S.mono {n m : Nat} {x : Int} (h : S n x) (l : n ≤ m) : S m x := Nat.lt_of_lt_of_le h (Nat.pow_le_pow_right (by decide) l)
theorem S.mul {n m : Nat} {x y : Int} (h : S n x) (k : S m y) : S (n + m) (x * y) := by
  unfold S at *
  rw [Int.natAbs_mul, Nat.pow_add]
  exact Nat.mul_lt_mul'' h k
theorem S.add {n : Nat} {x y : Int} (h : S n x) (k : S n y) : S (n + 1) (x + y) := by
  unfold S at *
  rw [Nat.pow_succ]
  omega
theorem S.sub {n : Nat} {x y : Int} (h : S n x) (k : S n y) : S (n + 1) (x - y) := by
  unfold S at *
  rw [Nat.pow_succ]
  omega
theorem S.frT {n : Nat} {t b : Int} (h : S n t) (hb : b ≠ 0) : S n (frT t b) := Nat.lt_of_le_of_lt (fr_absT t hb) h
theorem S.frB {n : Nat} {t b : Int} (h : S n b) (hb : b ≠ 0) : S n (frB t b) := Nat.lt_of_le_of_lt (fr_absB t hb) h
theorem abs_eq (i : Int) : (if i < 0 then -i else i) = (i.natAbs : Int) := by
  split <;> omega
/-! the same rules with the written part by its name: for the inside of comprehensions -/
theorem pg_tupK {X : Cx} {K : PySem.W.Frag} {es : List Expr} {k n : Nat} {pos : Pos} {t : TGs} (h : X.K = K) (hc : X.calm = true) (hg : PGs X es t) (hn : (assignEach es X.env).length = n := by rfl) (hst : (assignEach es X.env).findIdx? (·.1) = none := by rfl) : PG X (.Tuple es k pos) (gTup K n t) := by
  subst h
  exact pg_tup hc hg hn hst
theorem isiK {X : Cx} {K : PySem.W.Frag} (h : X.K = K) : CallR X (.builtin "isinstance") (rIsi K) := by
  subst h
  exact call_isi
theorem ixlK {X : Cx} {K : PySem.W.Frag} (h : X.K = K) : IxR X (rIxL K) := by
  subst h
  exact ix_list
theorem ixtK {X : Cx} {K : PySem.W.Frag} (h : X.K = K) : IxR X (rIxT K) := by
  subst h
  exact ix_tup
theorem lenK {X : Cx} {K : PySem.W.Frag} (h : X.K = K) : CallR X (.builtin "len") (fun xs H Q => ∃ p ys, xs = [.ref p] ∧ (SqL K H p ys ∨ SqT K H p ys) ∧ Q (.int ys.length) H) := by
  subst h
  exact call_len_seq
theorem sumK {X : Cx} {K : PySem.W.Frag} (h : X.K = K) (hc : X.calm = true) : CallR X (.builtin "sum") (rSum K) := by
  subst h
  exact cr_sum hc
theorem yes_ite {σ : L2.St} {H : Hp} {A B : Hp → Prop} (h : A H) : tYes σ H (fun b H3 => if b = true then A H3 else B H3) := by
  show if true = true then A H else B H
  rw [if_pos rfl]
  exact h
/-! heaps -/
theorem same_upd {H : Hp} {p : Addr} {o : HO} (h : H p = none) : Same H (upd H p o) := fun b x e => by
  rw [upd_ne (ne_of_none e h)]
  exact e
def But (p : Addr) (H H' : Hp) : Prop := ∀ b o, b ≠ p → H b = some o → H' b = some o
theorem But.trans {p : Addr} {H H1 H2 : Hp} (a : But p H H1) (b : But p H1 H2) : But p H H2 := fun c o n e => b c o n (a c o n e)
theorem But.refl (p : Addr) (H : Hp) : But p H H := fun _ _ _ e => e
theorem But.put {p : Addr} {H H' : Hp} {o : HO} (a : But p H H') : But p H (L2.upd H' p o) := fun c x n e => by
  rw [upd_ne n]
  exact a c x n e
theorem same_but {p : Addr} {H H' : Hp} (a : Same H H') : But p H H' := fun c x _ e => a c x e
theorem But.new {p q : Addr} {H H' : Hp} {o : HO} (a : But p H H') (n : H' q = none) : But p H (upd H' q o) := fun c x hn e => by
  have e2 := a c x hn e
  rw [upd_ne (ne_of_none e2 n)]
  exact e2
/-- objects made since H may change: what H has stays -/
theorem same_newer {H H' : Hp} {q : Addr} {o : HO} (a : Same H H') (n : H q = none) : Same H (upd H' q o) := fun c x e => by
  rw [upd_ne (ne_of_none e n)]
  exact a c x e
theorem But.same {p : Addr} {H H1 H2 : Hp} (n : H p = none) (a : Same H H1) (b : But p H1 H2) : Same H H2 := fun c x e =>
  b c x (ne_of_none e n) (a c x e)
/-- the box: a rest, a begin, how often -/
def Bx (H : Hp) (p : Addr) (n : Nat) : Prop := ∃ a b c : Int, H p = some (.lst [.int a, .int b, .int c]) ∧ 0 ≤ a ∧ 0 ≤ b ∧ b < 2147483647 ∧ 0 ≤ c ∧ c ≤ n
theorem Bx.same {H H' : Hp} {p : Addr} {n : Nat} (h : Bx H p n) (s : Same H H') : Bx H' p n := by
  obtain ⟨a, b, c, hp, r⟩ := h
  exact ⟨a, b, c, s _ _ hp, r⟩
theorem Bx.mono {H : Hp} {p : Addr} {n m : Nat} (h : Bx H p n) (l : n ≤ m) : Bx H p m := by
  obtain ⟨a, b, c, hp, h1, h2, h3, h4, h5⟩ := h
  exact ⟨a, b, c, hp, h1, h2, h3, h4, by omega⟩
theorem Bx.new {H : Hp} {p q : Addr} {n : Nat} {o : HO} (h : Bx H p n) (nq : H q = none) : Bx (L2.upd H q o) p n := h.same (same_upd nq)
theorem Bx.ne_tup {H : Hp} {p q : Addr} {n : Nat} {xs : List V} (h : Bx H p n) (e : H q = some (.tup xs)) : q ≠ p := by
  obtain ⟨a, b, c, hp, _⟩ := h
  exact ne_of e hp (fun z => by cases z)
/-- an item of a menu of numbers -/
theorem at_menu {Pr : Int → Prop} {xs : List Int} {r : Int} (h0 : 0 ≤ r) (h1 : r < xs.length) (hx : ∀ x, x ∈ xs → Pr x) : ∃ v, atI (xs.map V.int) r = some (V.int v) ∧ Pr v := by
  obtain ⟨j, rfl⟩ := Int.eq_ofNat_of_zero_le h0
  have hj : j < xs.length := by omega
  refine ⟨xs[j], atI_nat (by rw [List.getElem?_map, List.getElem?_eq_getElem hj]; rfl), hx _ (List.getElem_mem hj)⟩
theorem SqL.mk {K : PySem.W.Frag} {H : Hp} {a : Addr} {xs : List V} (h : H a = some (.lst xs)) : SqL K H a xs := .inl (.inl h)
theorem SqT.mk {K : PySem.W.Frag} {H : Hp} {a : Addr} {xs : List V} (h : H a = some (.tup xs)) : SqT K H a xs := .inl (.inl h)
theorem same_tup {K : PySem.W.Frag} {H H' : Hp} {a : Addr} {xs : List V} (e : Same H H') (h : SqT K H a xs) : SqT K H' a xs := by
  rcases h with (h | ⟨o, h⟩) | h
  · exact .inl (.inl (e _ _ h))
  · exact .inl (.inr ⟨o, e _ _ h⟩)
  · exact .inr h
theorem ixn {n j : Nat} (hj : j < n) : ixN n (j : Int) = some j := by
  unfold ixN
  rw [if_pos (by omega), if_pos (by omega)]
  simp
theorem cdivP {a m : Int} (h0 : 0 < m) (h1 : m < 2 ^ 60) : CDivP a m := ⟨h0, PyProof.noPylong_of_log2 (wide_div (i := a) (b := 60) h0 (by omega) (by decide) (by decide)).2⟩
theorem i01 {c : Prop} [Decidable c] : -(2 ^ 64) < (if c then (1 : Int) else 0) ∧ (if c then (1 : Int) else 0) < 2 ^ 64 := by
  split <;> decide
theorem i01n {c : Prop} [Decidable c] : 0 ≤ (if c then (1 : Int) else 0) := by
  split <;> decide
theorem absn (i : Int) : 0 ≤ (if i < 0 then -i else i) := by
  split <;> omega
/-! the box of a cell -/
def sp__law_box (K : PySem.W.Frag) : Sp := fun vs H Q _ => ∃ (a : Addr) (ns : List Int) (k : Nat), vs = [.ref a, .int (k : Nat)] ∧ SqL K H a (ns.map V.int) ∧ k < 1000 ∧
  ∀ H' p, Same H H' → H p = none → Bx H' p 0 → Q (.ref p) H'
theorem ok__law_box (T : Defs K mg) (TT : Tabs T base) : FnOk P w K mg base CX0 1 T.f__law_box T.fd__law_box ["_law_script", "_law_k"] (sp__law_box K) := by
  refine T.F__law_box.ok sc__law_box (fun vs H Q E h => ?_) (fun cdv A outer s H vs Q E hr h => ?_)
  · obtain ⟨a, ns, k, rfl, hS, hk, q⟩ := h
    rfl
  · obtain ⟨a, ns, k, rfl, hS, hk, q⟩ := h
    refine ⟨_, PSs.nox (pss_cons (ps_set (i := 2) sc__law_box.nd rfl (.inl rfl) pe_int)
    (pss_cons (ps_if (pt_cmpR op_lt (pv 1) (pe_callB call_len_seq (by rfl) T.m_len bt_len (pa_cons (pv 0) pa_nil)) (nomark _)) (pss_one (ps_set (i := 2) sc__law_box.nd rfl (.inl rfl) (pe_ix ix_list (pv 0) (pv 1) (fun _ _ => rfl)))) pss_nil)
    (pss_one (ps_ret (pe_lst (pa_cons (pe_op op_mul (pe_callB call_abs (by rfl) T.m_abs bt_abs (pa_cons (pv 2) pa_nil)) (pe_callTy call_int1 (by rfl) T.m_int bt_int (pa_cons (pe_cmpR op_ge (pe_callB call_abs (by rfl) T.m_abs bt_abs (pa_cons (pv 2) pa_nil)) (pe_op op_pow pe_int pe_int) (nomark _)) pa_nil))) (pa_cons (pe_op op_mod (pe_op op_add (pv 2) (pe_op op_mul (pe_op op_mul pe_int (pv 1)) (pv 1))) pe_int) (pa_cons pe_int pa_nil)))))))), ?_⟩
    refine ⟨.int k, rfl, .ref a, rfl, a, _, rfl, .inl hS, _, _, rfl, rfl, _, rfl, ite2 (fun e => ?_) (fun e => ?_)⟩
    · have hl : (k : Int) < ((ns.map V.int).length : Nat) := of_decide_eq_true e
      rw [List.length_map] at hl
      have hj : k < ns.length := by omega
      refine ⟨.ref a, rfl, .int k, rfl, a, _, _, .int ns[k], rfl, rfl, hS, atI_nat (by rw [List.getElem?_map, List.getElem?_eq_getElem hj]; rfl), ?_⟩
      refine ⟨_, rfl, _, rfl, _, rfl, _, rfl, _, _, rfl, rfl, ⟨by decide, by decide, by decide⟩, _, _, rfl, rfl, .inr ⟨_, rfl, _, _, rfl, rfl, .inr i01, _, rfl, .int k, rfl, _, _, rfl, rfl, .inl ⟨by decide, by decide⟩, .int k, rfl, _, _, rfl, rfl, .inr ⟨by omega, by omega⟩, _, _, rfl, rfl, _, _, rfl, rfl, (show (0 : Int) < 2147483647 by decide), (show 3 ≤ sizeLine by decide), fun p np => ?_⟩⟩
      refine q _ p (same_upd np) np ⟨_, _, _, upd_same, ?_, Int.emod_nonneg _ (by decide), Int.emod_lt_of_pos _ (by decide), Int.le_refl 0, Int.le_refl 0⟩
      exact Int.mul_nonneg (absn _) i01n
    · refine ⟨_, rfl, _, rfl, _, rfl, _, rfl, _, _, rfl, rfl, ⟨by decide, by decide, by decide⟩, _, _, rfl, rfl, .inr ⟨_, rfl, _, _, rfl, rfl, .inr i01, _, rfl, .int k, rfl, _, _, rfl, rfl, .inl ⟨by decide, by decide⟩, .int k, rfl, _, _, rfl, rfl, .inr ⟨by omega, by omega⟩, _, _, rfl, rfl, _, _, rfl, rfl, (show (0 : Int) < 2147483647 by decide), (show 3 ≤ sizeLine by decide), fun p np => ?_⟩⟩
      refine q _ p (same_upd np) np ⟨_, _, _, upd_same, ?_, Int.emod_nonneg _ (by decide), Int.emod_lt_of_pos _ (by decide), Int.le_refl 0, Int.le_refl 0⟩
      exact Int.mul_nonneg (absn _) i01n
/-! one number taken -/
def sp__law_take (K : PySem.W.Frag) : Sp := fun vs H Q _ => ∃ (p : Addr) (m : Int) (n : Nat), vs = [.ref p, .int m] ∧ Bx H p n ∧ 0 < m ∧ m < 2 ^ 60 ∧ n < 1000000000000 ∧
  ∀ H' r, But p H H' → Bx H' p (n + 1) → 0 ≤ r → r < m → Q (.int r) H'
theorem ok__law_take (T : Defs K mg) (TT : Tabs T base) : FnOk P w K mg base CX0 1 T.f__law_take T.fd__law_take ["_law_box_here", "_law_many"] (sp__law_take K) := by
  refine T.F__law_take.ok sc__law_take (fun vs H Q E h => ?_) (fun cdv A outer s H vs Q E hr h => ?_)
  · obtain ⟨p, m, n, rfl, ⟨a, b, c, hp, ha, hb, hb2, hc, hc2⟩, h0, h1, hn, q⟩ := h
    rfl
  · obtain ⟨p, m, n, rfl, ⟨a, b, c, hp, ha, hb, hb2, hc, hc2⟩, h0, h1, hn, q⟩ := h
    refine ⟨_, PSs.nox (pss_cons (ps_if (pt_cmpR op_gt (pe_ix ix_list (pv 0) pe_int (fun _ _ => rfl)) pe_int (nomark _)) (pss_cons (ps_asg (pe_callB call_divmodW (by rfl) T.m_divmod bt_divmod (pa_cons (pe_ix ix_list (pv 0) pe_int (fun _ _ => rfl)) (pa_cons (pv 1) pa_nil))) (pg_tup rfl (pgs_cons (pg_sub (pv 0) pe_int set_list) (pgs_cons (pg_name (i := 2) sc__law_take.nd rfl (.inl rfl)) pgs_nil))))
    (pss_one (ps_ret (pv 2)))) pss_nil)
    (pss_cons (ps_asg (pe_op op_add (pe_ix ix_list (pv 0) pe_int (fun _ _ => rfl)) pe_int) (pg_sub (pv 0) pe_int set_list))
    (pss_cons (ps_set (i := 3) sc__law_take.nd rfl (.inl rfl) (pe_op op_mod (pe_op op_pow (pe_op op_add (pe_ix ix_list (pv 0) pe_int (fun _ _ => rfl)) (pe_op op_mul pe_int (pe_ix ix_list (pv 0) pe_int (fun _ _ => rfl)))) pe_int) pe_int))
    (pss_one (ps_ret (pe_op op_mod (pe_op op_fdiv (pe_op op_mod (pe_op op_add (pe_op op_mul (pv 3) pe_int) (pe_op op_mul (pe_op op_mul (pe_ix ix_list (pv 0) pe_int (fun _ _ => rfl)) (pe_ix ix_list (pv 0) pe_int (fun _ _ => rfl))) pe_int)) pe_int) pe_int) (pv 1))))))), ?_⟩
    have SQ : SqL K H p [.int a, .int b, .int c] := SqL.mk hp
    refine ⟨.ref p, rfl, p, _, 0, _, rfl, rfl, SQ, atI_nat (j := 0) rfl, _, _, rfl, rfl, _, rfl, ite2 (fun e => ?_) (fun e => ?_)⟩
    · refine ⟨.ref p, rfl, p, _, 0, _, rfl, rfl, SQ, atI_nat (j := 0) rfl, .int m, rfl, a, m, rfl, cdivP h0 h1, fun t nt => ?_⟩
      have hp1 : (upd H t (.tup [.int (a / m), .int (a % m)])) p = some (.lst [.int a, .int b, .int c]) := by
        rw [upd_ne (ne_of_none hp nt)]
        exact hp
      refine ⟨t, _, rfl, SqT.mk upd_same, rfl, _, _, rfl, .ref p, rfl, p, _, 0, 0, rfl, rfl, hp1, rfl, _, _, rfl, rfl, _, rfl, ?_⟩
      refine q _ _ ((But.refl p H).new nt).put ⟨_, _, _, upd_same, Int.ediv_nonneg ha (by omega), hb, hb2, hc, by omega⟩ (Int.emod_nonneg _ (by omega)) (Int.emod_lt_of_pos _ h0)
    · refine ⟨.ref p, rfl, p, _, 2, _, rfl, rfl, SQ, atI_nat (j := 2) rfl, _, _, rfl, rfl, .ref p, rfl, p, _, 2, 2, rfl, rfl, hp, rfl, ?_⟩
      have SQ1 : SqL K (upd H p (.lst [.int a, .int b, .int (c + 1)])) p [.int a, .int b, .int (c + 1)] := SqL.mk upd_same
      refine ⟨.ref p, rfl, p, _, 1, _, rfl, rfl, SQ1, atI_nat (j := 1) rfl, .ref p, rfl, p, _, 2, _, rfl, rfl, SQ1, atI_nat (j := 2) rfl, _, _, rfl, rfl, .inl ⟨by decide, by decide⟩, _, _, rfl, rfl, _, _, rfl, rfl, ⟨by decide, by decide, by omega⟩, _, _, rfl, rfl, (show (0 : Int) < 2147483647 by decide), ?_⟩
      refine ⟨_, rfl, _, _, rfl, rfl, .inr ⟨by decide, by decide⟩, .ref p, rfl, p, _, 2, _, rfl, rfl, SQ1, atI_nat (j := 2) rfl, .ref p, rfl, p, _, 2, _, rfl, rfl, SQ1, atI_nat (j := 2) rfl, _, _, rfl, rfl, .inl ⟨by omega, by omega⟩, _, _, rfl, rfl, .inr ⟨by decide, by decide⟩, _, _, rfl, rfl, _, _, rfl, rfl, (show (0 : Int) < 2147483629 by decide), _, _, rfl, rfl, ⟨by decide, by decide⟩, .int m, rfl, _, _, rfl, rfl, h0, ?_⟩
      refine q _ _ (But.refl p H).put ⟨_, _, _, upd_same, ha, hb, hb2, by omega, by omega⟩ (Int.emod_nonneg _ (by omega)) (Int.emod_lt_of_pos _ h0)
/-! the folded cells -/
theorem cut_take (ns : List Int) (m : Nat) : cutV (ns.map V.int) none (some (m : Int)) = (ns.take m).map V.int := by
  unfold cutV
  rw [HT.sIx_none, HT.sIx_nat, List.drop_zero, List.length_map, Nat.sub_zero, ← List.map_take]
  congr 1
  by_cases h : m ≤ ns.length
  · rw [Nat.min_eq_left h]
  · rw [Nat.min_eq_right (by omega), List.take_length, List.take_of_length_le (by omega)]
theorem cut_rest (ns : List Int) (m k : Nat) : ∃ ms : List Int, cutV (ns.map V.int) (some (m : Int)) (some (k : Int)) = ms.map V.int ∧ (0 < ms.length → m < ns.length) ∧ ms.length ≤ ns.length := by
  unfold cutV
  rw [HT.sIx_nat, HT.sIx_nat, List.length_map]
  refine ⟨(ns.drop (min m ns.length)).take (min k ns.length - min m ns.length), ?_, fun h => ?_, ?_⟩
  · rw [List.map_take, List.map_drop]
  · rw [List.length_take, List.length_drop] at h
    omega
  · rw [List.length_take, List.length_drop]
    omega
theorem cut_fr2 (ns : List Int) (m : Nat) : ∃ ms : List Int, cutV (ns.map V.int) (some (m : Int)) none = ms.map V.int ∧ ms.length ≤ ns.length := by
  unfold cutV
  rw [HT.sIx_none, HT.sIx_nat, List.length_map]
  refine ⟨(ns.drop (min m ns.length)).take (ns.length - min m ns.length), ?_, ?_⟩
  · rw [List.map_take, List.map_drop]
  · rw [List.length_take, List.length_drop]
    omega
def sp__law_folded (K : PySem.W.Frag) : Sp := fun vs H Q _ => ∃ (a : Addr) (ns : List Int) (m : Nat), vs = [.ref a, .int (m : Nat)] ∧ SqL K H a (ns.map V.int) ∧ ns.length ≤ 63 ∧ 0 < m ∧ m < 64 ∧
  ∀ H' p (cs : List Int), Same H H' → H p = none → H' p = some (.lst (cs.map V.int)) → cs.length ≤ m + 2 → Q (.ref p) H'
theorem ok__law_folded (T : Defs K mg) (TT : Tabs T base) : FnOk P w K mg base CX0 1 T.f__law_folded T.fd__law_folded ["_law_script", "_law_many"] (sp__law_folded K) := by
  refine T.F__law_folded.ok sc__law_folded (fun vs H Q E h => ?_) (fun cdv A outer s H vs Q E hr h => ?_)
  · obtain ⟨a, ns, m, rfl, hS, hlen, hm, hm2, q⟩ := h
    rfl
  · obtain ⟨a, ns, m, rfl, hS, hlen, hm, hm2, q⟩ := h
    refine ⟨_, PSs.nox (pss_cons (ps_set (i := 2) sc__law_folded.nd rfl (.inl rfl) (pe_callTy call_list_of (by rfl) T.m_list bt_list (pa_cons (pe_slice sl_list (pv 0) po_none (po_some (pv 1))) pa_nil)))
    (pss_cons ((ps_for PassesOwn.never rfl (pi_enum (by rfl) T.m_enumerate (pa_cons (pe_slice sl_list (pv 0) (po_some (pv 1)) (po_some pe_int)) pa_nil)) (pg_tup rfl (pgs_cons (pg_name (i := 3) sc__law_folded.nd rfl (.inl rfl)) (pgs_cons (pg_name (i := 4) sc__law_folded.nd rfl (.inl rfl)) pgs_nil))) (pss_one (ps_asg (pe_op op_add (pe_ix ix_list (pv 2) (pe_op op_mod (pv 3) (pv 1)) (fun _ _ => rfl)) (pe_op op_mul (pv 4) (pe_op op_add (pv 3) pe_int))) (pg_sub (pv 2) (pe_op op_mod (pv 3) (pv 1)) set_list)))))
    (pss_one (ps_ret (pe_op op_cat (pv 2) (pe_slice sl_list (pe_lst (pa_cons pe_int (pa_cons pe_int pa_nil))) (po_some (pe_callB call_len_seq (by rfl) T.m_len bt_len (pa_cons (pv 2) pa_nil))) po_none)))))), ?_⟩
    refine ⟨.ref a, rfl, .int m, rfl, m, rfl, a, _, rfl, hS, fun c nc => ?_⟩
    rw [cut_take]
    have s1 : Same H (upd H c (.lst ((ns.take m).map V.int))) := same_upd nc
    refine ⟨c, _, rfl, .inl (SqL.mk upd_same), fun l nl => ?_⟩
    have s2 := s1.trans (same_upd nl (o := .lst ((ns.take m).map V.int)))
    refine ⟨.ref a, rfl, .int m, rfl, m, rfl, 63, rfl, a, _, rfl, s2.seq hS, fun d nd => ?_⟩
    obtain ⟨ms, em, hms, hms2⟩ := cut_rest ns m 63
    rw [show (63 : Int) = ((63 : Nat) : Int) from rfl, em]
    have nl0 : H l = none := s1.free nl
    have nd0 : H d = none := s2.free nd
    have ndl : l ≠ d := fun e => by
      rw [← e, upd_same] at nd
      cases nd
    refine ⟨d, _, rfl, SqL.mk upd_same, for_it (walk_enum (xs := ms.map V.int)) (fun i σ H3 => ∃ y3 y4, ∃ cs : List Int, σ = [some (.ref a), some (.int m), some (.ref l), y3, y4] ∧ Same H H3 ∧ H3 l = some (.lst (cs.map V.int)) ∧ cs.length = (ns.take m).length ∧ H3 d = some (.lst (ms.map V.int))) ⟨none, none, ns.take m, rfl, s2.trans (same_upd nd), ?_, rfl, upd_same⟩ ?_ ?_ ?_⟩
    · rw [upd_ne ndl, upd_same]
    · rintro i σ H3 hi ⟨y3, y4, cs, rfl, s3, hl, hc, hd⟩
      exact SqL.mk hd
    · rintro i x σ H3 H4 hi ⟨y3, y4, cs, rfl, s3, hl, hc, hd⟩ ⟨t, x1, x2, rfl, nt, rfl, e1, e2⟩
      rw [List.length_map] at hi
      have lm : m < ns.length := hms (by omega)
      have lc : cs.length = m := by
        rw [hc, List.length_take]
        omega
      have ex1 : x1 = .int (i : Nat) := (Option.some.inj e1).symm
      have ex2 : x2 = .int ms[i] := by
        have e2 : (ms.map V.int)[i]? = some x2 := e2
        rw [List.getElem?_map, List.getElem?_eq_getElem hi] at e2
        exact (Option.some.inj e2).symm
      subst ex1 ex2
      have hl1 : (upd H3 t (.tup [.int (i : Nat), .int ms[i]])) l = some (.lst (cs.map V.int)) := by
        rw [upd_ne (ne_of_none hl nt)]
        exact hl
      have him : i % m < cs.length := by
        rw [lc]
        exact Nat.mod_lt _ hm
      have eim : ((i : Int) % (m : Int)) = ((i % m : Nat) : Int) := by omega
      refine ⟨t, _, rfl, SqT.mk upd_same, rfl, _, _, rfl, _, _, rfl, rfl, ?_⟩
      refine ⟨.ref l, rfl, .int (i : Nat), rfl, .int m, rfl, _, _, rfl, rfl, (show (0 : Int) < (m : Int) by omega), l, _, _, .int cs[i % m], rfl, rfl, SqL.mk hl1, ?_, .int ms[i], rfl, .int (i : Nat), rfl, _, _, rfl, rfl, _, _, rfl, rfl, .inr ⟨by omega, by omega⟩, _, _, rfl, rfl, .ref l, rfl, .int (i : Nat), rfl, .int m, rfl, _, _, rfl, rfl, (show (0 : Int) < (m : Int) by omega), l, _, _, i % m, rfl, rfl, hl1, ?_, ?_⟩
      · rw [eim]
        exact atI_nat (by rw [List.getElem?_map, List.getElem?_eq_getElem him]; rfl)
      · rw [eim]
        exact ixn (by rw [List.length_map]; exact him)
      · refine ⟨_, _, cs.set (i % m) (cs[i % m] + ms[i] * ((i : Int) + 2)), rfl, same_newer (s3.trans (same_upd nt)) nl0, ?_, by rw [List.length_set, hc], ?_⟩
        · rw [upd_same, List.map_set]
        · rw [upd_ne ndl.symm, upd_ne (ne_of_none hd nt)]
          exact hd
    · rintro σ H3 ⟨y3, y4, cs, rfl, s3, hl, hc, hd⟩
      obtain ⟨ms2, em2, l2⟩ := cut_fr2 ([5, 8] : List Int) cs.length
      refine ⟨.ref l, rfl, (show 2 ≤ sizeLine by decide), fun e ne => ?_⟩
      have hl1 := (same_upd ne (o := .lst [.int 5, .int 8])) _ _ hl
      refine ⟨.ref l, rfl, l, _, rfl, .inl (SqL.mk hl1), _, rfl, e, _, rfl, SqL.mk upd_same, fun g ng => ?_⟩
      rw [List.length_map, show [V.int 5, V.int 8] = ([5, 8] : List Int).map V.int from rfl, em2]
      have hsl : sizeLine = 16777216 := by decide
      have lt := List.length_take (l := ns) (i := m)
      refine ⟨l, g, _, _, rfl, rfl, (same_upd ng) _ _ hl1, upd_same, ?_, fun r nr => ?_⟩
      · rw [List.length_map, List.length_map]
        have : ms2.length ≤ 2 := l2
        omega
      refine q _ r (cs ++ ms2) ((s3.trans (same_upd ne)).trans ((same_upd ng).trans (same_upd nr))) ?_ ?_ ?_
      · exact s3.free ((same_upd ne).free ((same_upd ng).free nr))
      · rw [upd_same, List.map_append]
      · rw [List.length_append]
        have : ms2.length ≤ 2 := l2
        omega
/-! the program's own -/
theorem op_fdivNW {X : Cx} : OpR X (binaryOp .FloorDiv) (rI (fun _ j => j ≠ 0 ∧ j.natAbs.log2 < 9000) fun i j => .int (i.fdiv j)) := opI fun _ _ _ _ _ _ _ hc q => floordiv_int hc.1 q (.inl (PyProof.noPylong_of_log2 hc.2))
theorem gcd_step (x y : Nat) : Nat.gcd y (x % y) = Nat.gcd x y := by
  rw [Nat.gcd_comm y, ← Nat.gcd_rec, Nat.gcd_comm]
theorem gcd_small {t b : Int} (hb : b ≠ 0) (h : S 4000 b) : (Int.gcd t b : Int).natAbs.log2 < 9000 := by
  have h1 : Int.gcd t b ≤ b.natAbs := Nat.le_of_dvd (by omega) (Nat.gcd_dvd_right _ _)
  have h2 : 0 < Int.gcd t b := Int.gcd_pos_of_ne_zero_right t hb
  exact (wide_div (i := 0) (j := (Int.gcd t b : Int)) (b := 4000) (by omega) (by rw [Int.natAbs_natCast]; exact Nat.lt_of_le_of_lt h1 h) (by decide) (by decide)).2
def sp_common_divisor (_ : PySem.W.Frag) : Sp := fun vs H Q _ => ∃ a b : Int, vs = [.int a, .int b] ∧ Q (.int (if (1 : Int) > (Int.gcd a b : Int) then 1 else (Int.gcd a b : Int))) H
def sp_fraction (_ : PySem.W.Frag) : Sp := fun vs H Q _ => ∃ t b : Int, vs = [.int t, .int b] ∧ b ≠ 0 ∧ S 4000 b ∧ ∀ H' p, Same H H' → H p = none → H' p = some (.tup [.int (frT t b), .int (frB t b)]) → Q (.ref p) H'
/-! match x: case (word, names ..) -/
abbrev TCs := Addr → List V → TS
structure PCs (X : Cx) (cs : List MatchCase) (t : TCs) : Prop where
  run : ∀ (pins : List (Addr × Obj)) (s : Shared) (σ : L2.St) (H : Hp) (D : L2.Ends) (a : Addr) (xs : List V) (first : Bool), Inv X pins σ H s → SqT X.K H a xs → t a xs D σ H →
    wpAny (model X.prog X.w) X.A (matchCases cs X.env (.ref a) first) (SP X pins D) X.xe s
def tMatch (K : PySem.W.Frag) (te : TE) (tc : TCs) : TS := fun D σ H => te σ H fun v H1 => ∃ a xs, v = .ref a ∧ SqT K H1 a xs ∧ tc a xs D σ H1
theorem ps_match {X : Cx} {e : Expr} {cs : List MatchCase} {pos : Pos} {te : TE} {tc : TCs} (he : PE X e te) (hc : PCs X cs tc) : PS X (.Match e cs pos) (tMatch X.K te tc) := by
  refine ⟨fun pins s σ H D I h => ?_⟩
  refine wpAny_Match (thn (he.run pins s σ H _ I h) fun v s1 ⟨x, H1, I1, r1, a, xs, e1, hq, q⟩ => ?_)
  subst e1
  cases r1
  exact hc.run pins s1 σ H1 D a xs true I1 hq q
theorem pcs_nil {X : Cx} : PCs X [] (fun _ _ D σ H => D.nx σ H) := ⟨fun _ _ σ H _ _ _ _ I _ h => wpAny_matchCases_nil ⟨σ, H, I, h⟩⟩
theorem pcs_any {X : Cx} {body : List Stmt} {rest : List MatchCase} {pos : Pos} {tb : TS} (hb : PSs X body tb) : PCs X (⟨.MatchAs none none pos, none, body⟩ :: rest) (fun _ _ => tb) := by
  refine ⟨fun pins s σ H D a xs first I hq h => wpAny_matchCases_cons (wpAny_matchPattern_Capture ?_)⟩
  exact wpAny_assignInOrder_none (hb.run pins s σ H D I h)
/-- the slots i .. get the values .. in turn -/
def sets (σ : L2.St) : List Nat → List V → L2.St
  | i :: is, v :: vs => sets (σ.set i (some v)) is vs
  | _, _ => σ
structure PCap (X : Cx) (ps : List Pattern) (ns : List (Nat × Str)) : Prop where
  each : ∀ (s : Shared) (us : List Value) (Q : Option (List (Str × Value)) → Shared → Prop), us.length = ns.length → Q (some (List.zipWith (fun n u => (n.2, u)) ns us)) s → wpAny (model X.prog X.w) X.A (matchEach ps X.env us) Q X.xe s
  slot : ∀ n, n ∈ ns → X.N[n.1]? = some n.2 ∧ Loc X.env.scope n.2 ∧ (X.fn n.2 = true ∨ X.env.scope.names.lookup n.2 = some .local)
  len : ps.length = ns.length
theorem pcap_nil {X : Cx} : PCap X [] [] := ⟨fun s us Q hl h => wpAny_matchEach_nil (by
  rw [show us = [] from List.eq_nil_of_length_eq_zero hl] at h
  exact h), fun n hn => (by cases hn), rfl⟩
theorem pcap_cons {X : Cx} {i : Nat} {x : Str} {pos : Pos} {ps : List Pattern} {ns : List (Nat × Str)} (hi : X.N[i]? = some x) (hx : Loc X.env.scope x) (h : PCap X ps ns) (hf : X.fn x = true ∨ X.env.scope.names.lookup x = some .local := by first | exact .inl rfl | exact .inr rfl | assumption) :
    PCap X (.MatchAs none (some x) pos :: ps) ((i, x) :: ns) := by
  refine ⟨fun s us Q hl hQ => ?_, fun n hn => ?_, ?_⟩
  · match us, hl with
    | u :: us, hl =>
      refine wpAny_matchEach_cons (wpAny_matchPattern_Capture ?_)
      refine h.each s us _ (Nat.succ.inj hl) ?_
      exact hQ
  · rcases List.mem_cons.mp hn with rfl | hn
    · exact ⟨hi, hx, hf⟩
    · exact h.slot n hn
  · rw [List.length_cons, List.length_cons, h.len]
theorem bind_all {X : Cx} {pins : List (Addr × Obj)} {H : Hp} (hN : X.N.Nodup) : ∀ (ns : List (Nat × Str)) (us : List Value) (vs : List V) (σ : L2.St) (s : Shared) (Q : Unit → Shared → Prop),
    (∀ n, n ∈ ns → X.N[n.1]? = some n.2 ∧ Loc X.env.scope n.2 ∧ (X.fn n.2 = true ∨ X.env.scope.names.lookup n.2 = some .local)) → us.length = ns.length → Vals vs us → Inv X pins σ H s → (∀ s', Inv X pins (sets σ (ns.map Prod.fst) vs) H s' → Q () s') →
    wpAny (model X.prog X.w) X.A (assignInOrder ((List.zipWith (fun (n : Nat × Str) u => (n.2, u)) ns us).map fun (n, _) => bindName X.env n) ((List.zipWith (fun (n : Nat × Str) u => (n.2, u)) ns us).map (·.2))) Q X.xe s
  | [], us, vs, σ, s, Q, _, hl, r, I, q => by
    have e : us = [] := List.eq_nil_of_length_eq_zero hl
    subst e
    cases r
    exact wpAny_assignInOrder_none (q s I)
  | n :: ns, us, vs, σ, s, Q, hs, hl, r, I, q => by
    match us, vs, hl, r with
    | u :: us, v :: vs, hl, .cons r1 r2 =>
      obtain ⟨h1, h2, h3⟩ := hs n List.mem_cons_self
      refine wpAny_assignInOrder_more (wpAny_bindName (store_ok I hN h1 h2 r1 (fun s1 I1 => ?_) h3))
      exact bind_all hN ns us vs _ s1 Q (fun m hm => hs m (List.mem_cons_of_mem _ hm)) (Nat.succ.inj hl) r2 I1 q
def tCase (word : Str) (is : List Nat) (tb : TS) (rest : TCs) : TCs := fun a xs D σ H =>
  (xs.length ≠ is.length + 1 ∧ rest a xs D σ H) ∨ ∃ z ys, xs = .str z :: ys ∧ ys.length = is.length ∧ ((z = word ∧ tb D (sets σ is ys) H) ∨ (z ≠ word ∧ rest a xs D σ H))
theorem pcs_seq {X : Cx} {e : Expr} {word : Str} {vp sp : Pos} {ps : List Pattern} {ns : List (Nat × Str)} {body : List Stmt} {rest : List MatchCase} {tb : TS} {tr : TCs} (hc : X.calm = true) (hN : X.N.Nodup) (hw : PE X e (tC (.str word))) (hcap : PCap X ps ns) (hb : PSs X body tb) (hr : PCs X rest tr)
    (hstar : (.MatchValue e vp :: ps).findIdx? (·.isStar) = none := by rfl) (hwild : ((.MatchValue e vp :: ps).all fun p => p.isWildcard || (p.isStar && p.names.isEmpty)) = false := by rfl) :
    PCs X (⟨.MatchSequence (.MatchValue e vp :: ps) sp, none, body⟩ :: rest) (tCase word (ns.map Prod.fst) tb tr) := by
  refine ⟨fun pins s σ H D a xs first I hq h => ?_⟩
  obtain ⟨its, rv, ht, hz⟩ := I.tuple hq
  have hl := rv.length
  have hsl : sizeLine = 16777216 := by decide
  have hfit : ((its.toArray.size : Nat) : Int) < 2 ^ 63 := by
    rw [List.size_toArray]
    omega
  have lp := hcap.len
  have miss : ∀ s', Inv X pins σ H s' → tr a xs D σ H → wpAny (model X.prog X.w) X.A (matchCases rest X.env (.ref a) false) (SP X pins D) X.xe s' := fun s' I' q => hr.run pins s' σ H D a xs false I' hq q
  refine wpAny_matchCases_cons ?_
  rcases h with ⟨hn, h⟩ | ⟨z, ys, rfl, hn, h⟩
  · rw [List.length_map] at hn
    refine matchSeq_tuple_miss ht hfit (by rw [List.size_toArray, List.length_cons]; omega) ?_ hstar hwild
    exact miss _ (I.kept (t' := s.toks + 1 + 1) fun b o q => q) h
  · rw [List.length_map] at hn
    rw [List.length_cons] at hl
    refine matchSeq_tuple_hit ht hfit (by rw [List.size_toArray, List.length_cons]; omega) ?_ hstar hwild
    have e1 : (Pattern.MatchValue e vp :: ps).length = its.toArray.size := by
      rw [List.size_toArray, List.length_cons]
      omega
    have key : ∀ s2 : Shared, Inv X pins σ H s2 → wpAny (model X.prog X.w) X.A (matchEach (.MatchValue e vp :: ps) X.env its) (fun r s₁ => match r with
        | none => wpAny (model X.prog X.w) X.A (matchCases rest X.env (.ref a) false) (SP X pins D) X.xe s₁
        | some bs => wpAny (model X.prog X.w) X.A (assignInOrder (bs.map fun (n, _) => bindName X.env n) (bs.map (·.2))) (fun _ s₂ => wpAny (model X.prog X.w) X.A (execs body X.env) (SP X pins D) X.xe s₂) X.xe s₁) X.xe s2 := fun s2 I1 => by
      clear e1 hfit hz ht
      match its, rv, hl with
      | u :: us, .cons r1 r2, hl =>
        refine wpAny_matchEach_cons (wpAny_matchPattern_Value ?_)
        refine thn (hw.run pins s2 σ H (fun v H' => v = .str word ∧ H' = H) I1 ⟨rfl, rfl⟩) fun c s3 ⟨x, H3, I3, r3, e3, e4⟩ => ?_
        subst e3 e4
        refine thn (op_eq pins s3 σ H3 (.str z) (.str word) u c (fun v H' => v = .bl (decide (V.str z = V.str word)) ∧ H' = H3) I3 r1 r3 ⟨rfl, rfl, rfl⟩) fun d s4 ⟨y, H4, I4, r4, e5, e6⟩ => ?_
        subst e5 e6
        obtain rfl : d = Value.bool (decide (V.str z = V.str word)) := r4
        refine wpAny_truthy_bool ?_
        rcases h with ⟨rfl, h⟩ | ⟨ne, h⟩
        · rw [if_pos (decide_eq_true rfl)]
          have ul : us.length = ns.length := by
            have := r2.length
            omega
          refine hcap.each s4 us _ ul ?_
          show wpAny _ _ (assignInOrder _ _) _ _ s4
          exact bind_all hN ns us ys σ s4 _ hcap.slot ul r2 I4 fun s5 I5 => hb.run pins s5 _ H4 D I5 h
        · rw [if_neg (fun y => ne (V.str.inj (of_decide_eq_true y)))]
          exact miss s4 I4 h
    rw [e1]
    refine unpackItems_tuple (I.ok.hd hc) ht fun h' hx => ?_
    have I1 : Inv X pins σ H { s with heap := h', toks := s.toks + 1 + 1 } := I.kept (t' := s.toks + 1 + 1) fun b o q => hx b o (Nat.ne_of_lt (Heap.lt_size q)) q
    refine key _ ?_
    exact I1
theorem nat_of {x : Int} (h : 0 ≤ x) : ∃ m : Nat, x = (m : Nat) := Int.eq_ofNat_of_zero_le h
/-! where a number stands first -/
theorem flat_ints (xs : List Int) : (xs.map V.int).all flatV = true := by
  rw [List.all_eq_true]
  intro x hx
  obtain ⟨i, _, rfl⟩ := List.mem_map.mp hx
  rfl
theorem in_ints (xs : List Int) (k : Int) : inV (.int k) (xs.map V.int) = decide (k ∈ xs) := by
  unfold inV
  rw [Bool.eq_iff_iff, List.any_eq_true, decide_eq_true_iff]
  constructor
  · rintro ⟨y, hy, e⟩
    obtain ⟨i, hi, rfl⟩ := List.mem_map.mp hy
    have : i = k := by
      have e : (i == k) = true := e
      exact eq_of_beq e
    rw [← this]
    exact hi
  · intro h
    exact ⟨_, List.mem_map.mpr ⟨k, h, rfl⟩, show (k == k) = true from beq_self_eq_true k⟩
theorem first_of {xs : List Int} {k : Int} : k ∈ xs → ∃ j : Nat, xs[j]? = some k ∧ ∀ m, m < j → xs[m]? ≠ some k := by
  induction xs with
  | nil => intro h; cases h
  | cons x r ih =>
    intro h
    by_cases e : x = k
    · exact ⟨0, by rw [e]; rfl, fun m hm => by omega⟩
    · rcases List.mem_cons.mp h with h | h
      · exact absurd h.symm e
      · obtain ⟨j, h1, h2⟩ := ih h
        refine ⟨j + 1, h1, fun m hm => ?_⟩
        cases m with
        | zero => exact fun z => e (Option.some.inj z)
        | succ m => exact h2 m (by omega)
theorem u1 {k : Nat} {A : Around} (r : Room k A) : A.units + 1 < cLine := by
  have := r.un
  omega
theorem lcK {X : Cx} {K : PySem.W.Frag} (h : X.K = K) : MtR X "list.count" (rCntI K) := by
  subst h
  exact mt_lcount
theorem pe_bmK {X : Cx} {K : PySem.W.Frag} {T id : String} {name : Str} {r : V → List V → Hp → VK → Prop} {o e : Expr} {es : List Expr} {to : TE} {t : TA} {apos cpos : Pos} (pa : PlainAttrs T) (slot : Slot T name id) (hty : typeOf (.builtin id) = pure (.type "method_descriptor")) (hm : MtR X id r) (ho : PE X o to) (ha : PA X (e :: es) t) (hk : X.K = K := by rfl)
    (hbase : attributeBase o name X.env (eval o X.env) = eval o X.env := by rfl)
    (hfew : ((backTo cpos (starEach (e :: es) X.env)).all (fun x => !x.1) && (backToKw cpos (keywordEach [] X.env)).all (fun x => x.1.isSome) && decide ((e :: es).length + ([] : List Keyword).length + (if ([] : List Keyword).isEmpty then 0 else 1) < 30)) = true := by rfl)
    (hline : (apos.endLine == cpos.line) = true := by rfl) (hs : starEach (e :: es) X.env = (false, eval e X.env) :: starEach es X.env := by rfl) (hplain : (backTo cpos (starEach es X.env)).any (·.1) = false := by rfl) :
    PE X (.Call (.Attribute o name apos) (e :: es) [] cpos) (tBM K T r to t) := by
  subst hk
  exact pe_bm pa slot hty hm ho ha hbase hfew hline hs hplain
/-! sum(tuple) -/
theorem preSum_take (ns : List Int) : ∀ k, preSum (fun i => ns.getD i 0) k = (ns.take k).sum
  | 0 => rfl
  | k + 1 => by
    show preSum (fun i => ns.getD i 0) k + ns.getD k 0 = _
    rw [preSum_take ns k, List.take_add_one, List.getD_eq_getElem?_getD]
    cases ns[k]? with
    | none => simp
    | some x => simp
def rSumT (K : PySem.W.Frag) : List V → Hp → VK → Prop := fun vs H Q => ∃ (a : Addr) (ns : List Int), vs = [V.ref a] ∧ SqT K H a (ns.map V.int) ∧ Q (.int ns.sum) H
theorem cr_sumT {X : Cx} (hc : X.calm = true) : CallR X (.builtin "sum") (rSumT X.K) := by
  intro pins s σ H vs us Q I r h
  obtain ⟨a, ns, rfl, hs, q⟩ := h
  obtain ⟨its, rv, ht, _⟩ := I.tuple hs
  rw [Vals.ref1 r]
  have hh := I.ok.hd hc
  have lta : a < s.heap.objs.size := by
    obtain ⟨o, ho, _⟩ := ht
    exact Heap.lt_size ho
  have hl := rv.length
  rw [List.length_map] at hl
  refine call_sum_walkG (wpAny_pyIter_tuple (show s.heap.IsTuple a its.toArray from ht) ⟨s.heap.objs.size, _, _, _, _, _, fun i => ns.getD i 0, rfl, Walks.tuple (A := X.A.in1) hh s.heap.objs.size a (Nat.ne_of_lt lta) its.toArray, ⟨⟨_, Heap.get?_push_size _ rfl, rfl, rfl⟩, (show s.heap.IsTuple a its.toArray from ht).at fun o e => Heap.get?_push_of_some _ e⟩, fun b hb => ?_, fun i v hv => ?_, fun h' tk t' hk => ?_⟩)
  · show b < (s.heap.push _).objs.size
    rw [Heap.size_push]
    rcases List.mem_cons.mp hb with z | z
    · rw [z]
      exact Nat.lt_succ_self _
    · rw [List.mem_singleton.mp z]
      exact Nat.lt_succ_of_lt lta
  · have hv2 : its[i]? = some v := by simpa using hv
    have hi : i < ns.length := by
      have := (List.getElem?_eq_some_iff.mp hv2).1
      omega
    obtain ⟨u, hu, ru⟩ := rv.get (show (ns.map V.int)[i]? = some (V.int ns[i]) by rw [List.getElem?_map, List.getElem?_eq_getElem hi]; rfl)
    rw [hv2] at hu
    cases hu
    obtain ⟨t, rfl⟩ := (show ∃ t, v = Value.int ns[i] t from ru)
    exact ⟨t, by
      show Value.int ns[i] t = Value.int (ns.getD i 0) t
      rw [List.getD_eq_getElem?_getD, List.getElem?_eq_getElem hi]
      rfl⟩
  · rw [preSum_take, List.take_of_length_le (by rw [List.size_toArray]; omega)]
    refine ⟨.int _, H, I.kept fun b o e => hk b o (fun z => ?_) (Heap.get?_push_of_some _ e), ⟨_, rfl⟩, q⟩
    rw [List.mem_singleton] at z
    rw [z] at e
    exact Nat.lt_irrefl _ (Heap.lt_size e)
theorem sumTK {X : Cx} {K : PySem.W.Frag} (h : X.K = K) (hc : X.calm = true) : CallR X (.builtin "sum") (rSumT K) := by
  subst h
  exact cr_sumT hc
/-! heaps with tables -/
theorem trip0 : TriplesOk (#[] : Array Value).toList := trivial
structure Sam (H H' : Hp) : Prop where
  obj : ∀ b o, (∀ ps, o ≠ .tbl ps) → H b = some o → H' b = some o
  tab : ∀ b ps, H b = some (.tbl ps) → ∃ ps', H' b = some (.tbl ps') ∧ (TriplesOk ps.toList → TriplesOk ps'.toList)
theorem Sam.of {H H' : Hp} (s : Same H H') : Sam H H' := ⟨fun b o _ e => s b o e, fun b ps e => ⟨ps, s b _ e, fun z => z⟩⟩
theorem Sam.refl (H : Hp) : Sam H H := .of (Same.refl H)
theorem Sam.trans {H H1 H2 : Hp} (a : Sam H H1) (b : Sam H1 H2) : Sam H H2 := ⟨fun c o n e => b.obj c o n (a.obj c o n e), fun c ps e => by
  obtain ⟨p1, e1, t1⟩ := a.tab c ps e
  obtain ⟨p2, e2, t2⟩ := b.tab c p1 e1
  exact ⟨p2, e2, fun z => t2 (t1 z)⟩⟩
theorem Sam.tabG {H H' : Hp} {P : Addr} (a : Sam H H') (t : GxR.TabG H P) : GxR.TabG H' P := by
  obtain ⟨ps, e, z⟩ := t
  obtain ⟨p1, e1, t1⟩ := a.tab P ps e
  exact ⟨p1, e1, t1 z⟩
theorem Sam.tup {H H' : Hp} {a : Addr} {xs : List V} (s : Sam H H') (h : H a = some (.tup xs)) : H' a = some (.tup xs) := s.obj _ _ (fun _ z => by cases z) h
theorem Sam.lst {H H' : Hp} {a : Addr} {xs : List V} (s : Sam H H') (h : H a = some (.lst xs)) : H' a = some (.lst xs) := s.obj _ _ (fun _ z => by cases z) h
theorem Sam.free {H H' : Hp} (s : Sam H H') {l : Addr} (h : H' l = none) : H l = none := by
  cases q : H l with
  | none => rfl
  | some o =>
    cases o with
    | tbl ps =>
      obtain ⟨p1, e1, _⟩ := s.tab l ps q
      rw [e1] at h
      cases h
    | _ =>
      rw [s.obj l _ (fun _ z => by cases z) q] at h
      cases h
theorem Sam.tabbed {P : Addr} {H H' : Hp} (g : GxR.TabG H P) (t : GxR.Tabbed P H H') : Sam H H' := by
  obtain ⟨⟨p1, e1, z1⟩, k⟩ := t
  obtain ⟨p0, e0, _⟩ := g
  refine ⟨fun b o n e => ?_, fun b ps e => ?_⟩
  · by_cases hb : b = P
    · rw [hb, e0] at e
      exact absurd (Option.some.inj e).symm (n p0)
    · rw [k b hb]
      exact e
  · by_cases hb : b = P
    · rw [hb]
      exact ⟨p1, e1, fun _ => z1⟩
    · exact ⟨ps, by rw [k b hb]; exact e, fun z => z⟩
theorem sam_newer {H H' : Hp} {q : Addr} {o : HO} (a : Sam H H') (n : H q = none) : Sam H (upd H' q o) := ⟨fun c x hx e => by
    rw [upd_ne (ne_of_none e n)]
    exact a.obj c x hx e, fun c ps e => by
    obtain ⟨p1, e1, t1⟩ := a.tab c ps e
    exact ⟨p1, by rw [upd_ne (ne_of_none e n)]; exact e1, t1⟩⟩
/-- all but the box stays, tables grow -/
structure Bus (p : Addr) (H H' : Hp) : Prop where
  obj : ∀ b o, b ≠ p → (∀ ps, o ≠ .tbl ps) → H b = some o → H' b = some o
  tab : ∀ b ps, b ≠ p → H b = some (.tbl ps) → ∃ ps', H' b = some (.tbl ps') ∧ (TriplesOk ps.toList → TriplesOk ps'.toList)
theorem Bus.of {p : Addr} {H H' : Hp} (s : But p H H') : Bus p H H' := ⟨fun b o n _ e => s b o n e, fun b ps n e => ⟨ps, s b _ n e, fun z => z⟩⟩
theorem Bus.sam {p : Addr} {H H' : Hp} (s : Sam H H') : Bus p H H' := ⟨fun b o _ n e => s.obj b o n e, fun b ps _ e => s.tab b ps e⟩
theorem Bus.refl (p : Addr) (H : Hp) : Bus p H H := .of (But.refl p H)
theorem Bus.trans {p : Addr} {H H1 H2 : Hp} (a : Bus p H H1) (b : Bus p H1 H2) : Bus p H H2 := ⟨fun c o h n e => b.obj c o h n (a.obj c o h n e), fun c ps h e => by
  obtain ⟨p1, e1, t1⟩ := a.tab c ps h e
  obtain ⟨p2, e2, t2⟩ := b.tab c p1 h e1
  exact ⟨p2, e2, fun z => t2 (t1 z)⟩⟩
theorem Bus.tup {p : Addr} {H H' : Hp} {n : Nat} {a : Addr} {xs : List V} (s : Bus p H H') (B : Bx H p n) (h : H a = some (.tup xs)) : H' a = some (.tup xs) := s.obj _ _ (B.ne_tup h) (fun _ z => by cases z) h
theorem Bus.lst {p : Addr} {H H' : Hp} {a : Addr} {xs : List V} (s : Bus p H H') (ne : a ≠ p) (h : H a = some (.lst xs)) : H' a = some (.lst xs) := s.obj _ _ ne (fun _ z => by cases z) h
theorem Bus.tabG {p : Addr} {H H' : Hp} {n : Nat} {P : Addr} (s : Bus p H H') (B : Bx H p n) (t : GxR.TabG H P) : GxR.TabG H' P := by
  obtain ⟨ps, e, z⟩ := t
  obtain ⟨a, b, c, hp, _⟩ := B
  obtain ⟨p1, e1, t1⟩ := s.tab P ps (ne_of e hp (fun z => by cases z)) e
  exact ⟨p1, e1, t1 z⟩
theorem Bus.new {p q : Addr} {H H' : Hp} {o : HO} (a : Bus p H H') (n : H' q = none) : Bus p H (upd H' q o) := a.trans (.of ((But.refl p H').new n))
/-- a thing made since H may change -/
theorem bus_newer {p q : Addr} {H H' : Hp} {o : HO} (a : Bus p H H') (n : H q = none) : Bus p H (upd H' q o) := ⟨fun c x h hx e => by
    rw [upd_ne (ne_of_none e n)]
    exact a.obj c x h hx e, fun c ps h e => by
    obtain ⟨p1, e1, t1⟩ := a.tab c ps h e
    exact ⟨p1, by rw [upd_ne (ne_of_none e n)]; exact e1, t1⟩⟩
theorem Bus.free {p : Addr} {H H' : Hp} {n : Nat} (s : Bus p H H') (B : Bx H p n) (B' : ∃ m, Bx H' p m) {l : Addr} (h : H' l = none) : H l = none := by
  cases q : H l with
  | none => rfl
  | some o =>
    have nl : l ≠ p := fun z => by
      obtain ⟨m, _, _, _, hp, _⟩ := B'
      rw [z, hp] at h
      cases h
    cases o with
    | tbl ps =>
      obtain ⟨p1, e1, _⟩ := s.tab l ps nl q
      rw [e1] at h
      cases h
    | _ =>
      rw [s.obj l _ nl (fun _ z => by cases z) q] at h
      cases h
theorem Bx.sam {H H' : Hp} {p : Addr} {n : Nat} (h : Bx H p n) (s : Sam H H') : Bx H' p n := by
  obtain ⟨a, b, c, hp, r⟩ := h
  exact ⟨a, b, c, s.lst hp, r⟩
theorem bus_same {p : Addr} {H H1 H2 : Hp} (n : H p = none) (a : Sam H H1) (b : Bus p H1 H2) : Sam H H2 := ⟨fun c x h e => b.obj c x (ne_of_none e n) h (a.obj c x h e), fun c ps e => by
  obtain ⟨p1, e1, t1⟩ := a.tab c ps e
  obtain ⟨p2, e2, t2⟩ := b.tab c p1 (ne_of_none e n) e1
  exact ⟨p2, e2, fun z => t2 (t1 z)⟩⟩
theorem ne_new {H : Hp} {p q : Addr} {n : Nat} (B : Bx H p n) (nq : H q = none) : q ≠ p := fun e => by
  obtain ⟨_, _, _, hp, _⟩ := B
  rw [e, hp] at nq
  cases nq
/-! a tuple so many times -/
theorem tuple_once (l : Addr) (items : Array Value) (n : Nat) (dd : Option Addr) (sl : Array (Option Value)) (u : Tok) :
    Meets (Builtin.«tuple.__mul__» ⟨[.ref l, .int 1 u], []⟩) (fun _ R s => s.heap.get? l = some { cls := .type "tuple", dict := dd, data := .seq items n, slots := sl } ∧ R (.ok (.ret (Value.ref l))) { s with toks := s.toks }) :=
  .of_wp fun prog w A R s h => by
    obtain ⟨hp, g, d, tk, os⟩ := s
    obtain ⟨hl, h⟩ := h
    have f1 := AutoSeq1.idx_int
    have c1 : (items.isEmpty || (1 : Int) == 1) = true := by simp
    wp_walk using wpAny_loadPart' hl
    repeat (first
      | (refine wpAny_ite_true (decide_eq_true c1) ?_; wp_walk using wpAny_loadPart' hl)
      | (refine wpAny_ite_false (decide_eq_false (by decide)) ?_; wp_walk using wpAny_loadPart' hl))
    exact ⟨_, rfl, h⟩
def rRepA (K : PySem.W.Frag) : R2 := fun x y H Q => ∃ (l : Addr) (k : Nat) (xs : List V), x = .ref l ∧ y = .int (k : Nat) ∧ SqT K H l xs ∧ xs ≠ [] ∧ 1 ≤ k ∧ xs.length * k ≤ 1000000 ∧ (k = 1 → Q (.ref l) H) ∧
  (2 ≤ k → ∀ p, H p = none → Q (.ref p) (upd H p (.tup (List.replicate k xs).flatten)))
theorem op_repA {X : Cx} : OpR X (binaryOp .Mult) (rRepA X.K) := by
  intro pins s σ H x y v u Q I rx ry h
  obtain ⟨l, k, xs, rfl, rfl, hT, hne, h1, hz, q1, q2⟩ := h
  cases rx
  obtain ⟨t, rfl⟩ := ry
  obtain ⟨its, r, ⟨⟨cls, dd, data, sl⟩, ho, hc, n, hd⟩, hs⟩ := I.tuple hT
  simp only at hc hd
  subst hc hd
  have lx : 0 < xs.length := List.length_pos_iff.mpr hne
  have le : its.length = xs.length := r.length.symm
  have ke : k * xs.length ≤ 1000000 := by
    rw [Nat.mul_comm]
    exact hz
  have kl : k ≤ 1000000 := Nat.le_trans (Nat.le_mul_of_pos_right k lx) ke
  have ne : its.toArray.isEmpty = false := by
    cases its with
    | nil =>
      rw [← le] at lx
      cases lx
    | cons a b => rfl
  by_cases k1 : k = 1
  · subst k1
    refine wpAny_binaryOp_repeat_ref (T := "tuple") (U := "int") (by decide) ⟨_, ho, rfl⟩ (fun s' => typeIs_int s' _ t) noFill_tuple_mul F.fills_int_mul F.slot_int_rmul repeat_tuple F.slot_int_index.lookup
      (call_meets F.slot_int_rmul (typeIs_int s _ t) F.entry_int_rmul (F.args_int_rmul_2 _ _) (int_rmul_tuple _ t l its.toArray n dd sl)
        ⟨ho, rfl, ⟨_, ho, rfl⟩, call_meets F.slot_tuple_mul ⟨_, ho, rfl⟩ F.entry_tuple_mul (F.args_tuple_mul_2 _ _) (tuple_once l its.toArray n dd sl t) ⟨ho, ?_⟩⟩)
    exact ⟨.ref l, H, I, rfl, q1 rfl⟩
  · have k2 : 2 ≤ k := by omega
    have sz : its.toArray.size = xs.length := by rw [List.size_toArray, le]
    have pr : ((its.toArray.size : Nat) : Int) * (k : Int) ≤ 1000000 := by
      rw [sz, ← Int.natCast_mul]
      omega
    have fl : (List.replicate k its).flatten.length ≤ sizeLine := by
      rw [PyProof.Rows.lm_len_rep_flat, le, sizeLine_eq]
      omega
    have d0 : (decide ((k : Int) < -(2 ^ 63)) || decide ((k : Int) ≥ 2 ^ 63)) = false := by
      rw [decide_eq_false (show ¬ (k : Int) < -(2 ^ 63) by omega), decide_eq_false (show ¬ (k : Int) ≥ 2 ^ 63 by omega)] <;> rfl
    have d1 : (its.toArray.isEmpty || (k : Int) == 1) = false := by
      rw [ne, Bool.false_or]
      exact beq_eq_false_iff_ne.mpr (by omega)
    have d2 : (decide ((k : Int) ≤ 0) || its.toArray.isEmpty) = false := by
      rw [ne, Bool.or_false]
      exact decide_eq_false (by omega)
    have d4 : Builtin.Tuple.tupleTooMany (((its.toArray.size : Nat) : Int) * (k : Int)) = false := by
      unfold Builtin.Tuple.tupleTooMany
      rw [sizeLine_eq]
      exact decide_eq_false (by omega)
    refine wpAny_binaryOp_repeat_ref (T := "tuple") (U := "int") (by decide) ⟨_, ho, rfl⟩ (fun s' => typeIs_int s' _ t) noFill_tuple_mul F.fills_int_mul F.slot_int_rmul repeat_tuple F.slot_int_index.lookup
      (call_meets F.slot_int_rmul (typeIs_int s _ t) F.entry_int_rmul (F.args_int_rmul_2 _ _) (int_rmul_tuple _ t l its.toArray n dd sl)
        ⟨ho, rfl, ⟨_, ho, rfl⟩, call_meets F.slot_tuple_mul ⟨_, ho, rfl⟩ F.entry_tuple_mul (F.args_tuple_mul_2 _ _) (tuple_mulW l its.toArray n dd sl (k : Int) t d0 d1 d2 (by omega) d4 (by rw [Int.toNat_natCast, size_rep, List.size_toArray]; exact fl)) ⟨ho, ?_⟩⟩)
    rw [Int.toNat_natCast, size_rep]
    refine ⟨.ref s.heap.objs.size, _, I.laid (t' := s.toks) (o := .tup (List.replicate k xs).flatten) (fun b ob q => Heap.get?_push_of_some _ q) (Nat.le_refl _) ⟨?_, _, r.rep k, IsTup.new _ _⟩, rfl, q2 k2 _ (I.hok.fresh (Nat.le_refl _))⟩
    rw [PyProof.Rows.lm_len_rep_flat, sizeLine_eq]
    omega
/-! the law's own rows -/
def Bits (rs : List Int) : Prop := ∀ x, x ∈ rs → x = 0 ∨ x = 1
theorem Bits.snoc {rs : List Int} {x : Int} (h : Bits rs) (hx : x = 0 ∨ x = 1) : Bits (rs ++ [x]) := fun y hy => by
  rcases List.mem_append.mp hy with hy | hy
  · exact h y hy
  · rw [List.mem_singleton] at hy
    rw [hy]
    exact hx
theorem but_newer {p q : Addr} {H H' : Hp} {o : HO} (a : But p H H') (n : H q = none) : But p H (upd H' q o) := fun c x hn e => by
  rw [upd_ne (ne_of_none e n)]
  exact a c x hn e
theorem Bx.other {H : Hp} {p q : Addr} {n : Nat} {o : HO} (h : Bx H p n) (nq : q ≠ p) : Bx (L2.upd H q o) p n := by
  obtain ⟨a, b, c, hp, r⟩ := h
  exact ⟨a, b, c, by rw [upd_ne (Ne.symm nq)]; exact hp, r⟩
def PV (p D : Addr) (HX : Hp) (k i : Nat) (H1 : Hp) : Prop := ∃ rs : List Int, rs.length = i ∧ Bits rs ∧ But p HX H1 ∧ Bx H1 p (k + i) ∧ H1 D = some (.lst (rs.map V.int))
theorem pv_start {p D : Addr} {HX : Hp} {k : Nat} (nD : HX D = none) (B : Bx HX p k) : PV p D HX k 0 (upd HX D (.lst [])) := ⟨[], rfl, fun _ h => (by cases h), (But.refl p HX).new nD, B.new nD, upd_same⟩
theorem pv_step {p D : Addr} {HX H1 H4 : Hp} {k i : Nat} {x : Int} (nD : HX D = none) (Dp : D ≠ p) (h : PV p D HX k i H1) (b : But p H1 H4) (B : Bx H4 p (k + (i + 1))) (hi : i < 100000) (hx : x = 0 ∨ x = 1) :
    ∃ acc, H4 D = some (.lst acc) ∧ acc.length < sizeLine ∧ PV p D HX k (i + 1) (upd H4 D (.lst (acc ++ [.int x]))) := by
  obtain ⟨rs, hl, hb, b1, _, hD⟩ := h
  have hsl : sizeLine = 16777216 := by decide
  refine ⟨_, b _ _ Dp hD, by rw [List.length_map]; omega, rs ++ [x], by rw [List.length_append, hl]; rfl, hb.snoc hx, but_newer (b1.trans b) nD, B.other Dp, ?_⟩
  rw [upd_same, List.map_append]
  rfl
theorem rep_one (m : Nat) (x : Int) : (List.replicate m [V.int x]).flatten = (List.replicate m x).map V.int := by
  rw [List.map_replicate]
  induction m with
  | zero => rfl
  | succ m ih => rw [List.replicate_succ, List.flatten_cons, ih, List.replicate_succ]; rfl
/-! a tuple no times, too -/
theorem tuple_nought (l : Addr) (items : Array Value) (n : Nat) (dd : Option Addr) (sl : Array (Option Value)) (u : Tok) (hi : items.isEmpty = false) :
    Meets (Builtin.«tuple.__mul__» ⟨[.ref l, .int 0 u], []⟩) (fun _ R s => s.heap.get? l = some { cls := .type "tuple", dict := dd, data := .seq items n, slots := sl } ∧ R (.ok (.ret (Value.ref s.heap.objs.size))) { s with heap := s.heap.push { cls := Value.type "tuple", data := Data.seq #[] }, toks := s.toks }) :=
  .of_wp fun prog w A R s h => by
    obtain ⟨hp, g, d, tk, os⟩ := s
    obtain ⟨hl, h⟩ := h
    have f1 := AutoSeq1.idx_int
    have c1 : (items.isEmpty || (0 : Int) == 1) = false := by rw [hi]; rfl
    have c2 : (decide ((0 : Int) ≤ 0) || items.isEmpty) = true := by simp
    wp_walk using wpAny_loadPart' hl
    repeat (first
      | (refine wpAny_ite_false (decide_eq_false (by rw [c1]; exact Bool.false_ne_true)) ?_; wp_walk using wpAny_loadPart' hl)
      | (refine wpAny_ite_true (decide_eq_true c2) ?_; wp_walk using wpAny_loadPart' hl)
      | (refine wpAny_ite_false (decide_eq_false (by decide)) ?_; wp_walk using wpAny_loadPart' hl))
    exact ⟨_, rfl, h⟩
def rRepB (K : PySem.W.Frag) : R2 := fun x y H Q => ∃ (l : Addr) (k : Nat) (xs : List V), x = .ref l ∧ y = .int (k : Nat) ∧ SqT K H l xs ∧ xs ≠ [] ∧ xs.length * k ≤ 1000000 ∧ (k = 1 → Q (.ref l) H) ∧
  (k ≠ 1 → ∀ p, H p = none → Q (.ref p) (upd H p (.tup (List.replicate k xs).flatten)))
theorem op_repB {X : Cx} : OpR X (binaryOp .Mult) (rRepB X.K) := by
  intro pins s σ H x y v u Q I rx ry h
  obtain ⟨l, k, xs, rfl, rfl, hT, hne, hz, q1, q2⟩ := h
  by_cases k0 : k = 0
  · subst k0
    cases rx
    obtain ⟨t, rfl⟩ := ry
    obtain ⟨its, r, ⟨⟨cls, dd, data, sl⟩, ho, hc, n, hd⟩, hs⟩ := I.tuple hT
    simp only at hc hd
    subst hc hd
    have le : its.length = xs.length := r.length.symm
    have ne : its.toArray.isEmpty = false := by
      cases its with
      | nil => exact absurd (List.eq_nil_of_length_eq_zero le.symm) hne
      | cons a b => rfl
    refine wpAny_binaryOp_repeat_ref (T := "tuple") (U := "int") (by decide) ⟨_, ho, rfl⟩ (fun s' => typeIs_int s' _ t) noFill_tuple_mul F.fills_int_mul F.slot_int_rmul repeat_tuple F.slot_int_index.lookup
      (call_meets F.slot_int_rmul (typeIs_int s _ t) F.entry_int_rmul (F.args_int_rmul_2 _ _) (int_rmul_tuple _ t l its.toArray n dd sl)
        ⟨ho, rfl, ⟨_, ho, rfl⟩, call_meets F.slot_tuple_mul ⟨_, ho, rfl⟩ F.entry_tuple_mul (F.args_tuple_mul_2 _ _) (tuple_nought l its.toArray n dd sl t ne) ⟨ho, ?_⟩⟩)
    exact ⟨.ref s.heap.objs.size, _, I.laid (t' := s.toks) (o := .tup []) (fun b ob q => Heap.get?_push_of_some _ q) (Nat.le_refl _) ⟨Nat.zero_le _, [], .nil, IsTup.new _ _⟩, rfl, q2 (by decide) _ (I.hok.fresh (Nat.le_refl _))⟩
  · exact op_repA pins s σ H _ _ v u Q I rx ry ⟨l, k, xs, rfl, rfl, hT, hne, by omega, hz, q1, fun z => q2 (by omega)⟩
/-- (x,) so many times -/
theorem rep_go {K : PySem.W.Frag} {H : Hp} {t : Addr} {x v : Int} {k : Nat} {Q : VK} (hv : v = (k : Nat)) (ht : H t = some (.tup [.int x])) (hk : k ≤ 100000) (q : ∀ H' p, Same H H' → H' p = some (.tup ((List.replicate k x).map V.int)) → Q (.ref p) H') : rRepB K (.ref t) (.int v) H Q := by
  subst hv
  refine ⟨t, k, _, rfl, rfl, SqT.mk ht, by simp, (show 1 * k ≤ 1000000 by omega), fun z => ?_, fun z p np => ?_⟩
  · subst z
    exact q H t (Same.refl H) ht
  · exact q _ p (same_upd np) (by rw [upd_same, rep_one])
theorem cat_go {K : PySem.W.Frag} {H : Hp} {a b : Addr} {rs ss : List Int} {Q : VK} (ha : H a = some (.tup (rs.map V.int))) (hb : H b = some (.tup (ss.map V.int))) (hl : rs.length + ss.length ≤ 100000)
    (q : ∀ H' p, Same H H' → H' p = some (.tup ((rs ++ ss).map V.int)) → Q (.ref p) H') : rCatA K (.ref a) (.ref b) H Q := by
  have hsl : sizeLine = 16777216 := by decide
  refine ⟨a, b, _, _, rfl, rfl, SqT.mk ha, SqT.mk hb, by rw [List.length_map, List.length_map]; omega, fun z => ?_, fun _ z => ?_, fun _ _ p np => ?_⟩
  · rw [List.map_eq_nil_iff.mp z] at q
    exact q H b (Same.refl H) hb
  · rw [List.map_eq_nil_iff.mp z] at q
    exact q H a (Same.refl H) (by rw [List.append_nil]; exact ha)
  · exact q _ p (same_upd np) (by rw [upd_same, List.map_append])
theorem catK {X : Cx} {K : PySem.W.Frag} (h : X.K = K) : OpR X (binaryOp .Add) (rCatA K) := by
  subst h
  exact op_catA
theorem zipAK {X : Cx} {K : PySem.W.Frag} {e e2 : Expr} {ta : TA} {p pos tpos : Pos} {elts : List Expr} {kk : Nat} (h : X.K = K) (hg : Gl X "zip") (hm : X.mg "zip" = none) (ha : PA X [e, e2] ta)
    (hs : starEach [e, e2] X.env = (false, eval e X.env) :: starEach [e2] X.env := by rfl) (hpl : (backTo pos (starEach [e2] X.env)).any (·.1) = false := by rfl) :
    PI X (.Tuple elts kk tpos) (.Call (.Name "zip" p) [e, e2] [] pos) (RZ.iZipA K ta) := by
  subst h
  exact RZ.pi_zipA hg hm ha hs hpl
theorem nx_via {t u : TS} {D : Ends} {r : VK} {k c : L2.St → Hp → Prop} {σ : L2.St} {H : Hp} (R : L2.St → Hp → Prop) (h1 : ∀ N : L2.St → Hp → Prop, (∀ σ H, R σ H → N σ H) → t { D with nx := N } σ H) (h2 : ∀ σ H, R σ H → u D σ H) : Ends.nx { nx := tSeq t u D, rt := r, bk := k, ct := c } σ H := h1 _ h2
theorem seq_via {t u : TS} {D : Ends} {σ : L2.St} {H : Hp} (R : L2.St → Hp → Prop) (h1 : ∀ N : L2.St → Hp → Prop, (∀ σ H, R σ H → N σ H) → t { D with nx := N } σ H) (h2 : ∀ σ H, R σ H → u D σ H) : tSeq t u D σ H := h1 _ h2
/-! generator expressions: the walked thing, the element, the generator at hand -/
def SrcOk (X : Cx) (P : Addr) (s1 : Shared) (xv : Value) (n : Nat) (Pf : Nat → Value → Prop) : Prop :=
  ∃ (o : Obj) (aux : List Addr) (Z : Nat → Heap → Prop),
    (∀ Q : Value → Shared → Prop, Q (.ref s1.heap.objs.size) { s1 with heap := s1.heap.push o } → wpAny (model X.prog X.w) X.A (pyIter xv) Q X.xe s1) ∧
    (∀ b ∈ aux, b < s1.heap.objs.size ∧ b ≠ P) ∧
    (∀ B : Around, B.handled = none → Walks X.prog X.w B s1.heap.objs.size (s1.heap.objs.size :: aux) [s1.heap.objs.size] n Pf Z) ∧ Z 0 (s1.heap.push o)
def EltOk (X : Cx) (P : Addr) (scope : Scope) (x : Str) (elt : Expr) (s1 : Shared) (Pf F : Nat → Value → Prop) : Prop :=
  ∀ (cenv : Env) (B : Around) (E2 : Value → Shared → Prop) (i : Nat) (v : Value) (s2 : Shared) (m2 : Str → Option Value), cenv.scope = scope → cenv.cells = cloFrom X.env.cells scope.names [] → cenv.globals = X.env.globals → cenv.builtins = builtinsNs →
    B.handled = none → Pf i v → s2.heap.Ns cenv.locals m2 → m2 x = some v → (∀ b o, b ≠ P → s1.heap.get? b = some o → s2.heap.get? b = some o) →
    wpAny (model X.prog X.w) B (eval elt cenv) (fun y s3 => F i y ∧ Keeps s2 s3) E2 s2
def AtHand (X : Cx) (pins : List (Addr × Obj)) (σ : L2.St) (H1 : Hp) (P : Addr) (n : Nat) (F : Nat → Value → Prop) (g : Addr) (s5 : Shared) : Prop :=
  ∃ (fp wr : List Addr) (G : Array GenState → Array GenState → Prop) (F' : Nat → Value → Prop) (Z : Nat → Shared → Prop),
    WalksS X.prog X.w X.A.in4 g fp wr G n F' Z ∧ (∀ j v, F' j v → F j v) ∧ Z 0 s5 ∧ (∀ b ∈ fp, b < s5.heap.objs.size) ∧ g ∈ fp ∧ (∀ i s9, Z i s9 → s9.TypeIs (.ref g) "generator") ∧
    ∀ s', Moved wr G s5 s' → ∃ H2, GxR.Tabbed P H1 H2 ∧ Inv X pins σ H2 s'
theorem gen_one {X : Cx} {pins : List (Addr × Obj)} {σ : L2.St} {s : Shared} {c P : Addr} {elt iter : Expr} {x : Str} {px gpos : Pos} {scope : Scope} {k : Nat} {W : Value → Shared → Prop}
    (hr : Room k X.A) (TB : GxR.TabB X.base X.mg c P) (hcode : X.env.code = .ref c) (S : GxR.GenS X.env scope x) (hs : ∀ v, genFold iter X.env v = pure v)
    (h : wpAny (model X.prog X.w) X.A (eval iter X.env) (fun xv s1 => ∃ (H1 : Hp) (ps : Array Value) (n : Nat) (Pf F : Nat → Value → Prop), Inv X pins σ H1 s1 ∧ H1 P = some (.tbl ps) ∧ TriplesOk ps.toList ∧ SrcOk X P s1 xv n Pf ∧
      EltOk X P scope x elt s1 Pf F ∧ ∀ g s5, AtHand X pins σ H1 P n F g s5 → W (.ref g) s5) X.xe s) :
    wpAny (model X.prog X.w) X.A (eval (.GeneratorExp elt [⟨.Name x px, iter, [], 0⟩] scope gpos) X.env) W X.xe s := by
  have deep := hr.dp
  refine wpAny_GeneratorExp_walksQ hr.hd S.co (closure_ok S.free) S.cell S.dot S.loc S.kind (by omega) (wpAny_mono h (fun xv s1 z => ?_) fun _ _ e => e) hs
  obtain ⟨H1, ps, n, Pf, F, J1, hP, trip, ⟨o, aux, Z, go, hau, wk, z0⟩, hel, fin⟩ := z
  refine go _ ?_
  have hPs : s1.heap.get? P = some { cls := .none, data := .fields ps } := J1.hok P _ hP
  have ltP : P < s1.heap.objs.size := Heap.lt_size hPs
  have hP2 : (s1.heap.push o).get? P = some { cls := .none, data := .fields ps } := Heap.get?_push_of_some _ hPs
  have cd : PySem.W.CodeHd (s1.heap.push o) c P := TB.code.keeps fun b u e => Heap.get?_push_of_some _ (J1.bk b u e)
  have lim : (s1.heap.push o).NoLimit := J1.nolimit.push o
  have szp : (s1.heap.push o).objs.size = s1.heap.objs.size + 1 := Heap.size_push ..
  have go2 : ∀ (code : Value) (h3 : Heap) (tk : Nat) (more : Array Value), Heap.ExtBut P (s1.heap.push o) h3 → (s1.heap.push o).objs.size ≤ h3.objs.size → h3.get? P = some { cls := .none, data := .fields (ps ++ more) } → TriplesOk (ps ++ more).toList →
      wpAny (model X.prog X.w) X.A (builtinsFor X.env.globals X.env.builtins) (fun bi s4 =>
        ∃ I0 fp wr n0 Pf0 Z0 pz F0, Value.ref s1.heap.objs.size = .ref I0 ∧ (∀ B : Around, B.handled = none → Walks X.prog X.w B I0 fp wr n0 Pf0 Z0) ∧ Z0 0 s4.heap ∧ (∀ b ∈ fp, b < s4.heap.objs.size) ∧ s4.heap.NoLimit ∧ cStatics ∉ wr ∧
          (∀ hq : Heap, (∀ b o, s4.heap.get? b = some o → hq.get? b = some o) →
            QuietGen X.prog X.w (genEnv scope (cloFrom X.env.cells scope.names []) s4.heap.objs.size code bi X.env) x [] elt (List.range s4.heap.objs.size) wr Pf0 pz F0 hq) ∧
          (∀ g h5 tk5 gs, gs.bare = true → s4.heap.objs.size < g → h5.objs.size = g + 1 → (∀ b o, s4.heap.get? b = some o → h5.get? b = some o) →
            WalksS X.prog X.w X.A.in4 g (g :: s4.heap.objs.size :: List.range s4.heap.objs.size) (s4.heap.objs.size :: wr) (GenOnlyQ s4.gens.size) (passing pz n0 0).length
              (fun j y => ∃ i, (passing pz n0 0)[j]? = some i ∧ F0 i y) (GenAt X.prog X.w X.A.in4 g s4.gens.size s4.heap.objs.size (List.range s4.heap.objs.size) wr pz n0 F0) →
            GenAt X.prog X.w X.A.in4 g s4.gens.size s4.heap.objs.size (List.range s4.heap.objs.size) wr pz n0 F0 0 { s4 with gens := s4.gens.push gs, toks := tk5, heap := h5 } →
            W (.ref g) { s4 with gens := s4.gens.push gs, toks := tk5, heap := h5 })) X.xe { s1 with heap := h3, toks := tk } := by
    intro code h3 tk more hx hsz hP3 trip3
    obtain ⟨bm, ob, e1, e2, e3, e4, e5, e6, e7, e8⟩ := TB.bm
    have keep3 : ∀ b u, b ≠ P → s1.heap.get? b = some u → h3.get? b = some u := fun b u hb e => hx b u hb (Heap.get?_push_of_some _ e)
    have stP : cStatics ≠ P := fun z => by
      obtain ⟨_, ⟨o1, es, ep, ho, hd, _⟩, _⟩ := J1.nolimit
      rw [z, hPs] at ho
      cases ho
      cases hd
    have stL : cStatics < s1.heap.objs.size := by
      obtain ⟨_, hns, _⟩ := J1.nolimit
      exact hns.lt
    have newP : s1.heap.objs.size ≠ P := Nat.ne_of_gt ltP
    refine wpAny_builtinsFor (m := X.mg) (by rw [J1.ok.glob]; exact ((J1.mod.glob.keeps J1.bk).push o).extBut hx TB.gP) e1 e2 (keep3 _ _ e4 (J1.bk _ _ e5)) e6 e7 e8 ?_
    refine ⟨s1.heap.objs.size, s1.heap.objs.size :: aux, [s1.heap.objs.size], n, Pf, Z, fun _ => true, F, rfl, wk, ?_, ?_, lim.extBut hx stP, ?_, ?_, ?_⟩
    · refine (wk X.A hr.hd).frame _ _ _ z0 fun b hb u e => hx b u (fun z => ?_) e
      rcases List.mem_cons.mp hb with z2 | z2
      · exact newP (z2.symm.trans z)
      · exact (hau b z2).2 z
    · intro b hb
      show b < h3.objs.size
      have up : s1.heap.objs.size < h3.objs.size := by omega
      rcases List.mem_cons.mp hb with z2 | z2
      · rw [z2]
        exact up
      · exact Nat.lt_trans (hau b z2).1 up
    · intro z
      rcases List.mem_cons.mp z with z2 | z2
      · exact Nat.ne_of_lt stL z2
      · cases z2
    · intro hq keepq
      refine ⟨fun B E2 i v s2 m2 hB hv hn hm hk => ?_, fun B E2 i v s2 m2 hB hv _ hn hm hk => ?_⟩
      · simp only [List.forIn_nil]
        exact wpAny_pure ⟨rfl, GxR.keeps_refl _⟩
      · refine hel _ B E2 i v s2 m2 rfl rfl rfl rfl hB hv hn hm fun b u hb e => ?_
        have lb := Heap.lt_size e
        have up : s1.heap.objs.size < h3.objs.size := by omega
        refine hk b (List.mem_range.mpr (Nat.lt_trans lb up)) (fun z => ?_) u (keepq b u (keep3 b u hb e))
        rcases List.mem_cons.mp z with z2 | z2
        · exact Nat.ne_of_lt lb z2
        · cases z2
    · intro g h5 tk5 gs hgb hag hsz5 hk5 W5 gat
      simp only [GxR.passing_true, List.length_range] at W5
      refine fin g _ ⟨_, _, _, _, _, W5, fun j v hv => ?_, gat, fun b hb => ?_, List.mem_cons_self, fun i s9 h9 => h9.1.typeIs, fun s' hm => ?_⟩
      · obtain ⟨i, hij, e⟩ := hv
        obtain ⟨_, ej⟩ := List.getElem?_eq_some_iff.mp hij
        rw [List.getElem_range] at ej
        subst ej
        exact e
      · show b < h5.objs.size
        have h8 : h3.objs.size < g := hag
        have h9 : h5.objs.size = g + 1 := hsz5
        have u1 : g < h5.objs.size := by
          rw [h9]
          exact Nat.lt_succ_self g
        have u2 : h3.objs.size < h5.objs.size := Nat.lt_trans h8 u1
        rcases List.mem_cons.mp hb with z | z
        · rw [z]
          exact u1
        · rcases List.mem_cons.mp z with z | z
          · rw [z]
            exact u2
          · exact Nat.lt_trans (show b < h3.objs.size from List.mem_range.mp z) u2
      · have old : ∀ b u, s1.heap.get? b = some u → b ∉ h3.objs.size :: [s1.heap.objs.size] := fun b u e hb => by
          have lb := Heap.lt_size e
          have up : s1.heap.objs.size < h3.objs.size := by omega
          rcases List.mem_cons.mp hb with z | z
          · exact Nat.ne_of_lt (Nat.lt_trans lb up) z
          · rcases List.mem_cons.mp z with z | z
            · exact Nat.ne_of_lt lb z
            · cases z
        have R := GxR.inv_tab (more := more) (h' := s'.heap) (g' := s'.gens) (d' := s'.drawn) (t' := s'.toks) J1 hP (fun b u hb e => hm.heap b u (old b u e) (hk5 b u (keep3 b u hb e)))
          (hm.heap P _ (old P _ hPs) (hk5 P _ hP3)) (AllBare.movedS (J1.bare.push hgb) hm)
        rw [GxR.sh_eta s1 s' hm.os] at R
        exact ⟨_, ⟨⟨ps ++ more, upd_same, trip3⟩, fun b hb => upd_ne hb⟩, R⟩
  refine ⟨lim, ?_⟩
  cases hf : codeAmong gpos ps.toList with
  | none =>
    refine wpAny_genexprCodeX hcode (cd.code hP2 trip) (cd.tab hP2) hf fun c' h' tk hx hge hlt hco' _ htab' _ => ?_
    obtain ⟨o1, vs, f1, tf, fl, tg, inF, tx, tt, op, _, _, _, _, _, _, _, _, _, htr, _⟩ := hco'
    exact go2 _ h' tk _ hx (Nat.le_trans hge (Nat.le_of_lt hlt)) htab'.2 htr
  | some cv =>
    refine wpAny_genexprCode_hit hcode (cd.code hP2 trip) hf ?_
    exact go2 cv (s1.heap.push o) s1.toks #[] (Heap.ExtBut.refl _ _) (Nat.le_refl _) (by rw [Array.append_empty]; exact hP2) (by rw [Array.append_empty]; exact trip)
/-! tuple(element for x in walked) -/
structure PSrc (X : Cx) (P : Addr) (iter : Expr) (ti : L2.St → Hp → (List V → Hp → Prop) → Prop) : Prop where
  run : ∀ (pins : List (Addr × Obj)) (s : Shared) (σ : L2.St) (H : Hp) (R : List V → Hp → Prop), Inv X pins σ H s → ti σ H (fun xs H1 => GxR.TabG H1 P ∧ R xs H1) →
    wpAny (model X.prog X.w) X.A (eval iter X.env) (fun xv s1 => ∃ (H1 : Hp) (xs : List V), Inv X pins σ H1 s1 ∧ GxR.TabG H1 P ∧ R xs H1 ∧ SrcOk X P s1 xv xs.length (fun i u => ∃ y, xs[i]? = some y ∧ RelV y u)) X.xe s
/-- where the element is reckoned: the generator's own frame -/
structure InGen (X : Cx) (P : Addr) (scope : Scope) (s1 : Shared) (cenv : Env) (B : Around) (s2 : Shared) (m2 : Str → Option Value) : Prop where
  sc : cenv.scope = scope
  cells : cenv.cells = cloFrom X.env.cells scope.names []
  glob : cenv.globals = X.env.globals
  blt : cenv.builtins = builtinsNs
  hd : B.handled = none
  ns : s2.heap.Ns cenv.locals m2
  keep : ∀ b o, b ≠ P → s1.heap.get? b = some o → s2.heap.get? b = some o
structure PElt (X : Cx) (P : Addr) (scope : Scope) (x : Str) (elt : Expr) (te : L2.St → Hp → V → V → Prop) : Prop where
  run : ∀ (pins : List (Addr × Obj)) (s1 : Shared) (σ : L2.St) (H : Hp), Inv X pins σ H s1 → GxR.TabG H P → ∀ (cenv : Env) (B : Around) (E2 : Value → Shared → Prop) (s2 : Shared) (m2 : Str → Option Value) (v y : V) (u : Value),
    InGen X P scope s1 cenv B s2 m2 → RelV v u → te σ H v y → m2 x = some u → wpAny (model X.prog X.w) B (eval elt cenv) (fun z s3 => RelV y z ∧ Keeps s2 s3) E2 s2
def tTupG (P : Addr) (ti : L2.St → Hp → (List V → Hp → Prop) → Prop) (te : L2.St → Hp → V → V → Prop) : TE := fun σ H Q => ti σ H fun xs H1 => GxR.TabG H1 P ∧ xs.length ≤ sizeLine ∧ ∃ ys : List V, ys.length = xs.length ∧
  (∀ (i : Nat) (x : V), xs[i]? = some x → ∃ y, ys[i]? = some y ∧ te σ H1 x y) ∧ ∀ H2 p, GxR.Tabbed P H1 H2 → H2 p = none → Q (.ref p) (upd H2 p (.tup ys))
theorem vals_of : ∀ (ys : List V) (us : List Value), us.length = ys.length → (∀ (j : Nat) (u : Value), us[j]? = some u → ∃ y, ys[j]? = some y ∧ RelV y u) → Vals ys us
  | [], [], _, _ => .nil
  | y :: ys, u :: us, hl, h => by
    obtain ⟨y1, e1, r1⟩ := h 0 u rfl
    cases e1
    exact .cons r1 (vals_of ys us (by simpa using hl) fun j v hj => h (j + 1) v hj)
theorem pe_tupG {X : Cx} {c P : Addr} {elt iter : Expr} {x : Str} {px p pos gpos : Pos} {scope : Scope} {ti : L2.St → Hp → (List V → Hp → Prop) → Prop} {te : L2.St → Hp → V → V → Prop} {k : Nat}
    (hr : Room k X.A) (hg : Gl X "tuple") (hm : X.mg "tuple" = none) (hb : bootBuiltins "tuple" = some (.type "tuple")) (TB : GxR.TabB X.base X.mg c P) (hcode : X.env.code = .ref c) (S : GxR.GenS X.env scope x)
    (hi : PSrc X P iter ti) (hel : PElt X P scope x elt te) (hs : ∀ v, genFold iter X.env v = pure v)
    (he : starEach [.GeneratorExp elt [⟨.Name x px, iter, [], 0⟩] scope gpos] X.env = (false, eval (.GeneratorExp elt [⟨.Name x px, iter, [], 0⟩] scope gpos) X.env) :: starEach [] X.env := by rfl) :
    PE X (.Call (.Name "tuple" p) [.GeneratorExp elt [⟨.Name x px, iter, [], 0⟩] scope gpos] [] pos) (tTupG P ti te) := by
  refine ⟨fun pins s σ H Q I h => ?_⟩
  refine wpAny_Call_Name_kw (ld_blt I hg hm hb ?_)
  refine PyProof.Rows.callWith_type1 ?_ he (by rfl)
  rw [he]
  show wpAny _ _ (spliced ((false, eval (.GeneratorExp elt [⟨.Name x px, iter, [], 0⟩] scope gpos) X.env) :: backTo pos (starEach [] X.env))) _ _ s
  have h2 : ti σ H fun xs H1 => GxR.TabG H1 P ∧ (xs.length ≤ sizeLine ∧ ∃ ys : List V, ys.length = xs.length ∧ (∀ (i : Nat) (x : V), xs[i]? = some x → ∃ y, ys[i]? = some y ∧ te σ H1 x y) ∧ ∀ H2 p, GxR.Tabbed P H1 H2 → H2 p = none → Q (.ref p) (upd H2 p (.tup ys))) := h
  refine Calls.spliced_cons (gen_one (pins := pins) (σ := σ) hr TB hcode S hs (wpAny_mono (hi.run pins s σ H _ I h2) (fun xv s1 z => ?_) fun _ _ e => e))
  obtain ⟨H1, xs, J, ⟨ps, hP, trip⟩, ⟨lx, ys, ly, hys, q⟩, src⟩ := z
  refine ⟨H1, ps, xs.length, _, fun i u => ∃ y, ys[i]? = some y ∧ RelV y u, J, hP, trip, src, ?_, fun g s5 at5 => ?_⟩
  · intro cenv B E2 i v s2 m2 h1 h3 h4 h5 h6 hv h7 h8 h9
    obtain ⟨w1, ew, rw1⟩ := hv
    obtain ⟨y, ey, ty⟩ := hys i w1 ew
    exact wpAny_mono (hel.run pins s1 σ H1 J ⟨ps, hP, trip⟩ cenv B E2 s2 m2 w1 y v ⟨h1, h3, h4, h5, h6, h7, h9⟩ rw1 ty h8) (fun z s3 r => ⟨⟨y, ey, r.1⟩, r.2⟩) fun _ _ e => e
  · refine Calls.spliced_nil ?_
    obtain ⟨fp, wr, G, F', Z, W5, im, z0, hfp, hgf, hT, hinv⟩ := at5
    refine PySem.call_tuple_gen (n := xs.length) W5.in4_3 hT z0 hfp hgf (fun s' acc mv it => ?_) lx
    obtain ⟨H2, tb, J2⟩ := hinv s' mv
    have vs : Vals ys acc.toList := vals_of ys acc.toList (by rw [Array.length_toList, it.1, ly]) fun j u hj => im j u (it.2 j u (by simpa using hj))
    refine ⟨.ref s'.heap.objs.size, _, J2.laid (t' := s'.toks) (o := .tup ys) (fun b ob e => Heap.get?_push_of_some _ e) (Nat.le_refl _) ⟨by omega, acc.toList, vs, ?_⟩, rfl, q H2 _ tb (J2.hok.fresh (Nat.le_refl _))⟩
    have ea : acc.toList.toArray = acc := by simp
    rw [ea]
    exact IsTup.new _ _
/-- range(e) -/
theorem src_range {X : Cx} {P : Addr} {a : Expr} {ta : TA} {p pos : Pos} (hg : Gl X "range") (hm : X.mg "range" = none) (ha : PA X [a] ta) (hs : starEach [a] X.env = [(false, eval a X.env)] := by rfl) :
    PSrc X P (.Call (.Name "range" p) [a] [] pos) (fun σ H R => ta σ H fun vs H1 => ∃ n : Nat, vs = [.int (n : Nat)] ∧ n ≤ sizeLine ∧ R ((List.range n).map fun i => V.int (i : Nat)) H1) := by
  refine ⟨fun pins s σ H R I h => ?_⟩
  refine Call_ (ld_blt I hg hm boot_range (PyProof.Rows.callWith_type1 (thn (ha.run pos pins s σ H _ I h) fun us s1 ⟨vs, H1, J, r1, q1⟩ => ?_) hs rfl))
  obtain ⟨n, rfl, hn, tg, q⟩ := q1
  cases r1 with
  | cons r rr =>
    cases rr
    obtain ⟨t, rfl⟩ := r
    have hsl : sizeLine = 16777216 := by decide
    refine call_range_1 ⟨H1, _, J.kept fun b o e => Heap.get?_push_of_some _ e, tg, q, ?_⟩
    refine ⟨_, [], fun i h => IsRangeIter h (s1.heap.push { cls := .type "range", data := .fields #[.int 0 s1.toks, .int (n : Nat) t, .int 1 (s1.toks + 1)] }).objs.size ((0 : Int) + (i : Nat) * 1) ((n : Int) - (i : Nat)) 1, fun Q hQ => wpAny_pyIter_range (IsRange.new ..) (small_one (by omega) (by omega) (by omega) (by omega)) hQ, fun b hb => (by cases hb), fun B hB => ?_, ?_⟩
    · rw [List.length_map, List.length_range]
      have W0 := Walks.range (prog := X.prog) (w := X.w) (A := B) hB (s1.heap.push { cls := .type "range", data := .fields #[.int 0 s1.toks, .int (n : Nat) t, .int 1 (s1.toks + 1)] }).objs.size 0 1 n
      exact W0.mono_item fun i v hi hv => by
        obtain ⟨t2, rfl⟩ := hv
        refine ⟨.int (i : Nat), ?_, t2, by rw [Int.zero_add, Int.mul_one]⟩
        rw [List.getElem?_map, List.getElem?_range hi]
        rfl
    · show IsRangeIter _ _ ((0 : Int) + ((0 : Nat) : Int) * 1) ((n : Int) - ((0 : Nat) : Int)) 1
      have e2 : (n : Int) - ((0 : Nat) : Int) = Builtin.Range.rangeSize 0 (n : Int) 1 := by
        rw [rangeSize_one]
        split <;> omega
      rw [e2]
      exact Heap.get?_push_size _ rfl
theorem gs_free {cells : List (Str × Addr)} {names : List (Str × NameKind)} (h : (names.all fun y => y.2 != .free || (cells.lookup y.1).isSome) = true) : ∀ y ∈ names, y.2 = .free → ∃ c, cells.lookup y.1 = some c := fun y hy e => by
  have q := List.all_eq_true.mp h y hy
  rw [e] at q
  exact Option.isSome_iff_exists.mp (by simpa using q)
/-! elements -/
section
variable {X : Cx} {pins : List (Addr × Obj)} {σ : L2.St} {H : Hp} {s1 s2 : Shared} {P c : Addr} {scope : Scope} {cenv : Env} {B : Around} {m2 : Str → Option Value} {E2 : Value → Shared → Prop}
theorem ig_local {x : Str} {u : Value} {p : Pos} {W : Value → Shared → Prop} (g : InGen X P scope s1 cenv B s2 m2) (hk : scope.kind = .function) (hl : scope.names.lookup x = some .local) (hm : m2 x = some u) {s3 : Shared} (k3 : Keeps s2 s3) (h : W u s3)
    (hd : (x == ("__debug__" : Str)) = false := by decide) : wpAny (model X.prog X.w) B (eval (.Name x p) cenv) W E2 s3 := by
  obtain ⟨h3, tk, rfl, kp⟩ := k3
  exact wpAny_Name (wpAny_loadName_local (by rw [g.sc]; exact hk) (show cenv.scope.names.lookup x = some .local by rw [g.sc]; exact hl) (g.ns.keeps kp) hm h) hd
theorem ig_free {x : Str} {i : Nat} {v : V} {p : Pos} {W : Value → Shared → Prop} (I : Inv X pins σ H s1) (tg : GxR.TabG H P) (g : InGen X P scope s1 cenv B s2 m2) (hk : scope.kind = .function) (hl : scope.names.lookup x = some .free)
    (hN : X.N[i]? = some x) (hσ : σ[i]? = some (some v)) (hX : X.env.scope.names.lookup x = some .cell) (hcl : ∀ cells : List (Str × Addr), (cloFrom cells scope.names []).lookup x = some ((cells.lookup x).getD 0)) {s3 : Shared} (k3 : Keeps s2 s3)
    (h : ∀ u, RelV v u → W u s3) (hn : (x == ("__classdict__" : Str)) = false := by decide) (hd : (x == ("__debug__" : Str)) = false := by decide) : wpAny (model X.prog X.w) B (eval (.Name x p) cenv) W E2 s3 := by
  obtain ⟨h3, tk, rfl, kp⟩ := k3
  obtain ⟨m, _, hloc⟩ := I.loc
  obtain ⟨u, ru, lk⟩ := hloc i x v hN hσ (.inr (.inl hX))
  rcases lk with ⟨h1, _⟩ | ⟨_, cc, h2, ic⟩
  · have h1 : X.env.scope.names.lookup x = some .local := h1
    rw [hX] at h1
    cases h1
  · obtain ⟨ps, hP, _⟩ := tg
    have ncP : cc ≠ P := fun z => by
      have q := I.freeC x cc h2
      rw [z, hP] at q
      cases q
    obtain ⟨o, ho, hd2⟩ := ic
    have lk2 : cenv.cells.lookup x = some cc := by
      rw [g.cells, hcl, h2]
      rfl
    exact wpAny_Name (wpAny_loadName_free (by rw [g.sc]; exact hk) (show cenv.scope.names.lookup x = some .free by rw [g.sc]; exact hl) lk2 ⟨o, kp _ _ (g.keep _ _ ncP ho), hd2⟩ (h u ru) hn) hd
theorem ig_blt {x : Str} {u : Value} {p : Pos} {W : Value → Shared → Prop} (I : Inv X pins σ H s1) (tg : GxR.TabG H P) (TB : GxR.TabB X.base X.mg c P) (g : InGen X P scope s1 cenv B s2 m2) (hk : scope.kind = .function) (hl : scope.names.lookup x = some .globalImplicit)
    (hm : X.mg x = none) (hv : bootBuiltins x = some u) {s3 : Shared} (k3 : Keeps s2 s3) (h : W u s3) (hn : x ≠ "__name__" := by decide) (hd : (x == ("__debug__" : Str)) = false := by decide) : wpAny (model X.prog X.w) B (eval (.Name x p) cenv) W E2 s3 := by
  obtain ⟨h3, tk, rfl, kp⟩ := k3
  obtain ⟨mb, h1, h2⟩ := I.mod.blt
  obtain ⟨ps, hP, _⟩ := tg
  have hPs : s1.heap.get? P = some { cls := .none, data := .fields ps } := I.hok P _ hP
  have n1 : s1.heap.Ns mainGlobals X.mg := I.mod.glob.keeps I.bk
  have n2 : s1.heap.Ns builtinsNs mb := h1.keeps I.bk
  have up : ∀ {a : Addr} {m : Str → Option Value}, s1.heap.Ns a m → h3.Ns a m := fun {a m} ⟨o, es, ep, ho, hd1, r⟩ => by
    have na : a ≠ P := fun z => by
      rw [z, hPs] at ho
      cases ho
      cases hd1
    exact ⟨o, es, ep, kp _ _ (g.keep _ _ na ho), hd1, r⟩
  exact Calls.Name_function_global (by rw [g.sc]; exact hk) (show cenv.scope.names.lookup x = some .globalImplicit by rw [g.sc]; exact hl) (Calls.loadGlobal_builtin (by rw [g.glob, I.ok.glob]; exact up n1) hm (by rw [g.blt]; exact up n2) ((h2 x hn).trans hv) h) hd
theorem kp_tok {s3 : Shared} (k : Keeps s2 s3) (n : Nat) : Keeps s2 { s3 with toks := n } := by
  obtain ⟨h', tk, rfl, kp⟩ := k
  exact ⟨h', n, rfl, kp⟩
/-- a tracked tuple, read in the generator's frame -/
theorem ig_tup {a : Addr} {xs : List V} (I : Inv X pins σ H s1) (tg : GxR.TabG H P) (g : InGen X P scope s1 cenv B s2 m2) (ha : H a = some (.tup xs)) {s3 : Shared} (k3 : Keeps s2 s3) : ∃ its : List Value, Vals xs its ∧ IsTup s3.heap a its.toArray ∧ xs.length ≤ sizeLine := by
  obtain ⟨h3, tk, rfl, kp⟩ := k3
  obtain ⟨ps, hP, _⟩ := tg
  obtain ⟨hz, its, r, ⟨o, ho, rest⟩⟩ := I.hok a _ ha
  have naP : a ≠ P := ne_of ha hP (fun z => by cases z)
  exact ⟨its, r, ⟨o, kp _ _ (g.keep _ _ naP ho), rest⟩, hz⟩
end
/-- row[(at - by) % len(row)] -/
theorem elt_late {X : Cx} {P c : Addr} {scope : Scope} {i j : Nat} {xr xa xb : Str} {p1 p2 p3 p4 p5 p6 p7 p8 p9 : Pos} (TB : GxR.TabB X.base X.mg c P) (hk : scope.kind = .function) (l1 : scope.names.lookup xa = some .local) (l2 : scope.names.lookup xr = some .free) (l3 : scope.names.lookup xb = some .free)
    (l4 : scope.names.lookup ("len" : Str) = some .globalImplicit) (hm : X.mg "len" = none) (hNi : X.N[i]? = some xr) (hNj : X.N[j]? = some xb) (hXi : X.env.scope.names.lookup xr = some .cell) (hXj : X.env.scope.names.lookup xb = some .cell)
    (c1 : ∀ cells : List (Str × Addr), (cloFrom cells scope.names []).lookup xr = some ((cells.lookup xr).getD 0)) (c2 : ∀ cells : List (Str × Addr), (cloFrom cells scope.names []).lookup xb = some ((cells.lookup xb).getD 0))
    (n1 : (xr == ("__classdict__" : Str)) = false := by decide) (n2 : (xr == ("__debug__" : Str)) = false := by decide) (n3 : (xb == ("__classdict__" : Str)) = false := by decide) (n4 : (xb == ("__debug__" : Str)) = false := by decide) (n5 : (xa == ("__debug__" : Str)) = false := by decide) :
    PElt X P scope xa (.Subscript (.Name xr p1) (.BinOp (.BinOp (.Name xa p2) .Sub (.Name xb p3) p4) .Mod (.Call (.Name "len" p5) [.Name xr p6] [] p7) p8) p9)
      (fun σ H v y => ∃ (a : Addr) (xs : List V) (by_ : Int) (t : Nat), σ[i]? = some (some (.ref a)) ∧ H a = some (.tup xs) ∧ σ[j]? = some (some (.int by_)) ∧ v = .int (t : Nat) ∧ 0 < xs.length ∧ xs[(((t : Int) - by_) % (xs.length : Int)).toNat]? = some y) := by
  refine ⟨fun pins s1 σ H I tg cenv B E2 s2 m2 v y u g rv te hm2 => ?_⟩
  obtain ⟨a, xs, by_, t, h1, h2, h3, rfl, h4, h5⟩ := te
  obtain ⟨tk, rfl⟩ := (show ∃ tk, u = Value.int (t : Nat) tk from rv)
  refine Subscript_ (ig_free I tg g hk l2 hNi h1 hXi c1 (GxR.keeps_refl s2) (fun u1 r1 => ?_) n1 n2)
  obtain rfl : u1 = Value.ref a := r1
  refine wpAny_BinOp (wpAny_BinOp (ig_local g hk l1 hm2 (GxR.keeps_refl s2) ?_ n5))
  refine ig_free I tg g hk l3 hNj h3 hXj c2 (GxR.keeps_refl s2) (fun u2 r2 => ?_) n3 n4
  obtain ⟨tb, rfl⟩ := (show ∃ tb, u2 = Value.int by_ tb from r2)
  refine sub_int ?_
  refine wpAny_Call_Name_kw (ig_blt I tg TB g hk l4 hm PySem.boot_len (GxR.keeps_tok s2 _) ?_)
  refine PyProof.Rows.callWith_builtin1 ?_ rfl rfl
  refine Calls.spliced_cons (ig_free I tg g hk l2 hNi h1 hXi c1 (GxR.keeps_tok s2 _) (fun u3 r3 => ?_) n1 n2)
  obtain rfl : u3 = Value.ref a := r3
  refine Calls.spliced_nil ?_
  obtain ⟨its, rvs, it, hz⟩ := ig_tup I tg g h2 (GxR.keeps_tok s2 (s2.toks + 1))
  have hlen := rvs.length
  have hsl : sizeLine = 16777216 := by decide
  have hj : (((t : Int) - by_) % (xs.length : Int)).toNat < xs.length := (List.getElem?_eq_some_iff.mp h5).1
  refine len_tuple it (by simp only [List.size_toArray] <;> omega) ?_
  refine mod_int' (by rw [List.size_toArray, ← hlen]; omega) ?_
  rw [List.size_toArray, ← hlen, Int.fmod_eq_emod_of_nonneg _ (by omega)]
  have m0 := Int.emod_nonneg ((t : Int) - by_) (show (xs.length : Int) ≠ 0 by omega)
  obtain ⟨w1, ew, rw1⟩ := rvs.get h5
  have fin := GxR.keeps_tok s2 (s2.toks + 1 + 1 + 1 + 1)
  refine subscriptTail_builtinR (x := w1) it.typeIs slot_tuple_getitem.lookup (getItem_tuple (j := (((t : Int) - by_) % (xs.length : Int)).toNat) it (by omega) (by omega) ?_ (by simpa using ew) ⟨rfl, rw1, fin⟩)
  rw [List.size_toArray, ← hlen]


  exact seqIndex_of m0 (Int.emod_lt_of_pos _ (by omega))
/-! generator expressions over pairs -/
def EltOk2 (X : Cx) (P : Addr) (scope : Scope) (xa xb : Str) (elt : Expr) (s0 : Shared) (Pt : Nat → Array Value → Prop) (F : Nat → Value → Prop) : Prop :=
  ∀ (cenv : Env) (B : Around) (E2 : Value → Shared → Prop) (i : Nat) (va vb : Value) (s2 : Shared) (m2 : Str → Option Value), InGen X P scope s0 cenv B s2 m2 → Pt i #[va, vb] → m2 xa = some va → m2 xb = some vb →
    wpAny (model X.prog X.w) B (eval elt cenv) (fun y s3 => F i y ∧ Keeps s2 s3) E2 s2
structure Src2 (X : Cx) (P : Addr) (s0 s1 : Shared) (xv : Value) (n : Nat) (Pt : Nat → Array Value → Prop) : Prop where
  only : ∃ h1 t1, s1 = { s0 with heap := h1, toks := t1 }
  old : ∀ b o, s0.heap.get? b = some o → s1.heap.get? b = some o
  wk : ∃ (J : Addr) (fp wr : List Addr) (Z : Nat → Heap → Prop) (Mid : Nat → Addr → Heap → Prop), xv = .ref J ∧ (∀ Q : Value → Shared → Prop, Q (.ref J) s1 → wpAny (model X.prog X.w) X.A (pyIter xv) Q X.xe s1) ∧
    (∀ B : Around, B.handled = none → WalksU X.prog X.w B J fp wr n Pt Z Mid) ∧ Z 0 s1.heap ∧ (∀ b ∈ fp, b < s1.heap.objs.size ∧ b ≠ P) ∧ (∀ b ∈ wr, s0.heap.objs.size ≤ b)
  two : ∀ i vals, Pt i vals → ∃ va vb, vals = #[va, vb]
structure GenS2 (env : Env) (scope : Scope) (xa xb : Str) : Prop where
  a : GxR.GenS env scope xa
  lb : scope.names.lookup xb = some .local
  ne : xa ≠ xb
theorem gen_two {X : Cx} {pins : List (Addr × Obj)} {σ : L2.St} {s : Shared} {c P : Addr} {elt iter : Expr} {xa xb : Str} {pa pb pt gpos : Pos} {kt : Nat} {scope : Scope} {k : Nat} {W : Value → Shared → Prop}
    (hr : Room k X.A) (TB : GxR.TabB X.base X.mg c P) (hcode : X.env.code = .ref c) (S : GenS2 X.env scope xa xb) (hs : ∀ v, genFold iter X.env v = pure v)
    (h : wpAny (model X.prog X.w) X.A (eval iter X.env) (fun xv s1 => ∃ (s0 : Shared) (H1 : Hp) (ps : Array Value) (n : Nat) (Pt : Nat → Array Value → Prop) (F : Nat → Value → Prop), Inv X pins σ H1 s0 ∧ H1 P = some (.tbl ps) ∧ TriplesOk ps.toList ∧ Src2 X P s0 s1 xv n Pt ∧
      EltOk2 X P scope xa xb elt s0 Pt F ∧ ∀ g s5, AtHand X pins σ H1 P n F g s5 → W (.ref g) s5) X.xe s) :
    wpAny (model X.prog X.w) X.A (eval (.GeneratorExp elt [⟨.Tuple [.Name xa pa, .Name xb pb] kt pt, iter, [], 0⟩] scope gpos) X.env) W X.xe s := by
  have deep := hr.dp
  refine wpAny_GeneratorExp_walksQT hr.hd S.a.co (closure_ok S.a.free) S.a.cell S.a.dot S.a.loc S.lb S.ne S.a.kind (by omega) (wpAny_mono h (fun xv s1 z => ?_) fun _ _ e => e) hs
  obtain ⟨s0, H1, ps, n, Pt, F, J0, hP, trip, ⟨⟨h1, t1, rfl⟩, old1, ⟨J, fp, wr, Z, Mid, rfl, go, wk, z0, hfp, hwr⟩, two⟩, hel, fin⟩ := z
  refine go _ ?_
  have hPs : s0.heap.get? P = some { cls := .none, data := .fields ps } := J0.hok P _ hP
  have ltP : P < s0.heap.objs.size := Heap.lt_size hPs
  have hP2 : h1.get? P = some { cls := .none, data := .fields ps } := old1 _ _ hPs
  have cd : PySem.W.CodeHd h1 c P := TB.code.keeps fun b u e => old1 _ _ (J0.bk b u e)
  have lim : h1.NoLimit := J0.nolimit.keeps old1
  have go2 : ∀ (code : Value) (h3 : Heap) (tk : Nat) (more : Array Value), Heap.ExtBut P h1 h3 → h1.objs.size ≤ h3.objs.size → h3.get? P = some { cls := .none, data := .fields (ps ++ more) } → TriplesOk (ps ++ more).toList →
      wpAny (model X.prog X.w) X.A (builtinsFor X.env.globals X.env.builtins) (fun bi s4 =>
        ∃ I0 fp0 wr0 n0 Pt0 Z0 Mid0 pz F0, Value.ref J = .ref I0 ∧ (∀ B : Around, B.handled = none → WalksU X.prog X.w B I0 fp0 wr0 n0 Pt0 Z0 Mid0) ∧ (∀ i vals, Pt0 i vals → ∃ va vb, vals = #[va, vb]) ∧ Z0 0 s4.heap ∧ (∀ b ∈ fp0, b < s4.heap.objs.size) ∧ s4.heap.NoLimit ∧ cStatics ∉ wr0 ∧
          (∀ hq : Heap, (∀ b o, s4.heap.get? b = some o → hq.get? b = some o) →
            QuietGenT X.prog X.w (genEnv scope (cloFrom X.env.cells scope.names []) s4.heap.objs.size code bi X.env) xa xb [] elt (List.range s4.heap.objs.size) wr0 Pt0 pz F0 hq) ∧
          (∀ g h5 tk5 gs, gs.bare = true → s4.heap.objs.size < g → h5.objs.size = g + 1 → (∀ b o, s4.heap.get? b = some o → h5.get? b = some o) →
            WalksS X.prog X.w X.A.in4 g (g :: s4.heap.objs.size :: List.range s4.heap.objs.size) (s4.heap.objs.size :: wr0) (GenOnlyQ s4.gens.size) (passing pz n0 0).length
              (fun j y => ∃ i, (passing pz n0 0)[j]? = some i ∧ F0 i y) (GenAt X.prog X.w X.A.in4 g s4.gens.size s4.heap.objs.size (List.range s4.heap.objs.size) wr0 pz n0 F0) →
            GenAt X.prog X.w X.A.in4 g s4.gens.size s4.heap.objs.size (List.range s4.heap.objs.size) wr0 pz n0 F0 0 { s4 with gens := s4.gens.push gs, toks := tk5, heap := h5 } →
            W (.ref g) { s4 with gens := s4.gens.push gs, toks := tk5, heap := h5 })) X.xe { s0 with heap := h3, toks := tk } := by
    intro code h3 tk more hx hsz hP3 trip3
    obtain ⟨bm, ob, e1, e2, e3, e4, e5, e6, e7, e8⟩ := TB.bm
    have keep3 : ∀ b u, b ≠ P → s0.heap.get? b = some u → h3.get? b = some u := fun b u hb e => hx b u hb (old1 b u e)
    have stP : cStatics ≠ P := fun z => by
      obtain ⟨_, ⟨o1, es, ep, ho, hd, _⟩, _⟩ := J0.nolimit
      rw [z, hPs] at ho
      cases ho
      cases hd
    have stL : cStatics < s0.heap.objs.size := by
      obtain ⟨_, hns, _⟩ := J0.nolimit
      exact hns.lt
    refine wpAny_builtinsFor (m := X.mg) (by rw [J0.ok.glob]; exact ((J0.mod.glob.keeps J0.bk).keeps old1).extBut hx TB.gP) e1 e2 (keep3 _ _ e4 (J0.bk _ _ e5)) e6 e7 e8 ?_
    refine ⟨J, fp, wr, n, Pt, Z, Mid, fun _ => true, F, rfl, wk, two, ?_, ?_, lim.extBut hx stP, ?_, ?_, ?_⟩
    · exact (wk X.A hr.hd).frame _ _ _ z0 fun b hb u e => hx b u (hfp b hb).2 e
    · intro b hb
      exact Nat.lt_of_lt_of_le (show b < h1.objs.size from (hfp b hb).1) hsz
    · intro z
      exact Nat.lt_irrefl _ (Nat.lt_of_lt_of_le stL (hwr _ z))
    · intro hq keepq
      refine ⟨fun B E2 i va vb s2 m2 hB hv hn hma hmb hk => ?_, fun B E2 i va vb s2 m2 hB hv _ hn hma hmb hk => ?_⟩
      · simp only [List.forIn_nil]
        exact wpAny_pure ⟨rfl, GxR.keeps_refl _⟩
      · refine hel _ B E2 i va vb s2 m2 ⟨rfl, rfl, rfl, rfl, hB, hn, fun b u hb e => ?_⟩ hv hma hmb
        have lb := Heap.lt_size e
        refine hk b (List.mem_range.mpr (Nat.lt_of_lt_of_le (Heap.lt_size (old1 b u e)) hsz)) (fun z => ?_) u (keepq b u (keep3 b u hb e))
        exact Nat.lt_irrefl _ (Nat.lt_of_lt_of_le lb (hwr b z))
    · intro g h5 tk5 gs hgb hag hsz5 hk5 W5 gat
      simp only [GxR.passing_true, List.length_range] at W5
      refine fin g _ ⟨_, _, _, _, _, W5, fun j v hv => ?_, gat, fun b hb => ?_, List.mem_cons_self, fun i s9 h9 => h9.1.typeIs, fun s' hm => ?_⟩
      · obtain ⟨i, hij, e⟩ := hv
        obtain ⟨_, ej⟩ := List.getElem?_eq_some_iff.mp hij
        rw [List.getElem_range] at ej
        subst ej
        exact e
      · show b < h5.objs.size
        have v8 : h3.objs.size < g := hag
        have v9 : h5.objs.size = g + 1 := hsz5
        have u1 : g < h5.objs.size := by
          rw [v9]
          exact Nat.lt_succ_self g
        have u2 : h3.objs.size < h5.objs.size := Nat.lt_trans v8 u1
        rcases List.mem_cons.mp hb with z | z
        · rw [z]
          exact u1
        · rcases List.mem_cons.mp z with z | z
          · rw [z]
            exact u2
          · exact Nat.lt_trans (show b < h3.objs.size from List.mem_range.mp z) u2
      · have old : ∀ b u, s0.heap.get? b = some u → b ∉ h3.objs.size :: wr := fun b u e hb => by
          have lb := Heap.lt_size e
          rcases List.mem_cons.mp hb with z | z
          · exact Nat.ne_of_lt (Nat.lt_of_lt_of_le (Heap.lt_size (old1 b u e)) hsz) z
          · exact Nat.lt_irrefl _ (Nat.lt_of_lt_of_le lb (hwr b z))
        have R := GxR.inv_tab (more := more) (h' := s'.heap) (g' := s'.gens) (d' := s'.drawn) (t' := s'.toks) J0 hP (fun b u hb e => hm.heap b u (old b u e) (hk5 b u (keep3 b u hb e)))
          (hm.heap P _ (old P _ hPs) (hk5 P _ hP3)) (AllBare.movedS (J0.bare.push hgb) hm)
        rw [GxR.sh_eta s0 s' hm.os] at R
        exact ⟨_, ⟨⟨ps ++ more, upd_same, trip3⟩, fun b hb => upd_ne hb⟩, R⟩
  refine ⟨lim, ?_⟩
  cases hf : codeAmong gpos ps.toList with
  | none =>
    refine wpAny_genexprCodeX hcode (cd.code hP2 trip) (cd.tab hP2) hf fun c' h' tk hx hge hlt hco' _ htab' _ => ?_
    obtain ⟨o1, vs, f1, tf, fl, tg, inF, tx, tt, op, _, _, _, _, _, _, _, _, _, htr, _⟩ := hco'
    exact go2 _ h' tk _ hx (Nat.le_trans hge (Nat.le_of_lt hlt)) htab'.2 htr
  | some cv =>
    refine wpAny_genexprCode_hit hcode (cd.code hP2 trip) hf ?_
    exact go2 cv h1 t1 #[] (Heap.ExtBut.refl _ _) (Nat.le_refl _) (by rw [Array.append_empty]; exact hP2) (by rw [Array.append_empty]; exact trip)
structure PElt2 (X : Cx) (P : Addr) (scope : Scope) (xa xb : Str) (elt : Expr) (te : V → V → V → Prop) : Prop where
  run : ∀ (pins : List (Addr × Obj)) (s0 : Shared) (σ : L2.St) (H : Hp), Inv X pins σ H s0 → GxR.TabG H P → ∀ (cenv : Env) (B : Around) (E2 : Value → Shared → Prop) (s2 : Shared) (m2 : Str → Option Value) (v1 v2 y : V) (u1 u2 : Value),
    InGen X P scope s0 cenv B s2 m2 → RelV v1 u1 → RelV v2 u2 → te v1 v2 y → m2 xa = some u1 → m2 xb = some u2 → wpAny (model X.prog X.w) B (eval elt cenv) (fun z s3 => RelV y z ∧ Keeps s2 s3) E2 s2
def tTupZ (P : Addr) (ta : TA) (te : V → V → V → Prop) : TE := fun σ H Q => ta σ H fun vs H1 => ∃ (a b : Addr) (xs ys : List V), vs = [.ref a, .ref b] ∧ H1 a = some (.tup xs) ∧ H1 b = some (.tup ys) ∧ xs.length = ys.length ∧ GxR.TabG H1 P ∧
  ∃ zs : List V, zs.length = xs.length ∧ (∀ (i : Nat) (x y : V), xs[i]? = some x → ys[i]? = some y → ∃ z, zs[i]? = some z ∧ te x y z) ∧ ∀ H2 p, GxR.Tabbed P H1 H2 → H2 p = none → Q (.ref p) (upd H2 p (.tup zs))
/-- tuple(element for xa, xb in zip(e, e2)), two tuples of one length -/
theorem pe_tupZ {X : Cx} {c P : Addr} {elt e e2 : Expr} {xa xb : Str} {pa pb pt p p2 pos gpos zpos : Pos} {kt : Nat} {scope : Scope} {ta : TA} {te : V → V → V → Prop} {k : Nat}
    (hr : Room k X.A) (hg : Gl X "tuple") (hm : X.mg "tuple" = none) (hb : bootBuiltins "tuple" = some (.type "tuple")) (hgz : Gl X "zip") (hmz : X.mg "zip" = none) (TB : GxR.TabB X.base X.mg c P) (hcode : X.env.code = .ref c) (S : GenS2 X.env scope xa xb)
    (ha : PA X [e, e2] ta) (hel : PElt2 X P scope xa xb elt te) (hs : ∀ v, genFold (.Call (.Name "zip" p2) [e, e2] [] zpos) X.env v = pure v)
    (he : starEach [.GeneratorExp elt [⟨.Tuple [.Name xa pa, .Name xb pb] kt pt, .Call (.Name "zip" p2) [e, e2] [] zpos, [], 0⟩] scope gpos] X.env = (false, eval (.GeneratorExp elt [⟨.Tuple [.Name xa pa, .Name xb pb] kt pt, .Call (.Name "zip" p2) [e, e2] [] zpos, [], 0⟩] scope gpos) X.env) :: starEach [] X.env := by rfl)
    (hz1 : starEach [e, e2] X.env = (false, eval e X.env) :: starEach [e2] X.env := by rfl) (hz2 : (backTo zpos (starEach [e2] X.env)).any (·.1) = false := by rfl) :
    PE X (.Call (.Name "tuple" p) [.GeneratorExp elt [⟨.Tuple [.Name xa pa, .Name xb pb] kt pt, .Call (.Name "zip" p2) [e, e2] [] zpos, [], 0⟩] scope gpos] [] pos) (tTupZ P ta te) := by
  refine ⟨fun pins s σ H Q I h => ?_⟩
  refine wpAny_Call_Name_kw (ld_blt I hg hm hb ?_)
  refine PyProof.Rows.callWith_type1 ?_ he (by rfl)
  rw [he]
  show wpAny _ _ (spliced ((false, eval (.GeneratorExp elt [⟨.Tuple [.Name xa pa, .Name xb pb] kt pt, .Call (.Name "zip" p2) [e, e2] [] zpos, [], 0⟩] scope gpos) X.env) :: backTo pos (starEach [] X.env))) _ _ s
  refine Calls.spliced_cons (gen_two (pins := pins) (σ := σ) hr TB hcode S hs ?_)
  refine Call_ (ld_blt I hgz hmz PyProof.Rows.boot_zip (PyProof.Rows.callWith_type1 (thn (ha.run zpos pins s σ H _ I h) fun us s0 ⟨vs, H1, J, r1, q1⟩ => ?_) hz1 hz2))
  obtain ⟨a, b, xs, ys, rfl, hxa, hyb, hxy, tg, zs, lz, hzs, q⟩ := q1
  cases r1 with
  | cons r rr =>
    cases rr with
    | cons r' rr =>
      cases rr
      cases r
      cases r'
      obtain ⟨ix, rx, px, hz⟩ := J.tuple (show SqT X.K H1 a xs from .inl (.inl hxa))
      obtain ⟨iy, ry, py, _⟩ := J.tuple (show SqT X.K H1 b ys from .inl (.inl hyb))
      obtain ⟨ps, hP, trip⟩ := tg
      have naP : a ≠ P := ne_of hxa hP (fun z => by cases z)
      have nbP : b ≠ P := ne_of hyb hP (fun z => by cases z)
      have lta : a < s0.heap.objs.size := by
        obtain ⟨o, ho, _⟩ := px
        exact Heap.lt_size ho
      have ltb : b < s0.heap.objs.size := by
        obtain ⟨o, ho, _⟩ := py
        exact Heap.lt_size ho
      have ltP : P < s0.heap.objs.size := Heap.lt_size (J.hok P _ hP)
      have hnx := rx.length
      have hny := ry.length
      refine RZ.call_zipT (show s0.heap.IsTuple a ix.toArray from px) (show s0.heap.IsTuple b iy.toArray from py) fun h1 isz hTI hTO i1 i2 sz5 keep => ?_
      refine ⟨s0, H1, ps, xs.length, fun i vals => ∃ x1 x2, ix.toArray[i]? = some x1 ∧ iy.toArray[i]? = some x2 ∧ vals = #[x1, x2], fun i u => ∃ z, zs[i]? = some z ∧ RelV z u, J, hP, trip, ⟨⟨h1, s0.toks, rfl⟩, keep, ?_, ?_⟩, ?_, fun g s5 at5 => ?_⟩
      · have en : min ix.toArray.size iy.toArray.size = xs.length := by
          rw [List.size_toArray, List.size_toArray]
          omega
        have WW := fun (B : Around) (hB : B.handled = none) => (WalksT.zipD2 (prog := X.prog) (w := X.w) (A := B) (zip_sep2 (N := s0.heap.objs.size) (fp1 := [a]) (fp2 := [b]) (fun c hc => by rw [List.mem_singleton.mp hc]; exact lta) (fun c hc => by rw [List.mem_singleton.mp hc]; exact ltb))
          (Draws.tuple (A := B.in1) hB s0.heap.objs.size a (Nat.ne_of_lt lta) ix.toArray) (Draws.tuple (A := B.in1) hB (s0.heap.objs.size + 1) b (Nat.ne_of_lt (Nat.lt_succ_of_lt ltb)) iy.toArray)).toU
        simp only [en] at WW
        refine ⟨s0.heap.objs.size + 4, _, _, _, _, rfl, fun Q hQ => wpAny_pyIter_zip isz hQ, WW, ⟨isz, hTI, ⟨_, _, hTO⟩, ⟨i1, (show s0.heap.IsTuple a ix.toArray from px).at fun o e => keep _ o e⟩, ⟨i2, (show s0.heap.IsTuple b iy.toArray from py).at fun o e => keep _ o e⟩⟩, fun d hd => ?_, fun d hd => ?_⟩
        · show d < h1.objs.size ∧ d ≠ P
          rw [sz5]
          have up : ∀ j : Nat, j < 5 → (s0.heap.objs.size + j : Nat) < s0.heap.objs.size + 5 ∧ (s0.heap.objs.size + j : Nat) ≠ P := fun j hj => ⟨by omega, Nat.ne_of_gt (Nat.lt_of_lt_of_le ltP (Nat.le_add_right _ _))⟩
          have hd' : d = s0.heap.objs.size + 4 ∨ d = s0.heap.objs.size + 2 ∨ d = s0.heap.objs.size + 3 ∨ d = s0.heap.objs.size ∨ d = a ∨ d = s0.heap.objs.size + 1 ∨ d = b := by simpa using hd
          rcases hd' with z | z | z | z | z | z | z
          · rw [z]; exact up 4 (by decide)
          · rw [z]; exact up 2 (by decide)
          · rw [z]; exact up 3 (by decide)
          · rw [z]; exact up 0 (by decide)
          · rw [z]; exact ⟨Nat.lt_of_lt_of_le lta (Nat.le_add_right _ _), naP⟩
          · rw [z]; exact up 1 (by decide)
          · rw [z]; exact ⟨Nat.lt_of_lt_of_le ltb (Nat.le_add_right _ _), nbP⟩
        · have hd' : d = s0.heap.objs.size + 4 ∨ d = s0.heap.objs.size + 3 ∨ d = s0.heap.objs.size ∨ d = s0.heap.objs.size + 1 := by simpa using hd
          rcases hd' with z | z | z | z
          · rw [z]; exact Nat.le_add_right _ _
          · rw [z]; exact Nat.le_add_right _ _
          · rw [z]; exact Nat.le_refl _
          · rw [z]; exact Nat.le_add_right _ _
      · rintro i vals ⟨x1, x2, _, _, rfl⟩
        exact ⟨x1, x2, rfl⟩
      · intro cenv B E2 i va vb s2 m2 ig hv hma hmb
        obtain ⟨x1, x2, e1, e2', ev⟩ := hv
        have ev1 : va = x1 ∧ vb = x2 := by simpa using ev
        obtain ⟨rfl, rfl⟩ := ev1
        have hi : i < xs.length := by
          have := (Array.getElem?_eq_some_iff.mp e1).1
          rw [List.size_toArray] at this
          omega
        have gx : xs[i]? = some xs[i] := List.getElem?_eq_getElem hi
        have gy : ys[i]? = some (ys[i]'(by omega)) := List.getElem?_eq_getElem (by omega)
        obtain ⟨w1, ew1, rw1⟩ := rx.get gx
        obtain ⟨w2, ew2, rw2⟩ := ry.get gy
        have f1 : va = w1 := by
          have z : ix[i]? = some va := by simpa using e1
          rw [z] at ew1
          exact Option.some.inj ew1
        have f2 : vb = w2 := by
          have z : iy[i]? = some vb := by simpa using e2'
          rw [z] at ew2
          exact Option.some.inj ew2
        subst f1 f2
        obtain ⟨z, ez, tz⟩ := hzs i _ _ gx gy
        exact wpAny_mono (hel.run pins s0 σ H1 J ⟨ps, hP, trip⟩ cenv B E2 s2 m2 _ _ z va vb ig rw1 rw2 tz hma hmb) (fun y s3 rr => ⟨⟨z, ez, rr.1⟩, rr.2⟩) fun _ _ e => e
      · refine Calls.spliced_nil ?_
        obtain ⟨fp, wr, G, F', Z, W5, im, z0, hfp, hgf, hT, hinv⟩ := at5
        refine PySem.call_tuple_gen (n := xs.length) W5.in4_3 hT z0 hfp hgf (fun s' acc mv it => ?_) hz
        obtain ⟨H2, tb, J2⟩ := hinv s' mv
        have vs : Vals zs acc.toList := vals_of zs acc.toList (by rw [Array.length_toList, it.1, lz]) fun j u hj => im j u (it.2 j u (by simpa using hj))
        refine ⟨.ref s'.heap.objs.size, _, J2.laid (t' := s'.toks) (o := .tup zs) (fun b ob e => Heap.get?_push_of_some _ e) (Nat.le_refl _) ⟨by omega, acc.toList, vs, ?_⟩, rfl, q H2 _ tb (J2.hok.fresh (Nat.le_refl _))⟩
        have ea : acc.toList.toArray = acc := by simp
        rw [ea]
        exact IsTup.new _ _
/-- a tuple at hand -/
theorem src_tup {X : Cx} {P : Addr} {e : Expr} {te : TE} (he : PE X e te) :
    PSrc X P e (fun σ H R => te σ H fun v H1 => ∃ (a : Addr) (xs : List V), v = .ref a ∧ H1 a = some (.tup xs) ∧ R xs H1) := by
  refine ⟨fun pins s σ H R I h => ?_⟩
  refine wpAny_mono (he.run pins s σ H _ I h) (fun u s1 z => ?_) fun _ _ e => e
  obtain ⟨v, H1, J, r1, a, xs, rfl, ha, tg, q⟩ := z
  obtain rfl : u = Value.ref a := r1
  obtain ⟨ps, hP, trip⟩ := tg
  have naP : a ≠ P := ne_of ha hP (fun z => by cases z)
  obtain ⟨its, rv, it, hz⟩ := J.tuple (show SqT X.K H1 a xs from .inl (.inl ha))
  have hl := rv.length
  have lta : a < s1.heap.objs.size := by
    obtain ⟨o, ho, _⟩ := id it
    exact Heap.lt_size ho
  refine ⟨H1, xs, J, ⟨ps, hP, trip⟩, q, ?_⟩
  refine ⟨{ cls := .type "tuple_iterator", data := .fields #[.ref a, .int 0 0] }, [a], fun i h => h.IsTupleIter s1.heap.objs.size a i ∧ h.IsTuple a its.toArray, fun Q hQ => wpAny_pyIter_tuple (show s1.heap.IsTuple a its.toArray from it) hQ, fun b hb => ?_, fun B hB => ?_, ?_⟩
  · rw [List.mem_singleton.mp hb]
    exact ⟨lta, naP⟩
  · have W0 := Walks.tuple (prog := X.prog) (w := X.w) (A := B) hB s1.heap.objs.size a (Nat.ne_of_lt lta) its.toArray
    have en : its.toArray.size = xs.length := by rw [List.size_toArray, ← hl]
    rw [en] at W0
    exact W0.mono_item fun i v hi hv => by
      have gx : xs[i]? = some xs[i] := List.getElem?_eq_getElem hi
      obtain ⟨w1, ew, rw1⟩ := rv.get gx
      have z : its[i]? = some v := by simpa using hv
      rw [z] at ew
      cases ew
      exact ⟨_, gx, rw1⟩
  · exact ⟨⟨_, Heap.get?_push_size _ rfl, rfl, rfl⟩, (show s1.heap.IsTuple a its.toArray from it).at fun o e => Heap.get?_push_of_some _ e⟩
/-- 1 - bit -/
theorem elt_turn {X : Cx} {P : Addr} {scope : Scope} {xa : Str} {k1 : Nat} {p1 p2 p3 : Pos} (hk : scope.kind = .function) (l1 : scope.names.lookup xa = some .local) (n5 : (xa == ("__debug__" : Str)) = false := by decide) :
    PElt X P scope xa (.BinOp (.Constant (.int 1) k1 p1) .Sub (.Name xa p2) p3) (fun _ _ v y => ∃ t : Int, v = .int t ∧ y = .int (1 - t)) := by
  refine ⟨fun pins s1 σ H I tg cenv B E2 s2 m2 v y u g rv te hm2 => ?_⟩
  obtain ⟨t, rfl, rfl⟩ := te
  obtain ⟨tk, rfl⟩ := (show ∃ tk, u = Value.int t tk from rv)
  refine wpAny_BinOp (wpAny_Constant_int (ig_local g hk l1 hm2 (GxR.keeps_tok s2 _) ?_ n5))
  refine sub_int ?_
  exact ⟨⟨_, rfl⟩, GxR.keeps_tok s2 _⟩
/-! generator expressions whose target has three names -/
abbrev gx3 (elt it : Expr) (x1 x2 x3 : Str) (p1 p2 p3 pt : Pos) (kt : Nat) (sc : Scope) (pos : Pos) : Expr := .GeneratorExp elt [⟨.Tuple [.Name x1 p1, .Name x2 p2, .Name x3 p3] kt pt, it, [], 0⟩] sc pos
section
variable {prog : Program} {w : World} {A : Around}
/-- what the element tells of the three names -/
def Elt3 (prog : Program) (w : World) (ce : Env) (x1 x2 x3 : Str) (elt : Expr) (fp wr : List Addr) (Pt : Nat → Array Value → Prop) (F : Nat → Value → Prop) (h0 : Heap) : Prop :=
  ∀ (B : Around) (E2 : Value → Shared → Prop) (i : Nat) (a b c : Value) (t : Shared) (mm : Str → Option Value), B.handled = none → Pt i #[a, b, c] → t.heap.Ns ce.locals mm → mm x1 = some a → mm x2 = some b → mm x3 = some c →
    (∀ q ∈ fp, q ∉ wr → ∀ o, h0.get? q = some o → t.heap.get? q = some o) → wpAny (model prog w) B (eval elt ce) (fun y t' => F i y ∧ Keeps t t') E2 t
theorem pass_len (n i : Nat) (h : i < n) : passing (fun _ => true) n i = i :: passing (fun _ => true) n (i + 1) := passing_true h rfl
theorem g3_loop {elt it : Expr} {x1 x2 x3 : Str} {p1 p2 p3 pt : Pos} {kt : Nat} {sc : Scope} {pos : Pos} {J : Addr} {fp wr : List Addr} {n : Nat} {Pt : Nat → Array Value → Prop} {Z : Nat → Heap → Prop} {Mid : Nat → Addr → Heap → Prop} {ce : Env}
    (ha : A.handled = none) (WK : ∀ B : Around, B.handled = none → WalksU prog w B J fp wr n Pt Z Mid) (h3 : ∀ i vs, Pt i vs → ∃ a b c, vs = #[a, b, c]) (d12 : x1 ≠ x2) (d13 : x1 ≠ x3) (d23 : x2 ≠ x3) (F : Nat → Value → Prop) (h0 : Heap)
    (k1 : ce.kindOf x1 = some .local) (k2 : ce.kindOf x2 = some .local) (k3 : ce.kindOf x3 = some .local) (hp : (ce.scope.kind == .class || (ce.scope.kind == .module && ce.locals != ce.globals)) = false)
    (hco : ce.scope.isCoroutine = false) (hC : ce.locals ∉ fp) (hq : Elt3 prog w ce x1 x2 x3 elt fp wr Pt F h0) :
    ∀ (k i : Nat) (sa s : Shared) (m : Str → Option Value), n - i = k → i ≤ n → Z i s.heap → s.heap.Ns ce.locals m → GenSince ce.locals wr sa s → (∀ b ∈ fp, b ∉ wr → ∀ o, h0.get? b = some o → s.heap.get? b = some o) →
      Seg (model prog w) A (fun j u r v => r = .ok .next ∧ (j = 0 ∧ GenSince ce.locals wr u v)) (genProto ce.locals fp wr (fun _ => true) n F) (passing (fun _ => true) n i).length sa
        (.compLoop (gx3 elt it x1 x2 x3 p1 p2 p3 pt kt sc pos) 0 (.ref J) .none ce) ((model prog w).den (.compLoop (gx3 elt it x1 x2 x3 p1 p2 p3 pt kt sc pos) 0 (.ref J) .none ce)) [] s := by
  have ha' : (A.over (.compLoop (gx3 elt it x1 x2 x3 p1 p2 p3 pt kt sc pos) 0 (.ref J) .none ce) []).handled = none := ha
  have hW : ce.locals ∉ wr := fun z => hC ((WK A ha).sub _ z)
  intro k
  induction k with
  | zero =>
    intro i sa s m ek hi st hn since kp
    obtain rfl : i = n := by omega
    show Seg _ A _ _ _ sa _ ((compTurn (gx3 elt it x1 x2 x3 p1 p2 p3 pt kt sc pos) 0 (.ref J) .none ce).onRaise (leaving ce)) [] s
    rw [compTurn_gen, Sem.onRaise_eq_wrap]
    refine seg_bind_wrap (wpAny_standAt (seg_bind_wrap ((WK _ ha').done s _ _ st fun h' tk kk => ?_)))
    exact seg_end (.ok .next) ⟨rfl, by rw [passing_end]; rfl, since.step fun b o _ bw e => kk b o bw e⟩
  | succ k ih =>
    intro i sa s m ek hi st hn since kp
    have lt : i < n := by omega
    show Seg _ A _ _ _ sa _ ((compTurn (gx3 elt it x1 x2 x3 p1 p2 p3 pt kt sc pos) 0 (.ref J) .none ce).onRaise (leaving ce)) [] s
    rw [compTurn_gen, Sem.onRaise_eq_wrap]
    refine seg_bind_wrap (wpAny_standAt (seg_bind_wrap ((WK _ ha').item i s _ _ lt st fun T vs g1 tk1 hPv hT mid kk1 => ?_)))
    obtain ⟨a, b, c, rfl⟩ := h3 i vs hPv
    refine seg_bind_wrap ((WK _ ha').go _ _ _ i T _ _ _ mid fun g2 st2 kk2 => ?_)
    have hT2 : g2.IsTuple T #[a, b, c] := by
      obtain ⟨o, e, r⟩ := hT
      exact ⟨o, kk2 _ o ((WK _ ha').apart i T _ mid) e, r⟩
    refine seg_bind_wrap (wpAny_assign_Tuple ha' hT2 rfl rfl fun g3 hx => ?_)
    replace hx : Heap.ExtBut g2.objs.size g2 g3 := hx
    have up3 : ∀ q o, g2.get? q = some o → g3.get? q = some o := fun q o e => hx q o (Nat.ne_of_lt (Heap.lt_size e)) e
    show wpAny _ _ (do holding [b, c] (assign (.Name x1 p1) ce a); do holding [c] (assign (.Name x2 p2) ce b); do holding [] (assign (.Name x3 p3) ce c); pure ()) _ _ _
    refine wpAny_bind (wpAny_holding (wpAny_assign_Name (wpAny_storeName_local k1 (hn.at' fun o e => up3 _ o (kk2 _ o hW (kk1 _ o hW e))) (fun g4 hn4 sb4 => ?_) hp)))
    replace sb4 : Heap.SameBut ce.locals g3 g4 := sb4
    refine wpAny_bind (wpAny_holding (wpAny_assign_Name (wpAny_storeName_local k2 hn4 (fun g5 hn5 sb5 => ?_) hp)))
    replace sb5 : Heap.SameBut ce.locals g4 g5 := sb5
    refine wpAny_bind (wpAny_holding (wpAny_assign_Name (wpAny_storeName_local k3 hn5 (fun g6 hn6 sb6 => wpAny_pure ?_) hp)))
    replace sb6 : Heap.SameBut ce.locals g5 g6 := sb6
    have up36 : ∀ q o, q ≠ ce.locals → g3.get? q = some o → g6.get? q = some o := fun q o nq e => sb6.extBut q o nq (sb5.extBut q o nq (sb4.extBut q o nq e))
    have up6 : ∀ q o, q ≠ ce.locals → q ∉ wr → s.heap.get? q = some o → g6.get? q = some o := fun q o nq nw e => up36 q o nq (up3 q o (kk2 q o nw (kk1 q o nw e)))
    have st6 : Z (i + 1) g6 := (WK A ha).frame _ _ _ st2 fun q hq' o e => up36 q o (fun z => hC (z ▸ hq')) (up3 q o e)
    have kp6 : ∀ q ∈ fp, q ∉ wr → ∀ o, h0.get? q = some o → g6.get? q = some o := fun q hq' nw o e => up6 q o (fun z => hC (z ▸ hq')) nw (kp q hq' nw o e)
    simp only [List.forIn_nil]
    refine seg_bind_wrap (wpAny_pure ?_)
    rw [pass_len n i lt, List.length_cons]
    simp only [if_true]
    have hy : ∀ v, yieldOut ce v = yieldValue v := fun v => by simp only [yieldOut, hco, Bool.false_eq_true, if_false]
    simp only [hy]
    rw [Sem.bind_eq_wrap', Sem.bind_eq_wrap', Sem.wrap_wrap, Sem.wrap_wrap]
    refine seg_wrap (wpAny_mono (hq _ _ i a b c _ _ ha' hPv hn6 (by simp [d12, d13]) (by simp [d23]) (by simp) kp6) (fun y s7 z7 => ?_) fun _ _ e => e)
    obtain ⟨fy, g7, tk7, rfl, kk7⟩ := z7
    refine seg_at (seg_yield rfl rfl rfl ⟨⟨i, passing_here lt rfl, fy⟩, since.step fun q o nq nw e => kk7 q o (up6 q o nq nw e), fun s8 al => ?_⟩)
    exact seg_again rfl (ih (i + 1) s8 s8 _ (by omega) lt ((WK A ha).frame _ _ _ st6 fun q hq' o e => al q (List.mem_cons_of_mem _ hq') o (kk7 q o e)) ((hn6.keeps kk7).at' fun o e => al _ (List.mem_cons_self ..) o e) (GenSince.refl _ _ _) fun q hq' nw o e => al q (List.mem_cons_of_mem _ hq') o (kk7 q o (kp6 q hq' nw o e)))
theorem g3_start {elt it : Expr} {x1 x2 x3 : Str} {p1 p2 p3 pt : Pos} {kt : Nat} {sc : Scope} {pos : Pos} {J : Addr} {fp wr : List Addr} {n : Nat} {Pt : Nat → Array Value → Prop} {Z : Nat → Heap → Prop} {Mid : Nat → Addr → Heap → Prop} {ce : Env}
    (ha : A.handled = none) (WK : ∀ B : Around, B.handled = none → WalksU prog w B J fp wr n Pt Z Mid) (h3 : ∀ i vs, Pt i vs → ∃ a b c, vs = #[a, b, c]) (d12 : x1 ≠ x2) (d13 : x1 ≠ x3) (d23 : x2 ≠ x3) (F : Nat → Value → Prop) (h0 : Heap)
    (k1 : ce.kindOf x1 = some .local) (k2 : ce.kindOf x2 = some .local) (k3 : ce.kindOf x3 = some .local) (hp : (ce.scope.kind == .class || (ce.scope.kind == .module && ce.locals != ce.globals)) = false)
    (hco : ce.scope.isCoroutine = false) (hC : ce.locals ∉ fp) (hq : Elt3 prog w ce x1 x2 x3 elt fp wr Pt F h0)
    (sa s : Shared) (m : Str → Option Value) (st : Z 0 s.heap) (hn : s.heap.Ns ce.locals m) (since : GenSince ce.locals wr sa s) (kp : ∀ b ∈ fp, b ∉ wr → ∀ o, h0.get? b = some o → s.heap.get? b = some o) :
    Seg (model prog w) A (fun j u r v => r = .ok .next ∧ (j = 0 ∧ GenSince ce.locals wr u v)) (genProto ce.locals fp wr (fun _ => true) n F) (passing (fun _ => true) n 0).length sa
      (.compStart (gx3 elt it x1 x2 x3 p1 p2 p3 pt kt sc pos) 0 (.ref J) .none ce) ((model prog w).den (.compStart (gx3 elt it x1 x2 x3 p1 p2 p3 pt kt sc pos) 0 (.ref J) .none ce)) [] s := by
  have ha' : (A.over (.compStart (gx3 elt it x1 x2 x3 p1 p2 p3 pt kt sc pos) 0 (.ref J) .none ce) []).handled = none := ha
  have lp := g3_loop (it := it) (p1 := p1) (p2 := p2) (p3 := p3) (pt := pt) (kt := kt) (sc := sc) (pos := pos) ha WK h3 d12 d13 d23 F h0 k1 k2 k3 hp hco hC hq n 0 sa s m (Nat.sub_zero _) (Nat.zero_le _) st hn since kp
  show Seg _ A _ _ _ sa _ ((compStart (gx3 elt it x1 x2 x3 p1 p2 p3 pt kt sc pos) 0 (.ref J) .none ce).onRaise (leaving ce)) [] s
  unfold compStart
  rw [Sem.onRaise_eq_wrap]
  show Seg _ A _ _ _ sa _ ((ask >>= _).wrap _ _ _ _) [] s
  refine seg_bind_wrap (wpAny_askSetting ?_)
  split
  · exact seg_again rfl lp
  · first
      | exact seg_bind_wrap (wpAny_rule (seg_bind_wrap (wpAny_standAt (seg_bind_wrap ((WK _ ha').self 0 s _ _ st (seg_again rfl lp))))))
      | (refine seg_bind_wrap (wpAny_rule ?_); show Seg _ A _ _ _ sa _ ((standAt it.pos >>= _).wrap _ _ _ _) [] s; exact seg_bind_wrap (wpAny_standAt (seg_bind_wrap ((WK _ ha').self 0 s _ _ st (seg_again rfl lp)))))
end
section
variable {prog : Program} {w : World} {A : Around} {E : Value → Shared → Prop} {s : Shared}
theorem g3_make {env : Env} {elt it : Expr} {x1 x2 x3 : Str} {p1 p2 p3 pt : Pos} {kt : Nat} {sc : Scope} {cl : List (Str × Addr)} {pos : Pos} {Q : Value → Shared → Prop}
    (ha : A.handled = none) (hco : sc.isCoroutine = false) (hcl : closureFor sc env = pure cl) (hce : ∀ y ∈ sc.names, y.2 ≠ .cell) (hdot : sc.names.lookup (".0" : Str) = some NameKind.local)
    (l1 : sc.names.lookup x1 = some .local) (l2 : sc.names.lookup x2 = some .local) (l3 : sc.names.lookup x3 = some .local) (d12 : x1 ≠ x2) (d13 : x1 ≠ x3) (d23 : x2 ≠ x3) (hk : sc.kind = .function) (deep : A.depth < recursionLimit)
    (h : wpAny (model prog w) A (eval it env) (fun xv sb => wpAny (model prog w) A (pyIter xv) (fun iv sc2 => sc2.heap.NoLimit ∧
      wpAny (model prog w) A (genexprCode env pos (env.qual ++ "<genexpr>") sc) (fun code sd => wpAny (model prog w) A (builtinsFor env.globals env.builtins) (fun bi se =>
        ∃ J fp wr n Pt Z Mid F, iv = .ref J ∧ (∀ B : Around, B.handled = none → WalksU prog w B J fp wr n Pt Z Mid) ∧ (∀ i vs, Pt i vs → ∃ a b c, vs = #[a, b, c]) ∧ Z 0 se.heap ∧ (∀ b ∈ fp, b < se.heap.objs.size) ∧ se.heap.NoLimit ∧ cStatics ∉ wr ∧
          (∀ h0 : Heap, (∀ b o, se.heap.get? b = some o → h0.get? b = some o) → Elt3 prog w (genEnv sc cl se.heap.objs.size code bi env) x1 x2 x3 elt (List.range se.heap.objs.size) wr Pt F h0) ∧
          (∀ g hh tk gs, gs.bare = true → se.heap.objs.size < g → hh.objs.size = g + 1 → (∀ b o, se.heap.get? b = some o → hh.get? b = some o) →
            WalksS prog w A.in4 g (g :: se.heap.objs.size :: List.range se.heap.objs.size) (se.heap.objs.size :: wr) (GenOnlyQ se.gens.size) (passing (fun _ => true) n 0).length
              (fun j y => ∃ i, (passing (fun _ => true) n 0)[j]? = some i ∧ F i y) (GenAt prog w A.in4 g se.gens.size se.heap.objs.size (List.range se.heap.objs.size) wr (fun _ => true) n F) →
            GenAt prog w A.in4 g se.gens.size se.heap.objs.size (List.range se.heap.objs.size) wr (fun _ => true) n F 0 { se with gens := se.gens.push gs, toks := tk, heap := hh } →
            Q (.ref g) { se with gens := se.gens.push gs, toks := tk, heap := hh })) E sd) E sc2) E sb) E s)
    (hs : ∀ x, genFold it env x = pure x) : wpAny (model prog w) A (eval (gx3 elt it x1 x2 x3 p1 p2 p3 pt kt sc pos) env) Q E s := by
  refine wpAny_GeneratorExp_make hco hcl hce hdot hk deep (wpAny_mono h (fun xv sb zb => wpAny_mono zb (fun iv sc2 zc => ⟨zc.1, wpAny_mono zc.2 (fun code sd zd => wpAny_mono zd (fun bi se ze => ?_) fun _ _ e => e) fun _ _ e => e⟩) fun _ _ e => e) fun _ _ e => e) hs
  obtain ⟨J, fp, wr, n, Pt, Z, Mid, F, rfl, WK, h3, st, hfp, nl, cw, hq, fin⟩ := ze
  have lts : cStatics < se.heap.objs.size := by
    obtain ⟨_, z, _⟩ := nl
    exact z.lt
  intro h1 hn1 sb1
  have sz : h1.objs.size = se.heap.objs.size + 1 := by rw [sb1.1, Heap.size_push]
  have kp1 : ∀ b o, se.heap.get? b = some o → h1.get? b = some o := fun b o e => sb1.extBut b o (Nat.ne_of_lt (Heap.lt_size e)) (Heap.get?_push_of_some _ e)
  have sub : ∀ b ∈ wr, b ∈ List.range se.heap.objs.size := fun b hb => List.mem_range.mpr (hfp b ((WK A ha).sub b hb))
  have ne1 : h1.objs.size ≠ se.heap.objs.size := by rw [sz]; exact Nat.succ_ne_self _
  have ni1 : h1.objs.size ∉ List.range se.heap.objs.size := fun hm => by have := List.mem_range.mp hm; omega
  have kp2 : ∀ b o, se.heap.get? b = some o → (h1.push { cls := .type "generator", data := .fields #[.int se.gens.size 0, .str "<genexpr>" (se.toks + 1), .str (env.qual ++ "<genexpr>") (se.toks + 1 + 1)] }).get? b = some o := fun b o e => Heap.get?_push_of_some _ (kp1 b o e)
  refine fin _ _ _ _ rfl (by omega) (by rw [Heap.size_push]) kp2 (WalksS.genexpQ (A := A.in4) ha _ _ _ _ wr (fun _ => true) n F ne1 ni1 sub deep (List.mem_range.mpr lts) (Nat.ne_of_lt lts) cw) ?_
  have WK2 : ∀ B : Around, B.handled = none → WalksU prog w B J (List.range se.heap.objs.size) wr n Pt Z Mid := fun B hB => (WK B hB).mono_fp fun b hb => List.mem_range.mpr (hfp b hb)
  have hn2 := hn1.push { cls := .type "generator", data := .fields #[.int se.gens.size 0, .str "<genexpr>" (se.toks + 1), .str (env.qual ++ "<genexpr>") (se.toks + 1 + 1)] }
  refine ⟨⟨_, _, _, Heap.get?_push_size _ rfl, rfl, rfl, rfl⟩, nl.keeps kp2, _, Array.getElem?_push_size .., fun s9 al => ⟨rfl, ?_⟩⟩
  exact g3_start (A := A.in4.in1) (ce := genEnv sc cl se.heap.objs.size code bi env) ha WK2 h3 d12 d13 d23 F _ l1 l2 l3 (by simp [genEnv, hk]) hco (fun hm => Nat.lt_irrefl _ (List.mem_range.mp hm)) (hq _ kp2) s9 s9 (fun y => if y = ".0" then some (.ref J) else none)
    ((WK A ha).frame _ _ _ st fun b hb o e => al b (List.mem_cons_of_mem _ (List.mem_range.mpr (hfp b hb))) o (kp2 b o e)) (hn2.at' fun o e => al _ (List.mem_cons_self ..) o e) (GenSince.refl _ _ _) fun b hb _ o e => al b (List.mem_cons_of_mem _ hb) o e
end
def EltOk3 (X : Cx) (P : Addr) (scope : Scope) (xa xb xc : Str) (elt : Expr) (s0 : Shared) (Pt : Nat → Array Value → Prop) (F : Nat → Value → Prop) : Prop :=
  ∀ (cenv : Env) (B : Around) (E2 : Value → Shared → Prop) (i : Nat) (va vb vc : Value) (s2 : Shared) (m2 : Str → Option Value), InGen X P scope s0 cenv B s2 m2 → Pt i #[va, vb, vc] → m2 xa = some va → m2 xb = some vb → m2 xc = some vc →
    wpAny (model X.prog X.w) B (eval elt cenv) (fun y s3 => F i y ∧ Keeps s2 s3) E2 s2
structure Src3 (X : Cx) (P : Addr) (s0 s1 : Shared) (xv : Value) (n : Nat) (Pt : Nat → Array Value → Prop) : Prop where
  only : ∃ h1 t1, s1 = { s0 with heap := h1, toks := t1 }
  old : ∀ b o, s0.heap.get? b = some o → s1.heap.get? b = some o
  wk : ∃ (J : Addr) (fp wr : List Addr) (Z : Nat → Heap → Prop) (Mid : Nat → Addr → Heap → Prop), xv = .ref J ∧ (∀ Q : Value → Shared → Prop, Q (.ref J) s1 → wpAny (model X.prog X.w) X.A (pyIter xv) Q X.xe s1) ∧
    (∀ B : Around, B.handled = none → WalksU X.prog X.w B J fp wr n Pt Z Mid) ∧ Z 0 s1.heap ∧ (∀ b ∈ fp, b < s1.heap.objs.size ∧ b ≠ P) ∧ (∀ b ∈ wr, s0.heap.objs.size ≤ b)
  two : ∀ i vals, Pt i vals → ∃ va vb vc, vals = #[va, vb, vc]
structure GenS3 (env : Env) (scope : Scope) (xa xb xc : Str) : Prop where
  a : GxR.GenS env scope xa
  lb : scope.names.lookup xb = some .local
  lc : scope.names.lookup xc = some .local
  ne : xa ≠ xb
  nac : xa ≠ xc
  nbc : xb ≠ xc
theorem gen_three {X : Cx} {pins : List (Addr × Obj)} {σ : L2.St} {s : Shared} {c P : Addr} {elt iter : Expr} {xa xb xc : Str} {pa pb pc pt gpos : Pos} {kt : Nat} {scope : Scope} {k : Nat} {W : Value → Shared → Prop}
    (hr : Room k X.A) (TB : GxR.TabB X.base X.mg c P) (hcode : X.env.code = .ref c) (S : GenS3 X.env scope xa xb xc) (hs : ∀ v, genFold iter X.env v = pure v)
    (h : wpAny (model X.prog X.w) X.A (eval iter X.env) (fun xv s1 => ∃ (s0 : Shared) (H1 : Hp) (ps : Array Value) (n : Nat) (Pt : Nat → Array Value → Prop) (F : Nat → Value → Prop), Inv X pins σ H1 s0 ∧ H1 P = some (.tbl ps) ∧ TriplesOk ps.toList ∧ Src3 X P s0 s1 xv n Pt ∧
      EltOk3 X P scope xa xb xc elt s0 Pt F ∧ ∀ g s5, AtHand X pins σ H1 P n F g s5 → W (.ref g) s5) X.xe s) :
    wpAny (model X.prog X.w) X.A (eval (gx3 elt iter xa xb xc pa pb pc pt kt scope gpos) X.env) W X.xe s := by
  have deep := hr.dp
  refine g3_make hr.hd S.a.co (closure_ok S.a.free) S.a.cell S.a.dot S.a.loc S.lb S.lc S.ne S.nac S.nbc S.a.kind (by omega) (wpAny_mono h (fun xv s1 z => ?_) fun _ _ e => e) hs
  obtain ⟨s0, H1, ps, n, Pt, F, J0, hP, trip, ⟨⟨h1, t1, rfl⟩, old1, ⟨J, fp, wr, Z, Mid, rfl, go, wk, z0, hfp, hwr⟩, two⟩, hel, fin⟩ := z
  refine go _ ?_
  have hPs : s0.heap.get? P = some { cls := .none, data := .fields ps } := J0.hok P _ hP
  have ltP : P < s0.heap.objs.size := Heap.lt_size hPs
  have hP2 : h1.get? P = some { cls := .none, data := .fields ps } := old1 _ _ hPs
  have cd : PySem.W.CodeHd h1 c P := TB.code.keeps fun b u e => old1 _ _ (J0.bk b u e)
  have lim : h1.NoLimit := J0.nolimit.keeps old1
  have go2 : ∀ (code : Value) (h3 : Heap) (tk : Nat) (more : Array Value), Heap.ExtBut P h1 h3 → h1.objs.size ≤ h3.objs.size → h3.get? P = some { cls := .none, data := .fields (ps ++ more) } → TriplesOk (ps ++ more).toList →
      wpAny (model X.prog X.w) X.A (builtinsFor X.env.globals X.env.builtins) (fun bi s4 =>
        ∃ I0 fp0 wr0 n0 Pt0 Z0 Mid0 F0, Value.ref J = .ref I0 ∧ (∀ B : Around, B.handled = none → WalksU X.prog X.w B I0 fp0 wr0 n0 Pt0 Z0 Mid0) ∧ (∀ i vals, Pt0 i vals → ∃ va vb vc, vals = #[va, vb, vc]) ∧ Z0 0 s4.heap ∧ (∀ b ∈ fp0, b < s4.heap.objs.size) ∧ s4.heap.NoLimit ∧ cStatics ∉ wr0 ∧
          (∀ hq : Heap, (∀ b o, s4.heap.get? b = some o → hq.get? b = some o) →
            Elt3 X.prog X.w (genEnv scope (cloFrom X.env.cells scope.names []) s4.heap.objs.size code bi X.env) xa xb xc elt (List.range s4.heap.objs.size) wr0 Pt0 F0 hq) ∧
          (∀ g h5 tk5 gs, gs.bare = true → s4.heap.objs.size < g → h5.objs.size = g + 1 → (∀ b o, s4.heap.get? b = some o → h5.get? b = some o) →
            WalksS X.prog X.w X.A.in4 g (g :: s4.heap.objs.size :: List.range s4.heap.objs.size) (s4.heap.objs.size :: wr0) (GenOnlyQ s4.gens.size) (passing (fun _ => true) n0 0).length
              (fun j y => ∃ i, (passing (fun _ => true) n0 0)[j]? = some i ∧ F0 i y) (GenAt X.prog X.w X.A.in4 g s4.gens.size s4.heap.objs.size (List.range s4.heap.objs.size) wr0 (fun _ => true) n0 F0) →
            GenAt X.prog X.w X.A.in4 g s4.gens.size s4.heap.objs.size (List.range s4.heap.objs.size) wr0 (fun _ => true) n0 F0 0 { s4 with gens := s4.gens.push gs, toks := tk5, heap := h5 } →
            W (.ref g) { s4 with gens := s4.gens.push gs, toks := tk5, heap := h5 })) X.xe { s0 with heap := h3, toks := tk } := by
    intro code h3 tk more hx hsz hP3 trip3
    obtain ⟨bm, ob, e1, e2, e3, e4, e5, e6, e7, e8⟩ := TB.bm
    have keep3 : ∀ b u, b ≠ P → s0.heap.get? b = some u → h3.get? b = some u := fun b u hb e => hx b u hb (old1 b u e)
    have stP : cStatics ≠ P := fun z => by
      obtain ⟨_, ⟨o1, es, ep, ho, hd, _⟩, _⟩ := J0.nolimit
      rw [z, hPs] at ho
      cases ho
      cases hd
    have stL : cStatics < s0.heap.objs.size := by
      obtain ⟨_, hns, _⟩ := J0.nolimit
      exact hns.lt
    refine wpAny_builtinsFor (m := X.mg) (by rw [J0.ok.glob]; exact ((J0.mod.glob.keeps J0.bk).keeps old1).extBut hx TB.gP) e1 e2 (keep3 _ _ e4 (J0.bk _ _ e5)) e6 e7 e8 ?_
    refine ⟨J, fp, wr, n, Pt, Z, Mid, F, rfl, wk, two, ?_, ?_, lim.extBut hx stP, ?_, ?_, ?_⟩
    · exact (wk X.A hr.hd).frame _ _ _ z0 fun b hb u e => hx b u (hfp b hb).2 e
    · intro b hb
      exact Nat.lt_of_lt_of_le (show b < h1.objs.size from (hfp b hb).1) hsz
    · intro z
      exact Nat.lt_irrefl _ (Nat.lt_of_lt_of_le stL (hwr _ z))
    · intro hq keepq
      intro B E2 i va vb vc s2 m2 hB hv hn hma hmb hmc hk
      refine hel _ B E2 i va vb vc s2 m2 ⟨rfl, rfl, rfl, rfl, hB, hn, fun b u hb e => ?_⟩ hv hma hmb hmc
      have lb := Heap.lt_size e
      refine hk b (List.mem_range.mpr (Nat.lt_of_lt_of_le (Heap.lt_size (old1 b u e)) hsz)) (fun z => ?_) u (keepq b u (keep3 b u hb e))
      exact Nat.lt_irrefl _ (Nat.lt_of_lt_of_le lb (hwr b z))
    · intro g h5 tk5 gs hgb hag hsz5 hk5 W5 gat
      simp only [GxR.passing_true, List.length_range] at W5
      refine fin g _ ⟨_, _, _, _, _, W5, fun j v hv => ?_, gat, fun b hb => ?_, List.mem_cons_self, fun i s9 h9 => h9.1.typeIs, fun s' hm => ?_⟩
      · obtain ⟨i, hij, e⟩ := hv
        obtain ⟨_, ej⟩ := List.getElem?_eq_some_iff.mp hij
        rw [List.getElem_range] at ej
        subst ej
        exact e
      · show b < h5.objs.size
        have v8 : h3.objs.size < g := hag
        have v9 : h5.objs.size = g + 1 := hsz5
        have u1 : g < h5.objs.size := by
          rw [v9]
          exact Nat.lt_succ_self g
        have u2 : h3.objs.size < h5.objs.size := Nat.lt_trans v8 u1
        rcases List.mem_cons.mp hb with z | z
        · rw [z]
          exact u1
        · rcases List.mem_cons.mp z with z | z
          · rw [z]
            exact u2
          · exact Nat.lt_trans (show b < h3.objs.size from List.mem_range.mp z) u2
      · have old : ∀ b u, s0.heap.get? b = some u → b ∉ h3.objs.size :: wr := fun b u e hb => by
          have lb := Heap.lt_size e
          rcases List.mem_cons.mp hb with z | z
          · exact Nat.ne_of_lt (Nat.lt_of_lt_of_le (Heap.lt_size (old1 b u e)) hsz) z
          · exact Nat.lt_irrefl _ (Nat.lt_of_lt_of_le lb (hwr b z))
        have R := GxR.inv_tab (more := more) (h' := s'.heap) (g' := s'.gens) (d' := s'.drawn) (t' := s'.toks) J0 hP (fun b u hb e => hm.heap b u (old b u e) (hk5 b u (keep3 b u hb e)))
          (hm.heap P _ (old P _ hPs) (hk5 P _ hP3)) (AllBare.movedS (J0.bare.push hgb) hm)
        rw [GxR.sh_eta s0 s' hm.os] at R
        exact ⟨_, ⟨⟨ps ++ more, upd_same, trip3⟩, fun b hb => upd_ne hb⟩, R⟩
  refine ⟨lim, ?_⟩
  cases hf : codeAmong gpos ps.toList with
  | none =>
    refine wpAny_genexprCodeX hcode (cd.code hP2 trip) (cd.tab hP2) hf fun c' h' tk hx hge hlt hco' _ htab' _ => ?_
    obtain ⟨o1, vs, f1, tf, fl, tg, inF, tx, tt, op, _, _, _, _, _, _, _, _, _, htr, _⟩ := hco'
    exact go2 _ h' tk _ hx (Nat.le_trans hge (Nat.le_of_lt hlt)) htab'.2 htr
  | some cv =>
    refine wpAny_genexprCode_hit hcode (cd.code hP2 trip) hf ?_
    exact go2 cv h1 t1 #[] (Heap.ExtBut.refl _ _) (Nat.le_refl _) (by rw [Array.append_empty]; exact hP2) (by rw [Array.append_empty]; exact trip)
structure PElt3 (X : Cx) (P : Addr) (scope : Scope) (xa xb xc : Str) (elt : Expr) (te : V → V → V → V → Prop) : Prop where
  run : ∀ (pins : List (Addr × Obj)) (s0 : Shared) (σ : L2.St) (H : Hp), Inv X pins σ H s0 → GxR.TabG H P → ∀ (cenv : Env) (B : Around) (E2 : Value → Shared → Prop) (s2 : Shared) (m2 : Str → Option Value) (v1 v2 v3 y : V) (u1 u2 u3 : Value),
    InGen X P scope s0 cenv B s2 m2 → RelV v1 u1 → RelV v2 u2 → RelV v3 u3 → te v1 v2 v3 y → m2 xa = some u1 → m2 xb = some u2 → m2 xc = some u3 → wpAny (model X.prog X.w) B (eval elt cenv) (fun z s3 => RelV y z ∧ Keeps s2 s3) E2 s2
def tTupZ3 (P : Addr) (ta : TA) (te : V → V → V → V → Prop) : TE := fun σ H Q => ta σ H fun vs H1 => ∃ (a b c : Addr) (xs ys us : List V), vs = [.ref a, .ref b, .ref c] ∧ H1 a = some (.tup xs) ∧ H1 b = some (.tup ys) ∧ H1 c = some (.tup us) ∧ xs.length = ys.length ∧ xs.length = us.length ∧ GxR.TabG H1 P ∧
  ∃ zs : List V, zs.length = xs.length ∧ (∀ (i : Nat) (x y u : V), xs[i]? = some x → ys[i]? = some y → us[i]? = some u → ∃ z, zs[i]? = some z ∧ te x y u z) ∧ ∀ H2 p, GxR.Tabbed P H1 H2 → H2 p = none → Q (.ref p) (upd H2 p (.tup zs))
/-- tuple(element for xa, xb, xc in zip(e, e2, e3)), three tuples of one length -/
theorem pe_tupZ3 {X : Cx} {c P : Addr} {elt e e2 e3 : Expr} {xa xb xc : Str} {pa pb pc pt p p2 pos gpos zpos : Pos} {kt : Nat} {scope : Scope} {ta : TA} {te : V → V → V → V → Prop} {k : Nat}
    (hr : Room k X.A) (hg : Gl X "tuple") (hm : X.mg "tuple" = none) (hb : bootBuiltins "tuple" = some (.type "tuple")) (hgz : Gl X "zip") (hmz : X.mg "zip" = none) (TB : GxR.TabB X.base X.mg c P) (hcode : X.env.code = .ref c) (S : GenS3 X.env scope xa xb xc)
    (ha : PA X [e, e2, e3] ta) (hel : PElt3 X P scope xa xb xc elt te) (hs : ∀ v, genFold (.Call (.Name "zip" p2) [e, e2, e3] [] zpos) X.env v = pure v)
    (he : starEach [gx3 elt (.Call (.Name "zip" p2) [e, e2, e3] [] zpos) xa xb xc pa pb pc pt kt scope gpos] X.env = (false, eval (gx3 elt (.Call (.Name "zip" p2) [e, e2, e3] [] zpos) xa xb xc pa pb pc pt kt scope gpos) X.env) :: starEach [] X.env := by rfl)
    (hz1 : starEach [e, e2, e3] X.env = (false, eval e X.env) :: starEach [e2, e3] X.env := by rfl) (hz2 : (backTo zpos (starEach [e2, e3] X.env)).any (·.1) = false := by rfl) :
    PE X (.Call (.Name "tuple" p) [gx3 elt (.Call (.Name "zip" p2) [e, e2, e3] [] zpos) xa xb xc pa pb pc pt kt scope gpos] [] pos) (tTupZ3 P ta te) := by
  refine ⟨fun pins s σ H Q I h => ?_⟩
  refine wpAny_Call_Name_kw (ld_blt I hg hm hb ?_)
  refine PyProof.Rows.callWith_type1 ?_ he (by rfl)
  rw [he]
  show wpAny _ _ (spliced ((false, eval (gx3 elt (.Call (.Name "zip" p2) [e, e2, e3] [] zpos) xa xb xc pa pb pc pt kt scope gpos) X.env) :: backTo pos (starEach [] X.env))) _ _ s
  refine Calls.spliced_cons (gen_three (pins := pins) (σ := σ) hr TB hcode S hs ?_)
  refine Call_ (ld_blt I hgz hmz PyProof.Rows.boot_zip (PyProof.Rows.callWith_type1 (thn (ha.run zpos pins s σ H _ I h) fun us s0 ⟨vs, H1, J, r1, q1⟩ => ?_) hz1 hz2))
  obtain ⟨a, b, c', xs, ys, us', rfl, hxa, hyb, huc, hxy, hxu, tg, zs, lz, hzs, q⟩ := q1
  cases r1 with
  | cons r rr =>
    cases rr with
    | cons r' rr =>
      cases rr with
      | cons r'' rr =>
        cases rr
        cases r
        cases r'
        cases r''
        obtain ⟨ix, rx, px, hz⟩ := J.tuple (show SqT X.K H1 a xs from .inl (.inl hxa))
        obtain ⟨iy, ry, py, _⟩ := J.tuple (show SqT X.K H1 b ys from .inl (.inl hyb))
        obtain ⟨iu, ru, pu, _⟩ := J.tuple (show SqT X.K H1 c' us' from .inl (.inl huc))
        obtain ⟨ps, hP, trip⟩ := tg
        have naP : a ≠ P := ne_of hxa hP (fun z => by cases z)
        have nbP : b ≠ P := ne_of hyb hP (fun z => by cases z)
        have ncP : c' ≠ P := ne_of huc hP (fun z => by cases z)
        have lta : a < s0.heap.objs.size := by
          obtain ⟨o, ho, _⟩ := px
          exact Heap.lt_size ho
        have ltb : b < s0.heap.objs.size := by
          obtain ⟨o, ho, _⟩ := py
          exact Heap.lt_size ho
        have ltc : c' < s0.heap.objs.size := by
          obtain ⟨o, ho, _⟩ := pu
          exact Heap.lt_size ho
        have ltP : P < s0.heap.objs.size := Heap.lt_size (J.hok P _ hP)
        have hnx := rx.length
        have hny := ry.length
        have hnu := ru.length
        refine zip_begins3 (begins_tuple a ix.toArray) (begins_tuple b iy.toArray) (begins_tuple c' iu.toArray) (show s0.heap.IsTuple a ix.toArray from px) (show s0.heap.IsTuple b iy.toArray from py) (show s0.heap.IsTuple c' iu.toArray from pu) fun h1 isz hTI hTO i1 i2 i3 sz6 keep => ?_
        refine ⟨s0, H1, ps, xs.length, fun i vals => ∃ x1 x2 x3, ix.toArray[i]? = some x1 ∧ iy.toArray[i]? = some x2 ∧ iu.toArray[i]? = some x3 ∧ vals = #[x1, x2, x3], fun i u => ∃ z, zs[i]? = some z ∧ RelV z u, J, hP, trip, ⟨⟨h1, s0.toks, rfl⟩, keep, ?_, ?_⟩, ?_, fun g s5 at5 => ?_⟩
        · have en : min (min ix.toArray.size iy.toArray.size) iu.toArray.size = xs.length := by
            rw [List.size_toArray, List.size_toArray, List.size_toArray]
            omega
          have WW := fun (B : Around) (hB : B.handled = none) => (WalksT.zipD3 (prog := X.prog) (w := X.w) (A := B) (zip_sep3 (N := s0.heap.objs.size) (fp1 := [a]) (fp2 := [b]) (fp3 := [c']) (fun d hd => by rw [List.mem_singleton.mp hd]; exact lta) (fun d hd => by rw [List.mem_singleton.mp hd]; exact ltb) (fun d hd => by rw [List.mem_singleton.mp hd]; exact ltc))
            (Draws.tuple (A := B.in1) hB s0.heap.objs.size a (Nat.ne_of_lt lta) ix.toArray) (Draws.tuple (A := B.in1) hB (s0.heap.objs.size + 1) b (Nat.ne_of_lt (Nat.lt_succ_of_lt ltb)) iy.toArray) (Draws.tuple (A := B.in1) hB (s0.heap.objs.size + 2) c' (Nat.ne_of_lt (Nat.lt_of_lt_of_le ltc (Nat.le_add_right _ 2))) iu.toArray)).toU
          simp only [en] at WW
          refine ⟨s0.heap.objs.size + 5, _, _, _, _, rfl, fun Q hQ => wpAny_pyIter_zip isz hQ, WW, ⟨isz, hTI, ⟨_, _, _, hTO⟩, ⟨⟨_, i1, rfl, rfl⟩, (show s0.heap.IsTuple a ix.toArray from px).at fun o e => keep _ o e⟩, ⟨⟨_, i2, rfl, rfl⟩, (show s0.heap.IsTuple b iy.toArray from py).at fun o e => keep _ o e⟩, ⟨⟨_, i3, rfl, rfl⟩, (show s0.heap.IsTuple c' iu.toArray from pu).at fun o e => keep _ o e⟩⟩, fun d hd => ?_, fun d hd => ?_⟩
          · show d < h1.objs.size ∧ d ≠ P
            rw [sz6]
            have up : ∀ j : Nat, j < 6 → (s0.heap.objs.size + j : Nat) < s0.heap.objs.size + 6 ∧ (s0.heap.objs.size + j : Nat) ≠ P := fun j hj => ⟨by omega, Nat.ne_of_gt (Nat.lt_of_lt_of_le ltP (Nat.le_add_right _ _))⟩
            have hd' : d = s0.heap.objs.size + 5 ∨ d = s0.heap.objs.size + 3 ∨ d = s0.heap.objs.size + 4 ∨ d = s0.heap.objs.size ∨ d = a ∨ d = s0.heap.objs.size + 1 ∨ d = b ∨ d = s0.heap.objs.size + 2 ∨ d = c' := by simpa using hd
            rcases hd' with z | z | z | z | z | z | z | z | z
            · rw [z]; exact up 5 (by decide)
            · rw [z]; exact up 3 (by decide)
            · rw [z]; exact up 4 (by decide)
            · rw [z]; exact up 0 (by decide)
            · rw [z]; exact ⟨Nat.lt_of_lt_of_le lta (Nat.le_add_right _ _), naP⟩
            · rw [z]; exact up 1 (by decide)
            · rw [z]; exact ⟨Nat.lt_of_lt_of_le ltb (Nat.le_add_right _ _), nbP⟩
            · rw [z]; exact up 2 (by decide)
            · rw [z]; exact ⟨Nat.lt_of_lt_of_le ltc (Nat.le_add_right _ _), ncP⟩
          · have hd' : d = s0.heap.objs.size + 5 ∨ d = s0.heap.objs.size + 4 ∨ d = s0.heap.objs.size ∨ d = s0.heap.objs.size + 1 ∨ d = s0.heap.objs.size + 2 := by simpa using hd
            rcases hd' with z | z | z | z | z
            · rw [z]; exact Nat.le_add_right _ _
            · rw [z]; exact Nat.le_add_right _ _
            · rw [z]; exact Nat.le_refl _
            · rw [z]; exact Nat.le_add_right _ _
            · rw [z]; exact Nat.le_add_right _ _
        · rintro i vals ⟨x1, x2, x3, _, _, _, rfl⟩
          exact ⟨x1, x2, x3, rfl⟩
        · intro cenv B E2 i va vb vc s2 m2 ig hv hma hmb hmc
          obtain ⟨x1, x2, x3, e1, e2', e3', ev⟩ := hv
          have ev1 : va = x1 ∧ vb = x2 ∧ vc = x3 := by simpa using ev
          obtain ⟨rfl, rfl, rfl⟩ := ev1
          have hi : i < xs.length := by
            have := (Array.getElem?_eq_some_iff.mp e1).1
            rw [List.size_toArray] at this
            omega
          have gx : xs[i]? = some xs[i] := List.getElem?_eq_getElem hi
          have gy : ys[i]? = some (ys[i]'(by omega)) := List.getElem?_eq_getElem (by omega)
          have gu : us'[i]? = some (us'[i]'(by omega)) := List.getElem?_eq_getElem (by omega)
          obtain ⟨w1, ew1, rw1⟩ := rx.get gx
          obtain ⟨w2, ew2, rw2⟩ := ry.get gy
          obtain ⟨w3, ew3, rw3⟩ := ru.get gu
          have f1 : va = w1 := by
            have z : ix[i]? = some va := by simpa using e1
            rw [z] at ew1
            exact Option.some.inj ew1
          have f2 : vb = w2 := by
            have z : iy[i]? = some vb := by simpa using e2'
            rw [z] at ew2
            exact Option.some.inj ew2
          have f3 : vc = w3 := by
            have z : iu[i]? = some vc := by simpa using e3'
            rw [z] at ew3
            exact Option.some.inj ew3
          subst f1 f2 f3
          obtain ⟨z, ez, tz⟩ := hzs i _ _ _ gx gy gu
          exact wpAny_mono (hel.run pins s0 σ H1 J ⟨ps, hP, trip⟩ cenv B E2 s2 m2 _ _ _ z va vb vc ig rw1 rw2 rw3 tz hma hmb hmc) (fun y s3 rr => ⟨⟨z, ez, rr.1⟩, rr.2⟩) fun _ _ e => e
        · refine Calls.spliced_nil ?_
          obtain ⟨fp, wr, G, F', Z, W5, im, z0, hfp, hgf, hT, hinv⟩ := at5
          refine PySem.call_tuple_gen (n := xs.length) W5.in4_3 hT z0 hfp hgf (fun s' acc mv it => ?_) hz
          obtain ⟨H2, tb, J2⟩ := hinv s' mv
          have vs : Vals zs acc.toList := vals_of zs acc.toList (by rw [Array.length_toList, it.1, lz]) fun j u hj => im j u (it.2 j u (by simpa using hj))
          refine ⟨.ref s'.heap.objs.size, _, J2.laid (t' := s'.toks) (o := .tup zs) (fun b ob e => Heap.get?_push_of_some _ e) (Nat.le_refl _) ⟨by omega, acc.toList, vs, ?_⟩, rfl, q H2 _ tb (J2.hok.fresh (Nat.le_refl _))⟩
          have ea : acc.toList.toArray = acc := by simp
          rw [ea]
          exact IsTup.new _ _
/-- a if bit == 1 else b -/
theorem elt_pick {X : Cx} {P : Addr} {scope : Scope} {xa xb xc : Str} {p1 p2 p3 p4 p5 p6 : Pos} {k1 : Nat} (hk : scope.kind = .function) (l1 : scope.names.lookup xa = some .local) (l2 : scope.names.lookup xb = some .local) (l3 : scope.names.lookup xc = some .local)
    (n1 : (xa == ("__debug__" : Str)) = false := by decide) (n2 : (xb == ("__debug__" : Str)) = false := by decide) (n3 : (xc == ("__debug__" : Str)) = false := by decide) :
    PElt3 X P scope xa xb xc (.IfExp (.Compare (.Name xa p1) [.Eq] [.Constant (.int 1) k1 p2] p3) (.Name xb p4) (.Name xc p5) p6) (fun x y u z => ∃ i : Int, x = .int i ∧ z = if i = 1 then y else u) := by
  refine ⟨fun pins s0 σ H I tg cenv B E2 s2 m2 v1 v2 v3 y u1 u2 u3 g r1 r2 r3 te hma hmb hmc => ?_⟩
  obtain ⟨i, rfl, rfl⟩ := te
  obtain ⟨t1, rfl⟩ := (show ∃ t, u1 = Value.int i t from r1)
  refine wpAny_IfExp (wpAny_isTrue_Compare1 (ig_local g hk l1 hma (GxR.keeps_refl s2) ?_ n1) rfl)
  refine wpAny_Constant_int (wpAny_eq_int (wpAny_truthy_bool ?_))
  by_cases e : i = 1
  · rw [show (i == (1 : Int)) = true from beq_iff_eq.mpr e, if_pos rfl, if_pos e]
    exact ig_local g hk l2 hmb (GxR.keeps_tok s2 _) ⟨r2, GxR.keeps_tok s2 _⟩ n2
  · rw [show (i == (1 : Int)) = false from beq_eq_false_iff_ne.mpr e, if_neg Bool.false_ne_true, if_neg e]
    exact ig_local g hk l3 hmc (GxR.keeps_tok s2 _) ⟨r3, GxR.keeps_tok s2 _⟩ n3
def dot (rs ss : List Int) : Int := (List.zipWith (fun x y => x * y) rs ss).sum
def allRows : Nat → List (List Int)
  | 0 => [[]]
  | k + 1 => (allRows k).map (· ++ [0]) ++ (allRows k).map (· ++ [1])
theorem all_sound : ∀ (k : Nat) (r : List Int), r ∈ allRows k → r.length = k ∧ Bits r
  | 0, r, h => by
    rw [show r = [] from List.mem_singleton.mp h]
    exact ⟨rfl, fun x hx => by cases hx⟩
  | k + 1, r, h => by
    have aux : ∀ (b : Int), (b = 0 ∨ b = 1) → r ∈ (allRows k).map (· ++ [b]) → r.length = k + 1 ∧ Bits r := fun b hb hm => by
      obtain ⟨q, hq, rfl⟩ := List.mem_map.mp hm
      obtain ⟨h1, h2⟩ := all_sound k q hq
      refine ⟨by rw [List.length_append, h1]; rfl, fun x hx => ?_⟩
      rcases List.mem_append.mp hx with hx | hx
      · exact h2 x hx
      · rw [List.mem_singleton.mp hx]
        exact hb
    rcases List.mem_append.mp h with h | h
    · exact aux 0 (.inl rfl) h
    · exact aux 1 (.inr rfl) h
theorem all_full : ∀ (k : Nat) (r : List Int), r.length = k → Bits r → r ∈ allRows k
  | 0, r, h, _ => by
    rw [List.eq_nil_of_length_eq_zero h]
    exact List.mem_singleton.mpr rfl
  | k + 1, r, h, hb => by
    have hne : r ≠ [] := fun z => by
      rw [z] at h
      cases h
    have e := List.dropLast_concat_getLast hne
    have m1 : r.dropLast ∈ allRows k := all_full k _ (by rw [List.length_dropLast, h]; rfl) fun x hx => hb x (List.dropLast_subset r hx)
    rcases hb _ (List.getLast_mem hne) with z | z
    · rw [z] at e
      exact List.mem_append.mpr (.inl (List.mem_map.mpr ⟨_, m1, e⟩))
    · rw [z] at e
      exact List.mem_append.mpr (.inr (List.mem_map.mpr ⟨_, m1, e⟩))
theorem all_len : ∀ k, (allRows k).length = 2 ^ k
  | 0 => rfl
  | k + 1 => by
    show ((allRows k).map (· ++ [0]) ++ (allRows k).map (· ++ [1])).length = _
    rw [List.length_append, List.length_map, List.length_map, all_len k, Nat.pow_succ]
    omega
theorem bits_sum : ∀ (r : List Int), Bits r → 0 ≤ r.sum ∧ r.sum ≤ r.length
  | [], _ => ⟨Int.le_refl 0, Int.le_refl 0⟩
  | x :: r, h => by
    have ih := bits_sum r fun y hy => h y (List.mem_cons_of_mem _ hy)
    have hx := h x List.mem_cons_self
    rw [List.sum_cons, List.length_cons]
    omega
theorem sum_rep (k : Nat) (x : Int) : (List.replicate k x).sum = k * x := by
  induction k with
  | zero => simp
  | succ k ih =>
    rw [List.replicate_succ, List.sum_cons, ih, Int.natCast_add, Int.add_mul]
    omega
theorem sum_split (r : List Int) (a : Nat) : r.sum = (r.take a).sum + (r.drop a).sum := by
  conv => lhs; rw [← List.take_append_drop a r, List.sum_append]
theorem dot_zero (k : Nat) : ∀ r : List Int, dot (List.replicate k 0) r = 0 := by
  unfold dot
  induction k with
  | zero => intro r; simp
  | succ k ih =>
    intro r
    cases r with
    | nil => simp
    | cons x r =>
      rw [List.replicate_succ, List.zipWith_cons_cons, List.sum_cons, ih]
      omega
theorem dot_one : ∀ (a k : Nat) (r : List Int), r.length = a + k → dot (List.replicate a 1 ++ List.replicate k 0) r = (r.take a).sum
  | 0, k, r, _ => by
    rw [List.replicate_zero, List.nil_append, dot_zero]
    rfl
  | a + 1, k, [], h => by
    simp at h
    omega
  | a + 1, k, x :: r, h => by
    have ih := dot_one a k r (by rw [List.length_cons] at h; omega)
    unfold dot at *
    rw [List.replicate_succ, List.cons_append, List.zipWith_cons_cons, List.sum_cons, ih, List.take_succ_cons, List.sum_cons]
    omega
def nearR (n b : Nat) : List Int := List.replicate b 1 ++ List.replicate (n - b) 0
def farR (n b : Nat) : List Int := List.replicate (n - b) 0 ++ List.replicate b 1
theorem near_bits (n b : Nat) : Bits (nearR n b) := fun x hx => by
  rcases List.mem_append.mp hx with h | h
  · exact .inr (List.eq_of_mem_replicate h)
  · exact .inl (List.eq_of_mem_replicate h)
theorem far_bits (n b : Nat) : Bits (farR n b) := fun x hx => by
  rcases List.mem_append.mp hx with h | h
  · exact .inl (List.eq_of_mem_replicate h)
  · exact .inr (List.eq_of_mem_replicate h)
theorem near_len {n b : Nat} (h : b ≤ n) : (nearR n b).length = n := by
  unfold nearR
  rw [List.length_append, List.length_replicate, List.length_replicate]
  omega
theorem far_len {n b : Nat} (h : b ≤ n) : (farR n b).length = n := by
  unfold farR
  rw [List.length_append, List.length_replicate, List.length_replicate]
  omega
theorem near_sum (n b : Nat) : (nearR n b).sum = b := by
  unfold nearR
  rw [List.sum_append, sum_rep, sum_rep]
  omega
theorem far_sum (n b : Nat) : (farR n b).sum = b := by
  unfold farR
  rw [List.sum_append, sum_rep, sum_rep]
  omega
theorem near_take (n a b : Nat) : ((nearR n b).take a).sum = (min a b : Nat) := by
  unfold nearR
  rw [List.take_append, List.sum_append, List.take_replicate, List.take_replicate, sum_rep, sum_rep]
  omega
theorem far_take {n a b : Nat} (hb : b ≤ n) (ha : a ≤ n) : ((farR n b).take a).sum = (a + b - n : Nat) := by
  unfold farR
  rw [List.take_append, List.sum_append, List.take_replicate, List.take_replicate, sum_rep, sum_rep, List.length_replicate]
  omega
/-- how far the first a bits of a row may go -/
theorem take_ends {n a b : Nat} {r : List Int} (hl : r.length = n) (hb : Bits r) (hs : r.sum = b) (ha : a ≤ n) : (a + b - n : Nat) ≤ (r.take a).sum ∧ (r.take a).sum ≤ (min a b : Nat) := by
  have e := sum_split r a
  have h1 := bits_sum (r.take a) fun x hx => hb x (List.mem_of_mem_take hx)
  have h2 := bits_sum (r.drop a) fun x hx => hb x (List.mem_of_mem_drop hx)
  rw [List.length_take] at h1
  rw [List.length_drop] at h2
  omega
/-! sums over the first places -/
def Sm (f : Nat → Int) : Nat → Int
  | 0 => 0
  | n + 1 => Sm f n + f n
theorem Sm_congr {f g : Nat → Int} : ∀ {n : Nat}, (∀ i, i < n → f i = g i) → Sm f n = Sm g n
  | 0, _ => rfl
  | n + 1, h => by
    show Sm f n + f n = Sm g n + g n
    rw [Sm_congr (n := n) fun i hi => h i (by omega), h n (by omega)]
theorem Sm_plus (f g : Nat → Int) : ∀ n, Sm (fun i => f i + g i) n = Sm f n + Sm g n
  | 0 => rfl
  | n + 1 => by
    show Sm _ n + (f n + g n) = (Sm f n + f n) + (Sm g n + g n)
    rw [Sm_plus f g n]
    omega
theorem Sm_mul (c : Int) (f : Nat → Int) : ∀ n, Sm (fun i => c * f i) n = c * Sm f n
  | 0 => by
    show (0 : Int) = c * 0
    rw [Int.mul_zero]
  | n + 1 => by
    show Sm _ n + c * f n = c * (Sm f n + f n)
    rw [Sm_mul c f n, Int.mul_add]
theorem Sm_const (c : Int) : ∀ n, Sm (fun _ => c) n = n * c
  | 0 => by
    show (0 : Int) = ((0 : Nat) : Int) * c
    omega
  | n + 1 => by
    show Sm _ n + c = ((n + 1 : Nat) : Int) * c
    rw [Sm_const c n, Int.natCast_add, Int.add_mul]
    omega
theorem Sm_comm (f : Nat → Nat → Int) (m : Nat) : ∀ n, Sm (fun j => Sm (fun i => f i j) m) n = Sm (fun i => Sm (f i) n) m
  | 0 => by
    show (0 : Int) = Sm (fun _ => (0 : Int)) m
    rw [Sm_const]
    omega
  | n + 1 => by
    show Sm _ n + Sm (fun i => f i n) m = Sm (fun i => Sm (f i) n + f i n) m
    rw [Sm_comm f m n, Sm_plus]
theorem Sm_split (f : Nat → Int) (m : Nat) : ∀ k, Sm f (m + k) = Sm f m + Sm (fun j => f (m + j)) k
  | 0 => by
    show Sm f m = Sm f m + 0
    omega
  | k + 1 => by
    show Sm f (m + k) + f (m + k) = Sm f m + (Sm _ k + f (m + k))
    rw [Sm_split f m k]
    omega
theorem Sm_head (f : Nat → Int) : ∀ n, Sm f (n + 1) = f 0 + Sm (fun j => f (j + 1)) n
  | 0 => by
    show (0 : Int) + f 0 = f 0 + 0
    omega
  | n + 1 => by
    show Sm f (n + 1) + f (n + 1) = f 0 + (Sm _ n + f (n + 1))
    rw [Sm_head f n]
    omega
theorem Sm_rev (f : Nat → Int) : ∀ m, Sm (fun k => f (m - 1 - k)) m = Sm f m
  | 0 => rfl
  | m + 1 => by
    rw [Sm_head]
    show f (m + 1 - 1 - 0) + _ = Sm f m + f m
    rw [show m + 1 - 1 - 0 = m by omega, ← Sm_rev f m]
    rw [Sm_congr (f := fun j => f (m + 1 - 1 - (j + 1))) (g := fun k => f (m - 1 - k)) fun i hi => by rw [show m + 1 - 1 - (i + 1) = m - 1 - i by omega]]
    omega
theorem Sm_turn (f : Nat → Int) {i n : Nat} (hi : i < n) : Sm (fun b => f ((i + n - b) % n)) n = Sm f n := by
  have e : n = (i + 1) + (n - i - 1) := by omega
  have h1 : Sm (fun b => f ((i + n - b) % n)) (i + 1) = Sm f (i + 1) := by
    rw [← Sm_rev f (i + 1)]
    refine Sm_congr fun b hb => ?_
    rw [show i + n - b = (i + 1 - 1 - b) + n by omega, Nat.add_mod_right, Nat.mod_eq_of_lt (by omega)]
  have h2 : Sm (fun j => f ((i + n - (i + 1 + j)) % n)) (n - i - 1) = Sm (fun j => f (i + 1 + j)) (n - i - 1) := by
    rw [← Sm_rev (fun j => f (i + 1 + j)) (n - i - 1)]
    refine Sm_congr fun b hb => ?_
    rw [Nat.mod_eq_of_lt (by omega), show i + n - (i + 1 + b) = i + 1 + (n - i - 1 - 1 - b) by omega]
  have s1 := Sm_split (fun b => f ((i + n - b) % n)) (i + 1) (n - i - 1)
  have s2 := Sm_split f (i + 1) (n - i - 1)
  rw [← e] at s1 s2
  rw [s1, s2, h1, h2]
theorem Sm_list : ∀ (xs : List Int), xs.sum = Sm (fun i => xs.getD i 0) xs.length
  | [] => rfl
  | x :: r => by
    rw [List.sum_cons, List.length_cons, Sm_head, Sm_list r]
    rfl
theorem Sm_map (v : Nat → Int) : ∀ n, ((List.range n).map v).sum = Sm v n
  | 0 => rfl
  | n + 1 => by
    rw [List.range_succ, List.map_append, List.sum_append, Sm_map v n]
    show _ + (v n + 0) = Sm v n + v n
    omega
theorem Sm_filter (p : Nat → Bool) (v : Nat → Int) : ∀ n, (((List.range n).filter p).map v).sum = Sm (fun i => if p i = true then v i else 0) n
  | 0 => rfl
  | n + 1 => by
    rw [List.range_succ, List.filter_append, List.map_append, List.sum_append, Sm_filter p v n]
    show _ + (([n].filter p).map v).sum = Sm _ n + (if p n = true then v n else 0)
    by_cases h : p n = true
    · rw [List.filter_cons_of_pos h, if_pos h]
      show _ + (v n + 0) = _
      omega
    · rw [List.filter_cons_of_neg h, if_neg h]
      rfl
theorem Sm_count (p : Nat → Bool) : ∀ n, (((List.range n).filter p).length : Int) = Sm (fun i => if p i = true then 1 else 0) n
  | 0 => rfl
  | n + 1 => by
    rw [List.range_succ, List.filter_append, List.length_append, Int.natCast_add, Sm_count p n]
    show _ + ((([n].filter p).length : Nat) : Int) = Sm _ n + (if p n = true then 1 else 0)
    by_cases h : p n = true
    · rw [List.filter_cons_of_pos h, if_pos h]
      rfl
    · rw [List.filter_cons_of_neg h, if_neg h]
      rfl
/-! rows that meet, one late -/
def mt (rs ss : List Int) (b : Nat) : Int := Sm (fun i => rs.getD i 0 * ss.getD ((i + rs.length - b) % rs.length) 0) rs.length
theorem dot_Sm : ∀ (rs ss : List Int), rs.length = ss.length → dot rs ss = Sm (fun i => rs.getD i 0 * ss.getD i 0) rs.length
  | [], [], _ => rfl
  | x :: r, y :: t, h => by
    have ih := dot_Sm r t (by simpa using h)
    unfold dot at *
    rw [List.zipWith_cons_cons, List.sum_cons, List.length_cons, Sm_head, ih]
    rfl
theorem dot_mt {rs ss : List Int} (h : rs.length = ss.length) : dot rs ss = mt rs ss 0 := by
  rw [dot_Sm rs ss h]
  unfold mt
  refine Sm_congr fun i hi => ?_
  rw [Nat.sub_zero, Nat.add_mod_right, Nat.mod_eq_of_lt hi]
/-- all together -/
theorem mt_all {rs ss : List Int} (h : rs.length = ss.length) : Sm (mt rs ss) rs.length = rs.sum * ss.sum := by
  unfold mt
  rw [Sm_comm]
  rw [Sm_congr (g := fun i => ss.sum * rs.getD i 0) fun i hi => by
    rw [Sm_mul (rs.getD i 0) (fun b => ss.getD ((i + rs.length - b) % rs.length) 0), Sm_turn (fun j => ss.getD j 0) hi, Sm_list ss, ← h, Int.mul_comm]]
  rw [Sm_mul, ← Sm_list, Int.mul_comm]
def LS (rs ss : List Int) : List Int := (List.range rs.length).map fun b => rs.length * mt rs ss b - rs.sum * ss.sum
theorem LS_len (rs ss : List Int) : (LS rs ss).length = rs.length := by
  unfold LS
  rw [List.length_map, List.length_range]
theorem LS_sum {rs ss : List Int} (h : rs.length = ss.length) : (LS rs ss).sum = 0 := by
  unfold LS
  rw [Sm_map]
  have e : Sm (fun b => (rs.length : Int) * mt rs ss b - rs.sum * ss.sum) rs.length = Sm (fun b => (rs.length : Int) * mt rs ss b + -(rs.sum * ss.sum)) rs.length := Sm_congr fun i _ => by omega
  rw [e, Sm_plus, Sm_mul, mt_all h, Sm_const, Int.mul_neg]
  omega
theorem LS_at {rs ss : List Int} {b : Nat} (hb : b < rs.length) : (LS rs ss)[b]? = some (rs.length * mt rs ss b - rs.sum * ss.sum) := by
  unfold LS
  rw [List.getElem?_map, List.getElem?_range hb]
  rfl
theorem bit_mul {x y : Int} (hx : x = 0 ∨ x = 1) : (if decide (x = 1) = true then y else 0) = x * y := by
  rcases hx with rfl | rfl
  · rw [if_neg (by decide), Int.zero_mul]
  · rw [if_pos (by decide), Int.one_mul]
theorem bits_at {rs : List Int} (h : Bits rs) (i : Nat) : rs.getD i 0 = 0 ∨ rs.getD i 0 = 1 := by
  rw [List.getD_eq_getElem?_getD]
  cases e : rs[i]? with
  | none => exact .inl rfl
  | some x => exact h x (List.mem_of_getElem? e)
def places (rs : List Int) (n : Nat) : List Nat := (List.range n).filter fun i => decide (rs.getD i 0 = 1)
theorem places_mt {rs ss : List Int} (h : Bits rs) (b : Nat) : ((places rs rs.length).map fun i => ss.getD ((i + rs.length - b) % rs.length) 0).sum = mt rs ss b := by
  unfold places mt
  rw [Sm_filter]
  exact Sm_congr fun i _ => bit_mul (bits_at h i)
theorem count_mt {rs ss : List Int} (h : Bits rs) (h2 : Bits ss) (b : Nat) : (((List.range rs.length).filter fun i => decide (rs.getD i 0 = 1) && decide (ss.getD ((i + rs.length - b) % rs.length) 0 = 1)).length : Int) = mt rs ss b := by
  rw [Sm_count]
  unfold mt
  refine Sm_congr fun i _ => ?_
  show _ = rs.getD i 0 * ss.getD ((i + rs.length - b) % rs.length) 0
  rcases bits_at h i with e | e <;> rcases bits_at h2 ((i + rs.length - b) % rs.length) with e2 | e2 <;> rw [e, e2] <;> decide
theorem getD_at {rs : List Int} {i : Nat} (h : i < rs.length) : rs[i]? = some (rs.getD i 0) := by
  rw [List.getD_eq_getElem?_getD, List.getElem?_eq_getElem h]
  rfl
/-! an error that is caught, and kept beyond the suite -/
def ExK (cls : Value) (d : Option Addr) (a : Addr) : HO := .ext fun h => ∃ (oe : Obj) (vs : Array Value), h.get? a = some oe ∧ Zc cls d oe ∧ oe.data = .fields vs
theorem exK_in {P : Program} {w : World} {G : Hp} {h : Heap} {a : Addr} {cls : Value} {d : Option Addr} {oe : Obj} {vs : Array Value} (e : h.get? a = some oe) (z : Zc cls d oe) (f : oe.data = .fields vs) : ObjOk P w G h a (ExK cls d a) :=
  ⟨⟨oe, vs, e, z, f⟩, ⟨oe, e⟩, fun _ _ hh k => by
    obtain ⟨o, v, q, r⟩ := hh
    exact ⟨o, v, k o q, r⟩⟩
section
variable {X : Cx} {pins : List (Addr × Obj)} {σ : L2.St} {H : Hp} {s : Shared} {a : Addr} {oe : Obj} {vs : Array Value} {cls : Value} {d : Option Addr}
theorem keep_track (I : Inv (X.suite a ((a, oe) :: (X.pn ++ pins))) [] σ H s) (ok : X.Ok) (new : X.s_0.heap.get? a = none) (other : ∀ p, p ∈ X.pn ++ pins → p.1 ≠ a) (hz : Zc cls d oe) (hd : oe.data = .fields vs) :
    Inv X pins σ (upd H a (ExK cls d a)) s := by
  obtain ⟨hget, hnone, nloc, nfs, ncell⟩ := I.pin (a, oe) (List.mem_append_left _ List.mem_cons_self)
  have hne : ∀ {b : Addr} {o : HO}, H b = some o → b ≠ a := fun e => ne_of_none e hnone
  have up : ∀ {b : Addr} {o : HO}, H b = some o → (upd H a (ExK cls d a)) b = some o := fun e => by
    rw [upd_ne (hne e)]
    exact e
  refine ⟨ok, I.os, I.bare, ⟨I.base.keep, I.base.slot, fun b o e n x => ?_, I.base.there, fun b xs e => up (I.base.tups b xs e), fun b o u e => up (I.base.frzs b o u e), fun b ps e => ?_⟩, I.loc, I.cell, ?_, fun x c e => ?_, fun p hp => ?_, fun b u e => ?_, I.len⟩
  · have hb : b ≠ a := fun z => by
      rw [z, new] at e
      cases e
    rw [upd_ne hb]
    exact I.base.free b o e n x
  · obtain ⟨more, q⟩ := I.base.tbls b ps e
    exact ⟨more, up q⟩
  · rw [upd_ne (Ne.symm nloc)]
    exact I.free
  · have hc : c ≠ a := fun z => by
      obtain ⟨v, o, q, r⟩ := I.cell x c e
      rw [z, hget] at q
      cases q
      first
        | exact ncell _ r
        | exact ncell _ r.1
        | exact ncell _ r.2
    rw [upd_ne hc]
    exact I.freeC x c e
  · obtain ⟨q1, q2, q3, q4, q5⟩ := I.pin p (List.mem_append_left _ (List.mem_cons_of_mem _ hp))
    exact ⟨q1, by rw [upd_ne (other p hp)]; exact q2, q3, q4, q5⟩
  · by_cases hb : b = a
    · subst hb
      rw [upd_same] at e
      cases e
      exact exK_in hget hz hd
    · rw [upd_ne hb] at e
      exact (I.hok b u e).stay (fun _ _ _ q => q) (fun _ q => up q) fun _ _ q => up q
end
def wHeld (K : PySem.W.Frag) (c : Value) (i : Nat) (ts : Addr → Value → Option Addr → TS) (Wout : WX) (D : Ends) : WX := fun cls d σ H =>
  ∃ b, PySem.W.exmOne K cls c = some b ∧ (b = false → Wout cls d σ H) ∧
    (b = true → ∀ a, H a = none → ts a cls d { nx := fun σ' G => D.nx (σ'.set i none) (upd G a (ExK cls d a)), rt := fun _ _ => False, bk := fun _ _ => False, ct := fun _ _ => False } (σ.set i (some (.ref a))) H)
theorem ps_try_held {X : Cx} {x n : Str} {c : Value} {i : Nat} {body suite : List Stmt} {b₀ : Stmt} {np pos pos' : Pos} {tb : WX → TS} {ts : Addr → Value → Option Addr → TS} {Wout : WX} (hex : X.ex = []) (hs : X.stack = X.env :: X.outer) (hf : X.env.frame = some X.env.locals) (hN : X.N.Nodup) (hi : X.N[i]? = some n) (hln : X.env.kindOf n = some .local)
    (hc : Names X x c) (tk : Takes X Wout) (hb : ∀ (W : WX) (pn : List (Addr × Obj)) (xe : Value → Shared → Prop), Takes (X.tr pn xe) W → PassesOwn (model X.prog X.w) X.A X.env xe → PSs (X.tr pn xe) body (tb W))
    (hsu : ∀ (a : Addr) (oe : Obj) (cls : Value) (d : Option Addr) (pn : List (Addr × Obj)), Zc cls d oe → (∃ vs, oe.data = .fields vs) → PSs (X.suite a ((a, oe) :: pn)) (b₀ :: suite) (ts a cls d)) :
    PS X (.Try body [.ExceptHandler (some (.Name x np)) (some n) (b₀ :: suite) pos'] [] [] pos) (fun D σ H => tb (wHeld X.K c i ts Wout D) D σ H) := by
  refine ⟨fun pins s σ H D I h => ?_⟩
  have ok := I.ok
  have hA : X.A.frames = some (X.env :: X.outer) := by
    rw [ok.frames, hs]
  let catcher : Value → Shared → Prop := fun u s₁ => wpAny (model X.prog X.w) X.A (noteFrame u X.env) (fun _ s₂ => wpAny (model X.prog X.w) X.A (setFlight u none)
    (fun _ s₃ => wpAny (model X.prog X.w) X.A (handleBy u X.env [.ExceptHandler (some (.Name x np)) (some n) (b₀ :: suite) pos']) (SP X pins D) X.xe s₃) X.xe s₂) X.xe s₁
  have main := (hb (wHeld X.K c i ts Wout D) (X.pn ++ pins) catcher ?_ PassesOwn.looking).run [] s σ H D (I.toTry _) h
  · refine wpAny_Try_except (wpAny_mono main (fun fl s1 r => ?_) fun _ _ z => z)
    cases fl with
    | next =>
      obtain ⟨σ', G, J, q⟩ := r
      exact wpAny_execs_nil ⟨σ', G, J.ofTry ok, q⟩
    | brk =>
      obtain ⟨σ', G, J, q⟩ := r
      exact ⟨σ', G, J.ofTry ok, q⟩
    | cont =>
      obtain ⟨σ', G, J, q⟩ := r
      exact ⟨σ', G, J.ofTry ok, q⟩
    | ret u =>
      obtain ⟨v, σ', G, J, q⟩ := r
      exact ⟨v, σ', G, J.ofTry ok, q⟩
  intro u s' air
  obtain ⟨a, B, sI, ps, σ', G, cls, d, rfl, J', nb, up, sky, na, os, ag, b, eb, no, yes⟩ := air
  have J : Inv X pins σ' G sI := J'.ofTry ok
  rw [show (X.tr (X.pn ++ pins) catcher).stack = X.env :: X.outer from hs] at sky nb
  have nB : B.get? a = none := by
    rcases sky with k | k | k
    · exact k.2.1
    · exact k.2.1
    · exact k.2.1
  show wpAny (model X.prog X.w) X.A (noteFrame (.ref a) X.env) _ _ _
  refine Sky.land Zc.steady hA hf sky fun h3 f3 u3 => ?_
  have nb' : ∀ b o, sI.heap.get? b = some o → b ∉ frs X.stack → B.get? b = some o := by
    rw [hs]
    exact nb
  have J3 : Inv X pins σ' G { s' with heap := h3 } := J.landed nb' f3.1 (up.trans u3) os ag
  obtain ⟨o3, v3, g3, z3, d3⟩ := f3.there
  have nfr : a ∉ frs (X.env :: X.outer) := fun hm => by
    obtain ⟨_, o', e', nf⟩ := f3.2.2.1.mem hm
    rw [g3] at e'
    cases e'
    exact nf _ d3
  have nL : a ≠ X.env.locals := fun z => nfr (List.mem_filterMap.mpr ⟨_, List.mem_cons_self, by rw [hf, z]⟩)
  have nF : a ∉ X.fs := fun hm => by
    obtain ⟨v, hv, q⟩ := List.mem_filterMap.mp hm
    exact nfr (List.mem_filterMap.mpr ⟨v, List.mem_cons_of_mem _ hv, q⟩)
  have nI : sI.heap.get? a = none := by
    cases q : sI.heap.get? a with
    | none => rfl
    | some o =>
      have := nb a o q nfr
      rw [nB] at this
      cases this
  have n0 : X.s_0.heap.get? a = none := by
    cases q : X.s_0.heap.get? a with
    | none => rfl
    | some o =>
      obtain ⟨o', e'⟩ := J.base.there a o q (by rw [hex]; exact List.not_mem_nil)
      rw [nI] at e'
      cases e'
  have nP : ∀ p, p ∈ X.pn ++ pins → p.1 ≠ a := fun p hp z => by
    have e := (J.pin p hp).1
    rw [z, nI] at e
    cases e
  have S3 := J3.suite g3 d3 na nL nF
  refine wpAny_handleBy_cons (codeAny_handlers_test ?_) (fun q => by cases q)
  have look : PySem.W.Looks (model X.prog X.w) h3 (typeOf (.ref a)) cls := fun A' Q' E' t k q => wpAny_typeOf_ref (k _ _ g3) (by rw [z3.1]; exact q)
  have fits := PySem.W.exm_one (M := model X.prog X.w) J3.kIn look eb
  have asked : ∀ {Q' : Value → Shared → Prop} {E' : Value → Shared → Prop}, Q' c { s' with heap := h3 } → wpAny (model X.prog X.w) (X.A.mark (some (.ref a))) (eval (.Name x np) X.env) Q' E' { s' with heap := h3 } := fun q => by
    obtain ⟨g, dbg, m | ⟨m, v, nn⟩⟩ := hc
    · exact ld_glob (X := X.suite a ((a, o3) :: (X.pn ++ pins))) S3 g m q dbg
    · exact ld_blt (X := X.suite a ((a, o3) :: (X.pn ++ pins))) S3 g m v q nn dbg
  refine asked (fits.here ?_)
  cases b with
  | true =>
    refine codeAny_handlers_suite_as (HandSPX.lands_againZ f3 fun h4 f4 u4 => ?_)
    have J4 : Inv X pins σ' G { s' with heap := h4 } := J.landed nb' f4.1 ((up.trans u3).trans u4) os ag
    obtain ⟨o4, v4, g4, z4, d4⟩ := f4.there
    refine store_ok (X := X.suite a ((a, o4) :: (X.pn ++ pins))) (v := .ref a) (J4.suite g4 d4 na nL nF) hN hi (.inl hln) rfl (fun s5 S5 => ?_) (.inr hln)
    refine wpAny_mono ((hsu a o4 cls d (X.pn ++ pins) z4 ⟨_, d4⟩).run [] s5 _ G _ S5 (yes rfl a na)) (fun fl s6 r => ?_) fun _ _ z => z.elim
    cases fl with
    | next =>
      obtain ⟨σ6, G6, S6, q6⟩ := r
      exact gone_ok (keep_track S6 ok n0 nP z4 d4) hN hi hln fun s7 J7 => ⟨_, _, J7, q6⟩
    | brk =>
      obtain ⟨_, _, _, q6⟩ := r
      exact q6.elim
    | cont =>
      obtain ⟨_, _, _, q6⟩ := r
      exact q6.elim
    | ret u =>
      obtain ⟨_, _, _, _, _, q6⟩ := r
      exact q6.elim
  | false =>
    show wpAny _ X.A (handleBy (.ref a) X.env []) _ _ _
    refine wpAny_handleBy_nil ?_
    have f3' := f3
    obtain ⟨_, _, _, oe, ws, T, _, _, ge, _, de, te, _⟩ := f3'
    unfold PySem.passOn
    refine wpAny_bind (wpAny_field ge de te ?_)
    rw [if_neg (by simp)]
    have out : wpAny (model X.prog X.w) X.A (setFlight (.ref a) X.env.frame) (fun _ s4 => wpAny (model X.prog X.w) X.A (throw (.ref a) : Sem Flow) (SP X pins D) X.xe s4) X.xe { s' with heap := h3 } := by
      rw [hf]
      refine HandSPX.setFlight_upZ f3 fun h4 hold u4 => wpAny_throw (tk _ _ ?_)
      refine ⟨a, B, sI, pins, σ', G, cls, d, rfl, J, nb', (up.trans u3).trans u4, .inr (.inr ?_), na, os, ag, no rfl⟩
      rw [hs]
      exact hold
    first
      | exact wpAny_bind (wpAny_pure (wpAny_bind out))
      | exact wpAny_bind out
/-! isinstance of a kept error -/
theorem kit_kept {X : Cx} {pins : List (Addr × Obj)} {σ : L2.St} {H : Hp} {s : Shared} {a D : Addr} (I : Inv X pins σ H s) (C : ExcC X.K D) (e : H a = some (ExK (.ref D) none a)) : ∃ P : Heap → Prop, PySem.W.KitX X.K (.ref a) (.ref D) P ∧ P s.heap := by
  obtain ⟨⟨oe, vs, hg, hz, hd⟩, _, _⟩ := (show ObjOk X.prog X.w H s.heap a (ExK (.ref D) none a) from I.hok a _ e)
  have J : PySem.W.InstAt s.heap a oe D none := by
    obtain ⟨c1, c2, c3, c4⟩ := oe
    obtain ⟨z1, z2⟩ := hz
    dsimp only at z1 z2 hd
    subst z1 z2 hd
    exact ⟨hg, rfl, rfl, trivial⟩
  exact ⟨_, PySem.W.handS_kitx_exc C.hg C.hk C.hs C.hd C.ha C.hn C.ht C.hm, J⟩
def rIsK (K : PySem.W.Frag) : List V → Hp → VK → Prop := fun xs H Q => ∃ (a D : Addr) (c : V) (u : Value) (b : Bool), xs = [.ref a, c] ∧ H a = some (ExK (.ref D) none a) ∧ ExcC K D ∧ ClsV c u ∧ PySem.W.kitOne K (.ref D) u = some b ∧ Q (.bl b) H
theorem call_isK {X : Cx} : CallR X (.builtin "isinstance") (rIsK X.K) := by
  intro pins s σ H xs us Q I r h
  obtain ⟨a, D, c, u, b, rfl, ha, C, k, e, q⟩ := h
  obtain ⟨u1, u2, rfl, r1, r2⟩ := vals2 r
  cases (show u1 = Value.ref a from r1)
  cases k.eq r2
  obtain ⟨P, Z, p⟩ := kit_kept I C ha
  exact PySem.W.kia_one Z I.kIn p e (fun z => nomatch z) fun tk => ⟨.bl b, H, I.tok tk, rfl, q⟩
def rIsKT (K : PySem.W.Frag) : List V → Hp → VK → Prop := fun xs H Q => ∃ (a D tp : Addr) (cs : List V) (us : List Value) (b : Bool), xs = [.ref a, .ref tp] ∧ H a = some (ExK (.ref D) none a) ∧ ExcC K D ∧ H tp = some (.tup cs) ∧ Paired ClsV cs us ∧ PySem.W.kitAny K (.ref D) us = some b ∧ Q (.bl b) H
theorem call_isKT {X : Cx} : CallR X (.builtin "isinstance") (rIsKT X.K) := by
  intro pins s σ H xs us Q I r h
  obtain ⟨a, D, tp, cs, ws, b, rfl, ha, C, hT, k, e, q⟩ := h
  obtain ⟨u1, u2, rfl, r1, r2⟩ := vals2 r
  cases (show u1 = Value.ref a from r1)
  cases (show u2 = Value.ref tp from r2)
  obtain ⟨P, Z, p⟩ := kit_kept I C ha
  obtain ⟨_, its, rv, o, h1, h2, n, h3⟩ := (show ObjOk X.prog X.w H s.heap tp (.tup cs) from I.hok tp _ hT)
  cases ClsV.all k rv
  obtain ⟨oc, od, dt, sl⟩ := o
  simp only at h2 h3
  subst h2 h3
  exact PySem.W.kia_tup Z I.kIn p h1 e (fun z => nomatch z) fun tk => ⟨.bl b, H, I.tok tk, rfl, q⟩
theorem listK {X : Cx} {K : PySem.W.Frag} {tg e : Expr} {t : TE} (h : X.K = K) (he : PE X e t) : PI X tg e (iList K t) := by
  subst h
  exact pi_list he
theorem inK {X : Cx} {K : PySem.W.Frag} (h : X.K = K) : OpR X (compareOp .In) (rIn K false) := by
  subst h
  exact op_in_seq
theorem elt_and {X : Cx} {P : Addr} {scope : Scope} {xa xb : Str} {p1 p2 p3 : Pos} (hk : scope.kind = .function) (l1 : scope.names.lookup xa = some .local) (l2 : scope.names.lookup xb = some .local)
    (n1 : (xa == ("__debug__" : Str)) = false := by decide) (n2 : (xb == ("__debug__" : Str)) = false := by decide) :
    PElt2 X P scope xa xb (.BinOp (.Name xa p1) .BitAnd (.Name xb p2) p3) (fun x y z => ∃ i j : Int, x = .int i ∧ y = .int j ∧ z = .int (Builtin.bitAnd i j)) := by
  refine ⟨fun pins s0 σ H I tg cenv B E2 s2 m2 v1 v2 y u1 u2 g r1 r2 te hma hmb => ?_⟩
  obtain ⟨i, j, rfl, rfl, rfl⟩ := te
  obtain ⟨t1, rfl⟩ := (show ∃ t, u1 = Value.int i t from r1)
  obtain ⟨t2, rfl⟩ := (show ∃ t, u2 = Value.int j t from r2)
  refine wpAny_BinOp (ig_local g hk l1 hma (GxR.keeps_refl s2) ?_ n1)
  refine ig_local g hk l2 hmb (GxR.keeps_refl s2) ?_ n2
  exact and_int ⟨⟨_, rfl⟩, GxR.keeps_tok s2 _⟩
theorem elt_or {X : Cx} {P : Addr} {scope : Scope} {xa xb : Str} {p1 p2 p3 : Pos} (hk : scope.kind = .function) (l1 : scope.names.lookup xa = some .local) (l2 : scope.names.lookup xb = some .local)
    (n1 : (xa == ("__debug__" : Str)) = false := by decide) (n2 : (xb == ("__debug__" : Str)) = false := by decide) :
    PElt2 X P scope xa xb (.BinOp (.Name xa p1) .BitOr (.Name xb p2) p3) (fun x y z => ∃ i j : Int, x = .int i ∧ y = .int j ∧ z = .int (Builtin.bitOr i j)) := by
  refine ⟨fun pins s0 σ H I tg cenv B E2 s2 m2 v1 v2 y u1 u2 g r1 r2 te hma hmb => ?_⟩
  obtain ⟨i, j, rfl, rfl, rfl⟩ := te
  obtain ⟨t1, rfl⟩ := (show ∃ t, u1 = Value.int i t from r1)
  obtain ⟨t2, rfl⟩ := (show ∃ t, u2 = Value.int j t from r2)
  refine wpAny_BinOp (ig_local g hk l1 hma (GxR.keeps_refl s2) ?_ n1)
  refine ig_local g hk l2 hmb (GxR.keeps_refl s2) ?_ n2
  exact or_int ⟨⟨_, rfl⟩, GxR.keeps_tok s2 _⟩
theorem elt_xor {X : Cx} {P : Addr} {scope : Scope} {xa xb : Str} {p1 p2 p3 : Pos} (hk : scope.kind = .function) (l1 : scope.names.lookup xa = some .local) (l2 : scope.names.lookup xb = some .local)
    (n1 : (xa == ("__debug__" : Str)) = false := by decide) (n2 : (xb == ("__debug__" : Str)) = false := by decide) :
    PElt2 X P scope xa xb (.BinOp (.Name xa p1) .BitXor (.Name xb p2) p3) (fun x y z => ∃ i j : Int, x = .int i ∧ y = .int j ∧ z = .int (Builtin.bitXor i j)) := by
  refine ⟨fun pins s0 σ H I tg cenv B E2 s2 m2 v1 v2 y u1 u2 g r1 r2 te hma hmb => ?_⟩
  obtain ⟨i, j, rfl, rfl, rfl⟩ := te
  obtain ⟨t1, rfl⟩ := (show ∃ t, u1 = Value.int i t from r1)
  obtain ⟨t2, rfl⟩ := (show ∃ t, u2 = Value.int j t from r2)
  refine wpAny_BinOp (ig_local g hk l1 hma (GxR.keeps_refl s2) ?_ n1)
  refine ig_local g hk l2 hmb (GxR.keeps_refl s2) ?_ n2
  exact xor_int ⟨⟨_, rfl⟩, GxR.keeps_tok s2 _⟩
/-! set(xs) of a list of numbers, with all that sorted() asks of it -/
abbrev noSet (w : World) : Obj := { cls := .type "set", dict := none, data := .set #[] 0 (.fresh 0 0 (!w.params.followText "set-order")) }
section
variable {P : Program} {w : World} {A : Around} {E : Value → Shared → Prop} {s : Shared}
theorem two_off {z l b : Nat} {h : Heap} {o : Obj} (hz : h.objs.size = z) (hb : b < z) : b ∉ [z, (h.push o).objs.size] := by
  rw [Heap.size_push, hz]
  intro hm
  rcases List.mem_cons.mp hm with e | hm
  · omega
  · have := List.mem_singleton.mp hm
    omega
set_option maxRecDepth 100000 in
set_option maxHeartbeats 3200000 in
theorem set_of_list {l : Addr} {xs : Array Value} (ns : List Int) {Q : Value → Shared → Prop} (hA : A.handled = none) (hl : s.heap.IsList l xs) (hi : IntsAre xs.toList ns) (hn : ns.length + 1 < scanBound)
    (fin : ∀ (h' : Heap) (tk c : Nat), SetR w h' s.heap.objs.size (fun j => decide (j ∈ ns)) c → c ≤ ns.length → (∀ b o, s.heap.get? b = some o → h'.get? b = some o) → Q (.ref s.heap.objs.size) { s with heap := h', toks := tk }) :
    wpAny (model P w) A (call (.type "set") [.ref l]) Q E s := by
  have size_eq : xs.size = ns.length := by
    have e := IntsAre.length hi
    rw [Array.length_toList] at e
    exact e
  obtain ⟨c₀, rest, mro₀⟩ := PySem.F.called_set.mro
  have made₀ := PySem.F.called_set.made
  have sub₀ := PySem.F.called_set.sub
  refine wpAny_call (codeAny_of_tree ?_)
  show wpAny _ _ (callAny (.type "set") _) _ _ _
  refine wpAny_pure ⟨Code.quiet_builtin _ (by decide +kernel), codeAny_builtin PySem.F.entry_type_call ?_⟩
  rw [Around.under_plain (weight_type_call_type "set" [.ref l] []) rfl]
  have nt₀ := PySem.F.called_set.notType
  have cc₀ := PySem.F.called_set.canCreate
  have tc₀ := PySem.F.typeCall_set_1 (.ref l)
  repeat (any_goals (first | assumption | wp_step))
  refine codeAny_mono (code_set_led1 (.ref l) (E := E) (Q₁ := fun obj t₁ => obj = .ref s.heap.objs.size ∧ t₁ = { s with heap := s.heap.push (noSet w) }) ⟨rfl, rfl⟩) fun r t₁ out => ?_
  cases r with
  | error e => exact out
  | ok fl =>
    cases fl with
    | ret obj =>
      obtain ⟨rfl, rfl⟩ := out
      have at₀ : (s.heap.push (noSet w)).get? s.heap.objs.size = some (noSet w) := Heap.get?_push_size _ rfl
      have ty₀ : Shared.TypeIs { s with heap := s.heap.push (noSet w) } (.ref s.heap.objs.size) "set" := ⟨_, at₀, rfl⟩
      have lk₀ := PySem.F.called_set.init.lookup
      have bd₀ := PySem.F.called_set.init.bind (.ref s.heap.objs.size)
      repeat (any_goals (first | assumption | wp_step))
      refine codeAny_mono (codeAny_call_builtin (R := wants (fun r t₂ => r = .none ∧ ∃ h' tk c, t₂ = { s with heap := h', toks := tk } ∧ SetR w h' s.heap.objs.size (fun j => decide (j ∈ ns)) c ∧ c ≤ ns.length ∧ (∀ b o, s.heap.get? b = some o → h'.get? b = some o)) E)
        PySem.F.called_set.init.plain PySem.F.entry_set_init (check_set_init_1 ty₀ ?_)) fun r₂ t₂ out₂ => ?_
      · obtain ⟨⟨kc, kd, kt, ks⟩, gl, cl, nl, dl⟩ := hl
        simp only at cl dl
        subst cl
        subst dl
        have lS : l < s.heap.objs.size := Heap.lt_size gl
        have gl' : (s.heap.push (noSet w)).get? l = some { cls := .type "list", dict := kd, data := .seq xs nl, slots := ks } := Heap.get?_push_of_some _ gl
        have no1 := PySem.F.sub_list_set
        have no2 := PySem.F.sub_list_frozenset
        have no3 : (Value.type "list" == Value.type "dict") = false := by decide
        have il : (s.heap.push (noSet w)).IsList l xs := ⟨_, gl', rfl, nl, rfl⟩
        unfold Builtin.«set.__init__» noKeywords Builtin.Frozenset.updateFrom
        generalize hPI : pyIter = PI
        wp_walk
        subst hPI
        refine wpAny_pyIter_list il (wpAny_bind (wpAny_runValue ?_))
        have hA3 : A.in1.in1.in1.handled = none := by simp [hA]
        have lI : l ≠ (s.heap.push (noSet w)).objs.size := by
          rw [Heap.size_push]
          exact Nat.ne_of_lt (Nat.lt_succ_of_lt lS)
        have offS : s.heap.objs.size ∉ [(s.heap.push (noSet w)).objs.size, l] := by
          rw [Heap.size_push]
          intro hm
          rcases List.mem_cons.mp hm with e | hm
          · exact absurd e (Nat.ne_of_lt (Nat.lt_succ_self _))
          · exact absurd (List.mem_singleton.mp hm) (Nat.ne_of_gt lS)
        have vals : ∀ (i : Nat) (v : Value), xs[i]? = some v → ∃ k t, ns[i]? = some k ∧ v = .int k t := fun i v hv => by
          have lt : i < ns.length := by
            rw [← size_eq]
            exact (Array.getElem?_eq_some_iff.mp hv).1
          obtain ⟨t, e⟩ := IntsAre.int_at hi i v (by rw [Array.getElem?_toList]; exact hv)
          exact ⟨ns.getD i 0, t, getD_at lt, e⟩
        refine set_update_ints ((Walks.list hA3 _ l lI xs).toS) s.heap.objs.size offS ns size_eq hn vals (xs.size - 0) 0 _ (by omega) (Nat.zero_le _) ⟨⟨_, Heap.get?_push_size _ rfl, rfl, rfl⟩, (il.push _)⟩
          ⟨0, Nat.le_refl 0, setR_new_at (Heap.get?_push_of_some _ at₀)⟩ fun t' c' moved small R' => ?_
        obtain ⟨h', g', d', tk', os'⟩ := t'
        have e1 : g' = s.gens := moved.gens
        have e2 : d' = s.drawn := moved.drawn
        have e3 : os' = s.os := moved.os
        subst e1
        subst e2
        subst e3
        show wpAny _ _ _ _ _ _
        refine wpAny_pure ?_
        show wpAny _ _ (ret Value.none) _ _ _
        rw [size_eq] at small
        exact wpAny_pure ⟨rfl, h', tk', c', rfl, R', small, fun b o e => moved.heap b o (two_off (l := l) rfl (Heap.lt_size e)) (Heap.get?_push_of_some _ (Heap.get?_push_of_some _ e))⟩
      · cases r₂ with
        | error e => exact out₂
        | ok fl₂ =>
          cases fl₂ with
          | ret r =>
            obtain ⟨rfl, h', tk, c', rfl, R', small, kept⟩ := out₂
            repeat (any_goals (first | assumption | wp_step))
            exact fin _ _ _ R' small kept
          | _ => exact out₂.elim
    | _ => exact out.elim
end
def rSetL (K : PySem.W.Frag) (w : World) : List V → Hp → VK → Prop := fun vs H Q => ∃ (l : Addr) (ns : List Int), vs = [V.ref l] ∧ SqL K H l (ns.map V.int) ∧ ns.length ≤ 1000 ∧ ∀ (p : Addr) (c : Nat), H p = none → c ≤ ns.length → Q (.ref p) (upd H p (SetO w p (fun j => decide (j ∈ ns)) c))
theorem cr_setL {X : Cx} (hc : X.calm = true) : CallR X (.type "set") (rSetL X.K X.w) := by
  intro pins s σ H xs us Q I r h
  obtain ⟨l, ns, rfl, hq, hl, q⟩ := h
  rw [Vals.ref1 r]
  obtain ⟨its, rv, pl, _⟩ := I.list hq
  refine set_of_list ns (I.ok.hd hc) pl.isList (by simpa using intsAre_of rv) (by unfold scanBound; omega) fun h' tk c R small kept => ?_
  exact ⟨.ref _, upd H s.heap.objs.size (SetO X.w s.heap.objs.size (fun j => decide (j ∈ ns)) c), I.laid (t' := tk) kept (Nat.le_refl _) (setO_new R), rfl, q _ c (I.hok.fresh (Nat.le_refl _)) small⟩
theorem setLW {X : Cx} {K : PySem.W.Frag} {w : World} (hK : X.K = K) (hw : X.w = w) (hc : X.calm = true) : CallR X (.type "set") (rSetL K w) := by
  subst hK hw
  exact cr_setL hc
theorem sortedW {X : Cx} {w : World} (hw : X.w = w) (hc : X.calm = true) : CallR X (.builtin "sorted") (rSortedSet w) := by
  subst hw
  exact cr_sortedSet hc
/-! len({len(row) for row in rows}) -/
def cnt (ls : List Int) : Nat := (ls.foldl (fun (st : List Int × Nat) k => (st.1 ++ [k], if k ∈ st.1 then st.2 else st.2 + 1)) ([], 0)).2
theorem cnt_fst (ls : List Int) : ∀ (a : List Int) (n : Nat), (ls.foldl (fun (st : List Int × Nat) k => (st.1 ++ [k], if k ∈ st.1 then st.2 else st.2 + 1)) (a, n)).1 = a ++ ls := by
  induction ls with
  | nil => intro a n; rw [List.append_nil]; rfl
  | cons x r ih =>
    intro a n
    rw [List.foldl_cons, ih, List.append_assoc]
    rfl
theorem cnt_snoc (ls : List Int) (k : Int) : cnt (ls ++ [k]) = if k ∈ ls then cnt ls else cnt ls + 1 := by
  unfold cnt
  rw [List.foldl_append]
  show (if k ∈ (ls.foldl _ ([], 0)).1 then _ else _) = _
  rw [cnt_fst]
  rfl
theorem cnt_le (ls : List Int) : cnt ls ≤ ls.length := by
  rw [← List.reverse_reverse ls]
  induction ls.reverse with
  | nil => exact Nat.le_refl 0
  | cons x r ih =>
    rw [List.reverse_cons, cnt_snoc, List.length_append]
    split
    · exact Nat.le_trans ih (Nat.le_add_right _ _)
    · exact Nat.succ_le_succ ih
theorem lenB : bootBuiltins "len" = some (.builtin "len") := PySem.boot_len
theorem pe_lenSC {X : Cx} {i : Nat} {x r : Str} {scope : Scope} {p1 p2 p3 p4 p5 p6 p7 p8 : Pos} (hgl : Gl X "len") (hm : X.mg "len" = none) (hc : X.calm = true) (hN : X.N[i]? = some r) (hv : Vis X.env.scope r) (hk : scope.kind = .function)
    (hcell : ∀ y ∈ scope.names, y.2 ≠ .cell) (hnm : ∀ y ∈ scope.names, y.2 = .local → scope.names.lookup y.1 = some .local) (hfr : ∀ y ∈ scope.names, y.2 ≠ .free) (hx : scope.names.lookup x = some .local) (hl : (relabel scope X.env).names.lookup ("len" : Str) = some .globalImplicit)
    (hd : (x == ("__debug__" : Str)) = false := by decide) (hd2 : (r == ("__debug__" : Str)) = false := by decide) (hd3 : (r == ("__classdict__" : Str)) = false := by decide)
    (he : starEach [.SetComp (.Call (.Name "len" p2) [.Name x p3] [] p4) [⟨.Name x p5, .Name r p6, [], 0⟩] scope p7] X.env = (false, eval (.SetComp (.Call (.Name "len" p2) [.Name x p3] [] p4) [⟨.Name x p5, .Name r p6, [], 0⟩] scope p7) X.env) :: starEach [] X.env := by rfl) :
    PE X (.Call (.Name "len" p1) [.SetComp (.Call (.Name "len" p2) [.Name x p3] [] p4) [⟨.Name x p5, .Name r p6, [], 0⟩] scope p7] [] p8)
      (fun σ H Q => ∃ (l : Addr) (as : List (Addr × List V)), σ[i]? = some (some (.ref l)) ∧ H l = some (.lst (as.map fun q => V.ref q.1)) ∧ as.length ≤ 8 ∧ (∀ q ∈ as, H q.1 = some (.tup q.2)) ∧ Q (.int ((cnt (as.map fun q => ((q.2.length : Nat) : Int)) : Nat))) H) := by
  refine ⟨fun pins s σ H Q I h => ?_⟩
  obtain ⟨l, as, hσ, hH, hln, hts, q⟩ := h
  have hh := I.ok.hd hc
  have hsl : sizeLine = 16777216 := by decide
  have hsb : 100 < scanBound := by decide
  refine wpAny_Call_Name_kw (ld_blt I hgl hm lenB ?_)
  refine PyProof.Rows.callWith_builtin1 ?_ he (by rfl)
  rw [he]
  show wpAny _ _ (spliced ((false, eval (.SetComp (.Call (.Name "len" p2) [.Name x p3] [] p4) [⟨.Name x p5, .Name r p6, [], 0⟩] scope p7) X.env) :: backTo p8 (starEach [] X.env))) _ _ s
  refine Calls.spliced_cons (SetComp_goes (closure_ok fun y hy e => absurd e (hfr y hy)) hcell hk hnm ?_ (by intro _; rfl))
  refine thn ((pe_var (pos := p6) hN hv hd2 hd3).run pins s σ H (fun v H1 => v = .ref l ∧ H1 = H) I ⟨_, hσ, rfl, rfl⟩) fun xv s1 ⟨v, H1, I1, r1, e1, e2⟩ => ?_
  subst e1 e2
  obtain rfl : xv = Value.ref l := r1
  obtain ⟨its, rv, pl, _⟩ := I1.list (show SqL X.K H1 l _ from .inl (.inl hH))
  have hIL := pl.isList
  have hlt : l < s1.heap.objs.size := by
    obtain ⟨o, ho, _⟩ := hIL
    exact Heap.lt_size ho
  refine wpAny_pyIter_list hIL ?_
  generalize hs2 : ({ s1 with heap := s1.heap.push { cls := .type "list_iterator", data := .fields #[.ref l, .int 0 0] } } : Shared) = s2
  have k12 : ∀ b o, s1.heap.get? b = some o → s2.heap.get? b = some o := fun b o e => by
    rw [← hs2]
    exact Heap.get?_push_of_some _ e
  have hit : s2.heap.IsListIter s1.heap.objs.size l 0 := by
    rw [← hs2]
    exact ⟨_, Heap.get?_push_size _ rfl, rfl, rfl⟩
  have z2 : s2.heap.objs.size = s1.heap.objs.size + 1 := by
    rw [← hs2]
    exact Heap.size_push ..
  have os2 : s2.os = s1.os ∧ s2.gens = s1.gens ∧ s2.drawn = s1.drawn := by
    rw [← hs2]
    exact ⟨rfl, rfl, rfl⟩
  have len : its.length = as.length := by rw [← rv.length, List.length_map]
  refine ⟨s1.heap.objs.size, _, _, _, _, _, rfl, Goes.list hh s1.heap.objs.size l (Nat.ne_of_lt hlt) its.toArray, ⟨hit, hIL.at fun o e => k12 _ o e⟩, fun D C s3 hB hD => ?_⟩
  obtain ⟨⟨h3, tk3, rfl⟩, old, nD, nC, hDC, hns⟩ := hB
  let ls : List Int := as.map fun q => ((q.2.length : Nat) : Int)
  have hls : ls.length = as.length := List.length_map ..
  have ltD : s1.heap.objs.size < D := by
    have h9 : s2.heap.objs.size ≤ D := nD
    exact Nat.lt_of_lt_of_le (by rw [z2]; exact Nat.lt_succ_self _) h9
  have ltC : s1.heap.objs.size < C := by
    have h9 : s2.heap.objs.size ≤ C := nC
    exact Nat.lt_of_lt_of_le (by rw [z2]; exact Nat.lt_succ_self _) h9
  refine ⟨fun i s' => ∃ h' tk m, s' = { s2 with heap := h', toks := tk } ∧ h'.Ns C m ∧ SetR X.w h' D (fun k => decide (k ∈ ls.take i)) (cnt (ls.take i)) ∧ ∀ b o, s1.heap.get? b = some o → h'.get? b = some o, ⟨h3, tk3, _, rfl, hns, ?_, fun b o e => old b o (k12 b o e)⟩, ?_, ?_, ?_⟩
  · refine ⟨_, #[], 0, _, hD, ⟨rfl, rfl, rfl⟩, rfl, (fun e he => by simp at he), (by simp), (fun k => by simp), (by decide), (by rfl), rfl, List.Pairwise.nil, ?_⟩
    show _ ∨ (!X.w.params.followText "set-order") = true
    cases X.w.params.followText "set-order" with
    | false => exact .inr rfl
    | true => exact .inl rfl
  · rintro i s' h' tk ⟨h4, tk4, m, rfl, n4, R4, k4⟩ hk' _
    have off : ∀ b : Addr, b ≠ s1.heap.objs.size → b ∉ [s1.heap.objs.size] := fun b hb hm => hb (List.mem_singleton.mp hm)
    exact ⟨h', tk, m, rfl, n4.at' fun o e => hk' _ o (off _ (Nat.ne_of_gt ltC)) e, R4.at fun o e => hk' _ o (off _ (Nat.ne_of_gt ltD)) e, fun b o e => hk' b o (off _ (Nat.ne_of_lt (Heap.lt_size e))) (k4 b o e)⟩
  · rintro i v s' hi hv st ⟨h4, tk4, m, rfl, n4, R4, k4⟩
    have hv2 : its[i]? = some v := by simpa using hv
    have hi2 : i < as.length := by
      have := (List.getElem?_eq_some_iff.mp hv2).1
      omega
    have ga : (as.map fun q => V.ref q.1)[i]? = some (V.ref as[i].1) := by
      rw [List.getElem?_map, List.getElem?_eq_getElem hi2]
      rfl
    obtain ⟨u, hu, ru⟩ := rv.get ga
    rw [hv2] at hu
    cases hu
    obtain rfl : v = Value.ref as[i].1 := ru
    have hti := hts as[i] (List.getElem_mem hi2)
    obtain ⟨its2, rv2, it2, hz2⟩ := I1.tuple (show SqT X.K H1 as[i].1 _ from .inl (.inl hti))
    have hkx : (compEnvC scope (cloFrom X.env.cells scope.names []) C X.env).kindOf x = some .local := lookup_relabel_local hx
    have hp : ((compEnvC scope (cloFrom X.env.cells scope.names []) C X.env).scope.kind == .class || ((compEnvC scope (cloFrom X.env.cells scope.names []) C X.env).scope.kind == .module && (compEnvC scope (cloFrom X.env.cells scope.names []) C X.env).locals != (compEnvC scope (cloFrom X.env.cells scope.names []) C X.env).globals)) = false := by
      show (scope.kind == .class || (scope.kind == .module && _)) = false
      rw [hk]
      rfl
    refine wpAny_assign_Name (wpAny_storeName_local hkx n4 (fun h5 n5 s5 => ?_) hp)
    have k5 : ∀ b o, b ≠ C → h4.get? b = some o → h5.get? b = some o := fun b o hb e => (s5.2 b hb).trans e
    have k15 : ∀ b o, s1.heap.get? b = some o → h5.get? b = some o := fun b o e => k5 b o (Nat.ne_of_lt (Nat.lt_trans (Heap.lt_size e) ltC)) (k4 b o e)
    refine wpAny_tests_nil ?_
    rw [if_pos rfl]
    obtain ⟨mb, b1, b2⟩ := I1.mod.blt
    have up : ∀ {a : Addr} {m : Str → Option Value}, X.base.Ns a m → h5.Ns a m := fun n => (n.keeps I1.bk).keeps k15
    refine wpAny_Call_Name_kw (Calls.Name_function_global hk hl (Calls.loadGlobal_builtin (show h5.Ns X.env.globals X.mg by rw [I1.ok.glob]; exact up I1.mod.glob) hm (show h5.Ns X.env.builtins mb by rw [I1.ok.blt]; exact up b1) ((b2 "len" (by decide)).trans lenB) ?_))
    refine PyProof.Rows.callWith_builtin1 ?_ rfl rfl
    refine Calls.spliced_cons (wpAny_Name (wpAny_loadName_local hk hkx n5 (by rw [if_pos rfl]) ?_) hd)
    refine Calls.spliced_nil ?_
    obtain ⟨ot, hot, rest⟩ := it2
    refine len_tuple (items := its2.toArray) ⟨ot, k15 _ _ hot, rest⟩ (by simp only [List.size_toArray]; have := rv2.length; omega) ?_
    have R5 : SetR X.w h5 D (fun k => decide (k ∈ ls.take i)) (cnt (ls.take i)) := R4.at fun o e => k5 _ o hDC e
    have gl : ls[i]? = some ((its2.toArray.size : Nat) : Int) := by
      show (as.map _)[i]? = _
      rw [List.getElem?_map, List.getElem?_eq_getElem hi2, List.size_toArray, ← rv2.length]
      rfl
    refine setR_add R5 ?_ fun h6 sb6 new => ?_
    · have := cnt_le (ls.take i)
      rw [List.length_take] at this
      omega
    · have tk1 : ls.take (i + 1) = ls.take i ++ [((its2.toArray.size : Nat) : Int)] := by
        rw [List.take_add_one, gl]
        rfl
      have k6 : ∀ b o, b ≠ D → h5.get? b = some o → h6.get? b = some o := fun b o hb e => (sb6.2 b hb).trans e
      refine ⟨⟨h6, _, _, rfl, n5.at' fun o e => k6 _ o (Ne.symm hDC) e, ?_, fun b o e => k6 b o (Nat.ne_of_lt (Nat.lt_trans (Heap.lt_size e) ltD)) (k15 b o e)⟩, ?_⟩
      · rw [tk1, cnt_snoc]
        have e1 : (if decide (((its2.toArray.size : Nat) : Int) ∈ ls.take i) = true then cnt (ls.take i) else cnt (ls.take i) + 1) = (if ((its2.toArray.size : Nat) : Int) ∈ ls.take i then cnt (ls.take i) else cnt (ls.take i) + 1) := by
          by_cases z : ((its2.toArray.size : Nat) : Int) ∈ ls.take i
          · rw [if_pos z, if_pos (decide_eq_true z)]
          · rw [if_neg z, if_neg (fun y => z (of_decide_eq_true y))]
        rw [← e1]
        refine new.congr fun k => ?_
        rw [Bool.eq_iff_iff]
        simp
      · have a1 : s1.heap.objs.size ≠ C := Nat.ne_of_lt ltC
        have a2 : s1.heap.objs.size ≠ D := Nat.ne_of_lt ltD
        have a3 : l ≠ C := Nat.ne_of_lt (Nat.lt_trans hlt ltC)
        have a4 : l ≠ D := Nat.ne_of_lt (Nat.lt_trans hlt ltD)
        exact ⟨st.1.at fun o e => k6 _ o a2 (k5 _ o a1 e), st.2.at fun o e => k6 _ o a4 (k5 _ o a3 e)⟩
  · rintro s' ⟨h4, tk4, m, rfl, n4, R4, k4⟩
    refine ⟨m, n4, fun h5 sb => ?_⟩
    refine Calls.spliced_nil ?_
    have k5 : ∀ b o, b ≠ C → h4.get? b = some o → h5.get? b = some o := fun b o hb e => (sb.2 b hb).trans e
    obtain ⟨o, es, ep, t, ho, hx9, hd9, _, _, _, hb9, hf9, hn9, _⟩ := R4
    have el : ls.take its.toArray.size = ls := List.take_of_length_le (by rw [List.size_toArray, len, hls]; exact Nat.le_refl _)
    rw [el] at hn9
    have sm := cnt_le ls
    refine call_len_set (k5 _ _ hDC ho) hx9 hd9 hf9 (by omega) ?_
    subst hs2
    refine ⟨.int _, H1, I1.kept fun b u e => k5 b u (Nat.ne_of_lt (Nat.lt_trans (Heap.lt_size e) ltC)) (k4 b u e), ⟨tk4 + 1, by rw [hn9]⟩, q⟩
def sp_ones (_ : PySem.W.Frag) : Sp := fun vs H Q _ => ∃ (a : Addr) (rs : List Int), vs = [.ref a] ∧ H a = some (.tup (rs.map V.int)) ∧ Q (.int rs.sum) H
theorem s_len {n : Nat} (h : n ≤ 100000) : S 4000 (n : Int) := S.mono (n := 20) (show ((n : Int)).natAbs < 2 ^ 20 by omega) (by decide)
/-! the program -/
theorem cnt_same {ls : List Int} {c : Int} (h : ∀ x, x ∈ ls → x = c) (hne : ls ≠ []) : cnt ls = 1 := by
  have aux : ∀ (rs : List Int), (∀ x, x ∈ rs → x = c) → rs ≠ [] → cnt rs.reverse = 1 := by
    intro rs
    induction rs with
    | nil => intro _ z; exact absurd rfl z
    | cons x r ih =>
      intro hr _
      rw [List.reverse_cons, cnt_snoc]
      by_cases z : r = []
      · subst z
        rfl
      · have hx : x = c := hr x List.mem_cons_self
        have h1 : ∀ y, y ∈ r → y = c := fun y hy => hr y (List.mem_cons_of_mem _ hy)
        obtain ⟨y, t, e⟩ : ∃ y t, r = y :: t := by
          cases r with
          | nil => exact absurd rfl z
          | cons y t => exact ⟨y, t, rfl⟩
        have hm : x ∈ r.reverse := by
          rw [List.mem_reverse, e, hx, ← h1 y (by rw [e]; exact List.mem_cons_self)]
          exact List.mem_cons_self
        rw [if_pos hm]
        exact ih h1 z
  have := aux ls.reverse (fun x hx => h x (List.mem_reverse.mp hx)) (fun z => hne (List.reverse_eq_nil_iff.mp z))
  rw [List.reverse_reverse] at this
  exact this
def sp_refuse_unlike {K : PySem.W.Frag} {mg : Str → Option Value} (_ : Defs K mg) : Sp := fun vs H Q _ => ∃ (l : Addr) (as : List (Addr × List V)) (n : Nat), vs = [.ref l] ∧ H l = some (.lst (as.map fun q => V.ref q.1)) ∧ as.length ≤ 8 ∧ as ≠ [] ∧ (∀ q ∈ as, H q.1 = some (.tup q.2)) ∧ (∀ q ∈ as, q.2.length = n) ∧ Q .non H
theorem ok_refuse_unlike (T : Defs K mg) (TT : Tabs T base) : FnOk P w K mg base (L2.CX P w) 1 T.f_refuse_unlike T.fd_refuse_unlike ["rows"] (sp_refuse_unlike T) := by
  refine okX T.F_refuse_unlike sc_refuse_unlike (fun vs H Q E h => ?_) (fun cdv A outer s H vs Q E hr h => ?_)
  · obtain ⟨l, as, n, rfl, hl, hn, hne, hts, heq, q⟩ := h
    rfl
  · obtain ⟨l, as, n, rfl, hl, hn, hne, hts, heq, q⟩ := h
    refine ⟨_, (pss_one (ps_if (pt_cmpR op_gt (pe_lenSC (i := 0) (by rfl) T.m_len rfl rfl (.inl rfl) rfl (by decide +kernel) (by decide +kernel) (by decide +kernel) rfl rfl) pe_int (nomark _)) (pss_one (ps_raise rfl (takes_of (E := E) rfl rfl rfl rfl) (pmk_own PySem.F.excBase_ValueError T.xi_Unlike T.g_Unlike T.xk_Unlike (raises_own T.xs_Unlike T.xt_Unlike) (by rfl)))) pss_nil)), ?_⟩
    refine ⟨l, as, rfl, hl, hn, hts, _, _, rfl, rfl, _, rfl, ?_⟩
    rw [cnt_same (c := (n : Int)) (fun x hx => by
      obtain ⟨p, hp, rfl⟩ := List.mem_map.mp hx
      rw [heq p hp]) (fun z => hne (List.map_eq_nil_iff.mp z))]
    exact iteF q
theorem and_bits {x y : Int} (hx : x = 0 ∨ x = 1) (hy : y = 0 ∨ y = 1) : Builtin.bitAnd x y = x * y := by
  rcases hx with rfl | rfl <;> rcases hy with rfl | rfl <;> decide
def sp_both {K : PySem.W.Frag} {mg : Str → Option Value} (T : Defs K mg) : Sp := fun vs H Q _ => ∃ (a b : Addr) (rs ss : List Int), vs = [.ref a, .ref b] ∧ H a = some (.tup (rs.map V.int)) ∧ H b = some (.tup (ss.map V.int)) ∧ rs.length = ss.length ∧ Bits rs ∧ Bits ss ∧ GxR.TabG H T.P_both ∧
  ∀ H' p, Sam H H' → H p = none → H' p = some (.tup ((List.zipWith (fun x y => x * y) rs ss).map V.int)) → Q (.ref p) H'
theorem ok_both (T : Defs K mg) (TT : Tabs T base) : FnOk P w K mg base CX0 2 T.f_both T.fd_both ["one", "other"] (sp_both T) := by
  have G_refuse_unlike : FnOk P w K mg base (L2.CX P w) 1 T.f_refuse_unlike T.fd_refuse_unlike ["rows"] (sp_refuse_unlike T) := ok_refuse_unlike T TT
  refine okC T.F_both T.k_both sc_both (fun vs H Q E h => ?_) (fun A outer s H vs Q E hr h => ?_)
  · obtain ⟨a, b, rs, ss, rfl, ha, hb, hl, br, bs, tg, q⟩ := h
    rfl
  · obtain ⟨a, b, rs, ss, rfl, ha, hb, hl, br, bs, tg, q⟩ := h
    refine ⟨_, PSs.nox (pss_cons (ps_expr (pe_call G_refuse_unlike (hr.mono (by decide)) (by rfl) T.g_refuse_unlike T.F_refuse_unlike.kp T.b_refuse_unlike .nil passL (pa_cons (pe_lst (pa_cons (pv 0) (pa_cons (pv 1) pa_nil))) pa_nil)))
    (pss_one (ps_ret (pe_tupZ hr (by rfl) T.m_tuple bt_tuple (by rfl) T.m_zip TT.t_both rfl ⟨⟨rfl, rfl, by decide +kernel, rfl, rfl, gs_free rfl⟩, rfl, by decide⟩ (pa_cons (pv 0) (pa_cons (pv 1) pa_nil)) (elt_and rfl rfl rfl) (fun _ => rfl))))), ?_⟩
    refine ⟨.ref a, rfl, .ref b, rfl, (show 2 ≤ sizeLine by decide), fun l nl => ?_⟩
    have s1 : Same H (upd H l (.lst [.ref a, .ref b])) := same_upd nl
    refine ⟨l, [(a, rs.map V.int), (b, ss.map V.int)], rs.length, rfl, upd_same, (show 2 ≤ 8 by decide), by simp, ?_, ?_, ?_⟩
    · intro p hp
      rcases List.mem_cons.mp hp with rfl | hp
      · exact s1 _ _ ha
      · rw [List.mem_singleton.mp hp]
        exact s1 _ _ hb
    · intro p hp
      rcases List.mem_cons.mp hp with rfl | hp
      · exact List.length_map ..
      · rw [List.mem_singleton.mp hp, hl]
        exact List.length_map ..
    have tg1 := (Sam.of s1).tabG tg
    refine ⟨.ref a, rfl, .ref b, rfl, a, b, _, _, rfl, s1 _ _ ha, s1 _ _ hb, by rw [List.length_map, List.length_map, hl], tg1, (List.zipWith (fun x y => x * y) rs ss).map V.int, ?_, ?_, ?_⟩
    · rw [List.length_map, List.length_map, List.length_zipWith]
      omega
    · intro i x y hx hy
      rw [List.getElem?_map] at hx hy
      have hi : i < rs.length := by
        by_cases z : i < rs.length
        · exact z
        · rw [List.getElem?_eq_none (by omega)] at hx
          cases hx
      rw [List.getElem?_eq_getElem hi] at hx
      rw [List.getElem?_eq_getElem (show i < ss.length by omega)] at hy
      cases hx
      cases hy
      refine ⟨.int (rs[i] * ss[i]), ?_, rs[i], ss[i], rfl, rfl, ?_⟩
      · rw [List.getElem?_map, List.getElem?_zipWith, List.getElem?_eq_getElem hi, List.getElem?_eq_getElem (show i < ss.length by omega)]
        rfl
      · rw [and_bits (br _ (List.getElem_mem hi)) (bs _ (List.getElem_mem _))]
    · intro H2 p tb np
      have s2 := Sam.tabbed tg1 tb
      have s3 := (Sam.of s1).trans s2
      exact q _ p (sam_newer s3 (s3.free np)) (s3.free np) upd_same
theorem cnt_pos : ∀ (rs : List Int), rs ≠ [] → 1 ≤ cnt rs.reverse
  | [], h => absurd rfl h
  | x :: r, _ => by
    rw [List.reverse_cons, cnt_snoc]
    by_cases z : x ∈ r.reverse
    · rw [if_pos z]
      exact cnt_pos r fun e => by
        rw [e] at z
        cases z
    · rw [if_neg z]
      omega
theorem cnt_two : ∀ (rs : List Int) (c d : Int), c ∈ rs → d ∈ rs → c ≠ d → 2 ≤ cnt rs.reverse
  | [], _, _, h, _, _ => by cases h
  | x :: r, c, d, hc, hd, hne => by
    rw [List.reverse_cons, cnt_snoc]
    by_cases z : x ∈ r.reverse
    · rw [if_pos z]
      have inn : ∀ y, y ∈ x :: r → y ∈ r := fun y hy => by
        rcases List.mem_cons.mp hy with rfl | hy
        · exact List.mem_reverse.mp z
        · exact hy
      exact cnt_two r c d (inn c hc) (inn d hd) hne
    · rw [if_neg z]
      have hr : r ≠ [] := fun e => by
        subst e
        rw [List.mem_singleton.mp hc, List.mem_singleton.mp hd] at hne
        exact hne rfl
      have := cnt_pos r hr
      omega
theorem cnt_diff {ls : List Int} {c d : Int} (hc : c ∈ ls) (hd : d ∈ ls) (hne : c ≠ d) : 1 < cnt ls := by
  have := cnt_two ls.reverse c d (List.mem_reverse.mpr hc) (List.mem_reverse.mpr hd) hne
  rw [List.reverse_reverse] at this
  omega
def sp_refuse_unlikeX {K : PySem.W.Frag} {mg : Str → Option Value} (T : Defs K mg) : Sp := fun vs H Q E => ∃ (l : Addr) (as : List (Addr × List V)), vs = [.ref l] ∧ H l = some (.lst (as.map fun q => V.ref q.1)) ∧ as.length ≤ 8 ∧ as ≠ [] ∧ (∀ q ∈ as, H q.1 = some (.tup q.2)) ∧
  (((∃ n : Nat, ∀ q ∈ as, q.2.length = n) ∧ Q .non H) ∨ ((∃ p q, p ∈ as ∧ q ∈ as ∧ p.2.length ≠ q.2.length) ∧ E (.ref T.C_Unlike) none H))
theorem ok_refuse_unlikeX (T : Defs K mg) (TT : Tabs T base) : FnOk P w K mg base (L2.CX P w) 1 T.f_refuse_unlike T.fd_refuse_unlike ["rows"] (sp_refuse_unlikeX T) := by
  refine okX T.F_refuse_unlike sc_refuse_unlike (fun vs H Q E h => ?_) (fun cdv A outer s H vs Q E hr h => ?_)
  · obtain ⟨l, as, rfl, hl, hn, hne, hts, h⟩ := h
    rfl
  · obtain ⟨l, as, rfl, hl, hn, hne, hts, h⟩ := h
    refine ⟨_, (pss_one (ps_if (pt_cmpR op_gt (pe_lenSC (i := 0) (by rfl) T.m_len rfl rfl (.inl rfl) rfl (by decide +kernel) (by decide +kernel) (by decide +kernel) rfl rfl) pe_int (nomark _)) (pss_one (ps_raise rfl (takes_of (E := E) rfl rfl rfl rfl) (pmk_own PySem.F.excBase_ValueError T.xi_Unlike T.g_Unlike T.xk_Unlike (raises_own T.xs_Unlike T.xt_Unlike) (by rfl)))) pss_nil)), ?_⟩
    refine ⟨l, as, rfl, hl, hn, hts, _, _, rfl, rfl, _, rfl, ?_⟩
    rcases h with ⟨⟨n, heq⟩, q⟩ | ⟨⟨p1, p2, m1, m2, hd⟩, q⟩
    · rw [cnt_same (c := (n : Int)) (fun x hx => by
        obtain ⟨p, hp, rfl⟩ := List.mem_map.mp hx
        rw [heq p hp]) (fun z => hne (List.map_eq_nil_iff.mp z))]
      exact iteF q
    · have big := cnt_diff (ls := as.map fun q => ((q.2.length : Nat) : Int)) (List.mem_map.mpr ⟨p1, m1, rfl⟩) (List.mem_map.mpr ⟨p2, m2, rfl⟩) (by omega)
      refine ite2 (fun _ => q) (fun z => absurd (decide_eq_true ?_) z)
      show (1 : Int) < _
      omega
def trn (rs : List Int) : List Int := rs.map fun b => 1 - b
/-! rows by their places -/
def rwf (n : Nat) (f : Nat → Int) : List Int := (List.range n).map f
theorem rwf_len (n : Nat) (f : Nat → Int) : (rwf n f).length = n := by
  unfold rwf
  rw [List.length_map, List.length_range]
theorem rwf_get {n i : Nat} (f : Nat → Int) (h : i < n) : (rwf n f)[i]? = some (f i) := by
  unfold rwf
  rw [List.getElem?_map, List.getElem?_range h]
  rfl
theorem rwf_congr {n : Nat} {f g : Nat → Int} (h : ∀ i, i < n → f i = g i) : rwf n f = rwf n g := List.map_congr_left fun i hi => h i (List.mem_range.mp hi)
theorem rwf_self (rs : List Int) : rs = rwf rs.length fun i => rs.getD i 0 := by
  apply List.ext_getElem?
  intro i
  by_cases h : i < rs.length
  · rw [rwf_get _ h, getD_at h]
  · rw [List.getElem?_eq_none (by omega), List.getElem?_eq_none (by rw [rwf_len]; omega)]
theorem rwf_zip (n : Nat) (u : Int → Int → Int) (f g : Nat → Int) : List.zipWith u (rwf n f) (rwf n g) = rwf n fun i => u (f i) (g i) := by
  apply List.ext_getElem?
  intro i
  rw [List.getElem?_zipWith]
  by_cases h : i < n
  · rw [rwf_get _ h, rwf_get _ h, rwf_get _ h]
  · rw [List.getElem?_eq_none (by rw [rwf_len]; omega), List.getElem?_eq_none (l := rwf n fun i => u (f i) (g i)) (by rw [rwf_len]; omega)]
theorem rwf_sum (n : Nat) (f : Nat → Int) : (rwf n f).sum = Sm f n := Sm_map f n
theorem rwf_bits {n : Nat} {f : Nat → Int} (h : ∀ i, i < n → f i = 0 ∨ f i = 1) : Bits (rwf n f) := fun x hx => by
  obtain ⟨i, hi, rfl⟩ := List.mem_map.mp hx
  exact h i (List.mem_range.mp hi)
theorem rwf_dot (n : Nat) (f g : Nat → Int) : dot (rwf n f) (rwf n g) = Sm (fun i => f i * g i) n := by
  unfold dot
  rw [rwf_zip, rwf_sum]
theorem rwf_trn (n : Nat) (f : Nat → Int) : trn (rwf n f) = rwf n fun i => 1 - f i := by
  unfold trn rwf
  rw [List.map_map]
  rfl
theorem Sm_less (f g : Nat → Int) : ∀ n, Sm (fun i => f i - g i) n = Sm f n - Sm g n
  | 0 => rfl
  | n + 1 => by
    show Sm (fun i => f i - g i) n + (f n - g n) = (Sm f n + f n) - (Sm g n + g n)
    rw [Sm_less f g n]
    omega
/-- a row of bits as its bits -/
structure Bt (n : Nat) (f : Nat → Int) : Prop where
  b : ∀ i, i < n → f i = 0 ∨ f i = 1
theorem or_bits {x y : Int} (hx : x = 0 ∨ x = 1) (hy : y = 0 ∨ y = 1) : Builtin.bitOr x y = x + y - x * y := by
  rcases hx with rfl | rfl <;> rcases hy with rfl | rfl <;> decide
def sp_either {K : PySem.W.Frag} {mg : Str → Option Value} (T : Defs K mg) : Sp := fun vs H Q _ => ∃ (a b : Addr) (rs ss : List Int), vs = [.ref a, .ref b] ∧ H a = some (.tup (rs.map V.int)) ∧ H b = some (.tup (ss.map V.int)) ∧ rs.length = ss.length ∧ Bits rs ∧ Bits ss ∧ GxR.TabG H T.P_either ∧
  ∀ H' p, Sam H H' → H p = none → H' p = some (.tup ((List.zipWith (fun x y => x + y - x * y) rs ss).map V.int)) → Q (.ref p) H'
theorem ok_either (T : Defs K mg) (TT : Tabs T base) : FnOk P w K mg base CX0 2 T.f_either T.fd_either ["one", "other"] (sp_either T) := by
  have G_refuse_unlike : FnOk P w K mg base (L2.CX P w) 1 T.f_refuse_unlike T.fd_refuse_unlike ["rows"] (sp_refuse_unlike T) := ok_refuse_unlike T TT
  refine okC T.F_either T.k_either sc_either (fun vs H Q E h => ?_) (fun A outer s H vs Q E hr h => ?_)
  · obtain ⟨a, b, rs, ss, rfl, ha, hb, hl, br, bs, tg, q⟩ := h
    rfl
  · obtain ⟨a, b, rs, ss, rfl, ha, hb, hl, br, bs, tg, q⟩ := h
    refine ⟨_, PSs.nox (pss_cons (ps_expr (pe_call G_refuse_unlike (hr.mono (by decide)) (by rfl) T.g_refuse_unlike T.F_refuse_unlike.kp T.b_refuse_unlike .nil passL (pa_cons (pe_lst (pa_cons (pv 0) (pa_cons (pv 1) pa_nil))) pa_nil)))
    (pss_one (ps_ret (pe_tupZ hr (by rfl) T.m_tuple bt_tuple (by rfl) T.m_zip TT.t_either rfl ⟨⟨rfl, rfl, by decide +kernel, rfl, rfl, gs_free rfl⟩, rfl, by decide⟩ (pa_cons (pv 0) (pa_cons (pv 1) pa_nil)) (elt_or rfl rfl rfl) (fun _ => rfl))))), ?_⟩
    refine ⟨.ref a, rfl, .ref b, rfl, (show 2 ≤ sizeLine by decide), fun l nl => ?_⟩
    have s1 : Same H (upd H l (.lst [.ref a, .ref b])) := same_upd nl
    refine ⟨l, [(a, rs.map V.int), (b, ss.map V.int)], rs.length, rfl, upd_same, (show 2 ≤ 8 by decide), by simp, ?_, ?_, ?_⟩
    · intro p hp
      rcases List.mem_cons.mp hp with rfl | hp
      · exact s1 _ _ ha
      · rw [List.mem_singleton.mp hp]
        exact s1 _ _ hb
    · intro p hp
      rcases List.mem_cons.mp hp with rfl | hp
      · exact List.length_map ..
      · rw [List.mem_singleton.mp hp, hl]
        exact List.length_map ..
    have tg1 := (Sam.of s1).tabG tg
    refine ⟨.ref a, rfl, .ref b, rfl, a, b, _, _, rfl, s1 _ _ ha, s1 _ _ hb, by rw [List.length_map, List.length_map, hl], tg1, (List.zipWith (fun x y => x + y - x * y) rs ss).map V.int, ?_, ?_, ?_⟩
    · rw [List.length_map, List.length_map, List.length_zipWith]
      omega
    · intro i x y hx hy
      rw [List.getElem?_map] at hx hy
      have hi : i < rs.length := by
        by_cases z : i < rs.length
        · exact z
        · rw [List.getElem?_eq_none (by omega)] at hx
          cases hx
      rw [List.getElem?_eq_getElem hi] at hx
      rw [List.getElem?_eq_getElem (show i < ss.length by omega)] at hy
      cases hx
      cases hy
      refine ⟨.int (rs[i] + ss[i] - rs[i] * ss[i]), ?_, rs[i], ss[i], rfl, rfl, ?_⟩
      · rw [List.getElem?_map, List.getElem?_zipWith, List.getElem?_eq_getElem hi, List.getElem?_eq_getElem (show i < ss.length by omega)]
        rfl
      · rw [or_bits (br _ (List.getElem_mem hi)) (bs _ (List.getElem_mem _))]
    · intro H2 p tb np
      have s2 := Sam.tabbed tg1 tb
      have s3 := (Sam.of s1).trans s2
      exact q _ p (sam_newer s3 (s3.free np)) (s3.free np) upd_same
theorem xor_bits {x y : Int} (hx : x = 0 ∨ x = 1) (hy : y = 0 ∨ y = 1) : Builtin.bitXor x y = x + y - 2 * x * y := by
  rcases hx with rfl | rfl <;> rcases hy with rfl | rfl <;> decide
def sp_oneof {K : PySem.W.Frag} {mg : Str → Option Value} (T : Defs K mg) : Sp := fun vs H Q _ => ∃ (a b : Addr) (rs ss : List Int), vs = [.ref a, .ref b] ∧ H a = some (.tup (rs.map V.int)) ∧ H b = some (.tup (ss.map V.int)) ∧ rs.length = ss.length ∧ Bits rs ∧ Bits ss ∧ GxR.TabG H T.P_oneof ∧
  ∀ H' p, Sam H H' → H p = none → H' p = some (.tup ((List.zipWith (fun x y => x + y - 2 * x * y) rs ss).map V.int)) → Q (.ref p) H'
theorem ok_oneof (T : Defs K mg) (TT : Tabs T base) : FnOk P w K mg base CX0 2 T.f_oneof T.fd_oneof ["one", "other"] (sp_oneof T) := by
  have G_refuse_unlike : FnOk P w K mg base (L2.CX P w) 1 T.f_refuse_unlike T.fd_refuse_unlike ["rows"] (sp_refuse_unlike T) := ok_refuse_unlike T TT
  refine okC T.F_oneof T.k_oneof sc_oneof (fun vs H Q E h => ?_) (fun A outer s H vs Q E hr h => ?_)
  · obtain ⟨a, b, rs, ss, rfl, ha, hb, hl, br, bs, tg, q⟩ := h
    rfl
  · obtain ⟨a, b, rs, ss, rfl, ha, hb, hl, br, bs, tg, q⟩ := h
    refine ⟨_, PSs.nox (pss_cons (ps_expr (pe_call G_refuse_unlike (hr.mono (by decide)) (by rfl) T.g_refuse_unlike T.F_refuse_unlike.kp T.b_refuse_unlike .nil passL (pa_cons (pe_lst (pa_cons (pv 0) (pa_cons (pv 1) pa_nil))) pa_nil)))
    (pss_one (ps_ret (pe_tupZ hr (by rfl) T.m_tuple bt_tuple (by rfl) T.m_zip TT.t_oneof rfl ⟨⟨rfl, rfl, by decide +kernel, rfl, rfl, gs_free rfl⟩, rfl, by decide⟩ (pa_cons (pv 0) (pa_cons (pv 1) pa_nil)) (elt_xor rfl rfl rfl) (fun _ => rfl))))), ?_⟩
    refine ⟨.ref a, rfl, .ref b, rfl, (show 2 ≤ sizeLine by decide), fun l nl => ?_⟩
    have s1 : Same H (upd H l (.lst [.ref a, .ref b])) := same_upd nl
    refine ⟨l, [(a, rs.map V.int), (b, ss.map V.int)], rs.length, rfl, upd_same, (show 2 ≤ 8 by decide), by simp, ?_, ?_, ?_⟩
    · intro p hp
      rcases List.mem_cons.mp hp with rfl | hp
      · exact s1 _ _ ha
      · rw [List.mem_singleton.mp hp]
        exact s1 _ _ hb
    · intro p hp
      rcases List.mem_cons.mp hp with rfl | hp
      · exact List.length_map ..
      · rw [List.mem_singleton.mp hp, hl]
        exact List.length_map ..
    have tg1 := (Sam.of s1).tabG tg
    refine ⟨.ref a, rfl, .ref b, rfl, a, b, _, _, rfl, s1 _ _ ha, s1 _ _ hb, by rw [List.length_map, List.length_map, hl], tg1, (List.zipWith (fun x y => x + y - 2 * x * y) rs ss).map V.int, ?_, ?_, ?_⟩
    · rw [List.length_map, List.length_map, List.length_zipWith]
      omega
    · intro i x y hx hy
      rw [List.getElem?_map] at hx hy
      have hi : i < rs.length := by
        by_cases z : i < rs.length
        · exact z
        · rw [List.getElem?_eq_none (by omega)] at hx
          cases hx
      rw [List.getElem?_eq_getElem hi] at hx
      rw [List.getElem?_eq_getElem (show i < ss.length by omega)] at hy
      cases hx
      cases hy
      refine ⟨.int (rs[i] + ss[i] - 2 * rs[i] * ss[i]), ?_, rs[i], ss[i], rfl, rfl, ?_⟩
      · rw [List.getElem?_map, List.getElem?_zipWith, List.getElem?_eq_getElem hi, List.getElem?_eq_getElem (show i < ss.length by omega)]
        rfl
      · rw [xor_bits (br _ (List.getElem_mem hi)) (bs _ (List.getElem_mem _))]
    · intro H2 p tb np
      have s2 := Sam.tabbed tg1 tb
      have s3 := (Sam.of s1).trans s2
      exact q _ p (sam_newer s3 (s3.free np)) (s3.free np) upd_same
def zip3 (u : Int → Int → Int → Int) : List Int → List Int → List Int → List Int
  | x :: xs, y :: ys, z :: zs => u x y z :: zip3 u xs ys zs
  | _, _, _ => []
theorem zip3_len {u : Int → Int → Int → Int} : ∀ {rs ss ts : List Int}, rs.length = ss.length → rs.length = ts.length → (zip3 u rs ss ts).length = rs.length
  | [], _, _, _, _ => rfl
  | x :: xs, y :: ys, z :: zs, h, k => by
    simp only [List.length_cons] at h k
    show (zip3 u xs ys zs).length + 1 = xs.length + 1
    rw [zip3_len (by omega) (by omega)]
  | _ :: _, [], _, h, _ => by cases h
  | _ :: _, _ :: _, [], _, k => by cases k
theorem zip3_get {u : Int → Int → Int → Int} : ∀ {rs ss ts : List Int} {i : Nat} {x y z : Int}, rs[i]? = some x → ss[i]? = some y → ts[i]? = some z → (zip3 u rs ss ts)[i]? = some (u x y z)
  | _ :: _, _ :: _, _ :: _, 0, _, _, _, hx, hy, hz => by
    cases hx
    cases hy
    cases hz
    rfl
  | _ :: xs, _ :: ys, _ :: zs, i + 1, _, _, _, hx, hy, hz => zip3_get (rs := xs) (ss := ys) (ts := zs) (i := i) hx hy hz
  | [], _, _, _, _, _, _, hx, _, _ => by cases hx
  | _ :: _, [], _, _, _, _, _, _, hy, _ => by cases hy
  | _ :: _, _ :: _, [], _, _, _, _, _, _, hz => by cases hz
def pk (i x y : Int) : Int := if i = 1 then x else y
def sp_pick {K : PySem.W.Frag} {mg : Str → Option Value} (T : Defs K mg) : Sp := fun vs H Q _ => ∃ (a b c : Addr) (rs ss ts : List Int), vs = [.ref a, .ref b, .ref c] ∧ H a = some (.tup (rs.map V.int)) ∧ H b = some (.tup (ss.map V.int)) ∧ H c = some (.tup (ts.map V.int)) ∧ rs.length = ss.length ∧ rs.length = ts.length ∧ GxR.TabG H T.P_pick ∧
  ∀ H' p, Sam H H' → H p = none → H' p = some (.tup ((zip3 pk rs ss ts).map V.int)) → Q (.ref p) H'
theorem ok_pick (T : Defs K mg) (TT : Tabs T base) : FnOk P w K mg base CX0 2 T.f_pick T.fd_pick ["by", "one", "other"] (sp_pick T) := by
  have G_refuse_unlike : FnOk P w K mg base (L2.CX P w) 1 T.f_refuse_unlike T.fd_refuse_unlike ["rows"] (sp_refuse_unlike T) := ok_refuse_unlike T TT
  refine okC T.F_pick T.k_pick sc_pick (fun vs H Q E h => ?_) (fun A outer s H vs Q E hr h => ?_)
  · obtain ⟨a, b, c, rs, ss, ts, rfl, ha, hb, hc, hl, hl2, tg, q⟩ := h
    rfl
  · obtain ⟨a, b, c, rs, ss, ts, rfl, ha, hb, hc, hl, hl2, tg, q⟩ := h
    refine ⟨_, PSs.nox (pss_cons (ps_expr (pe_call G_refuse_unlike (hr.mono (by decide)) (by rfl) T.g_refuse_unlike T.F_refuse_unlike.kp T.b_refuse_unlike .nil passL (pa_cons (pe_lst (pa_cons (pv 0) (pa_cons (pv 1) (pa_cons (pv 2) pa_nil)))) pa_nil)))
    (pss_one (ps_ret (pe_tupZ3 hr (by rfl) T.m_tuple bt_tuple (by rfl) T.m_zip TT.t_pick rfl ⟨⟨rfl, rfl, by decide +kernel, rfl, rfl, gs_free rfl⟩, rfl, rfl, by decide, by decide, by decide⟩ (pa_cons (pv 0) (pa_cons (pv 1) (pa_cons (pv 2) pa_nil))) (elt_pick rfl rfl rfl rfl) (fun _ => rfl))))), ?_⟩
    refine ⟨.ref a, rfl, .ref b, rfl, .ref c, rfl, (show 3 ≤ sizeLine by decide), fun l nl => ?_⟩
    have s1 : Same H (upd H l (.lst [.ref a, .ref b, .ref c])) := same_upd nl
    refine ⟨l, [(a, rs.map V.int), (b, ss.map V.int), (c, ts.map V.int)], rs.length, rfl, upd_same, (show 3 ≤ 8 by decide), by simp, ?_, ?_, ?_⟩
    · intro p hp
      simp only [List.mem_cons, List.not_mem_nil, or_false] at hp
      rcases hp with rfl | rfl | rfl
      · exact s1 _ _ ha
      · exact s1 _ _ hb
      · exact s1 _ _ hc
    · intro p hp
      simp only [List.mem_cons, List.not_mem_nil, or_false] at hp
      rcases hp with rfl | rfl | rfl
      · exact List.length_map ..
      · rw [hl]
        exact List.length_map ..
      · rw [hl2]
        exact List.length_map ..
    have tg1 := (Sam.of s1).tabG tg
    refine ⟨.ref a, rfl, .ref b, rfl, .ref c, rfl, a, b, c, _, _, _, rfl, s1 _ _ ha, s1 _ _ hb, s1 _ _ hc, by rw [List.length_map, List.length_map, hl], by rw [List.length_map, List.length_map, hl2], tg1, (zip3 pk rs ss ts).map V.int, ?_, ?_, ?_⟩
    · rw [List.length_map, List.length_map, zip3_len hl hl2]
    · intro i x y z hx hy hz
      rw [List.getElem?_map] at hx hy hz
      obtain ⟨x', ex, rfl⟩ := Option.map_eq_some_iff.mp hx
      obtain ⟨y', ey, rfl⟩ := Option.map_eq_some_iff.mp hy
      obtain ⟨z', ez, rfl⟩ := Option.map_eq_some_iff.mp hz
      refine ⟨.int (pk x' y' z'), ?_, x', rfl, ?_⟩
      · rw [List.getElem?_map, zip3_get ex ey ez]
        rfl
      · unfold pk
        split <;> rfl
    · intro H2 p tb np
      have s2 := Sam.tabbed tg1 tb
      have s3 := (Sam.of s1).trans s2
      exact q _ p (sam_newer s3 (s3.free np)) (s3.free np) upd_same
theorem trn_len (rs : List Int) : (trn rs).length = rs.length := List.length_map ..
def sp_turned {K : PySem.W.Frag} {mg : Str → Option Value} (T : Defs K mg) : Sp := fun vs H Q _ => ∃ (a : Addr) (rs : List Int), vs = [.ref a] ∧ H a = some (.tup (rs.map V.int)) ∧ rs.length ≤ 100000 ∧ GxR.TabG H T.P_turned ∧
  ∀ H' p, Sam H H' → H p = none → H' p = some (.tup ((trn rs).map V.int)) → Q (.ref p) H'
theorem ok_turned (T : Defs K mg) (TT : Tabs T base) : FnOk P w K mg base CX0 1 T.f_turned T.fd_turned ["row"] (sp_turned T) := by
  refine okC T.F_turned T.k_turned sc_turned (fun vs H Q E h => ?_) (fun A outer s H vs Q E hr h => ?_)
  · obtain ⟨a, rs, rfl, ha, hl, tg, q⟩ := h
    rfl
  · obtain ⟨a, rs, rfl, ha, hl, tg, q⟩ := h
    refine ⟨_, PSs.nox (pss_one (ps_ret (pe_tupG hr (by rfl) T.m_tuple bt_tuple TT.t_turned rfl ⟨rfl, rfl, by decide +kernel, rfl, rfl, gs_free rfl⟩ (src_tup (pv 0)) (elt_turn rfl rfl) (fun _ => rfl)))), ?_⟩
    have hsl : sizeLine = 16777216 := by decide
    refine ⟨.ref a, rfl, a, _, rfl, ha, tg, by rw [List.length_map]; omega, (trn rs).map V.int, ?_, ?_, ?_⟩
    · rw [List.length_map, trn_len, List.length_map]
    · intro i x hx
      rw [List.getElem?_map] at hx
      obtain ⟨t, ht, rfl⟩ := Option.map_eq_some_iff.mp hx
      refine ⟨.int (1 - t), ?_, t, rfl, rfl⟩
      unfold trn
      rw [List.getElem?_map, List.getElem?_map, ht]
      rfl
    · intro H2 p tb np
      have s2 := Sam.tabbed tg tb
      exact q _ p (sam_newer s2 (s2.free np)) (s2.free np) upd_same
/-! formulas -/
inductive Fm where
  | inp (i : Nat)
  | less (f : Fm)
  | both (f g : Fm)
  | either (f g : Fm)
  | oneof (f g : Fm)
  | pick (f g h : Fm)
namespace Fm
def word : Fm → Str
  | inp _ => "in"
  | less _ => "less"
  | both _ _ => "both"
  | either _ _ => "either"
  | oneof _ _ => "oneof"
  | pick _ _ _ => "pick"
def sds : Fm → List Fm
  | inp _ => []
  | less f => [f]
  | both f g => [f, g]
  | either f g => [f, g]
  | oneof f g => [f, g]
  | pick f g h => [f, g, h]
def dep : Fm → Nat
  | inp _ => 1
  | less f => f.dep + 1
  | both f g => max f.dep g.dep + 1
  | either f g => max f.dep g.dep + 1
  | oneof f g => max f.dep g.dep + 1
  | pick f g h => max f.dep (max g.dep h.dep) + 1
def sz : Fm → Nat
  | inp _ => 1
  | less f => f.sz + 1
  | both f g => f.sz + g.sz + 1
  | either f g => f.sz + g.sz + 1
  | oneof f g => f.sz + g.sz + 1
  | pick f g h => f.sz + g.sz + h.sz + 1
def ins : Fm → List Nat
  | inp i => [i]
  | less f => f.ins
  | both f g => f.ins ++ g.ins
  | either f g => f.ins ++ g.ins
  | oneof f g => f.ins ++ g.ins
  | pick f g h => f.ins ++ (g.ins ++ h.ins)
theorem sz_pos (f : Fm) : 1 ≤ f.sz := by
  cases f <;> simp [sz]
theorem dep_pos (f : Fm) : 1 ≤ f.dep := by
  cases f <;> simp [dep]
theorem ins_len : ∀ f : Fm, 1 ≤ f.ins.length ∧ f.ins.length ≤ f.sz
  | inp i => ⟨Nat.le_refl 1, Nat.le_refl 1⟩
  | less f => by
    have := ins_len f
    simp only [ins, sz]
    omega
  | both f g => by
    have := ins_len f
    have := ins_len g
    simp only [ins, sz, List.length_append]
    omega
  | either f g => by
    have := ins_len f
    have := ins_len g
    simp only [ins, sz, List.length_append]
    omega
  | oneof f g => by
    have := ins_len f
    have := ins_len g
    simp only [ins, sz, List.length_append]
    omega
  | pick f g h => by
    have := ins_len f
    have := ins_len g
    have := ins_len h
    simp only [ins, sz, List.length_append]
    omega
theorem sds_dep {f g : Fm} (h : g ∈ f.sds) : g.dep < f.dep ∧ g.sz < f.sz := by
  cases f <;> simp only [sds, List.mem_cons, List.not_mem_nil, or_false] at h
  · subst h
    simp only [dep, sz]
    omega
  all_goals
    simp only [dep, sz]
    rcases h with rfl | h
    · omega
  · subst h; omega
  · subst h; omega
  · subst h; omega
  · rcases h with rfl | rfl <;> omega
theorem sds_ins {f : Fm} (h : f.word ≠ "in") : (f.sds.map ins).flatten = f.ins := by
  cases f with
  | inp i => exact absurd rfl h
  | _ => simp [sds, ins]
theorem sds_mem {f g : Fm} {i : Nat} (h : g ∈ f.sds) (hi : i ∈ g.ins) : i ∈ f.ins := by
  cases f <;> simp only [sds, List.mem_cons, List.not_mem_nil, or_false] at h
  · subst h
    exact hi
  all_goals
    simp only [ins, List.mem_append]
  · rcases h with rfl | rfl
    · exact .inl hi
    · exact .inr hi
  · rcases h with rfl | rfl
    · exact .inl hi
    · exact .inr hi
  · rcases h with rfl | rfl
    · exact .inl hi
    · exact .inr hi
  · rcases h with rfl | rfl | rfl
    · exact .inl hi
    · exact .inr (.inl hi)
    · exact .inr (.inr hi)
end Fm
def FmAt (H : Hp) : Fm → V → Prop
  | .inp i, v => ∃ a, v = .ref a ∧ H a = some (.tup [.str "in", .int (i : Nat)])
  | .less f, v => ∃ a u, v = .ref a ∧ H a = some (.tup [.str "less", u]) ∧ FmAt H f u
  | .both f g, v => ∃ a u x, v = .ref a ∧ H a = some (.tup [.str "both", u, x]) ∧ FmAt H f u ∧ FmAt H g x
  | .either f g, v => ∃ a u x, v = .ref a ∧ H a = some (.tup [.str "either", u, x]) ∧ FmAt H f u ∧ FmAt H g x
  | .oneof f g, v => ∃ a u x, v = .ref a ∧ H a = some (.tup [.str "oneof", u, x]) ∧ FmAt H f u ∧ FmAt H g x
  | .pick f g h, v => ∃ a u x y, v = .ref a ∧ H a = some (.tup [.str "pick", u, x, y]) ∧ FmAt H f u ∧ FmAt H g x ∧ FmAt H h y
theorem FmAt.keep {H H' : Hp} (k : ∀ a xs, H a = some (.tup xs) → H' a = some (.tup xs)) : ∀ {f : Fm} {v : V}, FmAt H f v → FmAt H' f v
  | .inp i, v, ⟨a, e, h⟩ => ⟨a, e, k _ _ h⟩
  | .less f, v, ⟨a, u, e, h, h1⟩ => ⟨a, u, e, k _ _ h, FmAt.keep k h1⟩
  | .both f g, v, ⟨a, u, x, e, h, h1, h2⟩ => ⟨a, u, x, e, k _ _ h, FmAt.keep k h1, FmAt.keep k h2⟩
  | .either f g, v, ⟨a, u, x, e, h, h1, h2⟩ => ⟨a, u, x, e, k _ _ h, FmAt.keep k h1, FmAt.keep k h2⟩
  | .oneof f g, v, ⟨a, u, x, e, h, h1, h2⟩ => ⟨a, u, x, e, k _ _ h, FmAt.keep k h1, FmAt.keep k h2⟩
  | .pick f g h, v, ⟨a, u, x, y, e, h0, h1, h2, h3⟩ => ⟨a, u, x, y, e, k _ _ h0, FmAt.keep k h1, FmAt.keep k h2, FmAt.keep k h3⟩
theorem FmAt.same {H H' : Hp} {f : Fm} {v : V} (h : FmAt H f v) (s : Same H H') : FmAt H' f v := h.keep fun _ _ e => s _ _ e
theorem FmAt.but {H H' : Hp} {f : Fm} {v : V} {p : Addr} {n : Nat} (h : FmAt H f v) (B : Bx H p n) (s : But p H H') : FmAt H' f v := h.keep fun _ _ e => s _ _ (B.ne_tup e) e
/-- the sides of a part, as they stand -/
def FsAt (H : Hp) (fs : List Fm) (us : List V) : Prop := us.length = fs.length ∧ ∀ (i : Nat) (f : Fm) (u : V), fs[i]? = some f → us[i]? = some u → FmAt H f u
theorem FsAt.keep {H H' : Hp} {fs : List Fm} {us : List V} (h : FsAt H fs us) (k : ∀ a xs, H a = some (.tup xs) → H' a = some (.tup xs)) : FsAt H' fs us := ⟨h.1, fun i f u e1 e2 => (h.2 i f u e1 e2).keep k⟩
theorem FsAt.same {H H' : Hp} {fs : List Fm} {us : List V} (h : FsAt H fs us) (s : Same H H') : FsAt H' fs us := h.keep fun _ _ e => s _ _ e
theorem FmAt.shape {H : Hp} {f : Fm} {v : V} (h : FmAt H f v) : (∃ i a, f = .inp i ∧ v = .ref a ∧ H a = some (.tup [.str "in", .int (i : Nat)])) ∨ ∃ a us, v = .ref a ∧ H a = some (.tup (.str f.word :: us)) ∧ f.word ≠ "in" ∧ FsAt H f.sds us := by
  cases f with
  | inp i =>
    obtain ⟨a, e, h⟩ := h
    exact .inl ⟨i, a, rfl, e, h⟩
  | less f =>
    obtain ⟨a, u, e, h, h1⟩ := h
    refine .inr ⟨a, [u], e, h, by simp only [Fm.word]; decide +kernel, rfl, fun i g x e1 e2 => ?_⟩
    match i with
    | 0 => cases e1; cases e2; exact h1
    | i + 1 => cases e1
  | both f g =>
    obtain ⟨a, u, x, e, h, h1, h2⟩ := h
    refine .inr ⟨a, [u, x], e, h, by simp only [Fm.word]; decide +kernel, rfl, fun i g x e1 e2 => ?_⟩
    match i with
    | 0 => cases e1; cases e2; exact h1
    | 1 => cases e1; cases e2; exact h2
    | i + 2 => cases e1
  | either f g =>
    obtain ⟨a, u, x, e, h, h1, h2⟩ := h
    refine .inr ⟨a, [u, x], e, h, by simp only [Fm.word]; decide +kernel, rfl, fun i g x e1 e2 => ?_⟩
    match i with
    | 0 => cases e1; cases e2; exact h1
    | 1 => cases e1; cases e2; exact h2
    | i + 2 => cases e1
  | oneof f g =>
    obtain ⟨a, u, x, e, h, h1, h2⟩ := h
    refine .inr ⟨a, [u, x], e, h, by simp only [Fm.word]; decide +kernel, rfl, fun i g x e1 e2 => ?_⟩
    match i with
    | 0 => cases e1; cases e2; exact h1
    | 1 => cases e1; cases e2; exact h2
    | i + 2 => cases e1
  | pick f g h' =>
    obtain ⟨a, u, x, y, e, h, h1, h2, h3⟩ := h
    refine .inr ⟨a, [u, x, y], e, h, by simp only [Fm.word]; decide +kernel, rfl, fun i g x e1 e2 => ?_⟩
    match i with
    | 0 => cases e1; cases e2; exact h1
    | 1 => cases e1; cases e2; exact h2
    | 2 => cases e1; cases e2; exact h3
    | i + 3 => cases e1
theorem FsAt.get {H : Hp} {fs : List Fm} {us : List V} (h : FsAt H fs us) {i : Nat} {u : V} (hu : us[i]? = some u) : ∃ f, fs[i]? = some f ∧ f ∈ fs ∧ FmAt H f u := by
  have hi := (List.getElem?_eq_some_iff.mp hu).1
  have hi2 : i < fs.length := by rw [← h.1]; exact hi
  exact ⟨fs[i], List.getElem?_eq_getElem hi2, List.getElem_mem hi2, h.2 i _ u (List.getElem?_eq_getElem hi2) hu⟩
theorem cut_tail (v : V) (us : List V) : cutV (v :: us) (some 1) none = us := by
  unfold cutV
  rw [show (1 : Int) = ((1 : Nat) : Int) from rfl, HT.sIx_nat, HT.sIx_none]
  have e : min 1 (v :: us).length = 1 := by simp
  rw [e, List.drop_succ_cons, List.drop_zero, List.length_cons]
  exact List.take_of_length_le (by omega)
/-! formulas drawn -/
structure Fm.Ok (f : Fm) (d m w : Nat) : Prop where
  dp : f.dep ≤ max d 1
  sz : f.sz ≤ m
  ins : ∀ i, i ∈ f.ins → i < w
def spr__law_formula (d : Nat) (_ : PySem.W.Frag) : Sp := fun vs H Q _ => ∃ (p : Addr) (n de ma wi : Nat), vs = [.ref p, .int (de : Nat), .int (ma : Nat), .int (wi : Nat)] ∧ Bx H p n ∧ n + 4 * ma < 100000000 ∧ de < d ∧ 1 ≤ ma ∧ ma ≤ 100 ∧ 1 ≤ wi ∧ wi ≤ 100 ∧
  ∀ H' v f, But p H H' → Bx H' p (n + 4 * ma) → FmAt H' f v → f.Ok de ma wi → Q v H'
theorem no__law_formula {K : PySem.W.Frag} {vs : List V} {H : Hp} {Q : VK} {E : XK} (h : spr__law_formula 0 K vs H Q E) : False := by
  obtain ⟨p, n, de, ma, wi, _, _, _, z, _⟩ := h
  exact Nat.not_lt_zero _ z
/-- three formulas drawn so far -/
def F3 (p D : Addr) (X : Hp) (n l de wi : Nat) (i : Nat) (G : Hp) : Prop := ∃ fs : List (V × Fm), fs.length = i ∧ G D = some (.lst (fs.map Prod.fst)) ∧ (∀ q, q ∈ fs → FmAt G q.2 q.1 ∧ q.2.Ok de l wi) ∧ But p X G ∧ Bx G p (n + 4 * l * i)
theorem okr__law_formula (T : Defs K mg) (TT : Tabs T base) : ∀ d : Nat, FnOk P w K mg base CX0 (2 + d) T.f__law_formula T.fd__law_formula ["_law_box_here", "_law_deep", "_law_many", "_law_wide"] (spr__law_formula d K)
  | 0 => ⟨fun _ _ _ _ z => (no__law_formula z).elim, fun _ _ _ _ _ _ _ _ _ _ _ _ _ z => (no__law_formula z).elim⟩
  | d + 1 => by
    have G__law_take : FnOk P w K mg base CX0 1 T.f__law_take T.fd__law_take ["_law_box_here", "_law_many"] (sp__law_take K) := ok__law_take T TT
    have G__law_formula : FnOk P w K mg base CX0 (2 + d) T.f__law_formula T.fd__law_formula ["_law_box_here", "_law_deep", "_law_many", "_law_wide"] (spr__law_formula d K) := okr__law_formula T TT d
    show FnOk P w K mg base CX0 ((2 + d) + 1) T.f__law_formula T.fd__law_formula ["_law_box_here", "_law_deep", "_law_many", "_law_wide"] (spr__law_formula (d + 1) K)
    refine T.F__law_formula.ok sc__law_formula (fun vs H Q E h => ?_) (fun cdv A outer s H vs Q E hr h => ?_)
    · obtain ⟨p, n, de, ma, wi, rfl, hB, hn, hd, m1, m2, w1, w2, q⟩ := h
      rfl
    · obtain ⟨p, n, de, ma, wi, rfl, hB, hn, hd, m1, m2, w1, w2, q⟩ := h
      refine ⟨_, PSs.nox (pss_cons (ps_set (i := 4) sc__law_formula.nd rfl (.inl rfl) (pe_call G__law_take (hr.mono (by omega)) (by rfl) T.g__law_take T.F__law_take.kp T.b__law_take .nil pass0 (pa_cons (pv 0) (pa_cons pe_int pa_nil))))
    (pss_cons (ps_if (PW.pt (pw_or (pt_cmpR op_lt (pv 1) pe_int (nomark _)) (pw_or (pt_cmpR op_lt (pv 2) pe_int (nomark _)) (pw_or1 (pt_cmpR op_eq (pv 4) pe_int (nomark _)))))) (pss_one (ps_ret (pe_tup (pa_cons pe_str (pa_cons (pe_call G__law_take (hr.mono (by omega)) (by rfl) T.g__law_take T.F__law_take.kp T.b__law_take .nil pass0 (pa_cons (pv 0) (pa_cons (pv 3) pa_nil))) pa_nil))))) pss_nil)
    (pss_cons (ps_if (PW.pt (pw_or (pt_cmpR op_eq (pv 4) pe_int (nomark _)) (pw_or1 (pt_cmpR op_lt (pv 2) pe_int (nomark _))))) (pss_one (ps_ret (pe_tup (pa_cons pe_str (pa_cons (pe_call G__law_formula (hr.mono (by omega)) (by rfl) T.g__law_formula T.F__law_formula.kp T.b__law_formula .nil pass0 (pa_cons (pv 0) (pa_cons (pe_op op_sub (pv 1) pe_int) (pa_cons (pe_op op_sub (pv 2) pe_int) (pa_cons (pv 3) pa_nil))))) pa_nil))))) pss_nil)
    (pss_cons (ps_if (PW.pt (pw_and (pt_cmpR op_eq (pv 4) pe_int (nomark _)) (pw_and1 (pt_cmpR op_gt (pv 2) pe_int (nomark _))))) (pss_cons (ps_set (i := 5) sc__law_formula.nd rfl (.inr rfl) (pe_op op_fdiv (pe_op op_sub (pv 2) pe_int) pe_int))
    (pss_one (ps_ret (pe_op op_catA (pe_tup (pa_cons pe_str pa_nil)) (pe_callTy call_tuple_of (by rfl) T.m_tuple bt_tuple (pa_cons (pe_lc (own := [("_law_turn", 7)]) (g := gName 7) (tt := tYes) rfl sc__law_formula.nd (pi_range1 (by rfl) T.m_range (pa_cons pe_int pa_nil)) (blkOk_by (N := N__law_formula) (sc := defScope s__law_formula) (by decide +kernel)) (fun _ _ _ _ _ => (pg_name (i := 7) sc__law_formula.nd rfl (.inl rfl))) (fun _ _ _ _ _ => pts_nil) (fun _ _ _ _ _ => (pe_call G__law_formula (hr.mono (by omega)) (by rfl) T.g__law_formula T.F__law_formula.kp T.b__law_formula .nil pass0 (pa_cons (pv 0) (pa_cons (pe_op op_sub (pv 1) pe_int) (pa_cons (pv 5) (pa_cons (pv 3) pa_nil))))))) pa_nil)))))) pss_nil)
    (pss_cons (ps_asg (pe_tup (pa_cons (pe_ix ix_list (pe_lst (pa_cons pe_str (pa_cons pe_str (pa_cons pe_str pa_nil)))) (pe_call G__law_take (hr.mono (by omega)) (by rfl) T.g__law_take T.F__law_take.kp T.b__law_take .nil pass0 (pa_cons (pv 0) (pa_cons pe_int pa_nil))) (fun _ _ => rfl)) (pa_cons (pe_op op_add pe_int (pe_call G__law_take (hr.mono (by omega)) (by rfl) T.g__law_take T.F__law_take.kp T.b__law_take .nil pass0 (pa_cons (pv 0) (pa_cons (pe_op op_sub (pv 2) pe_int) pa_nil)))) pa_nil))) (pg_tup rfl (pgs_cons (pg_name (i := 6) sc__law_formula.nd rfl (.inl rfl)) (pgs_cons (pg_name (i := 5) sc__law_formula.nd rfl (.inr rfl)) pgs_nil))))
    (pss_one (ps_ret (pe_tup (pa_cons (pv 6) (pa_cons (pe_call G__law_formula (hr.mono (by omega)) (by rfl) T.g__law_formula T.F__law_formula.kp T.b__law_formula .nil pass0 (pa_cons (pv 0) (pa_cons (pe_op op_sub (pv 1) pe_int) (pa_cons (pv 5) (pa_cons (pv 3) pa_nil))))) (pa_cons (pe_call G__law_formula (hr.mono (by omega)) (by rfl) T.g__law_formula T.F__law_formula.kp T.b__law_formula .nil pass0 (pa_cons (pv 0) (pa_cons (pe_op op_sub (pv 1) pe_int) (pa_cons (pe_op op_sub (pe_op op_sub (pv 2) pe_int) (pv 5)) (pa_cons (pv 3) pa_nil))))) pa_nil))))))))))), ?_⟩
      have hsl : sizeLine = 16777216 := by decide
      refine ⟨.ref p, rfl, p, 7, n, rfl, hB, by decide, by decide, by omega, fun H1 way c1 B1 l1 u1 => ?_⟩
      have fin : ∀ H' v f, But p H1 H' → Bx H' p (n + 4 * ma) → FmAt H' f v → f.Ok de ma wi → Q v H' := fun H' v f b B hf ok => q H' v f (c1.trans b) B hf ok
      refine ⟨_, rfl, _, _, rfl, rfl, _, rfl, ite2 (fun _ => ?_) (fun e1 => ?_)⟩
      · refine iteT ?_
        refine ⟨.ref p, rfl, _, rfl, p, (wi : Int), _, rfl, B1, by omega, by omega, by omega, fun H2 r c2 B2 l2 u2 => ⟨(show 2 ≤ sizeLine by decide), fun t nt => ?_⟩⟩
        obtain ⟨r, rfl⟩ := nat_of l2
        exact fin _ _ (.inp r) (c2.new nt) ((B2.new nt).mono (by omega)) ⟨t, rfl, upd_same⟩ ⟨by simp only [Fm.dep]; omega, by simp only [Fm.sz]; omega, fun i hi => by
          rw [List.mem_singleton.mp hi]
          omega⟩
      have de2 : 2 ≤ de := by
        have : ¬ (de : Int) < 2 := fun z => e1 (decide_eq_true z)
        omega
      refine ⟨_, rfl, _, _, rfl, rfl, _, rfl, ite2 (fun _ => ?_) (fun e2 => ?_)⟩
      · refine iteT ?_
        refine ⟨.ref p, rfl, _, rfl, p, (wi : Int), _, rfl, B1, by omega, by omega, by omega, fun H2 r c2 B2 l2 u2 => ⟨(show 2 ≤ sizeLine by decide), fun t nt => ?_⟩⟩
        obtain ⟨r, rfl⟩ := nat_of l2
        exact fin _ _ (.inp r) (c2.new nt) ((B2.new nt).mono (by omega)) ⟨t, rfl, upd_same⟩ ⟨by simp only [Fm.dep]; omega, by simp only [Fm.sz]; omega, fun i hi => by
          rw [List.mem_singleton.mp hi]
          omega⟩
      have ma2 : 2 ≤ ma := by
        have : ¬ (ma : Int) < 2 := fun z => e2 (decide_eq_true z)
        omega
      refine ⟨_, rfl, rfl, _, rfl, ite2 (fun _ => ?_) (fun _ => ?_)⟩
      · refine ⟨.ref p, rfl, _, rfl, p, (wi : Int), _, rfl, B1, by omega, by omega, by omega, fun H2 r c2 B2 l2 u2 => ⟨(show 2 ≤ sizeLine by decide), fun t nt => ?_⟩⟩
        obtain ⟨r, rfl⟩ := nat_of l2
        exact fin _ _ (.inp r) (c2.new nt) ((B2.new nt).mono (by omega)) ⟨t, rfl, upd_same⟩ ⟨by simp only [Fm.dep]; omega, by simp only [Fm.sz]; omega, fun i hi => by
          rw [List.mem_singleton.mp hi]
          omega⟩
      have ed : (de : Int) - 1 = ((de - 1 : Nat) : Int) := by omega
      have em : (ma : Int) - 1 = ((ma - 1 : Nat) : Int) := by omega
      clear e1 e2
      refine ⟨_, rfl, rfl, _, rfl, ite2 (fun _ => iteT ?_) (fun _ => ⟨_, rfl, _, _, rfl, rfl, _, rfl, ite2 (fun _ => ?_) (fun e3 => ?_)⟩)⟩
      · refine ⟨.ref p, rfl, _, rfl, _, _, rfl, rfl, _, rfl, _, _, rfl, rfl, _, rfl, p, _, de - 1, ma - 1, wi, by rw [← ed, ← em]; rfl, B1, by omega, by omega, by omega, by omega, w1, w2, fun H2 v f c2 B2 hf ok => ⟨(show 2 ≤ sizeLine by decide), fun t nt => ?_⟩⟩
        have o1 := ok.dp
        have o2 := ok.sz
        exact fin _ _ (.less f) (c2.new nt) ((B2.new nt).mono (by omega)) ⟨t, v, rfl, upd_same, hf.same (same_upd nt)⟩ ⟨by simp only [Fm.dep]; omega, by simp only [Fm.sz]; omega, ok.ins⟩
      · refine ⟨.ref p, rfl, _, rfl, _, _, rfl, rfl, _, rfl, _, _, rfl, rfl, _, rfl, p, _, de - 1, ma - 1, wi, by rw [← ed, ← em]; rfl, B1, by omega, by omega, by omega, by omega, w1, w2, fun H2 v f c2 B2 hf ok => ⟨(show 2 ≤ sizeLine by decide), fun t nt => ?_⟩⟩
        have o1 := ok.dp
        have o2 := ok.sz
        exact fin _ _ (.less f) (c2.new nt) ((B2.new nt).mono (by omega)) ⟨t, v, rfl, upd_same, hf.same (same_upd nt)⟩ ⟨by simp only [Fm.dep]; omega, by simp only [Fm.sz]; omega, ok.ins⟩
      have ma3 : 3 ≤ ma := by
        have : ¬ (ma : Int) < 3 := fun z => e3 (decide_eq_true z)
        omega
      clear e3
      refine nx_via (fun σ F => (∃ y5 y6 y7, σ = [some (.ref p), some (.int (de : Nat)), some (.int (ma : Nat)), some (.int (wi : Nat)), some (.int way), y5, y6, y7]) ∧ F = H1) (fun N key => ?_) ?_
      · refine ⟨_, rfl, rfl, _, rfl, ite2 (fun _ => ?_) (fun _ => iteF (key _ _ ⟨⟨_, _, _, rfl⟩, rfl⟩))⟩
        refine ⟨_, rfl, _, _, rfl, rfl, _, rfl, ite2 (fun e4 => ?_) (fun _ => key _ _ ⟨⟨_, _, _, rfl⟩, rfl⟩)⟩
        have ma4 : 4 ≤ ma := by
          have : (3 : Int) < (ma : Int) := of_decide_eq_true e4
          omega
        obtain ⟨l, hl⟩ : ∃ l : Nat, ((ma : Int) - 1) / 3 = (l : Int) := ⟨(ma - 1) / 3, by omega⟩
        have l1 : 1 ≤ l := by omega
        have l3 : 3 * l + 1 ≤ ma := by omega
        refine ⟨_, rfl, _, _, rfl, rfl, _, _, rfl, rfl, ⟨by decide, by decide⟩, ?_⟩
        try dsimp only
        rw [hl]
        refine ⟨(show 1 ≤ sizeLine by decide), fun t0 nt0 => ?_⟩
        have u0 := same_upd nt0 (o := .tup [.str "pick"])
        refine ⟨3, rfl, by decide, by decide, fun D nD => ?_⟩
        have nDp : D ≠ p := ne_new (B1.new (o := .tup [.str "pick"]) nt0) nD
        have ht0 := upd_same (H := H1) (a := t0) (o := .tup [.str "pick"])
        generalize upd H1 t0 (.tup [.str "pick"]) = X at u0 nD ht0 ⊢
        have BX := B1.same u0
        refine lc_range (F3 p D X (n + 1) l (de - 1) wi) ⟨[], rfl, upd_same, fun _ z => (by cases z), (But.refl p X).new nD, BX.new nD⟩ (fun j G hj h => ?_) (fun G h => ?_)
        · obtain ⟨fs, lf, hD, hfs, cG, BG⟩ := h
          have hj3 : j < 3 := by
            have : (3 : Int).toNat = 3 := rfl
            omega
          have ll : 4 * l * j ≤ 4 * l * 2 := Nat.mul_le_mul_left _ (by omega)
          refine ⟨rfl, yes_ite ?_⟩
          refine ⟨.ref p, rfl, _, rfl, _, _, rfl, rfl, _, rfl, _, rfl, p, _, de - 1, l, wi, by rw [← ed]; rfl, BG, by omega, by omega, l1, by omega, w1, w2, fun G2 v f c2 B2 hf ok => ?_⟩
          refine ⟨_, c2 _ _ nDp hD, by rw [List.length_map]; omega, fs ++ [(v, f)], by rw [List.length_append, lf]; rfl, by rw [upd_same, List.map_append]; rfl, fun q' hq => ?_, but_newer (cG.trans c2) nD, ?_⟩
          · have keep : ∀ t xs, G2 t = some (.tup xs) → (upd G2 D (.lst (fs.map Prod.fst ++ [v]))) t = some (.tup xs) := fun t xs e => by
              rw [upd_ne (ne_of e (c2 _ _ nDp hD) (fun z => by cases z))]
              exact e
            rcases List.mem_append.mp hq with hq | hq
            · exact ⟨((hfs q' hq).1.but BG c2).keep keep, (hfs q' hq).2⟩
            · rw [List.mem_singleton.mp hq]
              exact ⟨hf.keep keep, ok⟩
          · have e : n + 1 + 4 * l * j + 4 * l = n + 1 + 4 * l * (j + 1) := by rw [Nat.mul_add, Nat.mul_one]; omega
            rw [← e]
            exact B2.other nDp
        obtain ⟨fs, lf, hD, hfs, cG, BG⟩ := h
        have lf : fs.length = 3 := lf
        have BG : Bx G p (n + 1 + 4 * l * 3) := BG
        obtain ⟨q1, q2, q3, rfl⟩ : ∃ q1 q2 q3, fs = [q1, q2, q3] := by
          match fs, lf with
          | [a, b, c], _ => exact ⟨a, b, c, rfl⟩
        obtain ⟨f1, o1⟩ := hfs q1 (by simp)
        obtain ⟨f2, o2⟩ := hfs q2 (by simp)
        obtain ⟨f3, o3⟩ := hfs q3 (by simp)
        refine ⟨D, _, rfl, .inl ⟨SqL.mk hD, fun t1 nt1 => ?_⟩⟩
        have u1 := same_upd nt1 (o := .tup ([q1, q2, q3].map Prod.fst))
        refine ⟨t0, t1, _, _, rfl, rfl, SqT.mk (u1 _ _ (cG _ _ (BX.ne_tup ht0) ht0)), SqT.mk upd_same, (show 4 ≤ sizeLine by decide), fun z => (by cases z), fun _ z => (by cases z), fun _ _ t2 nt2 => ?_⟩
        have u2 := u1.trans (same_upd nt2 (o := .tup [.str "pick", q1.1, q2.1, q3.1]))
        have cA : But p H1 (upd (upd G t1 (.tup ([q1, q2, q3].map Prod.fst))) t2 (.tup ([V.str "pick"] ++ [q1, q2, q3].map Prod.fst))) := (same_but u0).trans (cG.trans (same_but u2))
        have d1 := o1.dp
        have d2 := o2.dp
        have d3 := o3.dp
        have z1 := o1.sz
        have z2 := o2.sz
        have z3 := o3.sz
        refine fin _ _ (.pick q1.2 q2.2 q3.2) cA ((BG.same u2).mono (by omega)) ⟨t2, q1.1, q2.1, q3.1, rfl, upd_same, f1.same u2, f2.same u2, f3.same u2⟩ ⟨by simp only [Fm.dep]; omega, by simp only [Fm.sz]; omega, fun i hi => ?_⟩
        simp only [Fm.ins, List.mem_append] at hi
        rcases hi with hi | hi | hi
        · exact o1.ins i hi
        · exact o2.ins i hi
        · exact o3.ins i hi
      rintro σ F ⟨⟨y5, y6, y7, rfl⟩, rfl⟩
      refine ⟨(show 3 ≤ sizeLine by decide), fun L nL => ?_⟩
      have uL := same_upd nL (o := .lst [.str "both", .str "either", .str "oneof"])
      have hL := upd_same (H := F) (a := L) (o := .lst [.str "both", .str "either", .str "oneof"])
      generalize upd F L (.lst [.str "both", .str "either", .str "oneof"]) = X at uL hL ⊢
      have BX := B1.same uL
      have nLp : L ≠ p := fun e => by
        obtain ⟨_, _, _, z, _⟩ := BX
        rw [← e, hL] at z
        cases z
      refine ⟨.ref p, rfl, p, 3, _, rfl, BX, by decide, by decide, by omega, fun G1 r1 d1 B2 l2 u2 => ?_⟩
      obtain ⟨wd, ewd, hwd⟩ : ∃ wd : Str, atI [V.str "both", .str "either", .str "oneof"] r1 = some (.str wd) ∧ (wd = "both" ∨ wd = "either" ∨ wd = "oneof") := by
        obtain ⟨r1, rfl⟩ := nat_of l2
        match r1, u2 with
        | 0, _ => exact ⟨"both", atI_nat (j := 0) rfl, .inl rfl⟩
        | 1, _ => exact ⟨"either", atI_nat (j := 1) rfl, .inr (.inl rfl)⟩
        | 2, _ => exact ⟨"oneof", atI_nat (j := 2) rfl, .inr (.inr rfl)⟩
        | r + 3, h => exact absurd h (by omega)
      refine ⟨L, _, _, _, rfl, rfl, SqL.mk (d1 _ _ nLp hL), ewd, ?_⟩
      have em2 : (ma : Int) - 2 = ((ma - 2 : Nat) : Int) := by omega
      refine ⟨.ref p, rfl, _, rfl, _, _, rfl, rfl, p, (ma : Int) - 2, _, rfl, B2, by omega, by omega, by omega, fun G2 r2 d2 B3 l3 u3 => ⟨_, _, rfl, rfl, ?_⟩⟩
      obtain ⟨l, hl⟩ := nat_of (show 0 ≤ 1 + r2 by omega)
      try dsimp only
      rw [hl]
      refine ⟨(show 2 ≤ sizeLine by decide), fun tp ntp => ⟨tp, _, rfl, SqT.mk upd_same, rfl, _, _, rfl, _, _, rfl, rfl, ?_⟩⟩
      have uT := same_upd ntp (o := .tup [.str wd, .int (l : Nat)])
      have BT := B3.same uT
      have cT : But p F (upd G2 tp (.tup [.str wd, .int (l : Nat)])) := (same_but uL).trans (d1.trans (d2.trans (same_but uT)))
      generalize upd G2 tp (.tup [.str wd, .int (l : Nat)]) = Y at BT cT ⊢
      have el : (ma : Int) - 1 - (l : Int) = ((ma - 1 - l : Nat) : Int) := by omega
      refine ⟨_, rfl, .ref p, rfl, _, rfl, _, _, rfl, rfl, _, rfl, _, rfl, p, _, de - 1, l, wi, by rw [← ed]; rfl, BT, by omega, by omega, by omega, by omega, w1, w2, fun Y1 v1 f1 y1 C1 h1 o1 => ?_⟩
      refine ⟨.ref p, rfl, _, rfl, _, _, rfl, rfl, _, rfl, _, _, rfl, rfl, _, rfl, _, _, rfl, rfl, _, rfl, p, _, de - 1, ma - 1 - l, wi, by rw [← ed, ← el]; rfl, C1, by omega, by omega, by omega, by omega, w1, w2, fun Y2 v2 f2 y2 C2 h2 o2 => ⟨(show 3 ≤ sizeLine by decide), fun t nt => ?_⟩⟩
      have cZ : But p F (upd Y2 t (.tup [.str wd, v1, v2])) := (cT.trans (y1.trans y2)).new nt
      have sT := same_upd nt (o := .tup [.str wd, v1, v2])
      have BZ : Bx (upd Y2 t (.tup [.str wd, v1, v2])) p (n + 4 * ma) := (C2.new nt).mono (by omega)
      have a1 := (h1.but C1 y2).same sT
      have a2 := h2.same sT
      have p1 := o1.dp
      have p2 := o2.dp
      have z1 := o1.sz
      have z2 := o2.sz
      have oi : ∀ i, i ∈ f1.ins ++ f2.ins → i < wi := fun i hi => by
        rcases List.mem_append.mp hi with hi | hi
        · exact o1.ins i hi
        · exact o2.ins i hi
      rcases hwd with rfl | rfl | rfl
      · exact fin _ _ (.both f1 f2) cZ BZ ⟨t, v1, v2, rfl, upd_same, a1, a2⟩ ⟨by simp only [Fm.dep]; omega, by simp only [Fm.sz]; omega, oi⟩
      · exact fin _ _ (.either f1 f2) cZ BZ ⟨t, v1, v2, rfl, upd_same, a1, a2⟩ ⟨by simp only [Fm.dep]; omega, by simp only [Fm.sz]; omega, oi⟩
      · exact fin _ _ (.oneof f1 f2) cZ BZ ⟨t, v1, v2, rfl, upd_same, a1, a2⟩ ⟨by simp only [Fm.dep]; omega, by simp only [Fm.sz]; omega, oi⟩
def sp__law_formula (K : PySem.W.Frag) : Sp := spr__law_formula 9 K
theorem ok__law_formula (T : Defs K mg) (TT : Tabs T base) : FnOk P w K mg base CX0 11 T.f__law_formula T.fd__law_formula ["_law_box_here", "_law_deep", "_law_many", "_law_wide"] (sp__law_formula K) := okr__law_formula T TT 9
/-! rows by formulas -/
def Rt (H : Hp) (a : Addr) (n : Nat) (f : Nat → Int) : Prop := H a = some (.tup ((rwf n f).map V.int))
theorem Rt.sam {H H' : Hp} {a : Addr} {n : Nat} {f : Nat → Int} (h : Rt H a n f) (s : Sam H H') : Rt H' a n f := s.tup h
theorem Rt.same {H H' : Hp} {a : Addr} {n : Nat} {f : Nat → Int} (h : Rt H a n f) (s : Same H H') : Rt H' a n f := s _ _ h
structure Tb5 {K : PySem.W.Frag} {mg : Str → Option Value} (T : Defs K mg) (H : Hp) : Prop where
  t : GxR.TabG H T.P_turned
  b : GxR.TabG H T.P_both
  e : GxR.TabG H T.P_either
  o : GxR.TabG H T.P_oneof
  p : GxR.TabG H T.P_pick
theorem Tb5.sam {T : Defs K mg} {H H' : Hp} (h : Tb5 T H) (s : Sam H H') : Tb5 T H' := ⟨s.tabG h.t, s.tabG h.b, s.tabG h.e, s.tabG h.o, s.tabG h.p⟩
theorem Tb5.bus {T : Defs K mg} {H H' : Hp} {p : Addr} {n : Nat} (h : Tb5 T H) (B : Bx H p n) (s : Bus p H H') : Tb5 T H' := ⟨s.tabG B h.t, s.tabG B h.b, s.tabG B h.e, s.tabG B h.o, s.tabG B h.p⟩
theorem use_both {T : Defs K mg} {H : Hp} {a' b' : Addr} {n : Nat} {f g : Nat → Int} {R : Addr → Hp → Prop} (t : Tb5 T H) (ha : Rt H a' n f) (hb : Rt H b' n g) (bf : Bt n f) (bg : Bt n g) (q : ∀ H' p, Sam H H' → Rt H' p n (fun i => f i * g i) → R p H') : (∃ (a b : Addr) (rs ss : List Int), ([.ref a', .ref b'] : List V) = [.ref a, .ref b] ∧ H a = some (.tup (rs.map V.int)) ∧ H b = some (.tup (ss.map V.int)) ∧ rs.length = ss.length ∧ Bits rs ∧ Bits ss ∧ GxR.TabG H T.P_both ∧
  ∀ H' p, Sam H H' → H p = none → H' p = some (.tup ((List.zipWith (fun x y => x * y) rs ss).map V.int)) → R p H') :=
  ⟨a', b', _, _, rfl, ha, hb, by rw [rwf_len, rwf_len], rwf_bits bf.b, rwf_bits bg.b, t.b, fun H' p s _ hp => q H' p s (by rw [rwf_zip] at hp; exact hp)⟩
theorem use_either {T : Defs K mg} {H : Hp} {a' b' : Addr} {n : Nat} {f g : Nat → Int} {R : Addr → Hp → Prop} (t : Tb5 T H) (ha : Rt H a' n f) (hb : Rt H b' n g) (bf : Bt n f) (bg : Bt n g) (q : ∀ H' p, Sam H H' → Rt H' p n (fun i => f i + g i - f i * g i) → R p H') : (∃ (a b : Addr) (rs ss : List Int), ([.ref a', .ref b'] : List V) = [.ref a, .ref b] ∧ H a = some (.tup (rs.map V.int)) ∧ H b = some (.tup (ss.map V.int)) ∧ rs.length = ss.length ∧ Bits rs ∧ Bits ss ∧ GxR.TabG H T.P_either ∧
  ∀ H' p, Sam H H' → H p = none → H' p = some (.tup ((List.zipWith (fun x y => x + y - x * y) rs ss).map V.int)) → R p H') :=
  ⟨a', b', _, _, rfl, ha, hb, by rw [rwf_len, rwf_len], rwf_bits bf.b, rwf_bits bg.b, t.e, fun H' p s _ hp => q H' p s (by rw [rwf_zip] at hp; exact hp)⟩
theorem use_oneof {T : Defs K mg} {H : Hp} {a' b' : Addr} {n : Nat} {f g : Nat → Int} {R : Addr → Hp → Prop} (t : Tb5 T H) (ha : Rt H a' n f) (hb : Rt H b' n g) (bf : Bt n f) (bg : Bt n g) (q : ∀ H' p, Sam H H' → Rt H' p n (fun i => f i + g i - 2 * f i * g i) → R p H') : (∃ (a b : Addr) (rs ss : List Int), ([.ref a', .ref b'] : List V) = [.ref a, .ref b] ∧ H a = some (.tup (rs.map V.int)) ∧ H b = some (.tup (ss.map V.int)) ∧ rs.length = ss.length ∧ Bits rs ∧ Bits ss ∧ GxR.TabG H T.P_oneof ∧
  ∀ H' p, Sam H H' → H p = none → H' p = some (.tup ((List.zipWith (fun x y => x + y - 2 * x * y) rs ss).map V.int)) → R p H') :=
  ⟨a', b', _, _, rfl, ha, hb, by rw [rwf_len, rwf_len], rwf_bits bf.b, rwf_bits bg.b, t.o, fun H' p s _ hp => q H' p s (by rw [rwf_zip] at hp; exact hp)⟩
theorem rwf_zip3 (n : Nat) (u : Int → Int → Int → Int) (f g h : Nat → Int) : zip3 u (rwf n f) (rwf n g) (rwf n h) = rwf n fun i => u (f i) (g i) (h i) := by
  apply List.ext_getElem?
  intro i
  by_cases z : i < n
  · rw [zip3_get (rwf_get f z) (rwf_get g z) (rwf_get h z), rwf_get _ z]
  · rw [List.getElem?_eq_none (by rw [zip3_len (by rw [rwf_len, rwf_len]) (by rw [rwf_len, rwf_len]), rwf_len]; omega), List.getElem?_eq_none (by rw [rwf_len]; omega)]
theorem use_pick {T : Defs K mg} {H : Hp} {a' b' c' : Addr} {n : Nat} {f g h : Nat → Int} {R : Addr → Hp → Prop} (t : Tb5 T H) (ha : Rt H a' n f) (hb : Rt H b' n g) (hc : Rt H c' n h) (q : ∀ H' p, Sam H H' → Rt H' p n (fun i => pk (f i) (g i) (h i)) → R p H') : (∃ (a b c : Addr) (rs ss ts : List Int), ([.ref a', .ref b', .ref c'] : List V) = [.ref a, .ref b, .ref c] ∧ H a = some (.tup (rs.map V.int)) ∧ H b = some (.tup (ss.map V.int)) ∧ H c = some (.tup (ts.map V.int)) ∧ rs.length = ss.length ∧ rs.length = ts.length ∧ GxR.TabG H T.P_pick ∧
  ∀ H' p, Sam H H' → H p = none → H' p = some (.tup ((zip3 pk rs ss ts).map V.int)) → R p H') :=
  ⟨a', b', c', _, _, _, rfl, ha, hb, hc, by rw [rwf_len, rwf_len], by rw [rwf_len, rwf_len], t.p, fun H' p s _ hp => q H' p s (by rw [rwf_zip3] at hp; exact hp)⟩
theorem use_turned {T : Defs K mg} {H : Hp} {a' : Addr} {n : Nat} {f : Nat → Int} {R : Addr → Hp → Prop} (t : Tb5 T H) (hn : n ≤ 100000) (ha : Rt H a' n f) (q : ∀ H' p, Sam H H' → Rt H' p n (fun i => 1 - f i) → R p H') : (∃ (a : Addr) (rs : List Int), ([.ref a'] : List V) = [.ref a] ∧ H a = some (.tup (rs.map V.int)) ∧ rs.length ≤ 100000 ∧ GxR.TabG H T.P_turned ∧
  ∀ H' p, Sam H H' → H p = none → H' p = some (.tup ((trn rs).map V.int)) → R p H') :=
  ⟨a', _, rfl, ha, by rw [rwf_len]; exact hn, t.t, fun H' p s _ hp => q H' p s (by rw [rwf_trn] at hp; exact hp)⟩
/-- a formula at one beat -/
def Fm.ev (b : Nat → Int) : Fm → Int
  | .inp i => b i
  | .less f => 1 - f.ev b
  | .both f g => f.ev b * g.ev b
  | .either f g => f.ev b + g.ev b - f.ev b * g.ev b
  | .oneof f g => f.ev b + g.ev b - 2 * f.ev b * g.ev b
  | .pick f g h => pk (f.ev b) (g.ev b) (h.ev b)
theorem ev_bit {b : Nat → Int} : ∀ {f : Fm}, (∀ i, i ∈ f.ins → b i = 0 ∨ b i = 1) → f.ev b = 0 ∨ f.ev b = 1
  | .inp i, h => h i List.mem_cons_self
  | .less f, h => by
    have a : f.ev b = 0 ∨ f.ev b = 1 := ev_bit (f := f) h
    show 1 - f.ev b = 0 ∨ 1 - f.ev b = 1
    omega
  | .both f g, h => by
    have x := ev_bit (f := f) fun i hi => h i (List.mem_append_left _ hi)
    have y := ev_bit (f := g) fun i hi => h i (List.mem_append_right _ hi)
    show f.ev b * g.ev b = 0 ∨ f.ev b * g.ev b = 1
    rcases x with e | e <;> rcases y with e2 | e2 <;> rw [e, e2] <;> decide
  | .either f g, h => by
    have x := ev_bit (f := f) fun i hi => h i (List.mem_append_left _ hi)
    have y := ev_bit (f := g) fun i hi => h i (List.mem_append_right _ hi)
    show f.ev b + g.ev b - f.ev b * g.ev b = 0 ∨ f.ev b + g.ev b - f.ev b * g.ev b = 1
    rcases x with e | e <;> rcases y with e2 | e2 <;> rw [e, e2] <;> decide
  | .oneof f g, h => by
    have x := ev_bit (f := f) fun i hi => h i (List.mem_append_left _ hi)
    have y := ev_bit (f := g) fun i hi => h i (List.mem_append_right _ hi)
    show f.ev b + g.ev b - 2 * f.ev b * g.ev b = 0 ∨ f.ev b + g.ev b - 2 * f.ev b * g.ev b = 1
    rcases x with e | e <;> rcases y with e2 | e2 <;> rw [e, e2] <;> decide
  | .pick f g k, h => by
    have x := ev_bit (f := f) fun i hi => h i (List.mem_append_left _ hi)
    have y := ev_bit (f := g) fun i hi => h i (List.mem_append_right _ (List.mem_append_left _ hi))
    have z := ev_bit (f := k) fun i hi => h i (List.mem_append_right _ (List.mem_append_right _ hi))
    show pk (f.ev b) (g.ev b) (k.ev b) = 0 ∨ pk (f.ev b) (g.ev b) (k.ev b) = 1
    rcases x with e | e <;> rcases y with e2 | e2 <;> rcases z with e3 | e3 <;> rw [e, e2, e3] <;> decide
/-- a formula's row of n bits, over the rows r i -/
def Fm.row (r : Nat → Nat → Int) (f : Fm) : Nat → Int := fun j => f.ev fun i => r i j
theorem row_bt {n : Nat} {r : Nat → Nat → Int} {f : Fm} (h : ∀ i, i ∈ f.ins → Bt n (r i)) : Bt n (f.row r) := ⟨fun j hj => ev_bit fun i hi => (h i hi).b j hj⟩
theorem FmAt.sam {H H' : Hp} {f : Fm} {v : V} (h : FmAt H f v) (s : Sam H H') : FmAt H' f v := h.keep fun _ _ e => s.tup e
/-- rows by the numbers of inputs, in a dict -/
def DRows (H : Hp) (D : Addr) (is : List Nat) (n : Nat) (r : Nat → Nat → Int) : Prop := ∃ kvs, H D = some (.dK kvs) ∧ ∀ i, i ∈ is → Bt n (r i) ∧ ∃ t, valV kvs (.inl (i : Int)) = some (.ref t) ∧ Rt H t n (r i)
theorem DRows.sam {H H' : Hp} {D : Addr} {is : List Nat} {n : Nat} {r : Nat → Nat → Int} (h : DRows H D is n r) (s : Sam H H') : DRows H' D is n r := by
  obtain ⟨kvs, h1, h2⟩ := h
  refine ⟨kvs, s.obj _ _ (fun _ z => by cases z) h1, fun i hi => ?_⟩
  obtain ⟨b, t, e, ht⟩ := h2 i hi
  exact ⟨b, t, e, ht.sam s⟩
theorem DRows.sub {H : Hp} {D : Addr} {is js : List Nat} {n : Nat} {r : Nat → Nat → Int} (h : DRows H D is n r) (s : ∀ i, i ∈ js → i ∈ is) : DRows H D js n r := by
  obtain ⟨kvs, h1, h2⟩ := h
  exact ⟨kvs, h1, fun i hi => h2 i (s i hi)⟩
theorem DRows.bt {H : Hp} {D : Addr} {is : List Nat} {n : Nat} {r : Nat → Nat → Int} (h : DRows H D is n r) : ∀ i, i ∈ is → Bt n (r i) := by
  obtain ⟨kvs, h1, h2⟩ := h
  exact fun i hi => (h2 i hi).1
def spr_row_within {K : PySem.W.Frag} {mg : Str → Option Value} (d : Nat) (T : Defs K mg) : Sp := fun vs H Q _ => ∃ f v D n r, vs = [v, .ref D] ∧ FmAt H f v ∧ f.dep ≤ d ∧ DRows H D f.ins n r ∧ n ≤ 100000 ∧ Tb5 T H ∧
  ∀ H' t, Sam H H' → Rt H' t n (f.row r) → Q (.ref t) H'
theorem no_row_within {K : PySem.W.Frag} {mg : Str → Option Value} {T : Defs K mg} {vs : List V} {H : Hp} {Q : VK} {E : XK} (h : spr_row_within 0 T vs H Q E) : False := by
  obtain ⟨f, v, D, n, r, _, _, z, _⟩ := h
  have := f.dep_pos
  omega
theorem okr_row_within (T : Defs K mg) (TT : Tabs T base) : ∀ d : Nat, FnOk P w K mg base CX0 (4 + d) T.f_row_within T.fd_row_within ["formula", "rows"] (spr_row_within d T)
  | 0 => ⟨fun _ _ _ _ z => (no_row_within z).elim, fun _ _ _ _ _ _ _ _ _ _ _ _ _ z => (no_row_within z).elim⟩
  | d + 1 => by
    have G_turned : FnOk P w K mg base CX0 1 T.f_turned T.fd_turned ["row"] (sp_turned T) := ok_turned T TT
    have G_both : FnOk P w K mg base CX0 2 T.f_both T.fd_both ["one", "other"] (sp_both T) := ok_both T TT
    have G_either : FnOk P w K mg base CX0 2 T.f_either T.fd_either ["one", "other"] (sp_either T) := ok_either T TT
    have G_oneof : FnOk P w K mg base CX0 2 T.f_oneof T.fd_oneof ["one", "other"] (sp_oneof T) := ok_oneof T TT
    have G_pick : FnOk P w K mg base CX0 2 T.f_pick T.fd_pick ["by", "one", "other"] (sp_pick T) := ok_pick T TT
    have G_row_within : FnOk P w K mg base CX0 (4 + d) T.f_row_within T.fd_row_within ["formula", "rows"] (spr_row_within d T) := okr_row_within T TT d
    show FnOk P w K mg base CX0 ((4 + d) + 1) T.f_row_within T.fd_row_within ["formula", "rows"] (spr_row_within (d + 1) T)
    refine T.F_row_within.ok sc_row_within (fun vs H Q E h => ?_) (fun cdv A outer s H vs Q E hr h => ?_)
    · obtain ⟨f, v, D, n, r, rfl, hf, dp, hD, hn, tb, q⟩ := h
      rfl
    · obtain ⟨f, v, D, n, r, rfl, hf, dp, hD, hn, tb, q⟩ := h
      refine ⟨_, PSs.nox (pss_one (ps_match (pv 0) (pcs_seq rfl sc_row_within.nd pe_str (pcap_cons (i := 2) rfl (.inl rfl) pcap_nil) (pss_one (ps_ret (pe_dget (u1 hr) (pv 1) (pv 2) (fun _ _ => rfl))))
    (pcs_seq rfl sc_row_within.nd pe_str (pcap_cons (i := 3) rfl (.inl rfl) pcap_nil) (pss_one (ps_ret (pe_call G_turned (hr.mono (by omega)) (by rfl) T.g_turned T.F_turned.kp T.b_turned .nil pass0 (pa_cons (pe_call G_row_within (hr.mono (by omega)) (by rfl) T.g_row_within T.F_row_within.kp T.b_row_within .nil pass0 (pa_cons (pv 3) (pa_cons (pv 1) pa_nil))) pa_nil))))
    (pcs_seq rfl sc_row_within.nd pe_str (pcap_cons (i := 3) rfl (.inl rfl) (pcap_cons (i := 4) rfl (.inl rfl) pcap_nil)) (pss_one (ps_ret (pe_call G_both (hr.mono (by omega)) (by rfl) T.g_both T.F_both.kp T.b_both .nil pass0 (pa_cons (pe_call G_row_within (hr.mono (by omega)) (by rfl) T.g_row_within T.F_row_within.kp T.b_row_within .nil pass0 (pa_cons (pv 3) (pa_cons (pv 1) pa_nil))) (pa_cons (pe_call G_row_within (hr.mono (by omega)) (by rfl) T.g_row_within T.F_row_within.kp T.b_row_within .nil pass0 (pa_cons (pv 4) (pa_cons (pv 1) pa_nil))) pa_nil)))))
    (pcs_seq rfl sc_row_within.nd pe_str (pcap_cons (i := 3) rfl (.inl rfl) (pcap_cons (i := 4) rfl (.inl rfl) pcap_nil)) (pss_one (ps_ret (pe_call G_either (hr.mono (by omega)) (by rfl) T.g_either T.F_either.kp T.b_either .nil pass0 (pa_cons (pe_call G_row_within (hr.mono (by omega)) (by rfl) T.g_row_within T.F_row_within.kp T.b_row_within .nil pass0 (pa_cons (pv 3) (pa_cons (pv 1) pa_nil))) (pa_cons (pe_call G_row_within (hr.mono (by omega)) (by rfl) T.g_row_within T.F_row_within.kp T.b_row_within .nil pass0 (pa_cons (pv 4) (pa_cons (pv 1) pa_nil))) pa_nil)))))
    (pcs_seq rfl sc_row_within.nd pe_str (pcap_cons (i := 3) rfl (.inl rfl) (pcap_cons (i := 4) rfl (.inl rfl) pcap_nil)) (pss_one (ps_ret (pe_call G_oneof (hr.mono (by omega)) (by rfl) T.g_oneof T.F_oneof.kp T.b_oneof .nil pass0 (pa_cons (pe_call G_row_within (hr.mono (by omega)) (by rfl) T.g_row_within T.F_row_within.kp T.b_row_within .nil pass0 (pa_cons (pv 3) (pa_cons (pv 1) pa_nil))) (pa_cons (pe_call G_row_within (hr.mono (by omega)) (by rfl) T.g_row_within T.F_row_within.kp T.b_row_within .nil pass0 (pa_cons (pv 4) (pa_cons (pv 1) pa_nil))) pa_nil)))))
    (pcs_seq rfl sc_row_within.nd pe_str (pcap_cons (i := 3) rfl (.inl rfl) (pcap_cons (i := 4) rfl (.inl rfl) (pcap_cons (i := 5) rfl (.inl rfl) pcap_nil))) (pss_one (ps_ret (pe_call G_pick (hr.mono (by omega)) (by rfl) T.g_pick T.F_pick.kp T.b_pick .nil pass0 (pa_cons (pe_call G_row_within (hr.mono (by omega)) (by rfl) T.g_row_within T.F_row_within.kp T.b_row_within .nil pass0 (pa_cons (pv 3) (pa_cons (pv 1) pa_nil))) (pa_cons (pe_call G_row_within (hr.mono (by omega)) (by rfl) T.g_row_within T.F_row_within.kp T.b_row_within .nil pass0 (pa_cons (pv 4) (pa_cons (pv 1) pa_nil))) (pa_cons (pe_call G_row_within (hr.mono (by omega)) (by rfl) T.g_row_within T.F_row_within.kp T.b_row_within .nil pass0 (pa_cons (pv 5) (pa_cons (pv 1) pa_nil))) pa_nil))))))
    pcs_nil)))))))), ?_⟩
      cases f with
      | inp i =>
        obtain ⟨a, rfl, ha⟩ := hf
        obtain ⟨kvs, hk, hv⟩ := hD
        obtain ⟨_, t, e, ht⟩ := hv i List.mem_cons_self
        refine ⟨.ref a, rfl, a, _, rfl, SqT.mk ha, .inr ⟨_, _, rfl, rfl, .inl ⟨rfl, ?_⟩⟩⟩
        exact ⟨.ref D, rfl, _, rfl, D, .ref t, rfl, e ▸ DGet.k (k := .inl (i : Int)) hk, q H t (Sam.refl H) ht⟩
      | less f =>
        obtain ⟨a, u, rfl, ha, hu⟩ := hf
        have dp : f.dep + 1 ≤ d + 1 := dp
        refine ⟨.ref a, rfl, a, _, rfl, SqT.mk ha, .inr ⟨_, _, rfl, rfl, .inr ⟨by decide +kernel, .inr ⟨_, _, rfl, rfl, .inl ⟨rfl, ?_⟩⟩⟩⟩⟩
        refine ⟨u, rfl, .ref D, rfl, f, u, D, n, r, rfl, hu, by omega, hD, hn, tb, fun H1 t1 s1 h1 => ?_⟩
        exact use_turned (tb.sam s1) hn h1 fun H2 t2 s2 h2 => q H2 t2 (s1.trans s2) h2
      | both f g =>
        obtain ⟨a, u, x, rfl, ha, hu, hx⟩ := hf
        have dp : max f.dep g.dep + 1 ≤ d + 1 := dp
        have hD1 : DRows H D f.ins n r := hD.sub fun i h => List.mem_append_left _ h
        have hD2 : DRows H D g.ins n r := hD.sub fun i h => List.mem_append_right _ h
        refine ⟨.ref a, rfl, a, _, rfl, SqT.mk ha, .inl ⟨by simp, .inl ⟨by simp, .inr ⟨_, _, rfl, rfl, .inl ⟨rfl, ?_⟩⟩⟩⟩⟩
        refine ⟨u, rfl, .ref D, rfl, f, u, D, n, r, rfl, hu, by omega, hD1, hn, tb, fun H1 t1 s1 h1 => ?_⟩
        refine ⟨x, rfl, .ref D, rfl, g, x, D, n, r, rfl, hx.sam s1, by omega, hD2.sam s1, hn, tb.sam s1, fun H2 t2 s2 h2 => ?_⟩
        have s12 := s1.trans s2
        exact use_both (tb.sam s12) (h1.sam s2) h2 (row_bt hD1.bt) (row_bt hD2.bt) fun H3 t3 s3 h3 => q H3 t3 (s12.trans s3) h3
      | either f g =>
        obtain ⟨a, u, x, rfl, ha, hu, hx⟩ := hf
        have dp : max f.dep g.dep + 1 ≤ d + 1 := dp
        have hD1 : DRows H D f.ins n r := hD.sub fun i h => List.mem_append_left _ h
        have hD2 : DRows H D g.ins n r := hD.sub fun i h => List.mem_append_right _ h
        refine ⟨.ref a, rfl, a, _, rfl, SqT.mk ha, .inl ⟨by simp, .inl ⟨by simp, .inr ⟨_, _, rfl, rfl, .inr ⟨by decide +kernel, .inr ⟨_, _, rfl, rfl, .inl ⟨rfl, ?_⟩⟩⟩⟩⟩⟩⟩
        refine ⟨u, rfl, .ref D, rfl, f, u, D, n, r, rfl, hu, by omega, hD1, hn, tb, fun H1 t1 s1 h1 => ?_⟩
        refine ⟨x, rfl, .ref D, rfl, g, x, D, n, r, rfl, hx.sam s1, by omega, hD2.sam s1, hn, tb.sam s1, fun H2 t2 s2 h2 => ?_⟩
        have s12 := s1.trans s2
        exact use_either (tb.sam s12) (h1.sam s2) h2 (row_bt hD1.bt) (row_bt hD2.bt) fun H3 t3 s3 h3 => q H3 t3 (s12.trans s3) h3
      | oneof f g =>
        obtain ⟨a, u, x, rfl, ha, hu, hx⟩ := hf
        have dp : max f.dep g.dep + 1 ≤ d + 1 := dp
        have hD1 : DRows H D f.ins n r := hD.sub fun i h => List.mem_append_left _ h
        have hD2 : DRows H D g.ins n r := hD.sub fun i h => List.mem_append_right _ h
        refine ⟨.ref a, rfl, a, _, rfl, SqT.mk ha, .inl ⟨by simp, .inl ⟨by simp, .inr ⟨_, _, rfl, rfl, .inr ⟨by decide +kernel, .inr ⟨_, _, rfl, rfl, .inr ⟨by decide +kernel, .inr ⟨_, _, rfl, rfl, .inl ⟨rfl, ?_⟩⟩⟩⟩⟩⟩⟩⟩⟩
        refine ⟨u, rfl, .ref D, rfl, f, u, D, n, r, rfl, hu, by omega, hD1, hn, tb, fun H1 t1 s1 h1 => ?_⟩
        refine ⟨x, rfl, .ref D, rfl, g, x, D, n, r, rfl, hx.sam s1, by omega, hD2.sam s1, hn, tb.sam s1, fun H2 t2 s2 h2 => ?_⟩
        have s12 := s1.trans s2
        exact use_oneof (tb.sam s12) (h1.sam s2) h2 (row_bt hD1.bt) (row_bt hD2.bt) fun H3 t3 s3 h3 => q H3 t3 (s12.trans s3) h3
      | pick f g h =>
        obtain ⟨a, u, x, y, rfl, ha, hu, hx, hy⟩ := hf
        have dp : max f.dep (max g.dep h.dep) + 1 ≤ d + 1 := dp
        have hD1 : DRows H D f.ins n r := hD.sub fun i h => List.mem_append_left _ h
        have hD2 : DRows H D g.ins n r := hD.sub fun i h => List.mem_append_right _ (List.mem_append_left _ h)
        have hD3 : DRows H D h.ins n r := hD.sub fun i h => List.mem_append_right _ (List.mem_append_right _ h)
        refine ⟨.ref a, rfl, a, _, rfl, SqT.mk ha, .inl ⟨by simp, .inl ⟨by simp, .inl ⟨by simp, .inl ⟨by simp, .inl ⟨by simp, .inr ⟨_, _, rfl, rfl, .inl ⟨rfl, ?_⟩⟩⟩⟩⟩⟩⟩⟩
        refine ⟨u, rfl, .ref D, rfl, f, u, D, n, r, rfl, hu, by omega, hD1, hn, tb, fun H1 t1 s1 h1 => ?_⟩
        refine ⟨x, rfl, .ref D, rfl, g, x, D, n, r, rfl, hx.sam s1, by omega, hD2.sam s1, hn, tb.sam s1, fun H2 t2 s2 h2 => ?_⟩
        have s12 := s1.trans s2
        refine ⟨y, rfl, .ref D, rfl, h, y, D, n, r, rfl, hy.sam s12, by omega, hD3.sam s12, hn, tb.sam s12, fun H3 t3 s3 h3 => ?_⟩
        exact use_pick ((tb.sam s12).sam s3) ((h1.sam s2).sam s3) (h2.sam s3) h3 fun H4 t4 s4 h4 => q H4 t4 ((s12.trans s3).trans s4) h4
def sp_row_within {K : PySem.W.Frag} {mg : Str → Option Value} (T : Defs K mg) : Sp := spr_row_within 9 T
theorem ok_row_within (T : Defs K mg) (TT : Tabs T base) : FnOk P w K mg base CX0 13 T.f_row_within T.fd_row_within ["formula", "rows"] (sp_row_within T) := okr_row_within T TT 9
/-! a set comprehension of numbers (the road is that of the library's rule for truth values, told for numbers) -/
abbrev eSet (w : World) (D : Addr) : HO := SetO w D (fun _ => false) 0
def tScI (w : World) (wi : TI) (g : TG) (tt : TT) (te : TE) (vs : List Nat) : TE := fun σ H Q => wi σ H fun J H1 => ∀ D, H1 D = none → ∃ W : Nat → Nat → Hp → Prop, (∃ m, W 0 m (upd H1 D (eSet w D))) ∧ ∀ i m H, W i m H →
  (J.stop i H ∧ Q (.ref D) H) ∨ (J.go i H ∧ ∃ N : Hp → Prop, (∀ H', N H' → ∃ m', m' < m ∧ W (i + 1) m' H') ∧ ∀ x H', J.yld i H x H' → g x (wipe σ vs) H' fun τ H2 => wipe τ vs = wipe σ vs ∧ tt τ H2 fun b H3 =>
    if b = true then te τ H3 fun y H4 => ∃ (k : Int) (S : Int → Bool) (n : Nat), y = .int k ∧ H4 D = some (SetO w D S n) ∧ n + 1 < scanBound ∧ N (upd H4 D (SetO w D (fun j => S j || decide (j = k)) (if S k = true then n else n + 1))) else N H3)
theorem set_fresh {h : Heap} (w : World) : SetR w (h.push { cls := .type "set", dict := none, data := .set #[] 0 (.fresh 0 0 (!w.params.followText "set-order")) }) h.objs.size (fun _ => false) 0 := by
  refine ⟨_, #[], 0, _, Heap.get?_push_size _ rfl, ⟨rfl, rfl, rfl⟩, rfl, (fun e he => by simp at he), (by simp), (fun k => by simp), (by decide), (by rfl), rfl, List.Pairwise.nil, ?_⟩
  show _ ∨ (!w.params.followText "set-order") = true
  cases w.params.followText "set-order" with
  | false => exact .inr rfl
  | true => exact .inl rfl
theorem pe_scI {X : Cx} {elt tg iter : Expr} {ifs : List Expr} {sc : Scope} {own : List (Str × Nat)} {pos : Pos} {wi : TI} {g : TG} {tt : TT} {te : TE} (calm : X.calm = true) (nd : X.N.Nodup) (hi : PI X tg iter wi) (ok : BlkOk X.N X.env.scope sc own)
    (hg : ∀ (s : Shared) (H : Hp) (C : Addr) (cl : List (Str × Addr)) (fp : List Addr), PG (X.blk s H sc (compEnvC sc cl C X.env) fp) tg g) (ht : ∀ (s : Shared) (H : Hp) (C : Addr) (cl : List (Str × Addr)) (fp : List Addr), PTs (X.blk s H sc (compEnvC sc cl C X.env) fp) ifs tt)
    (he : ∀ (s : Shared) (H : Hp) (C : Addr) (cl : List (Str × Addr)) (fp : List Addr), PE (X.blk s H sc (compEnvC sc cl C X.env) fp) elt te) (hs : ∀ x, foldedSetIterable iter X.env x = pure x := by intro _; rfl) :
    PE X (.SetComp elt [⟨tg, iter, ifs, 0⟩] sc pos) (tScI X.w wi g tt te (own.map (·.2))) := by
  refine ⟨fun pins s σ H Q I h => ?_⟩
  rw [PpSet.eval_SetComp]
  have fr : ∀ y ∈ sc.names, y.2 = .free → ∃ c, X.env.cells.lookup y.1 = some c := fun y hy e => (ok.free y hy e).elim (fun k => I.ok.has _ (.inl k)) fun k => I.ok.has _ (.inr k)
  refine wpAny_comprehension_free rfl hs (closure_ok fr) ok.kind (fun y hy e => by rw [ok.uniq y hy, e]) (thn (hi.run pins s σ H _ I h) fun xv s1 zx => thn zx fun iv s2 z2 => ?_)
  obtain ⟨it, fp, tn, J, G, e, I2, T, at2, f2, q⟩ := z2
  subst e
  refine PpSet.newSet_ok (newEnv_comp ?_)
  obtain ⟨D, eD⟩ : ∃ D, s2.heap.objs.size = D := ⟨_, rfl⟩
  rw [eD]
  obtain ⟨W, ⟨m0, w0⟩, turn⟩ := q D (I2.hok.fresh (Nat.le_of_eq eD))
  obtain ⟨s3, e3⟩ : ∃ s3 : Shared, { s2 with heap := s2.heap.push { cls := .type "set", dict := none, data := .set #[] 0 (.fresh 0 0 (!X.w.params.followText "set-order")) } } = s3 := ⟨_, rfl⟩
  have hp3 : s3.heap = s2.heap.push { cls := .type "set", dict := none, data := .set #[] 0 (.fresh 0 0 (!X.w.params.followText "set-order")) } := by rw [← e3]
  obtain ⟨G3, eG⟩ : ∃ G3, upd G D (eSet X.w D) = G3 := ⟨_, rfl⟩
  have I3 : Inv X pins σ G3 s3 := by
    rw [← e3, ← eG]
    refine I2.laid (t' := s2.toks) (fun b o x => Heap.get?_push_of_some _ x) (Nat.le_of_eq eD) ?_
    rw [← eD]
    exact setO_new (set_fresh X.w)
  have f3 : ∀ b ∈ fp, FpOk X pins G3 b ∧ b < s3.heap.objs.size := fun b hb => by
    obtain ⟨o, x, _⟩ := T.obj _ _ at2 b hb
    have lt := Heap.lt_size x
    refine ⟨⟨?_, (f2 b hb).2⟩, by rw [hp3, Heap.size_push]; exact Nat.lt_succ_of_lt lt⟩
    rw [← eG, upd_ne (by rw [← eD]; exact Nat.ne_of_lt lt)]
    exact (f2 b hb).1
  rw [e3]
  rw [eG] at w0
  have at3 : tn 0 s3.heap := T.keep _ _ _ at2 fun b _ o x => by rw [hp3]; exact Heap.get?_push_of_some _ x
  have I4 := block_start I3 ok nd f3
  have pg := hg s3 G3 s3.heap.objs.size (cellsFrom (s3.heap.objs.size + 1) sc.names (cloFrom X.env.cells sc.names [])) fp
  have pt := ht s3 G3 s3.heap.objs.size (cellsFrom (s3.heap.objs.size + 1) sc.names (cloFrom X.env.cells sc.names [])) fp
  have pe := he s3 G3 s3.heap.objs.size (cellsFrom (s3.heap.objs.size + 1) sc.names (cloFrom X.env.cells sc.names [])) fp
  show codeAny _ _ (.compStart (.SetComp elt [⟨tg, iter, ifs, 0⟩] sc pos) 0 (.ref it) (.ref D) (compEnvC sc (cellsFrom (s3.heap.objs.size + 1) sc.names (cloFrom X.env.cells sc.names [])) s3.heap.objs.size X.env)) (compPost (model X.prog X.w) X.A X.xe none (EP X pins σ Q) (.ref D) s3.heap.objs.size) { s3 with heap := pushCells (s3.heap.push { cls := .type "dict", data := .dict #[] }) sc.names }
  obtain ⟨ce, ec⟩ : ∃ ce, compEnvC sc (cellsFrom (s3.heap.objs.size + 1) sc.names (cloFrom X.env.cells sc.names [])) s3.heap.objs.size X.env = ce := ⟨_, rfl⟩
  rw [ec] at I4 pg pt pe ⊢
  have loc : ce.locals = s3.heap.objs.size := by rw [← ec]; rfl
  obtain ⟨s4, e4⟩ : ∃ s4 : Shared, { s3 with heap := pushCells (s3.heap.push { cls := .type "dict", data := .dict #[] }) sc.names } = s4 := ⟨_, rfl⟩
  rw [e4] at I4 ⊢
  have at4 : tn 0 s4.heap := T.keep _ _ _ at3 fun b _ o x => by rw [← e4]; exact pushCells_keeps _ _ _ _ (Heap.get?_push_of_some _ x)
  have stat : ∀ {τ : L2.St} {H' : Hp} {s' : Shared}, Inv (X.blk s3 G3 sc ce fp) [] τ H' s' → (∀ b ∈ fp, H' b = none) → ∀ b ∈ fp, FpOk (X.blk s3 G3 sc ce fp) [] H' b := fun {τ H' s'} J' no b hb =>
    ⟨no b hb, (J'.ok.exf b hb).1, J'.ok.exfs b hb, .inl hb, fun x c z => (J'.ok.exf b hb).2 x c z, fun p hp => absurd (show p ∈ ([] : List (Addr × Obj)) ++ [] from hp) (by simp)⟩
  have loop : codeAny (model X.prog X.w) X.A (.compLoop (.SetComp elt [⟨tg, iter, ifs, 0⟩] sc pos) 0 (.ref it) (.ref D) ce) (compPost (model X.prog X.w) X.A X.xe none (EP X pins σ Q) (.ref D) s3.heap.objs.size) s4 := by
    refine PpSet.compLoopS_any (fun n t => ∃ i H', Inv (X.blk s3 G3 sc ce fp) [] (wipe σ (own.map (·.2))) H' t ∧ tn i t.heap ∧ (∀ b ∈ fp, H' b = none) ∧ W i n H') ?_ m0 ⟨0, G3, I4, at4, fun b hb => (f3 b hb).1.1, w0⟩
    rintro n t ⟨i, K1, J1, a1, n1, w1⟩
    rcases turn i n K1 w1 with ⟨stop, done⟩ | ⟨go, N, hN, step⟩
    · refine thnF (T.done (X.blk s3 G3 sc ce fp) rfl rfl rfl calm i [] t _ K1 (fun _ _ => False) J1 (stat J1 n1) a1 stop) fun r t2 ⟨hr, J2⟩ => ?_
      subst hr
      have back : Inv X pins σ K1 t2 := I3.call' (ch := fp) J2.os J2.base J2.hok J2.bare fun b hb => by
        obtain ⟨⟨_, y1, _, y3, y4, y5⟩, _⟩ := f3 b hb
        exact ⟨y3, y1, y4, y5⟩
      have noC : K1 s3.heap.objs.size = none := by
        have z : K1 ce.locals = none := J2.free
        rw [loc] at z
        exact z
      obtain ⟨m, hn, _⟩ := J2.loc
      have hn : t2.heap.Ns ce.locals m := hn
      rw [loc] at hn
      obtain ⟨y0, y1, y2, y3, y4, y5⟩ := I3.fpOk (Nat.le_refl _) noC
      exact ⟨m, hn, fun h'' sb => ⟨.ref D, K1, back.turned (t' := t2.toks) (fun b o hb x => (sb.2 b hb).trans x) y0 y1 y3 y4 y5, rfl, done⟩⟩
    · refine thnF (T.item (X.blk s3 G3 sc ce fp) rfl rfl rfl calm i [] t _ K1 (fun _ _ => False) J1 (stat J1 n1) a1 go) fun r t2 ⟨u, hr, z2⟩ => ?_
      subst hr
      refine thnF z2 fun _ t3 ⟨x, K3, J3, r3, y3, a3, n3⟩ => ?_
      refine thnF (pg.run _ t3 _ K3 x u _ (J3.pinned (stat J3 n3) (T.obj _ _ a3)) r3 (step x K3 y3)) fun _ t4 ⟨τ, K4, J4, hw, z4⟩ => ?_
      refine thnF (pt.run _ t4 τ K4 _ J4 z4) fun b t5 ⟨K5, J5, z5⟩ => ?_
      have fin : ∀ {t' : Shared} {K' : Hp}, Inv (X.blk s3 G3 sc ce fp) ([] ++ pinsAt fp t3.heap) τ K' t' → N K' → ∃ m, m < n ∧ ∃ i H', Inv (X.blk s3 G3 sc ce fp) [] (wipe σ (own.map (·.2))) H' t' ∧ tn i t'.heap ∧ (∀ b ∈ fp, H' b = none) ∧ W i m H' := fun {t' K'} J' nx => by
        obtain ⟨m', lt, w'⟩ := hN K' nx
        have pin : ∀ b ∈ fp, ∀ o, t3.heap.get? b = some o → t'.heap.get? b = some o ∧ K' b = none := fun b hb o x => by
          have z := J'.pin (b, o) (List.mem_append_right _ (List.mem_append_right _ (mem_pinsAt hb x)))
          exact ⟨z.1, z.2.1⟩
        refine ⟨m', lt, i + 1, K', (J'.unpinned (pins := [])).weak (by rw [← hw, wipe_length]) (fun j v x => ?_), T.keep _ _ _ a3 fun b hb o x => (pin b hb o x).1, fun b hb => ?_, w'⟩
        · rw [← hw] at x
          exact (wipe_some x).1
        · obtain ⟨o, x, _⟩ := T.obj _ _ a3 b hb
          exact (pin b hb o x).2
      cases b with
      | false =>
        simp only [Bool.false_eq_true, if_false] at z5 ⊢
        exact fin J5 z5
      | true =>
        simp only [if_true] at z5 ⊢
        refine thnF (pe.run _ t5 τ K5 _ J5 z5) fun z t6 ⟨yv, K6, J6, r6, k, S, c, ey, hD6, room, nx⟩ => ?_
        subst ey
        refine thnF (mt_sadd (X := X.blk s3 G3 sc ce fp) _ t6 τ K6 (.ref D) [.int k] (.ref D) [z] (fun _ K' => N K') J6 rfl (.cons r6 .nil) ⟨D, k, S, c, rfl, rfl, hD6, room, nx⟩) fun _ t7 ⟨_, K7, J7, _, nx7⟩ => fin J7 nx7
  exact PpSet.codeAny_compStart_set loop (T.self X.A 0 _ _ _ at4 loop)
/-- over a list that the block leaves as it is -/
theorem sci_list {w : World} {K : PySem.W.Frag} {a : Addr} {xs : List V} {g : TG} {tt : TT} {te : TE} {vs : List Nat} {σ : L2.St} {H1 : Hp} {D : Addr} {Qd : Hp → Prop} (Pv : Nat → Hp → Prop) (h0 : Pv 0 (upd H1 D (eSet w D))) (hl : ∀ i H, i ≤ xs.length → Pv i H → SqL K H a xs)
    (hs : ∀ i x H, xs[i]? = some x → Pv i H → g x (wipe σ vs) H fun τ H2 => wipe τ vs = wipe σ vs ∧ tt τ H2 fun b H3 =>
      if b = true then te τ H3 fun y H4 => ∃ (k : Int) (S : Int → Bool) (n : Nat), y = .int k ∧ H4 D = some (SetO w D S n) ∧ n + 1 < scanBound ∧ Pv (i + 1) (upd H4 D (SetO w D (fun j => S j || decide (j = k)) (if S k = true then n else n + 1))) else Pv (i + 1) H3) (hd : ∀ H, Pv xs.length H → Qd H) :
    ∃ W : Nat → Nat → Hp → Prop, (∃ m, W 0 m (upd H1 D (eSet w D))) ∧ ∀ i m H, W i m H →
      ((Itl K a).stop i H ∧ Qd H) ∨ ((Itl K a).go i H ∧ ∃ N : Hp → Prop, (∀ H', N H' → ∃ m', m' < m ∧ W (i + 1) m' H') ∧ ∀ x H', (Itl K a).yld i H x H' → g x (wipe σ vs) H' fun τ H2 => wipe τ vs = wipe σ vs ∧ tt τ H2 fun b H3 =>
        if b = true then te τ H3 fun y H4 => ∃ (k : Int) (S : Int → Bool) (n : Nat), y = .int k ∧ H4 D = some (SetO w D S n) ∧ n + 1 < scanBound ∧ N (upd H4 D (SetO w D (fun j => S j || decide (j = k)) (if S k = true then n else n + 1))) else N H3) := by
  refine ⟨fun i m H => m + i = xs.length ∧ Pv i H, ⟨xs.length, rfl, h0⟩, ?_⟩
  rintro i m H ⟨em, p⟩
  have q := hl i H (by omega) p
  by_cases lt : i < xs.length
  · refine .inr ⟨⟨xs, xs[i], q, by simp [lt]⟩, Pv (i + 1), fun H' p' => ⟨m - 1, by omega, by omega, p'⟩, ?_⟩
    rintro x H' ⟨e, y⟩
    subst e
    exact hs i x _ (y xs q) p
  · obtain rfl : i = xs.length := by omega
    exact .inl ⟨⟨xs, q, Nat.le_refl _⟩, hd H p⟩
def sp__law_any (_ : PySem.W.Frag) : Sp := fun vs H Q _ => ∃ (p : Addr) (n : Nat), vs = [.ref p] ∧ Bx H p n ∧ n < 1000000 ∧
  ∀ H' v f, But p H H' → Bx H' p (n + 200) → FmAt H' f v → f.dep ≤ 8 → f.sz ≤ 24 → (∀ i, i ∈ f.ins → i < 6) → Q v H'
theorem bl01 {c : Bool} : 0 ≤ (if c = true then (1 : Int) else 0) ∧ (if c = true then (1 : Int) else 0) < ((2 : Nat) : Int) := by
  cases c <;> decide
theorem ok__law_any (T : Defs K mg) (TT : Tabs T base) : FnOk P w K mg base CX0 12 T.f__law_any T.fd__law_any ["_law_box_here"] (sp__law_any K) := by
  have G__law_formula : FnOk P w K mg base CX0 11 T.f__law_formula T.fd__law_formula ["_law_box_here", "_law_deep", "_law_many", "_law_wide"] (sp__law_formula K) := ok__law_formula T TT
  have G__law_take : FnOk P w K mg base CX0 1 T.f__law_take T.fd__law_take ["_law_box_here", "_law_many"] (sp__law_take K) := ok__law_take T TT
  refine T.F__law_any.ok sc__law_any (fun vs H Q E h => ?_) (fun cdv A outer s H vs Q E hr h => ?_)
  · obtain ⟨p, n, rfl, hB, hn, q⟩ := h
    rfl
  · obtain ⟨p, n, rfl, hB, hn, q⟩ := h
    refine ⟨_, PSs.nox (pss_cons (ps_par (i := 1) (j := 2) (by rfl) sc__law_any.nd rfl rfl (by decide) rfl rfl (pa_cons (pe_cmpR op_eq (pe_call G__law_take (hr.mono (by decide)) (by rfl) T.g__law_take T.F__law_take.kp T.b__law_take .nil pass0 (pa_cons (pv 0) (pa_cons pe_int pa_nil))) pe_int (nomark _)) (pa_cons (pe_op op_add pe_int (pe_call G__law_take (hr.mono (by decide)) (by rfl) T.g__law_take T.F__law_take.kp T.b__law_take .nil pass0 (pa_cons (pv 0) (pa_cons pe_int pa_nil)))) pa_nil)) (by rfl))
    (pss_one (ps_ret (pe_call G__law_formula (hr.mono (by decide)) (by rfl) T.g__law_formula T.F__law_formula.kp T.b__law_formula .nil pass0 (pa_cons (pv 0) (pa_cons (pe_ix ix_list (pe_lst (pa_cons pe_int (pa_cons pe_int pa_nil))) (pe_callTy call_int1 (by rfl) T.m_int bt_int (pa_cons (pv 1) pa_nil)) (fun _ _ => rfl)) (pa_cons (pe_ix ix_list (pe_lst (pa_cons (pe_op op_add pe_int (pe_call G__law_take (hr.mono (by decide)) (by rfl) T.g__law_take T.F__law_take.kp T.b__law_take .nil pass0 (pa_cons (pv 0) (pa_cons pe_int pa_nil)))) (pa_cons pe_int pa_nil))) (pe_callTy call_int1 (by rfl) T.m_int bt_int (pa_cons (pv 1) pa_nil)) (fun _ _ => rfl)) (pa_cons (pv 2) pa_nil)))))))), ?_⟩
    have hsl : sizeLine = 16777216 := by decide
    refine ⟨.ref p, rfl, p, 4, n, rfl, hB, by decide, by decide, by omega, fun H1 r1 c1 B1 l1 u1 => ⟨rfl, ?_⟩⟩
    obtain ⟨gr, egr⟩ : ∃ gr, decide (V.int r1 = V.int 0) = gr := ⟨_, rfl⟩
    rw [egr]
    refine ⟨.ref p, rfl, p, 6, _, rfl, B1, by decide, by decide, by omega, fun H2 r2 c2 B2 l2 u2 => ⟨_, _, rfl, rfl, ?_⟩⟩
    obtain ⟨wi, hwi⟩ := nat_of (show 0 ≤ 1 + r2 by omega)
    try dsimp only
    rw [hwi]
    refine ⟨_, _, rfl, ?_⟩
    refine ⟨.ref p, rfl, (show 2 ≤ sizeLine by decide), fun la na => ?_⟩
    have s3 := same_upd na (o := .lst [.int 5, .int 8])
    obtain ⟨de, ev1, hde⟩ := at_menu (Pr := fun v => v = 5 ∨ v = 8) (xs := [5, 8]) (r := if gr = true then (1 : Int) else 0) bl01.1 bl01.2 (fun x hx => by
      simp only [List.mem_cons, List.not_mem_nil, or_false] at hx
      exact hx)
    refine ⟨.bl gr, rfl, .inr ⟨_, rfl, la, _, _, _, rfl, rfl, SqL.mk upd_same, ev1, ?_⟩⟩
    have B3 := B2.same s3
    have c3 := (c1.trans c2).trans (same_but s3)
    generalize upd H2 la (.lst [.int 5, .int 8]) = H3 at B3 c3 ⊢
    refine ⟨.ref p, rfl, p, 9, _, rfl, B3, by decide, by decide, by omega, fun H4 r4 c4 B4 l4 u4 => ⟨_, _, rfl, rfl, (show 2 ≤ sizeLine by decide), fun lb nb => ?_⟩⟩
    obtain ⟨ma, ev2, hma⟩ := at_menu (Pr := fun v => 1 ≤ v ∧ v ≤ 24) (xs := [1 + r4, 24]) (r := if gr = true then (1 : Int) else 0) bl01.1 bl01.2 (fun x hx => by
      simp only [List.mem_cons, List.not_mem_nil, or_false] at hx
      omega)
    have s5 := same_upd nb (o := .lst [.int (1 + r4), .int 24])
    refine ⟨.bl gr, rfl, .inr ⟨_, rfl, lb, _, _, _, rfl, rfl, SqL.mk upd_same, ev2, ?_⟩⟩
    have B5 := B4.same s5
    obtain ⟨de, rfl⟩ := nat_of (show 0 ≤ de by omega)
    obtain ⟨ma, rfl⟩ := nat_of (show 0 ≤ ma by omega)
    refine ⟨_, rfl, p, _, de, ma, wi, rfl, B5, by omega, by omega, by omega, by omega, by omega, by omega, fun H6 v f c6 B6 hf ok => ?_⟩
    have o1 := ok.dp
    have o2 := ok.sz
    exact q H6 v f ((c3.trans c4).trans ((same_but s5).trans c6)) (B6.mono (by omega)) hf (by omega) (by omega) fun i hi => by
      have := ok.ins i hi
      omega
theorem wd_in {w : Str} (h : w ≠ "in") : decide (V.str w = V.str "in") = false := decide_eq_false fun e => h (V.str.inj e)
theorem not_whole {v : V} {us : List V} : ¬ (HT.sIx (v :: us).length 0 (some 1) = 0 ∧ HT.sIx (v :: us).length (v :: us).length none = (v :: us).length) := by
  rintro ⟨e, _⟩
  rw [show (1 : Int) = ((1 : Nat) : Int) from rfl, HT.sIx_nat] at e
  simp at e
def spr__law_inputs (d : Nat) (_ : PySem.W.Frag) : Sp := fun vs H Q _ => ∃ f v, vs = [v] ∧ FmAt H f v ∧ f.dep ≤ d ∧ f.sz ≤ 100 ∧
  ∀ H' p, Same H H' → H p = none → H' p = some (.lst ((f.ins.map fun (i : Nat) => (i : Int)).map V.int)) → Q (.ref p) H'
theorem no__law_inputs {K : PySem.W.Frag} {vs : List V} {H : Hp} {Q : VK} {E : XK} (h : spr__law_inputs 0 K vs H Q E) : False := by
  obtain ⟨f, v, _, _, z, _⟩ := h
  have := f.dep_pos
  omega
def insN (fs : List Fm) : List Int := ((fs.map Fm.ins).flatten).map fun (i : Nat) => (i : Int)
theorem insN_snoc (fs : List Fm) (f : Fm) : insN (fs ++ [f]) = insN fs ++ f.ins.map fun (i : Nat) => (i : Int) := by
  unfold insN
  rw [List.map_append, List.flatten_append, List.map_append]
  simp
theorem insN_le {f : Fm} (i : Nat) : (insN (f.sds.take i)).length ≤ f.sz := by
  unfold insN
  rw [List.length_map]
  have a : ((f.sds.take i).map Fm.ins).flatten.length ≤ (f.sds.map Fm.ins).flatten.length := by
    conv => rhs; rw [← List.take_append_drop i f.sds, List.map_append, List.flatten_append, List.length_append]
    exact Nat.le_add_right _ _
  have b := f.ins_len
  by_cases h : f.word = "in"
  · cases f with
    | inp j =>
      rw [show (Fm.inp j).sds.take i = [] by simp [Fm.sds]]
      exact Nat.zero_le _
    | _ => exact absurd h (by simp only [Fm.word]; decide +kernel)
  · rw [Fm.sds_ins h] at a
    omega
theorem okr__law_inputs (T : Defs K mg) (TT : Tabs T base) : ∀ d : Nat, FnOk P w K mg base CX0 (1 + d) T.f__law_inputs T.fd__law_inputs ["_law_formula_here"] (spr__law_inputs d K)
  | 0 => ⟨fun _ _ _ _ z => (no__law_inputs z).elim, fun _ _ _ _ _ _ _ _ _ _ _ _ _ z => (no__law_inputs z).elim⟩
  | d + 1 => by
    have G__law_inputs : FnOk P w K mg base CX0 (1 + d) T.f__law_inputs T.fd__law_inputs ["_law_formula_here"] (spr__law_inputs d K) := okr__law_inputs T TT d
    show FnOk P w K mg base CX0 ((1 + d) + 1) T.f__law_inputs T.fd__law_inputs ["_law_formula_here"] (spr__law_inputs (d + 1) K)
    refine T.F__law_inputs.ok sc__law_inputs (fun vs H Q E h => ?_) (fun cdv A outer s H vs Q E hr h => ?_)
    · obtain ⟨f, v, rfl, hf, dp, sz, q⟩ := h
      rfl
    · obtain ⟨f, v, rfl, hf, dp, sz, q⟩ := h
      refine ⟨_, PSs.nox (pss_cons (ps_if (pt_cmpR op_eq (pe_ix ix_tup (pv 0) pe_int (fun _ _ => rfl)) pe_str (nomark _)) (pss_one (ps_ret (pe_lst (pa_cons (pe_ix ix_tup (pv 0) pe_int (fun _ _ => rfl)) pa_nil)))) pss_nil)
    (pss_cons (ps_set (i := 1) sc__law_inputs.nd rfl (.inl rfl) (pe_lst pa_nil))
    (pss_cons ((ps_for PassesOwn.never rfl (pi_tup (pe_slice sl_tup (pv 0) (po_some pe_int) po_none)) (pg_name (i := 2) sc__law_inputs.nd rfl (.inl rfl)) (pss_one (ps_set (i := 1) sc__law_inputs.nd rfl (.inl rfl) (pe_op op_cat (pv 1) (pe_call G__law_inputs (hr.mono (by omega)) (by rfl) T.g__law_inputs T.F__law_inputs.kp T.b__law_inputs .nil pass0 (pa_cons (pv 2) pa_nil)))))))
    (pss_one (ps_ret (pv 1)))))), ?_⟩
      have hsl : sizeLine = 16777216 := by decide
      rcases hf.shape with ⟨i, a, rfl, rfl, ha⟩ | ⟨a, us, rfl, ha, hw, hs⟩
      · refine ⟨.ref a, rfl, a, _, 0, _, rfl, rfl, SqT.mk ha, atI_nat (j := 0) rfl, rfl, _, rfl, ?_⟩
        rw [decide_eq_true rfl]
        refine iteT ⟨.ref a, rfl, a, _, 1, _, rfl, rfl, SqT.mk ha, atI_nat (j := 1) rfl, (show 1 ≤ sizeLine by decide), fun l nl => q _ l (same_upd nl) nl upd_same⟩
      refine ⟨.ref a, rfl, a, _, 0, _, rfl, rfl, SqT.mk ha, atI_nat (j := 0) rfl, rfl, _, rfl, ?_⟩
      rw [wd_in hw]
      refine iteF ⟨Nat.zero_le _, fun l nl => ?_⟩
      have s1 := same_upd nl (o := .lst [])
      have hl := upd_same (H := H) (a := l) (o := .lst [])
      generalize upd H l (.lst []) = H1 at s1 hl ⊢
      refine ⟨.ref a, rfl, 1, rfl, a, _, rfl, SqT.mk (s1 _ _ ha), not_whole, fun t nt => ?_⟩
      rw [cut_tail]
      have s2 := s1.trans (same_upd nt (o := .tup us))
      have ht := upd_same (H := H1) (a := t) (o := .tup us)
      have hl2 := (same_upd nt (o := .tup us)) _ _ hl
      generalize upd H1 t (.tup us) = H2 at s2 ht hl2 ⊢
      refine ⟨t, rfl, ⟨_, SqT.mk ht⟩, for_tup (xs := us) (fun i σ G => ∃ l y2, σ = [some (.ref a), some (.ref l), y2] ∧ Same H2 G ∧ H l = none ∧ G l = some (.lst ((insN (f.sds.take i)).map V.int))) ⟨l, none, rfl, Same.refl H2, nl, hl2⟩ ?_ ?_ ?_⟩
      · rintro i σ G _ ⟨l, y2, rfl, sG, nl', hG⟩
        exact SqT.mk (sG _ _ ht)
      · rintro i u σ G hu ⟨l, y2, rfl, sG, nl', hG⟩
        obtain ⟨g, hg1, hg2, hg⟩ := (hs.same (s2.trans sG)).get hu
        have gd := Fm.sds_dep hg2
        have gl := g.ins_len
        refine ⟨.ref l, rfl, u, rfl, g, u, rfl, hg, by omega, by omega, fun G2 p2 t2 _ h2 => ?_⟩
        have l1 := insN_le (f := f) i
        refine ⟨l, p2, _, _, rfl, rfl, t2 _ _ hG, h2, by rw [List.length_map, List.length_map, List.length_map]; omega, fun l3 n3 => ?_⟩
        refine ⟨l3, _, rfl, (sG.trans t2).trans (same_upd n3), ((s2.trans sG).trans t2).free n3, ?_⟩
        rw [upd_same, List.take_add_one, hg1, Option.toList_some, insN_snoc, List.map_append]
      · rintro σ G ⟨l, y2, rfl, sG, nl', hG⟩
        rw [hs.1, List.take_length] at hG
        unfold insN at hG
        rw [Fm.sds_ins hw] at hG
        exact ⟨.ref l, rfl, q G l (s2.trans sG) nl' hG⟩
def sp__law_inputs (K : PySem.W.Frag) : Sp := spr__law_inputs 8 K
theorem ok__law_inputs (T : Defs K mg) (TT : Tabs T base) : FnOk P w K mg base CX0 9 T.f__law_inputs T.fd__law_inputs ["_law_formula_here"] (sp__law_inputs K) := okr__law_inputs T TT 8
/-! parts, inputs, and which of them meet -/
theorem incr_eq : ∀ (xs ys : List Int), xs.Pairwise (· < ·) → ys.Pairwise (· < ·) → (∀ k, k ∈ xs ↔ k ∈ ys) → xs = ys
  | [], [], _, _, _ => rfl
  | [], y :: ys, _, _, h => absurd ((h y).mpr List.mem_cons_self) (by simp)
  | x :: xs, [], _, _, h => absurd ((h x).mp List.mem_cons_self) (by simp)
  | x :: xs, y :: ys, hx, hy, h => by
    have hx1 := List.pairwise_cons.mp hx
    have hy1 := List.pairwise_cons.mp hy
    have e : x = y := by
      rcases List.mem_cons.mp ((h x).mp List.mem_cons_self) with z | z
      · exact z
      · rcases List.mem_cons.mp ((h y).mpr List.mem_cons_self) with z' | z'
        · exact z'.symm
        · have := hx1.1 y z'
          have := hy1.1 x z
          omega
    subst e
    rw [incr_eq xs ys hx1.2 hy1.2 fun k => ?_]
    constructor
    · intro hk
      rcases List.mem_cons.mp ((h k).mp (List.mem_cons_of_mem _ hk)) with z | z
      · have := hx1.1 k hk
        omega
      · exact z
    · intro hk
      rcases List.mem_cons.mp ((h k).mpr (List.mem_cons_of_mem _ hk)) with z | z
      · have := hy1.1 k hk
        omega
      · exact z
/-- the inputs of a formula, rising, each once -/
structure Inps (f : Fm) (ns : List Int) : Prop where
  up : ns.Pairwise (· < ·)
  mem : ∀ k : Int, k ∈ ns ↔ ∃ i : Nat, i ∈ f.ins ∧ k = (i : Int)
theorem Inps.uniq {f : Fm} {ns ms : List Int} (h : Inps f ns) (g : Inps f ms) : ns = ms := incr_eq ns ms h.up g.up fun k => (h.mem k).trans (g.mem k).symm
/-- in how many sides a number is an input -/
def hasI (k : Int) (g : Fm) : Bool := decide (∃ i : Nat, i ∈ g.ins ∧ k = (i : Int))
def Fm.cnt (f : Fm) (k : Int) : Nat := (f.sds.filter (hasI k)).length
structure Mets (f : Fm) (ns : List Int) : Prop where
  up : ns.Pairwise (· < ·)
  mem : ∀ k : Int, k ∈ ns ↔ 1 < f.cnt k
theorem Mets.uniq {f : Fm} {ns ms : List Int} (h : Mets f ns) (g : Mets f ms) : ns = ms := incr_eq ns ms h.up g.up fun k => (h.mem k).trans (g.mem k).symm
theorem cnt_in {f : Fm} {k : Int} (h : 0 < f.cnt k) : ∃ i : Nat, i ∈ f.ins ∧ k = (i : Int) := by
  unfold Fm.cnt at h
  obtain ⟨g, hg⟩ := List.exists_mem_of_length_pos h
  obtain ⟨h1, h2⟩ := List.mem_filter.mp hg
  obtain ⟨i, hi, e⟩ := of_decide_eq_true h2
  exact ⟨i, Fm.sds_mem h1 hi, e⟩
def Fm.prts : Fm → List Fm
  | .inp i => [.inp i]
  | .less f => .less f :: f.prts
  | .both f g => .both f g :: (f.prts ++ g.prts)
  | .either f g => .either f g :: (f.prts ++ g.prts)
  | .oneof f g => .oneof f g :: (f.prts ++ g.prts)
  | .pick f g h => .pick f g h :: (f.prts ++ (g.prts ++ h.prts))
theorem prts_eq (f : Fm) : f.prts = f :: (f.sds.map Fm.prts).flatten := by
  cases f <;> simp [Fm.prts, Fm.sds]
theorem prts_len : ∀ f : Fm, f.prts.length = f.sz
  | .inp i => rfl
  | .less f => by simp [Fm.prts, Fm.sz, prts_len f]
  | .both f g => by simp [Fm.prts, Fm.sz, prts_len f, prts_len g]
  | .either f g => by simp [Fm.prts, Fm.sz, prts_len f, prts_len g]
  | .oneof f g => by simp [Fm.prts, Fm.sz, prts_len f, prts_len g]
  | .pick f g h => by simp [Fm.prts, Fm.sz, prts_len f, prts_len g, prts_len h]; omega
theorem prts_in : ∀ {f g : Fm}, g ∈ f.prts → g.dep ≤ f.dep ∧ g.sz ≤ f.sz ∧ ∀ i, i ∈ g.ins → i ∈ f.ins
  | .inp i, g, h => by
    rw [List.mem_singleton.mp h]
    exact ⟨Nat.le_refl _, Nat.le_refl _, fun _ z => z⟩
  | .less f, g, h => by
    rcases List.mem_cons.mp h with rfl | h
    · exact ⟨Nat.le_refl _, Nat.le_refl _, fun _ z => z⟩
    · obtain ⟨a, b, c⟩ := prts_in h
      simp only [Fm.dep, Fm.sz]
      exact ⟨by omega, by omega, c⟩
  | .both f1 f2, g, h => by
    rcases List.mem_cons.mp h with rfl | h
    · exact ⟨Nat.le_refl _, Nat.le_refl _, fun _ z => z⟩
    simp only [Fm.dep, Fm.sz]
    rcases List.mem_append.mp h with h | h
    · obtain ⟨a, b, c⟩ := prts_in h
      exact ⟨by omega, by omega, fun i hi => List.mem_append_left _ (c i hi)⟩
    · obtain ⟨a, b, c⟩ := prts_in h
      exact ⟨by omega, by omega, fun i hi => List.mem_append_right _ (c i hi)⟩
  | .either f1 f2, g, h => by
    rcases List.mem_cons.mp h with rfl | h
    · exact ⟨Nat.le_refl _, Nat.le_refl _, fun _ z => z⟩
    simp only [Fm.dep, Fm.sz]
    rcases List.mem_append.mp h with h | h
    · obtain ⟨a, b, c⟩ := prts_in h
      exact ⟨by omega, by omega, fun i hi => List.mem_append_left _ (c i hi)⟩
    · obtain ⟨a, b, c⟩ := prts_in h
      exact ⟨by omega, by omega, fun i hi => List.mem_append_right _ (c i hi)⟩
  | .oneof f1 f2, g, h => by
    rcases List.mem_cons.mp h with rfl | h
    · exact ⟨Nat.le_refl _, Nat.le_refl _, fun _ z => z⟩
    simp only [Fm.dep, Fm.sz]
    rcases List.mem_append.mp h with h | h
    · obtain ⟨a, b, c⟩ := prts_in h
      exact ⟨by omega, by omega, fun i hi => List.mem_append_left _ (c i hi)⟩
    · obtain ⟨a, b, c⟩ := prts_in h
      exact ⟨by omega, by omega, fun i hi => List.mem_append_right _ (c i hi)⟩
  | .pick f1 f2 f3, g, h => by
    rcases List.mem_cons.mp h with rfl | h
    · exact ⟨Nat.le_refl _, Nat.le_refl _, fun _ z => z⟩
    simp only [Fm.dep, Fm.sz]
    rcases List.mem_append.mp h with h | h
    · obtain ⟨a, b, c⟩ := prts_in h
      exact ⟨by omega, by omega, fun i hi => List.mem_append_left _ (c i hi)⟩
    rcases List.mem_append.mp h with h | h
    · obtain ⟨a, b, c⟩ := prts_in h
      exact ⟨by omega, by omega, fun i hi => List.mem_append_right _ (List.mem_append_left _ (c i hi))⟩
    · obtain ⟨a, b, c⟩ := prts_in h
      exact ⟨by omega, by omega, fun i hi => List.mem_append_right _ (List.mem_append_right _ (c i hi))⟩
theorem prts_ins : ∀ (f : Fm) (k : Nat), k ∈ f.ins ↔ Fm.inp k ∈ f.prts
  | .inp i, k => by
    simp only [Fm.ins, Fm.prts, List.mem_singleton, Fm.inp.injEq]
  | .less f, k => by
    simp only [Fm.ins, Fm.prts, List.mem_cons, prts_ins f, reduceCtorEq, false_or]
  | .both f g, k => by
    simp only [Fm.ins, Fm.prts, List.mem_cons, List.mem_append, prts_ins f, prts_ins g, reduceCtorEq, false_or]
  | .either f g, k => by
    simp only [Fm.ins, Fm.prts, List.mem_cons, List.mem_append, prts_ins f, prts_ins g, reduceCtorEq, false_or]
  | .oneof f g, k => by
    simp only [Fm.ins, Fm.prts, List.mem_cons, List.mem_append, prts_ins f, prts_ins g, reduceCtorEq, false_or]
  | .pick f g h, k => by
    simp only [Fm.ins, Fm.prts, List.mem_cons, List.mem_append, prts_ins f, prts_ins g, prts_ins h, reduceCtorEq, false_or]
theorem FsAt.app {H : Hp} {fs gs : List Fm} {us vs : List V} (h : FsAt H fs us) (k : FsAt H gs vs) : FsAt H (fs ++ gs) (us ++ vs) := by
  refine ⟨by rw [List.length_append, List.length_append, h.1, k.1], fun i f u e1 e2 => ?_⟩
  by_cases z : i < fs.length
  · rw [List.getElem?_append_left z] at e1
    rw [List.getElem?_append_left (by rw [h.1]; exact z)] at e2
    exact h.2 i f u e1 e2
  · rw [List.getElem?_append_right (by omega)] at e1
    rw [List.getElem?_append_right (by rw [h.1]; omega), h.1] at e2
    exact k.2 _ f u e1 e2
theorem FsAt.one {H : Hp} {f : Fm} {u : V} (h : FmAt H f u) : FsAt H [f] [u] := ⟨rfl, fun i g x e1 e2 => by
  match i with
  | 0 => cases e1; cases e2; exact h
  | i + 1 => cases e1⟩
/-! the program -/
def sp_sides_of (_ : PySem.W.Frag) : Sp := fun vs H Q _ => ∃ f v, vs = [v] ∧ FmAt H f v ∧ ∀ H' t us, Same H H' → H' t = some (.tup us) → FsAt H' f.sds us → Q (.ref t) H'
theorem ok_sides_of (T : Defs K mg) (TT : Tabs T base) : FnOk P w K mg base CX0 1 T.f_sides_of T.fd_sides_of ["part"] (sp_sides_of K) := by
  refine T.F_sides_of.ok sc_sides_of (fun vs H Q E h => ?_) (fun cdv A outer s H vs Q E hr h => ?_)
  · obtain ⟨f, v, rfl, hf, q⟩ := h
    rfl
  · obtain ⟨f, v, rfl, hf, q⟩ := h
    refine ⟨_, PSs.nox (pss_cons (ps_if (pt_cmpR op_eq (pe_ix ix_tup (pv 0) pe_int (fun _ _ => rfl)) pe_str (nomark _)) (pss_one (ps_ret (pe_tup pa_nil))) pss_nil)
    (pss_one (ps_ret (pe_slice sl_tup (pv 0) (po_some pe_int) po_none)))), ?_⟩
    rcases hf.shape with ⟨i, a, rfl, rfl, ha⟩ | ⟨a, us, rfl, ha, hw, hs⟩
    · refine ⟨.ref a, rfl, a, _, 0, _, rfl, rfl, SqT.mk ha, atI_nat (j := 0) rfl, rfl, _, rfl, ?_⟩
      rw [decide_eq_true rfl]
      exact iteT ⟨Nat.zero_le _, fun t nt => q _ t [] (same_upd nt) upd_same ⟨rfl, fun i g u e _ => (by cases e)⟩⟩
    refine ⟨.ref a, rfl, a, _, 0, _, rfl, rfl, SqT.mk ha, atI_nat (j := 0) rfl, rfl, _, rfl, ?_⟩
    rw [wd_in hw]
    refine iteF ⟨.ref a, rfl, 1, rfl, a, _, rfl, SqT.mk ha, not_whole, fun t nt => ?_⟩
    rw [cut_tail]
    exact q _ t us (same_upd nt) upd_same (hs.same (same_upd nt))
def spr_parts_of (d : Nat) (_ : PySem.W.Frag) : Sp := fun vs H Q _ => ∃ f v, vs = [v] ∧ FmAt H f v ∧ f.dep ≤ d ∧ f.sz ≤ 100 ∧
  ∀ H' p us, Same H H' → H p = none → H' p = some (.lst us) → FsAt H' f.prts us → Q (.ref p) H'
theorem no_parts_of {K : PySem.W.Frag} {vs : List V} {H : Hp} {Q : VK} {E : XK} (h : spr_parts_of 0 K vs H Q E) : False := by
  obtain ⟨f, v, _, _, z, _⟩ := h
  have := f.dep_pos
  omega
theorem prts_le {f : Fm} (i : Nat) : ((f.sds.take i).map Fm.prts).flatten.length + 1 ≤ f.sz := by
  have a : ((f.sds.take i).map Fm.prts).flatten.length ≤ (f.sds.map Fm.prts).flatten.length := by
    conv => rhs; rw [← List.take_append_drop i f.sds, List.map_append, List.flatten_append, List.length_append]
    exact Nat.le_add_right _ _
  have b := prts_len f
  rw [prts_eq, List.length_cons] at b
  omega
theorem okr_parts_of (T : Defs K mg) (TT : Tabs T base) : ∀ d : Nat, FnOk P w K mg base CX0 (2 + d) T.f_parts_of T.fd_parts_of ["formula"] (spr_parts_of d K)
  | 0 => ⟨fun _ _ _ _ z => (no_parts_of z).elim, fun _ _ _ _ _ _ _ _ _ _ _ _ _ z => (no_parts_of z).elim⟩
  | d + 1 => by
    have G_sides_of : FnOk P w K mg base CX0 1 T.f_sides_of T.fd_sides_of ["part"] (sp_sides_of K) := ok_sides_of T TT
    have G_parts_of : FnOk P w K mg base CX0 (2 + d) T.f_parts_of T.fd_parts_of ["formula"] (spr_parts_of d K) := okr_parts_of T TT d
    show FnOk P w K mg base CX0 ((2 + d) + 1) T.f_parts_of T.fd_parts_of ["formula"] (spr_parts_of (d + 1) K)
    refine T.F_parts_of.ok sc_parts_of (fun vs H Q E h => ?_) (fun cdv A outer s H vs Q E hr h => ?_)
    · obtain ⟨f, v, rfl, hf, dp, sz, q⟩ := h
      rfl
    · obtain ⟨f, v, rfl, hf, dp, sz, q⟩ := h
      refine ⟨_, PSs.nox (pss_cons (ps_set (i := 1) sc_parts_of.nd rfl (.inl rfl) (pe_lst (pa_cons (pv 0) pa_nil)))
    (pss_cons ((ps_for PassesOwn.never rfl (pi_tup (pe_call G_sides_of (hr.mono (by omega)) (by rfl) T.g_sides_of T.F_sides_of.kp T.b_sides_of .nil pass0 (pa_cons (pv 0) pa_nil))) (pg_name (i := 2) sc_parts_of.nd rfl (.inl rfl)) (pss_one (ps_expr (pe_bm PySem.F.plainAttrs_list PySem.F.slot_list_extend PySem.F.type_list_extend mt_extend (pv 1) (pa_cons (pe_call G_parts_of (hr.mono (by omega)) (by rfl) T.g_parts_of T.F_parts_of.kp T.b_parts_of .nil pass0 (pa_cons (pv 2) pa_nil)) pa_nil))))))
    (pss_one (ps_ret (pv 1))))), ?_⟩
      have hsl : sizeLine = 16777216 := by decide
      refine ⟨v, rfl, (show 1 ≤ sizeLine by decide), fun l nl => ?_⟩
      have s1 := same_upd nl (o := .lst [v])
      have hl := upd_same (H := H) (a := l) (o := .lst [v])
      generalize upd H l (.lst [v]) = H1 at s1 hl ⊢
      refine ⟨v, rfl, f, v, rfl, hf.same s1, fun H2 t us s2 ht hus => ?_⟩
      refine ⟨t, rfl, ⟨_, SqT.mk ht⟩, for_tup (xs := us) (fun i σ G => ∃ y2 ws, σ = [some v, some (.ref l), y2] ∧ Same H G ∧ G t = some (.tup us) ∧ FsAt G f.sds us ∧ G l = some (.lst (v :: ws)) ∧ FsAt G ((f.sds.take i).map Fm.prts).flatten ws) ⟨none, [], rfl, s1.trans s2, ht, hus, s2 _ _ hl, rfl, fun i g u e _ => (by cases e)⟩ ?_ ?_ ?_⟩
      · rintro i σ G _ ⟨y2, ws, rfl, sG, htG, husG, hlG, hws⟩
        exact SqT.mk htG
      · rintro i u σ G hu ⟨y2, ws, rfl, sG, htG, husG, hlG, hws⟩
        obtain ⟨g, hg1, hg2, hg⟩ := husG.get hu
        have gd := Fm.sds_dep hg2
        have gl := prts_len g
        have p1 := prts_le (f := f) i
        have wl := hws.1
        refine ⟨.ref l, rfl, .inl ⟨rfl, _, SqL.mk hlG⟩, u, rfl, g, u, rfl, hg, by omega, by omega, fun G2 p zs t2 np hp hzs => ?_⟩
        have zl := hzs.1
        refine ⟨l, p, _, _, rfl, rfl, t2 _ _ hlG, hp, by rw [List.length_cons]; omega, ?_⟩
        have keep : ∀ a xs, G2 a = some (.tup xs) → (upd G2 l (.lst (v :: ws ++ zs))) a = some (.tup xs) := fun a xs e => by
          rw [upd_ne (ne_of e (t2 _ _ hlG) (fun z => by cases z))]
          exact e
        refine ⟨_, ws ++ zs, rfl, same_newer (sG.trans t2) nl, keep _ _ (t2 _ _ htG), (husG.same t2).keep keep, upd_same, ?_⟩
        rw [List.take_add_one, hg1, Option.toList_some, List.map_append, List.flatten_append]
        refine ((hws.same t2).keep keep).app ?_
        simp only [List.map_cons, List.map_nil, List.flatten_cons, List.flatten_nil, List.append_nil]
        exact hzs.keep keep
      · rintro σ G ⟨y2, ws, rfl, sG, htG, husG, hlG, hws⟩
        rw [hus.1, List.take_length] at hws
        refine ⟨.ref l, rfl, q G l (v :: ws) sG nl hlG ?_⟩
        rw [prts_eq]
        exact (FsAt.one (hf.same sG)).app hws
def sp_parts_of (K : PySem.W.Frag) : Sp := spr_parts_of 10 K
theorem ok_parts_of (T : Defs K mg) (TT : Tabs T base) : FnOk P w K mg base CX0 12 T.f_parts_of T.fd_parts_of ["formula"] (sp_parts_of K) := okr_parts_of T TT 10
/-! two lists of the same numbers -/
theorem dp_ints {K : PySem.W.Frag} {H : Hp} : ∀ ns : List Int, DpAll K H (ns.map V.int) (ns.map PyData.int)
  | [] => .nil
  | x :: r => .cons (.int x) (dp_ints r)
theorem sh_ints (ns : List Int) : SeqAt.shaped (.list (ns.map PyData.int)) = true := by
  have h1 : PyData.canLayAll0 (ns.map PyData.int) = true := by
    induction ns with
    | nil => rfl
    | cons x r ih =>
      show (PyData.canLay0 (.int x) && PyData.canLayAll0 (r.map PyData.int)) = true
      rw [ih]
      rfl
  have h2 : PyData.depthAll (ns.map PyData.int) = 0 := by
    induction ns with
    | nil => rfl
    | cons x r ih =>
      show max (PyData.depth (.int x)) (PyData.depthAll (r.map PyData.int)) = 0
      rw [ih (by
        have : (PyData.canLay0 (.int x) && PyData.canLayAll0 (r.map PyData.int)) = true := h1
        exact (Bool.and_eq_true_iff.mp this).2)]
      rfl
  show (PyData.canLayAll0 (ns.map PyData.int) && decide (PyData.depthAll (ns.map PyData.int) + 1 ≤ 64)) = true
  rw [h1, h2]
  rfl
theorem eqv_ints (ns : List Int) : PyData.eqv (.list (ns.map PyData.int)) (.list (ns.map PyData.int)) = true := by
  have : PyData.eqvAll (ns.map PyData.int) (ns.map PyData.int) = true := by
    induction ns with
    | nil => rfl
    | cons x r ih =>
      show (PyData.eqv (.int x) (.int x) && PyData.eqvAll (r.map PyData.int) (r.map PyData.int)) = true
      rw [ih]
      show ((x == x) && true) = true
      simp
  exact this
theorem neL {K : PySem.W.Frag} {H : Hp} {a b : Addr} {ns ms : List Int} (ha : H a = some (.lst (ns.map V.int))) (hb : H b = some (.lst (ms.map V.int))) (e : ns = ms) {Q : VK} (q : Q (.bl false) H) : rNeD K (.ref a) (.ref b) H Q := by
  subst e
  refine ⟨_, _, .lst (SqL.mk ha) (dp_ints ns), .lst (SqL.mk hb) (dp_ints ns), sh_ints ns, sh_ints ns, ?_⟩
  rw [eqv_ints]
  exact q
def sp_inputs_of (_ : PySem.W.Frag) : Sp := fun vs H Q _ => ∃ f v, vs = [v] ∧ FmAt H f v ∧ f.dep ≤ 10 ∧ f.sz ≤ 50 ∧ ∀ H' p ns, Same H H' → H p = none → H' p = some (.lst (ns.map V.int)) → Inps f ns → ns.length ≤ 64 → Q (.ref p) H'
theorem ok_inputs_of (T : Defs K mg) (TT : Tabs T base) : FnOk P w K mg base CX0 13 T.f_inputs_of T.fd_inputs_of ["formula"] (sp_inputs_of K) := by
  have G_parts_of : FnOk P w K mg base CX0 12 T.f_parts_of T.fd_parts_of ["formula"] (sp_parts_of K) := ok_parts_of T TT
  refine T.F_inputs_of.ok sc_inputs_of (fun vs H Q E h => ?_) (fun cdv A outer s H vs Q E hr h => ?_)
  · obtain ⟨f, v, rfl, hf, dp, sz, q⟩ := h
    rfl
  · obtain ⟨f, v, rfl, hf, dp, sz, q⟩ := h
    refine ⟨_, PSs.nox (pss_one (ps_ret (pe_callB (sortedW (w := w) rfl rfl) (by rfl) T.m_sorted bt_sorted (pa_cons (pe_scI (own := [("part", 1)]) (g := gName 1) rfl sc_inputs_of.nd (pi_list (pe_call G_parts_of (hr.mono (by decide)) (by rfl) T.g_parts_of T.F_parts_of.kp T.b_parts_of .nil pass0 (pa_cons (pv 0) pa_nil))) (blkOk_by (N := N_inputs_of) (sc := defScope s_inputs_of) (by decide +kernel)) (fun _ _ _ _ _ => (pg_name (i := 1) sc_inputs_of.nd rfl (.inl rfl))) (fun _ _ _ _ _ => pts_one (pt_cmpR op_eq (pe_ix (ixtK (K := K) rfl) (pv 1) pe_int (fun _ _ => rfl)) pe_str (nomark _))) (fun _ _ _ _ _ => (pe_ix (ixtK (K := K) rfl) (pv 1) pe_int (fun _ _ => rfl)))) pa_nil)))), ?_⟩
    have hsl : sizeLine = 16777216 := by decide
    have hsb : 100 < scanBound := by decide
    refine ⟨v, rfl, f, v, rfl, hf, dp, by omega, fun H1 p us s1 np hp hus => ?_⟩
    have pl := prts_len f
    have ul := hus.1
    refine ⟨p, rfl, ⟨_, SqL.mk hp⟩, fun D nD => ?_⟩
    refine sci_list (xs := us) (fun i G => Same H1 G ∧ ∃ S n, G D = some (SetO w D S n) ∧ n ≤ i ∧ ∀ k : Int, S k = true ↔ ∃ j : Nat, Fm.inp j ∈ f.prts.take i ∧ k = (j : Int)) ⟨same_upd nD, _, 0, upd_same, Nat.le_refl 0, fun k => ⟨fun z => (by cases z), fun ⟨j, z, _⟩ => (by cases z)⟩⟩ (fun i G _ h => SqL.mk (h.1 _ _ hp)) (fun i u G hu h => ?_) (fun G h => ?_)
    · obtain ⟨sG, S, n, hD, hn, hS⟩ := h
      obtain ⟨g, hg1, hg2, hg⟩ := (hus.same sG).get hu
      have hiu := (List.getElem?_eq_some_iff.mp hu).1
      have tk : f.prts.take (i + 1) = f.prts.take i ++ [g] := by
        rw [List.take_add_one, hg1]
        rfl
      refine ⟨rfl, ?_⟩
      rcases hg.shape with ⟨j, a, rfl, rfl, ha⟩ | ⟨a, ws, rfl, ha, hw, hs⟩
      · refine ⟨_, rfl, a, _, 0, _, rfl, rfl, SqT.mk ha, atI_nat (j := 0) rfl, rfl, _, rfl, ?_⟩
        rw [decide_eq_true rfl]
        refine iteT ⟨_, rfl, a, _, 1, _, rfl, rfl, SqT.mk ha, atI_nat (j := 1) rfl, (j : Int), S, n, rfl, hD, by omega, same_newer sG nD, _, _, upd_same, ?_, fun k => ?_⟩
        · split <;> omega
        · rw [Bool.or_eq_true, hS k, decide_eq_true_iff, tk]
          constructor
          · rintro (⟨m, hm, e⟩ | e)
            · exact ⟨m, List.mem_append_left _ hm, e⟩
            · exact ⟨j, List.mem_append_right _ List.mem_cons_self, e⟩
          · rintro ⟨m, hm, e⟩
            rcases List.mem_append.mp hm with z | z
            · exact .inl ⟨m, z, e⟩
            · have z := List.mem_singleton.mp z
              cases z
              exact .inr e
      · refine ⟨_, rfl, a, _, 0, _, rfl, rfl, SqT.mk ha, atI_nat (j := 0) rfl, rfl, _, rfl, ?_⟩
        rw [wd_in hw]
        refine iteF ⟨sG, S, n, hD, by omega, fun k => ?_⟩
        rw [hS k, tk]
        constructor
        · rintro ⟨m, hm, e⟩
          exact ⟨m, List.mem_append_left _ hm, e⟩
        · rintro ⟨m, hm, e⟩
          rcases List.mem_append.mp hm with z | z
          · exact ⟨m, z, e⟩
          · have z := List.mem_singleton.mp z
            rw [← z] at hw
            exact absurd rfl hw
    obtain ⟨sG, S, n, hD, hn, hS⟩ := h
    refine ⟨D, S, n, rfl, hD, by omega, fun ns p2 up mem len np2 => ?_⟩
    refine q _ p2 ns ((s1.trans sG).trans (same_upd np2)) (s1.free (sG.free np2)) upd_same ⟨up, fun k => ?_⟩ (by omega)
    rw [mem k, hS k, ul, List.take_length]
    constructor
    · rintro ⟨j, hj, e⟩
      exact ⟨j, (prts_ins f j).mpr hj, e⟩
    · rintro ⟨j, hj, e⟩
      exact ⟨j, (prts_ins f j).mp hj, e⟩
/-- lists of inputs, for each side -/
def InsAt (G : Hp) (D : Addr) (fs : List Fm) (i : Nat) : Prop := ∃ ts : List Addr, ts.length = i ∧ G D = some (.lst (ts.map V.ref)) ∧ ∀ (j : Nat) (t : Addr) (g : Fm), ts[j]? = some t → fs[j]? = some g → t ≠ D ∧ ∃ ns : List Int, G t = some (.lst (ns.map V.int)) ∧ ∀ k : Int, k ∈ ns ↔ ∃ i : Nat, i ∈ g.ins ∧ k = (i : Int)
theorem InsAt.same {G G' : Hp} {D : Addr} {fs : List Fm} {i : Nat} (h : InsAt G D fs i) (s : Same G G') : InsAt G' D fs i := by
  obtain ⟨ts, a, b, c⟩ := h
  refine ⟨ts, a, s _ _ b, fun j t g e1 e2 => ?_⟩
  obtain ⟨x, ns, y, z⟩ := c j t g e1 e2
  exact ⟨x, ns, s _ _ y, z⟩
theorem InsAt.step {G G2 : Hp} {D p : Addr} {fs : List Fm} {i : Nat} {g : Fm} {ns : List Int} {acc : List V} (h : InsAt G D fs i) (s : Same G G2) (np : G p = none) (hp : G2 p = some (.lst (ns.map V.int))) (hg : fs[i]? = some g) (hns : ∀ k : Int, k ∈ ns ↔ ∃ i : Nat, i ∈ g.ins ∧ k = (i : Int)) (hD : G2 D = some (.lst acc)) : InsAt (upd G2 D (.lst (acc ++ [.ref p]))) D fs (i + 1) := by
  obtain ⟨ts, a, b, c⟩ := h
  have e := s _ _ b
  rw [hD] at e
  have e := HO.lst.inj (Option.some.inj e)
  subst e
  have npD : p ≠ D := fun z => by
    rw [z, b] at np
    cases np
  refine ⟨ts ++ [p], by rw [List.length_append, a]; rfl, by rw [upd_same, List.map_append]; rfl, fun j t g' e1 e2 => ?_⟩
  by_cases hj : j < ts.length
  · rw [List.getElem?_append_left hj] at e1
    obtain ⟨x, ms, y, z⟩ := c j t g' e1 e2
    exact ⟨x, ms, by rw [upd_ne x]; exact s _ _ y, z⟩
  · rw [List.getElem?_append_right (by omega)] at e1
    have j0 : j - ts.length = 0 := by
      refine Decidable.byContradiction fun z => ?_
      rw [List.getElem?_eq_none (by show 1 ≤ _; omega)] at e1
      cases e1
    rw [j0] at e1
    obtain rfl := Option.some.inj e1
    have ji : j = i := by omega
    subst ji
    rw [hg] at e2
    obtain rfl := Option.some.inj e2
    exact ⟨npD, ns, by rw [upd_ne npD]; exact hp, hns⟩
theorem InsAt.zero {H : Hp} {D : Addr} {fs : List Fm} : InsAt (upd H D (.lst [])) D fs 0 := ⟨[], rfl, upd_same, fun j t g e _ => (by cases e)⟩
def sp_inputs_met (_ : PySem.W.Frag) : Sp := fun vs H Q _ => ∃ f v, vs = [v] ∧ FmAt H f v ∧ f.dep ≤ 10 ∧ f.sz ≤ 50 ∧ ∀ H' p ns, Same H H' → H p = none → H' p = some (.lst (ns.map V.int)) → Mets f ns → Q (.ref p) H'
/-- the first part in which inputs meet, if there is one -/
def NoMet (f : Fm) (n : Nat) : Prop := ∀ m g, m < n → f.prts[m]? = some g → Mets g []
def sp_first_lean (_ : PySem.W.Frag) : Sp := fun vs H Q _ => ∃ f v, vs = [v] ∧ FmAt H f v ∧ f.dep ≤ 10 ∧ f.sz ≤ 50 ∧
  (∀ H', Same H H' → NoMet f f.prts.length → Q .non H') ∧ ∀ H' t l (j : Nat) g ns, Same H H' → NoMet f j → f.prts[j]? = some g → ns ≠ [] → Mets g ns → H' t = some (.tup [.int (j : Nat), .ref l]) → H l = none → H' l = some (.lst (ns.map V.int)) → Q (.ref t) H'
/-! the law's own parts, and where inputs meet -/
def spr__law_parts (d : Nat) (_ : PySem.W.Frag) : Sp := fun vs H Q _ => ∃ f v, vs = [v] ∧ FmAt H f v ∧ f.dep ≤ d ∧ f.sz ≤ 100 ∧
  ∀ H' p us, Same H H' → H' p = some (.lst us) → FsAt H' f.prts us → Q (.ref p) H'
theorem no__law_parts {K : PySem.W.Frag} {vs : List V} {H : Hp} {Q : VK} {E : XK} (h : spr__law_parts 0 K vs H Q E) : False := by
  obtain ⟨f, v, _, _, z, _⟩ := h
  have := f.dep_pos
  omega
def sp__law_first_lean (_ : PySem.W.Frag) : Sp := fun vs H Q _ => ∃ f v, vs = [v] ∧ FmAt H f v ∧ f.dep ≤ 8 ∧ f.sz ≤ 50 ∧ (∀ i, i ∈ f.ins → i < 6) ∧
  (∀ H', Same H H' → NoMet f f.prts.length → Q .non H') ∧ ∀ H' t l (j : Nat) g ns, Same H H' → NoMet f j → f.prts[j]? = some g → ns ≠ [] → Mets g ns → H' t = some (.tup [.int (j : Nat), .ref l]) → H' l = some (.lst (ns.map V.int)) → Q (.ref t) H'
def sp_thing_at (_ : PySem.W.Frag) : Sp := fun vs H Q _ => ∃ (l : Addr) (xs : List V) (i : Nat) (x o : V), vs = [.ref l, .int (i : Nat), o] ∧ H l = some (.lst xs) ∧ xs[i]? = some x ∧ Q x H
theorem ok_thing_at (T : Defs K mg) (TT : Tabs T base) : FnOk P w K mg base CX0 1 T.f_thing_at T.fd_thing_at ["things", "i", "other"] (sp_thing_at K) := by
  refine T.F_thing_at.ok sc_thing_at (fun vs H Q E h => ?_) (fun cdv A outer s H vs Q E hr h => ?_)
  · obtain ⟨l, xs, i, x, o, rfl, hl, hx, q⟩ := h
    rfl
  · obtain ⟨l, xs, i, x, o, rfl, hl, hx, q⟩ := h
    refine ⟨_, PSs.nox (pss_one (ps_ret (pe_ifExp (pt_chain op_le op_lt pe_int (pv 1) (pe_callB call_len_seq (by rfl) T.m_len bt_len (pa_cons (pv 0) pa_nil))) (pe_ix ix_list (pv 0) (pv 1) (fun _ _ => rfl)) (pv 2)))), ?_⟩
    have hi := (List.getElem?_eq_some_iff.mp hx).1
    refine ⟨_, rfl, _, _, rfl, rfl, _, rfl, ite2 (fun _ => ?_) (fun z => absurd (decide_eq_true (by omega)) z)⟩
    refine ⟨.ref l, rfl, l, _, rfl, .inl (SqL.mk hl), _, _, rfl, rfl, _, rfl, ite2 (fun _ => ?_) (fun z => absurd (decide_eq_true (by omega)) z)⟩
    exact ⟨.ref l, rfl, _, rfl, l, _, _, _, rfl, rfl, SqL.mk hl, atI_nat hx, q⟩
/-- a dict comprehension over what is walked -/
theorem dc_it {J : It} {n : Nat} {G : Hp → Prop} {Y : Nat → Hp → V → Hp → Prop} (w : Walk J n G Y) {g : TG} {tt : TT} {tk tv : TE} {vs : List Nat} {σ : L2.St} {H1 : Hp} {D : Addr} {Qd : Hp → Prop} (Pv : Nat → Hp → Prop) (h0 : Pv 0 (upd H1 D (.dK []))) (hG : ∀ i H, i ≤ n → Pv i H → G H)
    (hs : ∀ i x H H', i < n → Pv i H → Y i H x H' → g x (wipe σ vs) H' fun σ2 H2 => wipe σ2 vs = wipe σ vs ∧ tt σ2 H2 fun b H3 =>
      if b = true then tk σ2 H3 fun y H4 => tv σ2 H4 fun z H5 => ∃ kvs k, y = kV k ∧ H5 D = some (.dK kvs) ∧ kvs.length < sizeLine ∧ Pv (i + 1) (upd H5 D (.dK (putK kvs k z))) else Pv (i + 1) H3) (hd : ∀ H, Pv n H → Qd H) :
    ∃ W : Nat → Nat → Hp → Prop, (∃ m, W 0 m (upd H1 D (.dK []))) ∧ ∀ i m H, W i m H →
      (J.stop i H ∧ Qd H) ∨ (J.go i H ∧ ∃ Nx : Hp → Prop, (∀ H', Nx H' → ∃ m', m' < m ∧ W (i + 1) m' H') ∧ ∀ x H', J.yld i H x H' → g x (wipe σ vs) H' fun σ2 H2 => wipe σ2 vs = wipe σ vs ∧ tt σ2 H2 fun b H3 =>
        if b = true then tk σ2 H3 fun y H4 => tv σ2 H4 fun z H5 => ∃ kvs k, y = kV k ∧ H5 D = some (.dK kvs) ∧ kvs.length < sizeLine ∧ Nx (upd H5 D (.dK (putK kvs k z))) else Nx H3) := by
  refine ⟨fun i m H => m + i = n ∧ Pv i H, ⟨n, rfl, h0⟩, ?_⟩
  rintro i m H ⟨em, p⟩
  have q := hG i H (by omega) p
  by_cases lt : i < n
  · exact .inr ⟨w.goes i H lt q, Pv (i + 1), fun H' p' => ⟨m - 1, by omega, by omega, p'⟩, fun x H' y => hs i x H H' lt p (w.yields i H x H' lt q y)⟩
  · obtain rfl : i = n := by omega
    exact .inl ⟨w.stops H q, hd H p⟩
theorem put_len (c : List (Key × V)) (k : Key) (x : V) : (putK c k x).length ≤ c.length + 1 := by
  unfold putK
  split
  · rw [List.length_map]
    omega
  · rw [List.length_append]
    exact Nat.le_refl _
/-- rows in a list -/
def LRows (H : Hp) (l : Addr) (m n : Nat) (r : Nat → Nat → Int) : Prop := ∃ ts : List Addr, ts.length = m ∧ H l = some (.lst (ts.map V.ref)) ∧ ∀ (i : Nat) (t : Addr), ts[i]? = some t → Rt H t n (r i) ∧ Bt n (r i)
theorem LRows.sam {H H' : Hp} {l : Addr} {m n : Nat} {r : Nat → Nat → Int} (h : LRows H l m n r) (s : Sam H H') : LRows H' l m n r := by
  obtain ⟨ts, h1, h2, h3⟩ := h
  exact ⟨ts, h1, s.lst h2, fun i t e => ⟨(h3 i t e).1.sam s, (h3 i t e).2⟩⟩
def sp_row_by {K : PySem.W.Frag} {mg : Str → Option Value} (T : Defs K mg) : Sp := fun vs H Q E => ∃ f v l, vs = [v, .ref l] ∧ ((∃ m n r, FmAt H f v ∧ f.dep ≤ 9 ∧ f.sz ≤ 50 ∧ LRows H l m n r ∧ 1 ≤ m ∧ m ≤ 8 ∧ (∀ i, i ∈ f.ins → i < m) ∧ n ≤ 100000 ∧ Tb5 T H ∧
  ∀ H' t, Sam H H' → Rt H' t n (f.row r) → Q (.ref t) H') ∨ ∃ as : List (Addr × List V), H l = some (.lst (as.map fun q => V.ref q.1)) ∧ as.length ≤ 8 ∧ as ≠ [] ∧ (∀ q ∈ as, H q.1 = some (.tup q.2)) ∧ (∃ p q, p ∈ as ∧ q ∈ as ∧ p.2.length ≠ q.2.length) ∧ E (.ref T.C_Unlike) none H)
theorem ok_row_by (T : Defs K mg) (TT : Tabs T base) : FnOk P w K mg base (L2.CX P w) 14 T.f_row_by T.fd_row_by ["formula", "rows"] (sp_row_by T) := by
  have G_refuse_unlike : FnOk P w K mg base (L2.CX P w) 1 T.f_refuse_unlike T.fd_refuse_unlike ["rows"] (sp_refuse_unlikeX T) := ok_refuse_unlikeX T TT
  have G_row_within : FnOk P w K mg base CX0 13 T.f_row_within T.fd_row_within ["formula", "rows"] (sp_row_within T) := ok_row_within T TT
  have G_thing_at : FnOk P w K mg base CX0 1 T.f_thing_at T.fd_thing_at ["things", "i", "other"] (sp_thing_at K) := ok_thing_at T TT
  have G_inputs_of : FnOk P w K mg base CX0 13 T.f_inputs_of T.fd_inputs_of ["formula"] (sp_inputs_of K) := ok_inputs_of T TT
  refine okX T.F_row_by sc_row_by (fun vs H Q E h => ?_) (fun cdv A outer s H vs Q E hr h => ?_)
  · obtain ⟨f, v, l, rfl, h⟩ := h
    rfl
  · obtain ⟨f, v, l, rfl, h⟩ := h
    refine ⟨_, (pss_cons (ps_expr (pe_call (E := E) G_refuse_unlike (hr.mono (by decide)) (by rfl) T.g_refuse_unlike T.F_refuse_unlike.kp T.b_refuse_unlike .nil (passes_call (takes_of rfl rfl rfl rfl) (fun _ _ _ _ h => h)) (pa_cons (pv 1) pa_nil)))
    (pss_cons (ps_set (i := 2) sc_row_by.nd rfl (.inr rfl) (pe_op op_repB (pe_tup (pa_cons pe_int pa_nil)) (pe_callB call_len_seq (by rfl) T.m_len bt_len (pa_cons (pe_call G_thing_at (hr.mono (by decide)) (by rfl) T.g_thing_at T.F_thing_at.kp T.b_thing_at .nil pass0 (pa_cons (pv 1) (pa_cons pe_int (pa_cons (pe_tup pa_nil) pa_nil)))) pa_nil))))
    (pss_one (ps_ret (pe_call G_row_within (hr.mono (by decide)) (by rfl) T.g_row_within T.F_row_within.kp T.b_row_within .nil pass0 (pa_cons (pv 0) (pa_cons (pe_dc (own := [("i", 3)]) (g := gName 3) (tt := tYes) rfl sc_row_by.nd (pi_list (pe_call G_inputs_of (hr.mono (by decide)) (by rfl) T.g_inputs_of T.F_inputs_of.kp T.b_inputs_of .nil pass0 (pa_cons (pv 0) pa_nil))) (blkOk_by (N := N_row_by) (sc := defScope s_row_by) (by decide +kernel)) (fun _ _ _ _ _ => (pg_name (i := 3) sc_row_by.nd rfl (.inl rfl))) (fun _ _ _ _ _ => pts_nil) (fun _ _ _ _ _ => (pv 3)) (fun _ _ _ _ _ => (pe_call G_thing_at (hr.mono (by decide)) (by rfl) T.g_thing_at T.F_thing_at.kp T.b_thing_at .nil pass0 (pa_cons (pv 1) (pa_cons (pv 3) (pa_cons (pv 2) pa_nil)))))) pa_nil))))))), ?_⟩
    rcases h with ⟨m, n, r, hf, dp, sz, ⟨ts, tl, hl, ht⟩, m1, m8, hi, hn, tb, q⟩ | ⟨as, hl, an, ane, hts, hd, q⟩
    rotate_left
    · exact ⟨.ref l, rfl, l, as, rfl, hl, an, ane, hts, .inr ⟨hd, q⟩⟩
    have hg : ∀ i, i < m → ts[i]? = some (ts.getD i 0) := fun i hi => by
      rw [List.getD_eq_getElem?_getD, List.getElem?_eq_getElem (show i < ts.length by omega)]
      rfl
    refine ⟨.ref l, rfl, l, (List.range m).map (fun i => (ts.getD i 0, (rwf n (r i)).map V.int)), rfl, ?_, ?_, ?_, ?_, .inl ⟨⟨n, ?_⟩, ?_⟩⟩
    · rw [hl, List.map_map]
      congr 2
      apply List.ext_getElem?
      intro i
      by_cases z : i < m
      · rw [List.getElem?_map, List.getElem?_map, List.getElem?_range z, hg i z]
        rfl
      · rw [List.getElem?_eq_none (by rw [List.length_map]; omega), List.getElem?_eq_none (by rw [List.length_map, List.length_range]; omega)]
    · rw [List.length_map, List.length_range]
      exact m8
    · intro z
      have z2 := congrArg List.length z
      rw [List.length_map, List.length_range] at z2
      have z3 : m = 0 := z2
      omega
    · intro p hp
      obtain ⟨i, hi, rfl⟩ := List.mem_map.mp hp
      exact (ht i _ (hg i (List.mem_range.mp hi))).1
    · intro p hp
      obtain ⟨i, hi, rfl⟩ := List.mem_map.mp hp
      show (List.map V.int _).length = n
      rw [List.length_map, rwf_len]
    refine nx_via (fun σ G => ∃ p2, σ = [some v, some (.ref l), some (.ref p2), none] ∧ Same H G) (fun N key => ?_) ?_
    · refine ⟨(show 1 ≤ sizeLine by decide), fun t nt => ?_⟩
      have s1 := same_upd nt (o := .tup [.int 0])
      refine ⟨.ref l, rfl, (show 0 ≤ sizeLine by decide), fun t2 nt2 => ?_⟩
      have s2 := s1.trans (same_upd nt2 (o := .tup []))
      refine ⟨l, _, 0, .ref (ts.getD 0 0), _, rfl, s2 _ _ hl, by rw [List.getElem?_map, hg 0 m1]; rfl, _, _, rfl, .inr (SqT.mk (s2 _ _ (ht 0 _ (hg 0 m1)).1)), ?_⟩
      rw [List.length_map, rwf_len]
      refine ⟨t, n, _, rfl, rfl, SqT.mk ((same_upd nt2 (o := .tup [])) _ _ upd_same), by simp, by simp; omega, fun _ => key _ _ ⟨_, rfl, s2⟩, fun _ p np => key _ _ ⟨_, rfl, s2.trans (same_upd np)⟩⟩
    rintro σ G ⟨p2, rfl, sG⟩
    refine ⟨v, rfl, v, rfl, f, v, rfl, hf.same sG, by omega, by omega, fun G2 p ns g2 np hp inp ln => ?_⟩
    have s2 := sG.trans g2
    have hl2 := s2 _ _ hl
    have val : ∀ (j : Nat) (k : Int), ns[j]? = some k → ∃ i : Nat, k = (i : Int) ∧ i < m := fun j k e => by
      obtain ⟨i, h1, h2⟩ := (inp.mem k).mp (List.mem_of_getElem? e)
      exact ⟨i, h2, hi i h1⟩
    refine ⟨p, rfl, ⟨_, SqL.mk hp⟩, fun D nD => dc_it (walk_list (xs := ns.map V.int)) (fun i G => ∃ kvs, G D = some (.dK kvs) ∧ kvs.length ≤ i ∧ Same G2 G ∧ ∀ (j : Nat) (k : Int), j < i → ns[j]? = some k → valV kvs (.inl k) = some (.ref (ts.getD k.toNat 0))) ⟨[], upd_same, Nat.le_refl 0, same_upd nD, fun j k z => absurd z (Nat.not_lt_zero j)⟩ ?_ ?_ ?_⟩
    · rintro i G _ ⟨kvs, _, _, sG, _⟩
      exact SqL.mk (sG _ _ hp)
    · rintro i x G _ lt ⟨kvs, hk, kl, sG, hv⟩ ⟨rfl, hx⟩
      rw [List.length_map] at lt
      rw [List.getElem?_map, List.getElem?_eq_getElem lt] at hx
      obtain rfl := Option.some.inj hx
      have he := List.getElem?_eq_getElem lt
      obtain ⟨k, ek, km⟩ := val i _ he
      have hsl : sizeLine = 16777216 := by decide
      have kz : kvs.length < sizeLine := by omega
      refine ⟨rfl, .int ns[i], rfl, .ref l, rfl, .int ns[i], rfl, .ref p2, rfl, l, _, k, .ref (ts.getD k 0), _, by rw [ek]; rfl, sG _ _ hl2, by rw [List.getElem?_map, hg k km]; rfl, kvs, .inl ns[i], rfl, hk, kz, ?_⟩
      refine ⟨_, upd_same, by have := put_len kvs (.inl ns[i]) (.ref (ts.getD k 0)); omega, same_newer sG nD, fun j z hj hz => ?_⟩
      rw [valV_put]
      by_cases e : z = ns[i]
      · rw [if_pos (by rw [e]), e, ek]
        rfl
      · rw [if_neg (fun h => e (Sum.inl.inj h))]
        refine hv j z ?_ hz
        have : j ≠ i := fun h => by
          rw [h, he] at hz
          exact e (Option.some.inj hz).symm
        omega
    · rintro G ⟨kvs, hk, _, sG, hv⟩
      have s3 := s2.trans sG
      refine ⟨f, v, D, n, r, rfl, hf.same s3, dp, ⟨kvs, hk, fun i hi2 => ?_⟩, hn, tb.sam (Sam.of s3), fun H' t s h => q H' t ((Sam.of s3).trans s) h⟩
      have im := hi i hi2
      obtain ⟨j, hj⟩ := List.getElem?_of_mem ((inp.mem (i : Int)).mpr ⟨i, hi2, rfl⟩)
      have h1 := ht i _ (hg i im)
      refine ⟨h1.2, _, hv j _ ?_ hj, ?_⟩
      · rw [List.length_map]
        exact (List.getElem?_eq_some_iff.mp hj).1
      · exact h1.1.same s3
/-! things whose text is short -/
mutual
def lvs (k : Nat) : PyData → Bool
  | .none | .bool _ => true
  | .int i => decide (i.natAbs < 10 ^ k)
  | .str x => x.cps.toList.all fun c => decide (c < 16 ^ 8)
  | .list xs | .tuple xs => lvsA k xs
  | .dict _ => false
def lvsA (k : Nat) : List PyData → Bool
  | [] => true
  | x :: xs => lvs k x && lvsA k xs
end
theorem log_sm {n k : Nat} (hk : k ≤ 400) (h : n < 10 ^ k) : n.log2 < 1920 := by
  by_cases z : n = 0
  · rw [z]
    decide
  · rw [Nat.log2_lt z]
    refine Nat.lt_of_lt_of_le h (Nat.le_trans (Nat.pow_le_pow_left (show 10 ≤ 2 ^ 4 by decide) k) ?_)
    rw [← Nat.pow_mul]
    exact Nat.pow_le_pow_right (by decide) (by omega)
theorem shown_k {i : Int} {k : Nat} (k0 : 0 < k) (h : i.natAbs < 10 ^ k) : (PyData.shown (.int i)).length ≤ k + 1 := by
  have e := int_text_length_le10 (k := k) k0 h
  show (Str.ofString (toString i)).length ≤ k + 1
  rw [PySem.ofString_length]
  exact e
mutual
theorem lvs_show {k : Nat} (k0 : 0 < k) (hk : k ≤ 400) : ∀ d : PyData, lvs k d = true → d.showable = true ∧ d.hasDict = false ∧ d.leavesShort (k + 1) = true
  | .none, _ => ⟨rfl, rfl, rfl⟩
  | .bool _, _ => ⟨rfl, rfl, rfl⟩
  | .int i, h => by
    have h1 : i.natAbs < 10 ^ k := by simpa only [lvs, decide_eq_true_eq] using h
    refine ⟨?_, rfl, ?_⟩
    · simp only [PyData.showable]
      exact decide_eq_true (log_sm hk h1)
    · simp only [PyData.leavesShort]
      exact decide_eq_true (shown_k k0 h1)
  | .str x, h => ⟨rfl, rfl, by simpa only [PyData.leavesShort, lvs] using h⟩
  | .list xs, h => by
    have := lvsA_show k0 hk xs (by simpa only [lvs] using h)
    simpa only [PyData.showable, PyData.hasDict, PyData.leavesShort] using this
  | .tuple xs, h => by
    have := lvsA_show k0 hk xs (by simpa only [lvs] using h)
    simpa only [PyData.showable, PyData.hasDict, PyData.leavesShort] using this
  | .dict _, h => by simp only [lvs] at h; exact nomatch h
theorem lvsA_show {k : Nat} (k0 : 0 < k) (hk : k ≤ 400) : ∀ xs : List PyData, lvsA k xs = true → PyData.showableAll xs = true ∧ PyData.hasDictAll xs = false ∧ PyData.leavesShortAll (k + 1) xs = true
  | [], _ => ⟨rfl, rfl, rfl⟩
  | x :: xs, h => by
    have h' : lvs k x = true ∧ lvsA k xs = true := by simpa only [lvsA, Bool.and_eq_true] using h
    obtain ⟨a1, a2, a3⟩ := lvs_show k0 hk x h'.1
    obtain ⟨b1, b2, b3⟩ := lvsA_show k0 hk xs h'.2
    simp only [PyData.showableAll, PyData.hasDictAll, PyData.leavesShortAll, a1, a2, a3, b1, b2, b3]
    exact ⟨rfl, rfl, rfl⟩
end
structure Sho (d : PyData) : Prop where
  s : d.showable = true
  n : d.hasDict = false
  dp : d.depth ≤ 60
  len : d.shown.length ≤ sizeLine
theorem sho_of {k : Nat} {d : PyData} (k0 : 7 ≤ k) (hk : k ≤ 400) (h : lvs k d = true) (dp : d.depth ≤ 60) (w : (k + 3) * d.weight ≤ 16000000) : Sho d := by
  obtain ⟨a, b, c⟩ := lvs_show (by omega) hk d h
  refine ⟨a, b, dp, ?_⟩
  have e : d.shown.length ≤ (k + 3) * d.weight + (k + 1) := PyData.shown_le (k + 1) (by omega) d c
  rw [sizeLine_eq]
  omega
theorem lvsA_of {k : Nat} : ∀ ds : List PyData, (∀ d, d ∈ ds → lvs k d = true) → lvsA k ds = true
  | [], _ => rfl
  | d :: ds, h => by
    simp only [lvsA, Bool.and_eq_true]
    exact ⟨h d List.mem_cons_self, lvsA_of ds fun x hx => h x (List.mem_cons_of_mem _ hx)⟩
theorem depA_of {n : Nat} : ∀ ds : List PyData, (∀ d, d ∈ ds → d.depth ≤ n) → PyData.depthAll ds ≤ n
  | [], _ => Nat.zero_le _
  | d :: ds, h => by
    have := h d List.mem_cons_self
    have := depA_of ds fun x hx => h x (List.mem_cons_of_mem _ hx)
    simp only [PyData.depthAll]
    omega
theorem weiA_of {n : Nat} : ∀ ds : List PyData, (∀ d, d ∈ ds → d.weight ≤ n) → PyData.weightAll ds ≤ ds.length * (n + 1)
  | [], _ => Nat.zero_le _
  | d :: ds, h => by
    have := h d List.mem_cons_self
    have := weiA_of ds fun x hx => h x (List.mem_cons_of_mem _ hx)
    simp only [PyData.weightAll, List.length_cons, Nat.add_mul, Nat.one_mul]
    omega
/-- short things: their leaves, depth and weight -/
structure Shs (k n w : Nat) (d : PyData) : Prop where
  l : lvs k d = true
  dp : d.depth ≤ n
  wt : d.weight ≤ w
theorem shs_all {k n w : Nat} {ds : List PyData} (h : ∀ d, d ∈ ds → Shs k n w d) : Shs k (n + 1) (ds.length * (w + 1)) (.list ds) ∧ Shs k (n + 1) (ds.length * (w + 1)) (.tuple ds) := by
  have a := lvsA_of ds fun d hd => (h d hd).l
  have b := depA_of ds fun d hd => (h d hd).dp
  have c := weiA_of ds fun d hd => (h d hd).wt
  refine ⟨⟨by simpa only [lvs] using a, ?_, by simpa only [PyData.weight] using c⟩, ⟨by simpa only [lvs] using a, ?_, by simpa only [PyData.weight] using c⟩⟩
  · simp only [PyData.depth]
    omega
  · simp only [PyData.depth]
    omega
theorem Shs.mono {k n m w v : Nat} {d : PyData} (h : Shs k n w d) (a : n ≤ m) (b : w ≤ v) : Shs k m v d := ⟨h.l, Nat.le_trans h.dp a, Nat.le_trans h.wt b⟩
theorem Shs.sho {k n w : Nat} {d : PyData} (h : Shs k n w d) (k0 : 7 ≤ k) (hk : k ≤ 400) (hn : n ≤ 60) (hw : (k + 3) * w ≤ 16000000) : Sho d := sho_of k0 hk h.l (Nat.le_trans h.dp hn) (Nat.le_trans (Nat.mul_le_mul_left _ h.wt) hw)
theorem shs_int {k : Nat} {i : Int} (h : i.natAbs < 10 ^ k) : Shs k 0 (4 * k + 1) (.int i) := by
  refine ⟨?_, ?_, ?_⟩
  · simp only [lvs]
    exact decide_eq_true h
  · simp only [PyData.depth]
    decide
  · simp only [PyData.weight]
    split
    · exact Nat.zero_le _
    · rename_i z
      have z1 : i.natAbs ≠ 0 := fun e => z (by rw [Int.natAbs_eq_zero.mp e]; rfl)
      have := (Nat.log2_lt (k := 4 * k) z1).mpr (Nat.lt_of_lt_of_le h (by
        rw [Nat.pow_mul]
        exact Nat.pow_le_pow_left (by decide) k))
      omega
theorem sho_ints {ns : List Int} (h : ∀ n, n ∈ ns → n.natAbs < 10 ^ 12) (l : ns.length ≤ 20000) : Sho (.list (ns.map .int)) ∧ Sho (.tuple (ns.map .int)) := by
  obtain ⟨a, b⟩ := shs_all (k := 12) (n := 0) (w := 49) (ds := ns.map .int) (fun d hd => by
    obtain ⟨n, hn, rfl⟩ := List.mem_map.mp hd
    exact shs_int (h n hn))
  rw [List.length_map] at a b
  exact ⟨a.sho (by decide) (by decide) (by decide) (by omega), b.sho (by decide) (by decide) (by decide) (by omega)⟩
theorem shs_str {k : Nat} {x : Str} (h : (x.cps.toList.all fun c => decide (c < 16 ^ 8)) = true) (w : x.cps.size ≤ 12) : Shs k 0 12 (.str x) := ⟨by simpa only [lvs] using h, by simp only [PyData.depth]; decide, by simpa only [PyData.weight] using w⟩
theorem shs_non {k : Nat} : Shs k 0 0 .none := ⟨rfl, by simp only [PyData.depth]; decide, by simp only [PyData.weight]; decide⟩
/-! a promise where no text of a thing is being made -/
structure GOk (P : Program) (w : World) (K : PySem.W.Frag) (mg : Str → Option Value) (base : Heap) (CX : CXT) (k : Nat) (f : Addr) (fd : FuncData) (ps : List Str) (sp : Sp) : Prop where
  len : ∀ vs H Q E, sp vs H Q E → vs.length = ps.length
  run : ∀ (A : Around) (outer : List Env) (s : Shared) (H : Hp) (args : Args) (us : List Value) (vs : List V) (Q : VK) (E : XK), A.guards = some [] → Room k A → Env0 P w K mg base A outer s H → BindsTo s fd args (ps.zip us) → Vals vs us → sp vs H Q E →
    codeAny (model P w) A (.call (.ref f) args) (CR CX outer P w H s Q E) s
theorem gok_of {CX : CXT} {P : Program} {w : World} {K : PySem.W.Frag} {mg : Str → Option Value} {base : Heap} {k : Nat} {x : Str} {st : Stmt} {f : Addr} {fd : FuncData} {N ps : List Str} {sp : Sp} (F : FnP K x st f fd) (S : FnScope N ps (defScope st)) (len : ∀ vs H Q E, sp vs H Q E → vs.length = ps.length)
    (hb : ∀ (cdv : Value) (A : Around) (outer : List Env) (s : Shared) (H : Hp) (vs : List V) (Q : VK) (E : XK), A.guards = some [] → Room k (A.deeper (envOfC x (defScope st) s.heap.objs.size f cdv)) → sp vs H Q E →
      ∃ t, PSs (cxOf CX P w K mg base N x (defScope st) f cdv A outer s H E) (defBody st) t ∧ t { nx := fun _ H' => Q .non H', rt := Q } (L2.start N vs) H) : GOk P w K mg base CX (k + 1) f fd ps sp := by
  obtain ⟨oc, od, dV, kV, doc, pm, an, cdv, ct, osl, rfl, lk, hcd, _, _⟩ := F.ex
  refine ⟨len, fun A outer s H args us vs Q E hg hr e0 bd rv hsp => ?_⟩
  have kept : ∀ b o, base.get? b = some o → s.heap.get? b = some o := fun b o e => (e0.bs b o e).1
  have KX : K.In s.heap := e0.mod.kin.keeps kept
  have kinds : ∀ y ∈ ps.zip us, (defScope st).names.lookup y.1 = some .local ∨ ((defScope st).names.lookup y.1 = some .cell ∧ ((cellsFrom (s.heap.objs.size + 1) (defScope st).names []).lookup y.1).isSome = true) := fun y hy =>
    (S.par y.1 (List.of_mem_zip (show (y.1, y.2) ∈ ps.zip us from hy)).1).imp id fun q => ⟨q, PySem.W.cellsFrom_some _ _ _ (.inl q)⟩
  refine codeAny_call_function hr.depth (KX _ _ lk) rfl S.co S.gen rfl (PySem.W.codeRec_of KX hcd) (bd _ _ _ _ (wpAny_newFunctionEnv_cells S.kind kinds fun env he s1 x1 => ?_))
  subst he
  refine ⟨(e0.mod.nolimit.keeps kept).keeps x1.toInCall.keep, codeAny_func ?_⟩
  obtain ⟨t, ht, hq⟩ := hb cdv A outer s H vs Q E hg (hr.deeper _) hsp
  have I := inv_start (CX := CX) (E := E) S hr.hd e0 (len _ _ _ _ hsp) rv x1
  refine wpAny_mono (ht.run [] s1 (L2.start N vs) H _ I hq) (fun fl s' hs => ?_) fun e s' hs => hs
  cases fl with
  | ret u =>
    obtain ⟨v, σ', H', J, r', q⟩ := hs
    exact ⟨v, H', J.os, J.bare, J.base, J.hok, r', q⟩
  | next =>
    obtain ⟨σ', H', J, q⟩ := hs
    exact ⟨V.non, H', J.os, J.bare, J.base, J.hok, rfl, q⟩
  | brk =>
    obtain ⟨_, _, _, q⟩ := hs
    exact q.elim
  | cont =>
    obtain ⟨_, _, _, q⟩ := hs
    exact q.elim
/-- the state ahead of the law's call: the script is tracked, or one of the module's own things -/
theorem env_ahead {P : Program} {w : World} {K : PySem.W.Frag} {mg mb : Str → Option Value} {a : Addr} {s : Shared} {vs : List Value} {ns : List Int} (KX : K.In s.heap) (hns : s.heap.Ns mainGlobals mg) (hb : s.heap.Ns builtinsNs mb)
    (hbb : ∀ x : Str, x ≠ "__name__" → mb x = bootBuiltins x) (hlim : s.heap.NoLimit) (hg : s.gens = #[]) (ha : s.heap.get? a = some { cls := .type "list", data := .seq vs.toArray }) (hi : IntsAre vs ns) (hl : ns.length ≤ sizeLine) :
    ∃ H : Hp, Only H ∧ SqL K H a (ns.map V.int) ∧ HOk P w H s.heap ∧ K.In (hidT s.heap H) ∧ (hidT s.heap H).Ns mainGlobals mg ∧ Env0 P w K mg (hidT s.heap H) callerA [] s H := by
  have rv := vals_ints hi
  have go : ∀ H : Hp, Only H → SqL K H a (ns.map V.int) → HOk P w H s.heap → (∀ b, H b ≠ none → b = a ∧ K.lookup a = none) → ∃ H : Hp, Only H ∧ SqL K H a (ns.map V.int) ∧ HOk P w H s.heap ∧ K.In (hidT s.heap H) ∧ (hidT s.heap H).Ns mainGlobals mg ∧ Env0 P w K mg (hidT s.heap H) callerA [] s H := fun H hO hS hok hA => by
    have free : ∀ {b : Addr}, (b = a → False) → H b = none := fun {b} nb => Classical.byContradiction fun z => nb (hA b z).1
    have Kb : K.In (hidT s.heap H) := fun b o e => hidT_get (KX b o e) (Classical.byContradiction fun z => by
      obtain ⟨rfl, n⟩ := hA b z
      rw [n] at e
      cases e)
    have nsb : ∀ {b : Addr} {m : Str → Option Value}, s.heap.Ns b m → (hidT s.heap H).Ns b m := fun {b m} h => by
      obtain ⟨o, es, ep, e, d, r⟩ := h
      refine ⟨o, es, ep, hidT_get e (free fun z => ?_), d, r⟩
      rw [z, ha] at e
      cases e
      cases d
    refine ⟨H, hO, hS, hok, Kb, nsb hns, rfl, ⟨Kb, nsb hns, ⟨mb, nsb hb, hbb⟩, ?_⟩, fun b o e => of_hidT e, Nat.le_of_eq (hidT_size _ _), trivial, fun b z => (by cases z), hok, .of_eq hg⟩
    obtain ⟨mc, h1, h2⟩ := hlim
    exact ⟨mc, nsb h1, h2⟩
  cases hk : K.lookup a with
  | some o =>
    have e := KX a o hk
    rw [ha] at e
    cases e
    exact go (fun _ => none) (fun _ => .inl rfl) (.inr ⟨_, vs.toArray, _, hk, rfl, rfl, rfl, by rw [List.size_toArray, hi.length]; exact hl, by simpa using rv⟩) (fun b u z => by cases z) (fun b z => absurd rfl z)
  | none =>
    refine go (fun b => if b = a then some (.frz { cls := .type "list", data := .seq vs.toArray } (.lst (ns.map V.int))) else none) (fun b => ?_) (.inl (.inr ⟨_, if_pos rfl⟩)) (fun b u z => ?_) (fun b z => ?_)
    · by_cases e : b = a
      · exact .inr ⟨_, _, if_pos e⟩
      · exact .inl (if_neg e)
    · by_cases e : b = a
      · cases (if_pos e).symm.trans z
        subst e
        exact ⟨ha, by rw [List.length_map]; exact hl, vs, _, rv, ha⟩
      · cases (if_neg e).symm.trans z
    · by_cases e : b = a
      · exact ⟨e, hk⟩
      · exact absurd (if_neg e) z
theorem walk_ofG {l : PySem.W.OpenLaw} {n k : Nat} {q : Program} {loose : List Str} {XP : (Str → Option Value) → Heap → Prop} {YP : World → Heap → Prop} {d : DefRec} {x : Str}
    (hn : l.most = some n) (hn2 : n ≤ sizeLine) (hdf : d.params.defaults = []) (hr : Room k callerA)
    (F : ∀ (w : World) (mg : Str → Option Value) (fa : Addr) (h : Heap), YP w h → h.Ns mainGlobals mg → mg d.name = some (.ref fa) →
      ∃ (K : PySem.W.Frag) (fd : FuncData) (sp : Sp), K.In h ∧ (∀ (s : Shared) (u : Value), BindsTo s fd ⟨[u], []⟩ [(x, u)]) ∧
        (∀ (H : Hp) (a : Addr) (ns : List Int), ns.length ≤ n → Only H → SqL K H a (ns.map V.int) → sp [.ref a] H (fun v _ => v = .bl true) fun _ _ _ => False) ∧
        ∀ base : Heap, K.In base → base.Ns mainGlobals mg → GOk l.prog w K mg base CX0 k fa fd [x] sp) :
    PySem.W.WalkO q loose XP YP l.row.toRowW d [] (fun f vs => PySem.call f vs) := by
  refine Att.attach_call hn hdf fun w s₀ s₁ mg mb fa o pm cd doc a vs ns G Y ho hd hcd hmg hobj hints hlen hg => ?_
  obtain ⟨K, fd, sp, KX, hbd, hsp, hF⟩ := F w mg fa _ Y G.T.g hmg
  obtain ⟨H, hO, hS, hok, Kb, nb, e0⟩ := env_ahead (P := l.prog) (w := w) KX G.T.g G.T.b G.T.builtins G.T.nolimit hg hobj hints (Nat.le_trans hlen hn2)
  refine codeAny_mono ((hF _ Kb nb).run callerA [] s₁ H ⟨[.ref a], []⟩ [.ref a] [.ref a] _ _ rfl hr e0 (hbd s₁ (.ref a)) (.cons rfl .nil) (hsp H a ns hlen hO hS)) fun r s' h => ?_
  match r, h with
  | .ok (.ret u), h =>
    obtain ⟨v, H', os, bare, un, hok', r', q⟩ := h
    have q : v = .bl true := q
    subst q
    obtain rfl : u = Value.bool true := r'
    refine ⟨rfl, OldK.of_keep fun b o e => ?_, os, bare⟩
    rcases hO b with z | ⟨ob, xs, z⟩
    · exact un.keep b o e z (by intro y; cases y) (by simp)
    · obtain ⟨e1, _⟩ := hok b _ z
      obtain ⟨e2, _⟩ := hok' b _ (un.frzs b ob _ z)
      rw [e] at e1
      cases e1
      exact e2
  | .ok .next, h => exact False.elim h
  | .ok .brk, h => exact False.elim h
  | .ok .cont, h => exact False.elim h
  | .error e, h => exact False.elim h
/-- repr(x) of a list or tuple -/
def rRepr (K : PySem.W.Frag) : List V → Hp → VK → Prop := fun xs H Q => ∃ a d, xs = [.ref a] ∧ Dp K H (.ref a) d ∧ Sho d ∧ Q (.str d.shown) H
theorem cr_repr {X : Cx} (hg : X.A.guards = some []) (hu : X.A.units + 65 < cLine) : CallR X (.builtin "repr") (rRepr X.K) := by
  intro pins s σ H vs us Q I r h
  obtain ⟨a, d, rfl, hd, ⟨sh, nd, dd, sz⟩, q⟩ := h
  rw [Vals.ref1 r]
  obtain ⟨as, rd⟩ := Dp.reads I d (.ref a) (.ref a) hd rfl
  refine repr_of_reads' rd sh (fun z => by rw [nd] at z; cases z) hg (by omega) (fun _ _ e => e) (fun h' u tk hk => ?_) sz
  exact ⟨.str d.shown, H, I.kept (t' := tk) hk, ⟨_, rfl⟩, q⟩
theorem u65g {k : Nat} {A : Around} (r : Room k A) : A.units + 65 < cLine := by
  have := r.un
  omega
/-! the state ahead of the law's call, with the tables of code objects -/
def ahT (K : PySem.W.Frag) (a : Addr) (ts : List Addr) (o : Obj) (xs : List V) : Hp := fun b => if b = a then (if (K.lookup a).isSome = true then none else some (.frz o (.lst xs))) else if b ∈ ts then some (.tbl #[]) else none
theorem ahT_tab {K : PySem.W.Frag} {a : Addr} {ts : List Addr} {o : Obj} {xs : List V} (na : ¬ a ∈ ts) {b : Addr} (hb : b ∈ ts) : ahT K a ts o xs b = some (.tbl #[]) := by
  unfold ahT
  rw [if_neg (fun z : b = a => na (z ▸ hb)), if_pos hb]
theorem ahT_any {K : PySem.W.Frag} {a : Addr} {ts : List Addr} {o : Obj} {xs : List V} {b : Addr} {u : HO} (h : ahT K a ts o xs b = some u) : (b = a ∧ K.lookup a = none ∧ u = .frz o (.lst xs)) ∨ (b ∈ ts ∧ u = .tbl #[]) := by
  unfold ahT at h
  by_cases e : b = a
  · rw [if_pos e] at h
    cases k : K.lookup a with
    | none =>
      rw [k, if_neg (fun z => by cases z)] at h
      exact .inl ⟨e, rfl, (Option.some.inj h).symm⟩
    | some y =>
      rw [k] at h
      simp at h
  · rw [if_neg e] at h
    by_cases z : b ∈ ts
    · rw [if_pos z] at h
      exact .inr ⟨z, (Option.some.inj h).symm⟩
    · rw [if_neg z] at h
      cases h
/-- a code object, its table, and where they stand -/
structure TbAt (K : PySem.W.Frag) (h : Heap) (q : Addr × Addr) : Prop where
  ob : h.get? q.2 = some { cls := .none, data := .fields #[] }
  nk : K.lookup q.2 = none
  hd : PySem.W.CodeHd h q.1 q.2
theorem env_aheadT {P : Program} {w : World} {K : PySem.W.Frag} {mg mb : Str → Option Value} {a : Addr} {cs : List (Addr × Addr)} {s : Shared} {vs : List Value} {ns : List Int} (KX : K.In s.heap) (gl : s.heap.Ns mainGlobals mg) (bl : s.heap.Ns builtinsNs mb)
    (bb : ∀ x : Str, x ≠ "__name__" → mb x = bootBuiltins x) (nl : s.heap.NoLimit) (hg : s.gens = #[]) (tb : ∀ q, q ∈ cs → TbAt K s.heap q)
    (bm : ∃ (m : Addr) (om : Obj), mg "__builtins__" = some (.ref m) ∧ m ≠ builtinsNs ∧ s.heap.get? m = some om ∧ om.cls = .type "module" ∧ om.dict = some builtinsNs ∧ om.data = .plain)
    (ha : s.heap.get? a = some { cls := .type "list", data := .seq vs.toArray }) (hi : IntsAre vs ns) (hl : ns.length ≤ sizeLine) :
    ∃ H : Hp, (∀ q, q ∈ cs → H q.2 = some (.tbl #[])) ∧ (∀ b u, H b = some u → (∃ o xs, u = .frz o (.lst xs)) ∨ b ∈ cs.map Prod.snd) ∧ SqL K H a (ns.map V.int) ∧ HOk P w H s.heap ∧ K.In (hidT s.heap H) ∧ (hidT s.heap H).Ns mainGlobals mg ∧ (∀ q, q ∈ cs → GxR.TabB (hidT s.heap H) mg q.1 q.2) ∧ Env0 P w K mg (hidT s.heap H) callerA [] s H := by
  have tin : ∀ b, b ∈ cs.map Prod.snd → ∃ q, q ∈ cs ∧ q.2 = b := fun b h => List.mem_map.mp h
  have tob : ∀ b, b ∈ cs.map Prod.snd → s.heap.get? b = some { cls := .none, data := .fields #[] } := fun b h => by
    obtain ⟨q, hq, rfl⟩ := tin b h
    exact (tb q hq).ob
  have na : ¬ a ∈ cs.map Prod.snd := fun z => by
    have y := (tob a z).symm.trans ha
    cases y
  obtain ⟨H, eH⟩ : ∃ H : Hp, H = ahT K a (cs.map Prod.snd) { cls := .type "list", data := .seq vs.toArray } (ns.map V.int) := ⟨_, rfl⟩
  have any : ∀ {b u}, H b = some u → (b = a ∧ K.lookup a = none ∧ u = .frz { cls := .type "list", data := .seq vs.toArray } (.lst (ns.map V.int))) ∨ (b ∈ cs.map Prod.snd ∧ u = .tbl #[]) := fun {b u} h => ahT_any (by rw [← eH]; exact h)
  have ta : ∀ q, q ∈ cs → H q.2 = some (.tbl #[]) := fun q hq => by
    rw [eH]
    exact ahT_tab na (List.mem_map.mpr ⟨q, hq, rfl⟩)
  have hS : SqL K H a (ns.map V.int) := by
    cases k : K.lookup a with
    | none =>
      refine .inl (.inr ⟨{ cls := .type "list", data := .seq vs.toArray }, ?_⟩)
      rw [eH]
      unfold ahT
      rw [if_pos rfl, k]
      rfl
    | some o =>
      have e := KX a o k
      rw [ha] at e
      cases e
      exact .inr ⟨_, vs.toArray, _, k, rfl, rfl, rfl, by rw [List.size_toArray, hi.length]; exact hl, by simpa using vals_ints hi⟩
  -- what is neither a sequence nor a table stands untouched
  have free : ∀ {b : Addr} {o : Obj}, s.heap.get? b = some o → (∀ ys n, o.data ≠ .seq ys n) → o.data ≠ .fields #[] → H b = none := fun {b o} e n1 n2 => by
    cases k : H b with
    | none => rfl
    | some u =>
      rcases any k with ⟨rfl, _⟩ | ⟨z, _⟩
      · rw [ha] at e
        cases e
        exact absurd rfl (n1 _ _)
      · rw [tob b z] at e
        cases e
        exact absurd rfl n2
  have nsb : ∀ {b : Addr} {m : Str → Option Value}, s.heap.Ns b m → (hidT s.heap H).Ns b m := fun {b m} h => by
    obtain ⟨o, es, ep, e, d, r⟩ := h
    exact ⟨o, es, ep, hidT_get e (free e (fun ys n z => by rw [d] at z; cases z) (fun z => by rw [d] at z; cases z)), d, r⟩
  have Kb : K.In (hidT s.heap H) := fun b o e => hidT_get (KX b o e) (by
    cases k : H b with
    | none => rfl
    | some u =>
      rcases any k with ⟨rfl, n, _⟩ | ⟨z, _⟩
      · rw [n] at e
        cases e
      · obtain ⟨q, hq, rfl⟩ := tin b z
        rw [(tb q hq).nk] at e
        cases e)
  have hok : HOk P w H s.heap := fun b u z => by
    rcases any z with ⟨rfl, _, rfl⟩ | ⟨y, rfl⟩
    · exact ⟨ha, by rw [List.length_map]; exact hl, vs, _, vals_ints hi, ha⟩
    · exact tob b y
  refine ⟨H, ta, fun b u z => ?_, hS, hok, Kb, nsb gl, fun q hq => ⟨?_, ?_, fun z => ?_⟩, rfl, ⟨Kb, nsb gl, ⟨mb, nsb bl, bb⟩, ?_⟩, fun b o e => of_hidT e, Nat.le_of_eq (hidT_size _ _), trivial, fun b z => (by cases z), hok, .of_eq hg⟩
  · rcases any z with ⟨_, _, rfl⟩ | ⟨y, _⟩
    · exact .inl ⟨_, _, rfl⟩
    · exact .inr y
  · obtain ⟨o, us, fl, tf, gs, tg, iF, tx, tt, e1, r1, r2, r3, rest⟩ := (tb q hq).hd
    refine ⟨o, us, fl, tf, gs, tg, iF, tx, tt, hidT_get e1 (free e1 (fun ys n z => by rw [r2] at z; cases z) (fun z => ?_)), r1, r2, r3, rest⟩
    rw [r2] at z
    cases z
    simp at r3
  · obtain ⟨m, om, b1, b2, b3, b4, b5, b6⟩ := bm
    refine ⟨m, om, b1, b2, fun z => ?_, fun z => ?_, hidT_get b3 (free b3 (fun ys n z => by rw [b6] at z; cases z) (fun z => by rw [b6] at z; cases z)), b4, b5, b6⟩
    · obtain ⟨o, es, ep, e, d, _⟩ := gl
      rw [z, e] at b3
      cases b3
      rw [d] at b6
      cases b6
    · have y := (tb q hq).ob
      rw [← z, b3] at y
      cases y
      cases b6
  · obtain ⟨o, es, ep, e, d, _⟩ := gl
    rw [z, (tb q hq).ob] at e
    cases e
    cases d
  · obtain ⟨mc, h1, h2⟩ := nl
    exact ⟨mc, nsb h1, h2⟩
theorem walk_ofGT {l : PySem.W.OpenLaw} {n k : Nat} {q : Program} {loose : List Str} {XP : (Str → Option Value) → Heap → Prop} {YP : World → Heap → Prop} {d : DefRec} {x : Str}
    (hn : l.most = some n) (hn2 : n ≤ sizeLine) (hdf : d.params.defaults = []) (hr : Room k callerA)
    (F : ∀ (w : World) (mg : Str → Option Value) (fa : Addr) (h : Heap), YP w h → h.Ns mainGlobals mg → mg d.name = some (.ref fa) →
      ∃ (K : PySem.W.Frag) (fd : FuncData) (cs : List (Addr × Addr)) (sp : Sp), K.In h ∧ (∀ q, q ∈ cs → TbAt K h q) ∧ (∀ (s : Shared) (u : Value), BindsTo s fd ⟨[u], []⟩ [(x, u)]) ∧
        (∀ (H : Hp) (a : Addr) (ns : List Int), ns.length ≤ n → (∀ q, q ∈ cs → H q.2 = some (.tbl #[])) → SqL K H a (ns.map V.int) → sp [.ref a] H (fun v _ => v = .bl true) fun _ _ _ => False) ∧
        ∀ base : Heap, K.In base → base.Ns mainGlobals mg → (∀ q, q ∈ cs → GxR.TabB base mg q.1 q.2) → GOk l.prog w K mg base CX0 k fa fd [x] sp) :
    PySem.W.WalkO q loose XP YP l.row.toRowW d [] (fun f vs => PySem.call f vs) := by
  refine Att.attach_call hn hdf fun w s₀ s₁ mg mb fa o pm cd doc a vs ns G Y ho hd hcd hmg hobj hints hlen hg => ?_
  obtain ⟨K, fd, cs, sp, KX, tb, hbd, hsp, hF⟩ := F w mg fa _ Y G.T.g hmg
  obtain ⟨H, ta, hO, hS, hok, Kb, nb, TB, e0⟩ := env_aheadT (P := l.prog) (w := w) KX G.T.g G.T.b G.T.builtins G.T.nolimit hg tb G.T.bmain hobj hints (Nat.le_trans hlen hn2)
  refine codeAny_mono ((hF _ Kb nb TB).run callerA [] s₁ H ⟨[.ref a], []⟩ [.ref a] [.ref a] _ _ rfl hr e0 (hbd s₁ (.ref a)) (.cons rfl .nil) (hsp H a ns hlen ta hS)) fun r s' h => ?_
  match r, h with
  | .ok (.ret u), h =>
    obtain ⟨v, H', os, bare, un, hok', r', q⟩ := h
    have q : v = .bl true := q
    subst q
    obtain rfl : u = Value.bool true := r'
    have grow : ∀ t, t ∈ cs → ∃ more : Array Value, s'.heap.get? t.2 = some { cls := .none, data := .fields more } := fun t ht => by
      obtain ⟨more, z⟩ := un.tbls _ _ (ta t ht)
      exact ⟨_, hok' _ _ z⟩
    have stay : ∀ b o, ¬ b ∈ cs.map Prod.snd → s₁.heap.get? b = some o → s'.heap.get? b = some o := fun b o nb e => by
      cases k : H b with
      | none => exact un.keep b o e k (by intro y; cases y) (by simp)
      | some u =>
        rcases hO b u k with ⟨ob, xs, rfl⟩ | z
        · obtain ⟨e1, _⟩ := hok b _ k
          obtain ⟨e2, _⟩ := hok' b _ (un.frzs b ob _ k)
          rw [e] at e1
          cases e1
          exact e2
        · exact absurd z nb
    refine ⟨rfl, ⟨fun b o e => ?_, fun b o e => ?_⟩, os, bare⟩
    · by_cases z : b ∈ cs.map Prod.snd
      · obtain ⟨t, ht, rfl⟩ := List.mem_map.mp z
        obtain ⟨more, gm⟩ := grow t ht
        have y := (tb t ht).ob
        rw [e] at y
        cases y
        exact .inr (.inl ⟨((tb t ht).hd.tab (tb t ht).ob).isCodeTable, rfl, #[], more, rfl, by rw [Array.empty_append]; exact gm⟩)
      · exact .inl (stay b o z e)
    · by_cases z : b ∈ cs.map Prod.snd
      · obtain ⟨t, ht, rfl⟩ := List.mem_map.mp z
        obtain ⟨more, gm⟩ := grow t ht
        exact ⟨_, gm⟩
      · exact ⟨o, stay b o z e⟩
  | .ok .next, h => exact False.elim h
  | .ok .brk, h => exact False.elim h
  | .ok .cont, h => exact False.elim h
  | .error e, h => exact False.elim h
/-! lists of rows -/
abbrev rwD (ns : List Int) : PyData := .tuple (ns.map .int)
theorem eqv_rws : ∀ as : List (List Int), PyData.eqvAll (as.map rwD) (as.map rwD) = true
  | [] => rfl
  | c :: r => by
    have h : PyData.eqv (rwD c) (rwD c) = true := eqv_ints c
    show (PyData.eqv (rwD c) (rwD c) && PyData.eqvAll (r.map rwD) (r.map rwD)) = true
    rw [h, eqv_rws r]
    rfl
theorem depth_row (ns : List Int) : PyData.depth (rwD ns) ≤ 1 := by
  have h2 : PyData.depthAll (ns.map PyData.int) = 0 := by
    induction ns with
    | nil => rfl
    | cons x r ih =>
      show max (PyData.depth (.int x)) (PyData.depthAll (r.map PyData.int)) = 0
      rw [ih]
      rfl
  show PyData.depth (.tuple (ns.map PyData.int)) ≤ 1
  simp only [PyData.depth, h2]
  decide
theorem sh_rws (as : List (List Int)) : SeqAt.shaped (.list (as.map rwD)) = true := by
  have h0 : ∀ ns : List Int, PyData.canLay0 (rwD ns) = true := fun ns => by
    have h1 : PyData.canLayAll0 (ns.map PyData.int) = true := by
      induction ns with
      | nil => rfl
      | cons x r ih =>
        show (PyData.canLay0 (.int x) && PyData.canLayAll0 (r.map PyData.int)) = true
        rw [ih]
        rfl
    exact h1
  have h1 : PyData.canLayAll0 (as.map rwD) = true := by
    induction as with
    | nil => rfl
    | cons x r ih =>
      show (PyData.canLay0 (rwD x) && PyData.canLayAll0 (r.map rwD)) = true
      rw [ih, h0]
      rfl
  have h2 : PyData.depthAll (as.map rwD) ≤ 1 := depA_of _ fun d hd => by
    obtain ⟨c, _, rfl⟩ := List.mem_map.mp hd
    exact depth_row c
  show (PyData.canLayAll0 (as.map rwD) && decide (PyData.depthAll (as.map rwD) + 1 ≤ 64)) = true
  rw [h1, Bool.true_and]
  exact decide_eq_true (by omega)
/-- rows, of any lengths, in a list -/
def RwL (H : Hp) (l : Addr) (as : List (Addr × List Int)) : Prop := H l = some (.lst (as.map fun q => V.ref q.1)) ∧ ∀ q, q ∈ as → H q.1 = some (.tup (q.2.map V.int))
theorem dp_rws {K : PySem.W.Frag} {H : Hp} : ∀ as : List (Addr × List Int), (∀ q, q ∈ as → H q.1 = some (.tup (q.2.map V.int))) → DpAll K H (as.map fun q => V.ref q.1) ((as.map Prod.snd).map rwD)
  | [], _ => .nil
  | q :: as, h => .cons (.tup (SqT.mk (h q List.mem_cons_self)) (dp_ints q.2)) (dp_rws as fun p hp => h p (List.mem_cons_of_mem _ hp))
theorem neRws {K : PySem.W.Frag} {H : Hp} {l k : Addr} {as : List (Addr × List Int)} (h1 : RwL H l as) (h2 : RwL H k as) {Q : VK} (q : Q (.bl false) H) : rNeD K (.ref l) (.ref k) H Q := by
  refine ⟨_, _, .lst (SqL.mk h1.1) (dp_rws as h1.2), .lst (SqL.mk h2.1) (dp_rws as h2.2), sh_rws _, sh_rws _, ?_⟩
  have e : PyData.eqv (.list ((as.map Prod.snd).map rwD)) (.list ((as.map Prod.snd).map rwD)) = true := eqv_rws _
  rw [e]
  exact q
theorem RwL.bt {H : Hp} {l : Addr} {m n : Nat} {r : Nat → Nat → Int} {ts : List Addr} (lt : ts.length = m) (hl : H l = some (.lst (ts.map V.ref))) (ht : ∀ (i : Nat) (t : Addr), ts[i]? = some t → Rt H t n (r i) ∧ Bt n (r i)) : RwL H l ((List.range m).map fun i => (ts.getD i 0, rwf n (r i))) := by
  have hg : ∀ i, i < m → ts[i]? = some (ts.getD i 0) := fun i hi => by
    rw [List.getD_eq_getElem?_getD, List.getElem?_eq_getElem (show i < ts.length by omega)]
    rfl
  refine ⟨?_, fun q hq => ?_⟩
  · rw [hl, List.map_map]
    congr 2
    apply List.ext_getElem?
    intro i
    by_cases z : i < m
    · rw [List.getElem?_map, List.getElem?_map, List.getElem?_range z, hg i z]
      rfl
    · rw [List.getElem?_eq_none (by rw [List.length_map]; omega), List.getElem?_eq_none (by rw [List.length_map, List.length_range]; omega)]
  · obtain ⟨i, hi, rfl⟩ := List.mem_map.mp hq
    exact (ht i _ (hg i (List.mem_range.mp hi))).1
/-- bits by the numbers of inputs, in a list -/
def DBs (H : Hp) (D : Addr) (f : Fm) (b : Nat → Int) : Prop := ∃ xs : List V, H D = some (.lst xs) ∧ ∀ i, i ∈ f.ins → xs[i]? = some (.int (b i))
theorem DBs.same {H H' : Hp} {D : Addr} {f : Fm} {b : Nat → Int} (h : DBs H D f b) (s : Same H H') : DBs H' D f b := by
  obtain ⟨kvs, h1, h2⟩ := h
  exact ⟨kvs, s _ _ h1, h2⟩
theorem DBs.sub {H : Hp} {D : Addr} {f g : Fm} {b : Nat → Int} (h : DBs H D f b) (k : ∀ i, i ∈ g.ins → i ∈ f.ins) : DBs H D g b := by
  obtain ⟨kvs, h1, h2⟩ := h
  exact ⟨kvs, h1, fun i hi => h2 i (k i hi)⟩
abbrev kS (z : Str) : Key := .inr z
abbrev dB (x y z : V) : List (Key × V) := mergeK [] [(kS "both", x), (kS "either", y), (kS "oneof", z)]
theorem dB_both (x y z : V) : valV (dB x y z) (kS "both") = some x := by
  show valV (putK (putK (putK [] (kS "both") x) (kS "either") y) (kS "oneof") z) (kS "both") = _
  rw [valV_put, if_neg (by decide +kernel), valV_put, if_neg (by decide +kernel), valV_put, if_pos rfl]
theorem dB_either (x y z : V) : valV (dB x y z) (kS "either") = some y := by
  show valV (putK (putK (putK [] (kS "both") x) (kS "either") y) (kS "oneof") z) (kS "either") = _
  rw [valV_put, if_neg (by decide +kernel), valV_put, if_pos rfl]
theorem dB_oneof (x y z : V) : valV (dB x y z) (kS "oneof") = some z := by
  show valV (putK (putK (putK [] (kS "both") x) (kS "either") y) (kS "oneof") z) (kS "oneof") = _
  rw [valV_put, if_pos rfl]
def spr__law_bit (d : Nat) (_ : PySem.W.Frag) : Sp := fun vs H Q _ => ∃ (f : Fm) (v : V) (D : Addr) (b : Nat → Int), vs = [v, .ref D] ∧ FmAt H f v ∧ f.dep ≤ d ∧ DBs H D f b ∧ (∀ i, i ∈ f.ins → b i = 0 ∨ b i = 1) ∧ ∀ H', Same H H' → Q (.int (f.ev b)) H'
theorem no__law_bit {K : PySem.W.Frag} {vs : List V} {H : Hp} {Q : VK} {E : XK} (h : spr__law_bit 0 K vs H Q E) : False := by
  obtain ⟨f, v, D, b, _, _, z, _⟩ := h
  have := f.dep_pos
  omega
theorem okr__law_bit (T : Defs K mg) (TT : Tabs T base) : ∀ d : Nat, FnOk P w K mg base CX0 (2 + d) T.f__law_bit T.fd__law_bit ["_law_formula_here", "_law_bits"] (spr__law_bit d K)
  | 0 => ⟨fun _ _ _ _ z => (no__law_bit z).elim, fun _ _ _ _ _ _ _ _ _ _ _ _ _ z => (no__law_bit z).elim⟩
  | d + 1 => by
    have G__law_bit : FnOk P w K mg base CX0 (2 + d) T.f__law_bit T.fd__law_bit ["_law_formula_here", "_law_bits"] (spr__law_bit d K) := okr__law_bit T TT d
    show FnOk P w K mg base CX0 ((2 + d) + 1) T.f__law_bit T.fd__law_bit ["_law_formula_here", "_law_bits"] (spr__law_bit (d + 1) K)
    refine T.F__law_bit.ok sc__law_bit (fun vs H Q E h => ?_) (fun cdv A outer s H vs Q E hr h => ?_)
    · obtain ⟨f, v, D, b, rfl, hf, dp, hD, hb, q⟩ := h
      rfl
    · obtain ⟨f, v, D, b, rfl, hf, dp, hD, hb, q⟩ := h
      refine ⟨_, PSs.nox (pss_cons (ps_if (pt_cmpR op_eq (pe_ix ix_tup (pv 0) pe_int (fun _ _ => rfl)) pe_str (nomark _)) (pss_one (ps_ret (pe_ix ix_list (pv 1) (pe_ix ix_tup (pv 0) pe_int (fun _ _ => rfl)) (fun _ _ => rfl)))) pss_nil)
    (pss_cons (ps_setLc (i := 2) (own := [("_law_part", 3)]) (g := gName 3) (tt := tYes) rfl sc__law_bit.nd rfl rfl (sw_true rfl rfl rfl (by decide +kernel)) (pi_tup (pe_slice sl_tup (pv 0) (po_some pe_int) po_none)) (blkOk_by (N := N__law_bit) (sc := defScope s__law_bit) (by decide +kernel)) (fun _ _ _ _ _ => (pg_name (i := 3) sc__law_bit.nd rfl (.inl rfl))) (fun _ _ _ _ _ => pts_nil) (fun _ _ _ _ _ => (pe_call G__law_bit (hr.mono (by omega)) (by rfl) T.g__law_bit T.F__law_bit.kp T.b__law_bit .nil pass0 (pa_cons (pv 3) (pa_cons (pv 1) pa_nil)))))
    (pss_cons (ps_if (pt_cmpR op_eq (pe_ix ix_tup (pv 0) pe_int (fun _ _ => rfl)) pe_str (nomark _)) (pss_one (ps_ret (pe_callTy call_int1 (by rfl) T.m_int bt_int (pa_cons (pe_cmpR op_eq (pe_ix ix_list (pv 2) pe_int (fun _ _ => rfl)) pe_int (nomark _)) pa_nil)))) pss_nil)
    (pss_cons (ps_if (pt_cmpR op_eq (pe_ix ix_tup (pv 0) pe_int (fun _ _ => rfl)) pe_str (nomark _)) (pss_one (ps_ret (pe_ix ix_list (pv 2) (pe_op op_sub pe_int (pe_ix ix_list (pv 2) pe_int (fun _ _ => rfl))) (fun _ _ => rfl)))) pss_nil)
    (pss_one (ps_ret (pe_callTy call_int1 (by rfl) T.m_int bt_int (pa_cons (pe_cmpR op_in_seq (pe_callB (cr_sum rfl) (by rfl) T.m_sum bt_sum (pa_cons (pv 2) pa_nil)) (pe_dget (u1 hr) (pe_disp (pps_cons pe_str (pe_tup (pa_cons pe_int pa_nil)) (pps_cons pe_str (pe_tup (pa_cons pe_int (pa_cons pe_int pa_nil))) (pps_cons pe_str (pe_tup (pa_cons pe_int pa_nil)) pps_nil))) rfl rfl (by simp) (by decide)) (pe_ix ix_tup (pv 0) pe_int (fun _ _ => rfl)) (fun _ _ => rfl)) rfl) pa_nil)))))))), ?_⟩
      have hsl : sizeLine = 16777216 := by decide
      rcases hf.shape with ⟨i, a, rfl, rfl, ha⟩ | ⟨a, us, rfl, ha, hw, hs⟩
      · obtain ⟨kvs, k1, k2⟩ := hD
        have k3 := k2 i List.mem_cons_self
        refine ⟨.ref a, rfl, a, _, 0, _, rfl, rfl, SqT.mk ha, atI_nat (j := 0) rfl, rfl, _, rfl, ?_⟩
        rw [decide_eq_true rfl]
        refine iteT ⟨.ref D, rfl, .ref a, rfl, a, _, 1, _, rfl, rfl, SqT.mk ha, atI_nat (j := 1) rfl, D, _, _, .int (b i), rfl, rfl, SqL.mk k1, atI_nat k3, q H (Same.refl H)⟩
      refine ⟨.ref a, rfl, a, _, 0, _, rfl, rfl, SqT.mk ha, atI_nat (j := 0) rfl, rfl, _, rfl, ?_⟩
      rw [wd_in hw]
      refine iteF ⟨.ref a, rfl, 1, rfl, a, _, rfl, SqT.mk ha, not_whole, fun tc ntc => ?_⟩
      rw [cut_tail]
      have s1 := same_upd ntc (o := .tup us)
      have htc := upd_same (H := H) (a := tc) (o := .tup us)
      generalize upd H tc (.tup us) = H1 at s1 htc ⊢
      have ul : us.length = f.sds.length := hs.1
      have ul3 : us.length ≤ 3 := by
        rw [ul]
        cases f <;> simp [Fm.sds]
      refine ⟨tc, rfl, ⟨_, SqT.mk htc⟩, fun C nC => ?_⟩
      refine lc_tup (xs := us) (fun i G => Same H1 G ∧ G C = some (.lst (((f.sds.take i).map fun g => g.ev b).map V.int))) ⟨same_upd nC, upd_same⟩ (fun i G _ h => SqT.mk (h.1 _ _ htc)) (fun i u G hu h => ?_) (fun G h => ?_)
      · obtain ⟨sG, hC⟩ := h
        obtain ⟨g, hg1, hg2, hg⟩ := (hs.same (s1.trans sG)).get hu
        have gd := Fm.sds_dep hg2
        have hiu := (List.getElem?_eq_some_iff.mp hu).1
        refine ⟨rfl, yes_ite ?_⟩
        refine ⟨u, rfl, .ref D, rfl, g, u, D, b, rfl, hg, by omega, (hD.same (s1.trans sG)).sub (fun j hj => Fm.sds_mem hg2 hj), fun j hj => hb j (Fm.sds_mem hg2 hj), fun G2 s2 => ?_⟩
        refine ⟨_, s2 _ _ hC, by rw [List.length_map, List.length_map, List.length_take]; omega, same_newer (sG.trans s2) nC, ?_⟩
        rw [upd_same, List.take_add_one, hg1, Option.toList_some, List.map_append, List.map_append]
        rfl
      obtain ⟨sG, hC⟩ := h
      rw [ul, List.take_length] at hC
      have sHG := s1.trans sG
      have haG := sHG _ _ ha
      have bit : ∀ g, g ∈ f.sds → g.ev b = 0 ∨ g.ev b = 1 := fun g hg => ev_bit fun i hi => hb i (Fm.sds_mem hg hi)
      refine ⟨.ref a, rfl, a, _, 0, _, rfl, rfl, SqT.mk haG, atI_nat (j := 0) rfl, rfl, _, rfl, ?_⟩
      by_cases w1 : f.word = "less"
      · rw [decide_eq_true (show V.str f.word = V.str "less" by rw [w1])]
        cases f with
        | less f' =>
          refine iteT ⟨.ref C, rfl, C, _, 0, _, rfl, rfl, SqL.mk hC, atI_nat (j := 0) rfl, rfl, .inr ⟨_, rfl, ?_⟩⟩
          have z := bit f' List.mem_cons_self
          have e : (if decide (V.int (f'.ev b) = V.int 0) = true then (1 : Int) else 0) = 1 - f'.ev b := by
            rcases z with z | z <;> rw [z] <;> decide
          rw [e]
          exact q _ sHG
        | _ => exact absurd w1 (by simp only [Fm.word]; decide +kernel)
      rw [decide_eq_false (show ¬ V.str f.word = V.str "less" from fun e => w1 (V.str.inj e))]
      refine iteF ⟨.ref a, rfl, a, _, 0, _, rfl, rfl, SqT.mk haG, atI_nat (j := 0) rfl, rfl, _, rfl, ?_⟩
      by_cases w2 : f.word = "pick"
      · rw [decide_eq_true (show V.str f.word = V.str "pick" by rw [w2])]
        cases f with
        | pick f1 f2 f3 =>
          refine iteT ⟨.ref C, rfl, .ref C, rfl, C, _, 0, _, rfl, rfl, SqL.mk hC, atI_nat (j := 0) rfl, _, _, rfl, rfl, C, _, _, .int (pk (f1.ev b) (f2.ev b) (f3.ev b)), rfl, rfl, SqL.mk hC, ?_, q _ sHG⟩
          rcases bit f1 List.mem_cons_self with z | z
          · dsimp only
            rw [z]
            show atI _ ((2 : Nat) : Int) = _
            exact atI_nat (j := 2) rfl
          · dsimp only
            rw [z]
            show atI _ ((1 : Nat) : Int) = _
            exact atI_nat (j := 1) rfl
        | _ => exact absurd w2 (by simp only [Fm.word]; decide +kernel)
      rw [decide_eq_false (show ¬ V.str f.word = V.str "pick" from fun e => w2 (V.str.inj e))]
      refine iteF ⟨.ref C, rfl, C, _, rfl, SqL.mk hC, ?_⟩
      intro p np
      have v1 := same_upd np (o := .dK [])
      have hp1 := upd_same (H := G) (a := p) (o := .dK [])
      generalize upd G p (.dK []) = Z at v1 hp1 ⊢
      refine ⟨(show 1 ≤ sizeLine by decide), fun d1 n1 => ⟨(show 2 ≤ sizeLine by decide), fun d2 n2 => ⟨(show 1 ≤ sizeLine by decide), fun d3 n3 => ?_⟩⟩⟩
      have o1 := same_upd n1 (o := .tup [.int 2])
      have o2 := same_upd n2 (o := .tup [.int 1, .int 2])
      have o3 := same_upd n3 (o := .tup [.int 1])
      have oA := o1.trans (o2.trans o3)
      have r1 := (o2.trans o3) _ _ (upd_same (H := Z) (a := d1) (o := .tup [.int 2]))
      have r2 := o3 _ _ (upd_same (a := d2) (o := .tup [.int 1, .int 2]))
      have r3 := upd_same (H := upd (upd Z d1 (.tup [.int 2])) d2 (.tup [.int 1, .int 2])) (a := d3) (o := .tup [.int 1])
      have hpA := oA _ _ hp1
      generalize upd (upd (upd Z d1 (.tup [.int 2])) d2 (.tup [.int 1, .int 2])) d3 (.tup [.int 1]) = Y at oA r1 r2 r3 hpA ⊢
      refine ⟨hpA, [(kS "both", .ref d1), (kS "either", .ref d2), (kS "oneof", .ref d3)], rfl, (show 3 ≤ 15 by decide), ?_⟩
      have sZ : Same G (upd Y p (.dK (dB (.ref d1) (.ref d2) (.ref d3)))) := same_newer (v1.trans oA) np
      have sZ2 := sHG.trans sZ
      have keep : ∀ t xs, Y t = some (.tup xs) → (upd Y p (.dK (dB (.ref d1) (.ref d2) (.ref d3)))) t = some (.tup xs) := fun t xs e => by
        rw [upd_ne (ne_of e hpA (fun z => by cases z))]
        exact e
      refine ⟨.ref a, rfl, a, _, 0, _, rfl, rfl, SqT.mk (sZ _ _ haG), atI_nat (j := 0) rfl, p, ?_⟩
      have fin : ∀ (ks : List Int) (d : Addr) (sm : Int), Y d = some (.tup (ks.map V.int)) → (if decide (sm ∈ ks) = true then (1 : Int) else 0) = f.ev b → L2.rIn K false (.int sm) (.ref d) (upd Y p (.dK (dB (.ref d1) (.ref d2) (.ref d3)))) fun x H1 => (∃ i, [x] = [V.int i] ∧ Q (.int i) H1) ∨ ∃ k, [x] = [V.bl k] ∧ Q (.int (if k = true then 1 else 0)) H1 := fun ks d sm hd e => by
        refine ⟨d, ks.map V.int, rfl, .inr (SqT.mk (keep _ _ hd)), rfl, flat_ints ks, .inr ⟨_, rfl, ?_⟩⟩
        rw [if_neg Bool.false_ne_true, in_ints, e]
        exact q _ sZ2
      cases f with
      | inp i => exact absurd rfl hw
      | less f1 => exact absurd rfl w1
      | pick f1 f2 f3 => exact absurd rfl w2
      | both f1 f2 =>
        refine ⟨_, rfl, dB_both _ _ _ ▸ DGet.k (k := kS "both") upd_same, fin [2] d1 _ r1 ?_⟩
        have z1 := bit f1 (by simp [Fm.sds])
        have z2 := bit f2 (by simp [Fm.sds])
        show (if decide (f1.ev b + (f2.ev b + 0) ∈ [(2 : Int)]) = true then (1 : Int) else 0) = f1.ev b * f2.ev b
        rcases z1 with z1 | z1 <;> rcases z2 with z2 | z2 <;> rw [z1, z2] <;> decide
      | either f1 f2 =>
        refine ⟨_, rfl, dB_either _ _ _ ▸ DGet.k (k := kS "either") upd_same, fin [1, 2] d2 _ r2 ?_⟩
        have z1 := bit f1 (by simp [Fm.sds])
        have z2 := bit f2 (by simp [Fm.sds])
        show (if decide (f1.ev b + (f2.ev b + 0) ∈ [(1 : Int), 2]) = true then (1 : Int) else 0) = f1.ev b + f2.ev b - f1.ev b * f2.ev b
        rcases z1 with z1 | z1 <;> rcases z2 with z2 | z2 <;> rw [z1, z2] <;> decide
      | oneof f1 f2 =>
        refine ⟨_, rfl, dB_oneof _ _ _ ▸ DGet.k (k := kS "oneof") upd_same, fin [1] d3 _ r3 ?_⟩
        have z1 := bit f1 (by simp [Fm.sds])
        have z2 := bit f2 (by simp [Fm.sds])
        show (if decide (f1.ev b + (f2.ev b + 0) ∈ [(1 : Int)]) = true then (1 : Int) else 0) = f1.ev b + f2.ev b - 2 * f1.ev b * f2.ev b
        rcases z1 with z1 | z1 <;> rcases z2 with z2 | z2 <;> rw [z1, z2] <;> decide
def sp__law_bit (K : PySem.W.Frag) : Sp := spr__law_bit 8 K
theorem ok__law_bit (T : Defs K mg) (TT : Tabs T base) : FnOk P w K mg base CX0 10 T.f__law_bit T.fd__law_bit ["_law_formula_here", "_law_bits"] (sp__law_bit K) := okr__law_bit T TT 8
/-- rows drawn so far -/
def RS (b D : Addr) (X : Hp) (k s N i : Nat) (G : Hp) : Prop := ∃ as : List (Addr × (Nat → Int)), as.length = i ∧ G D = some (.lst (as.map fun q => V.ref q.1)) ∧ (∀ q, q ∈ as → Rt G q.1 N q.2 ∧ Bt N q.2) ∧ But b X G ∧ Bx G b (k + s * i)
theorem bt_of {rs : List Int} {L : Nat} (h : Bits rs) (l : rs.length = L) : Bt L fun i => rs.getD i 0 := ⟨fun i hi => by
  have hi : i < rs.length := by omega
  show rs.getD i 0 = 0 ∨ rs.getD i 0 = 1
  rw [List.getD_eq_getElem?_getD, List.getElem?_eq_getElem hi]
  exact h _ (List.getElem_mem hi)⟩
theorem rt_of {H : Hp} {a : Addr} {rs : List Int} {L : Nat} (h : H a = some (.tup (rs.map V.int))) (l : rs.length = L) : Rt H a L fun i => rs.getD i 0 := by
  subst l
  unfold Rt
  rw [← rwf_self]
  exact h
theorem RS.rows {b D : Addr} {X G : Hp} {k s N m : Nat} (h : RS b D X k s N m G) : ∃ r, LRows G D m N r := by
  obtain ⟨as, la, hD, has, _⟩ := h
  refine ⟨fun i => (as.getD i (0, fun _ => 0)).2, as.map Prod.fst, by rw [List.length_map, la], by rw [hD, List.map_map]; rfl, fun i t e => ?_⟩
  rw [List.getElem?_map] at e
  obtain ⟨q, hq, rfl⟩ := Option.map_eq_some_iff.mp e
  have z := has q (List.mem_of_getElem? hq)
  show Rt G q.1 N (as.getD i (0, fun _ => 0)).2 ∧ Bt N (as.getD i (0, fun _ => 0)).2
  rw [List.getD_eq_getElem?_getD, hq]
  exact z
theorem bit_bl {c : Bool} : (if c = true then (1 : Int) else 0) = 0 ∨ (if c = true then (1 : Int) else 0) = 1 := by
  cases c <;> simp
def sp__law_rows (_ : PySem.W.Frag) : Sp := fun vs H Q _ => ∃ (p : Addr) (n m : Nat), vs = [.ref p, .int (m : Nat)] ∧ Bx H p n ∧ n < 1000000 ∧ m ≤ 8 ∧ ∀ H' l N r, But p H H' → Bx H' p (n + 4000) → l ≠ p → LRows H' l m N r → 1 ≤ N → N ≤ 400 → Q (.ref l) H'
theorem ok__law_rows (T : Defs K mg) (TT : Tabs T base) : FnOk P w K mg base CX0 2 T.f__law_rows T.fd__law_rows ["_law_box_here", "_law_many"] (sp__law_rows K) := by
  have G__law_take : FnOk P w K mg base CX0 1 T.f__law_take T.fd__law_take ["_law_box_here", "_law_many"] (sp__law_take K) := ok__law_take T TT
  refine T.F__law_rows.ok sc__law_rows (fun vs H Q E h => ?_) (fun cdv A outer s H vs Q E hr h => ?_)
  · obtain ⟨p, n, m, rfl, hB, hn, m8, q⟩ := h
    rfl
  · obtain ⟨p, n, m, rfl, hB, hn, m8, q⟩ := h
    refine ⟨_, PSs.nox (pss_cons (ps_set (i := 2) sc__law_rows.nd rfl (.inl rfl) (pe_op op_add pe_int (pe_call G__law_take (hr.mono (by decide)) (by rfl) T.g__law_take T.F__law_take.kp T.b__law_take .nil pass0 (pa_cons (pv 0) (pa_cons (pe_ix ix_list (pe_lst (pa_cons pe_int (pa_cons pe_int pa_nil))) (pe_callTy call_int1 (by rfl) T.m_int bt_int (pa_cons (pe_cmpR op_eq (pe_call G__law_take (hr.mono (by decide)) (by rfl) T.g__law_take T.F__law_take.kp T.b__law_take .nil pass0 (pa_cons (pv 0) (pa_cons pe_int pa_nil))) pe_int (nomark _)) pa_nil)) (fun _ _ => rfl)) pa_nil)))))
    (pss_cons (ps_set (i := 3) sc__law_rows.nd rfl (.inl rfl) (pe_lst pa_nil))
    (pss_cons ((ps_for PassesOwn.never rfl (pi_range1 (by rfl) T.m_range (pa_cons (pv 1) pa_nil)) (pg_name (i := 4) sc__law_rows.nd rfl (.inl rfl)) (pss_cons (ps_set (i := 5) sc__law_rows.nd rfl (.inr rfl) (pe_op op_add pe_int (pe_call G__law_take (hr.mono (by decide)) (by rfl) T.g__law_take T.F__law_take.kp T.b__law_take .nil pass0 (pa_cons (pv 0) (pa_cons pe_int pa_nil)))))
    (pss_one (ps_expr (pe_bm PySem.F.plainAttrs_list PySem.F.slot_list_append PySem.F.type_list_append mt_append (pv 3) (pa_cons (pe_callTy call_tuple_of (by rfl) T.m_tuple bt_tuple (pa_cons (pe_lc (own := [("_law_t", 6)]) (g := gName 6) (tt := tYes) rfl sc__law_rows.nd (pi_range1 (by rfl) T.m_range (pa_cons (pv 2) pa_nil)) (blkOk_by (N := N__law_rows) (sc := defScope s__law_rows) (by decide +kernel)) (fun _ _ _ _ _ => (pg_name (i := 6) sc__law_rows.nd rfl (.inl rfl))) (fun _ _ _ _ _ => pts_nil) (fun _ _ _ _ _ => (pe_callTy call_int1 (by rfl) T.m_int bt_int (pa_cons (pe_cmpR op_gt (pe_call G__law_take (hr.mono (by decide)) (by rfl) T.g__law_take T.F__law_take.kp T.b__law_take .nil pass0 (pa_cons (pv 0) (pa_cons (pv 5) pa_nil))) pe_int (nomark _)) pa_nil)))) pa_nil)) pa_nil)))))))
    (pss_one (ps_ret (pv 3)))))), ?_⟩
    have hsl : sizeLine = 16777216 := by decide
    refine ⟨.ref p, rfl, (show 2 ≤ sizeLine by decide), fun la na => ?_⟩
    have s1 := same_upd na (o := .lst [.int 60, .int 400])
    have hl := upd_same (H := H) (a := la) (o := .lst [.int 60, .int 400])
    have nlp := ne_new hB na
    generalize upd H la (.lst [.int 60, .int 400]) = H1 at s1 hl ⊢
    refine ⟨.ref p, rfl, p, 8, n, rfl, hB.same s1, by decide, by decide, by omega, fun H2 r2 c2 B2 l2 u2 => ⟨rfl, .inr ⟨_, rfl, ?_⟩⟩⟩
    generalize decide (V.int r2 = V.int 0) = gr
    obtain ⟨v, ev, hv⟩ := at_menu (Pr := fun v => v = 60 ∨ v = 400) (xs := [60, 400]) (r := if gr = true then (1 : Int) else 0) bl01.1 bl01.2 (fun x hx => by
      simp only [List.mem_cons, List.not_mem_nil, or_false] at hx
      exact hx)
    refine ⟨la, _, _, _, rfl, rfl, SqL.mk (c2 _ _ nlp hl), ev, p, v, _, rfl, B2, by omega, by omega, by omega, fun H3 r3 c3 B3 l3 u3 => ⟨_, _, rfl, rfl, ?_⟩⟩
    obtain ⟨N, hN⟩ := nat_of (show 0 ≤ 1 + r3 by omega)
    try dsimp only
    rw [hN]
    have c03 : But p H H3 := (same_but s1).trans (c2.trans c3)
    have N1 : 1 ≤ N := by omega
    have N4 : N ≤ 400 := by omega
    clear s1 hl nlp c2 B2 c3 ev hv l2 u2 l3 u3
    refine ⟨Nat.zero_le _, fun D nD => ?_⟩
    have nDp : D ≠ p := ne_new B3 nD
    refine ⟨_, rfl, (m : Nat), rfl, by omega, by omega, for_range (fun i σ G => ∃ y4 y5 y6, σ = [some (.ref p), some (.int (m : Nat)), some (.int (N : Nat)), some (.ref D), y4, y5, y6] ∧ RS p D H3 (n + 2) 401 N i G ∧ y6 = none) ⟨none, none, none, rfl, ⟨[], rfl, upd_same, fun _ z => (by cases z), (But.refl p H3).new nD, B3.new nD⟩, rfl⟩ ?_ ?_⟩
    rotate_left
    · rintro σ G ⟨y4, y5, y6, rfl, h, _⟩
      rw [Int.toNat_natCast] at h
      obtain ⟨r, hr'⟩ := h.rows
      obtain ⟨_, _, _, _, cG, BG⟩ := h
      exact ⟨.ref D, rfl, q G D N r (c03.trans cG) (BG.mono (by omega)) nDp hr' N1 N4⟩
    rintro i σ G hi ⟨y4, y5, y6, rfl, ⟨as, la', hD, has, cG, BG⟩, rfl⟩
    rw [Int.toNat_natCast] at hi
    refine ⟨.ref p, rfl, p, 3, _, rfl, BG, by decide, by decide, by omega, fun G1 r1 c1 B1 l1 u1 => ⟨_, _, rfl, rfl, ?_⟩⟩
    have hD1 := c1 _ _ nDp hD
    refine ⟨.ref D, rfl, .inl ⟨rfl, _, SqL.mk hD1⟩, ?_⟩
    refine ⟨_, rfl, (N : Nat), rfl, by omega, by omega, fun D2 nD2 => ?_⟩
    have n2p : D2 ≠ p := ne_new B1 nD2
    refine lc_range (PV p D2 G1 (n + 2 + 401 * i + 1)) (pv_start nD2 B1) (fun k G' hk h5 => ?_) (fun G' h5 => ?_)
    · refine ⟨rfl, yes_ite ?_⟩
      obtain ⟨_, _, _, _, B6, _⟩ := id h5
      rw [Int.toNat_natCast] at hk
      refine ⟨.ref p, rfl, _, rfl, p, 2 + r1, _, rfl, B6, by omega, by omega, by omega, fun G6 r6 c6 B7 l6 u6 => ⟨_, _, rfl, rfl, .inr ⟨_, rfl, ?_⟩⟩⟩
      exact pv_step nD2 n2p h5 c6 B7 (by omega) bit_bl
    rw [Int.toNat_natCast] at h5
    obtain ⟨rs, lr, hb, b5, B6, hD2⟩ := h5
    refine ⟨D2, _, rfl, .inl ⟨SqL.mk hD2, fun t nt => ?_⟩⟩
    have b6 := b5.new (o := .tup (rs.map V.int)) nt
    have ht := upd_same (H := G') (a := t) (o := .tup (rs.map V.int))
    have B7 := B6.new (o := .tup (rs.map V.int)) nt
    generalize upd G' t (.tup (rs.map V.int)) = G7 at b6 ht B7 ⊢
    have hD7 := b6 _ _ nDp hD1
    have c17 : But p G G7 := c1.trans b6
    refine ⟨D, _, _, rfl, rfl, hD7, by rw [List.length_map]; omega, ?_⟩
    refine ⟨_, _, _, rfl, ⟨as ++ [(t, fun i => rs.getD i 0)], by rw [List.length_append, la']; rfl, by rw [upd_same, List.map_append]; rfl, fun q' hq => ?_, but_newer (cG.trans c17) nD, (B7.other nDp).mono (by omega)⟩, rfl⟩
    have keep : ∀ t' xs, G7 t' = some (.tup xs) → (upd G7 D (.lst (as.map (fun q => V.ref q.1) ++ [V.ref t]))) t' = some (.tup xs) := fun t' xs e => by
      rw [upd_ne (ne_of e hD7 (fun z => by cases z))]
      exact e
    rcases List.mem_append.mp hq with hq | hq
    · exact ⟨keep _ _ (c17 _ _ (BG.ne_tup (has q' hq).1) (has q' hq).1), (has q' hq).2⟩
    · rw [List.mem_singleton.mp hq]
      exact ⟨keep _ _ (rt_of ht lr), bt_of hb lr⟩
theorem none_of {t c1 c2 c3 c4 c5 : Value} (h1 : PySem.W.kitOne K t c1 = some false) (h2 : PySem.W.kitOne K t c2 = some false) (h3 : PySem.W.kitOne K t c3 = some false) (h4 : PySem.W.kitOne K t c4 = some false) (h5 : PySem.W.kitOne K t c5 = some false) : PySem.W.kitAny K t [c1, c2, c3, c4, c5] = some false :=
  kitAny_cons h1 (fun _ => kitAny_cons h2 (fun _ => kitAny_cons h3 (fun _ => kitAny_cons h4 (fun _ => kitAny_cons h5 (fun _ => rfl) (fun z => by cases z)) (fun z => by cases z)) (fun z => by cases z)) (fun z => by cases z)) (fun z => by cases z)
def sp__law_refused {K : PySem.W.Frag} {mg : Str → Option Value} (_ : Defs K mg) : Sp := fun vs H Q _ => ∃ (v : V) (l : Addr) (as : List (Addr × List Int)), vs = [v, .ref l] ∧ RwL H l as ∧ as.length ≤ 8 ∧ (∃ p q, p ∈ as ∧ q ∈ as ∧ p.2.length ≠ q.2.length) ∧
  ∀ H', Same H H' → Q (.bl true) H'
theorem ok__law_refused (T : Defs K mg) (TT : Tabs T base) : FnOk P w K mg base CX0 15 T.f__law_refused T.fd__law_refused ["_law_formula_here", "_law_rows_here"] (sp__law_refused T) := by
  have G_row_by : FnOk P w K mg base (L2.CX P w) 14 T.f_row_by T.fd_row_by ["formula", "rows"] (sp_row_by T) := ok_row_by T TT
  refine T.F__law_refused.ok sc__law_refused (fun vs H Q E h => ?_) (fun cdv A outer s H vs Q E hr h => ?_)
  · obtain ⟨v, l, as, rfl, hl, an, ⟨p1, p2, m1, m2, hd⟩, q⟩ := h
    rfl
  · obtain ⟨v, l, as, rfl, hl, an, ⟨p1, p2, m1, m2, hd⟩, q⟩ := h
    refine ⟨_, PSs.nox (pss_cons (ps_set (i := 2) sc__law_refused.nd rfl (.inl rfl) pe_non)
    (pss_cons (ps_try_held (i := 3) rfl rfl rfl sc__law_refused.nd rfl rfl ⟨by rfl, by decide, .inl T.g_OnesError⟩ takes0 (fun W pn xe tk pa => (pss_one (ps_expr (pe_callS G_row_by (hr.mono (by decide)) (by rfl) T.g_row_by T.F_row_by.kp T.b_row_by (fun σ => passAt tk σ) (pa_cons (pv 0) (pa_cons (pv 1) pa_nil)))))) (fun a oe cls d pn hz hf => (pss_one (ps_set (i := 2) sc__law_refused.nd rfl (.inl rfl) (pv 3)))))
    (pss_cons (ps_set (i := 4) sc__law_refused.nd rfl (.inl rfl) (pe_callB call_isKT (by rfl) T.m_isinstance bt_isinstance (pa_cons (pv 2) (pa_cons (pe_tup (pa_cons (pe_glob (v := .ref T.C_BadSheet) (by rfl) T.g_BadSheet rfl) (pa_cons (pe_glob (v := .ref T.C_BadText) (by rfl) T.g_BadText rfl) (pa_cons (pe_glob (v := .ref T.C_NoOne) (by rfl) T.g_NoOne rfl) (pa_cons (pe_glob (v := .ref T.C_NoRound) (by rfl) T.g_NoRound rfl) (pa_cons (pe_glob (v := .ref T.C_NoSuch) (by rfl) T.g_NoSuch rfl) pa_nil)))))) pa_nil))))
    (pss_one (ps_ret (pe_and (pe_callB call_isK (by rfl) T.m_isinstance bt_isinstance (pa_cons (pv 2) (pa_cons (pe_glob (v := .ref T.C_Unlike) (by rfl) T.g_Unlike rfl) pa_nil))) (pe_and (pe_callB call_isK (by rfl) T.m_isinstance bt_isinstance (pa_cons (pv 2) (pa_cons (pe_bltn (v := .ty "ValueError") (by rfl) T.m_ValueError bt_ValueError rfl) pa_nil))) (pe_one (pe_not (pv 4)))))))))), ?_⟩
    refine ⟨v, rfl, .ref l, rfl, .inp 0, v, l, rfl, .inr ⟨as.map fun q => (q.1, q.2.map V.int), ?_, ?_, ?_, ?_, ⟨(p1.1, p1.2.map V.int), (p2.1, p2.2.map V.int), List.mem_map.mpr ⟨p1, m1, rfl⟩, List.mem_map.mpr ⟨p2, m2, rfl⟩, ?_⟩, ?_⟩⟩
    · rw [List.map_map]
      exact hl.1
    · rw [List.length_map]
      exact an
    · intro z
      rw [List.map_eq_nil_iff.mp z] at m1
      cases m1
    · intro q' hq
      obtain ⟨x, hx, rfl⟩ := List.mem_map.mp hq
      exact hl.2 x hx
    · show (p1.2.map V.int).length ≠ (p2.2.map V.int).length
      rw [List.length_map, List.length_map]
      exact hd
    refine ⟨true, T.xm_Unlike, fun z => (by cases z), fun _ e ne => ?_⟩
    refine ⟨.ref e, rfl, ?_⟩
    have s2 : Same H (upd H e (ExK (.ref T.C_Unlike) none e)) := same_upd ne
    refine ⟨.ref e, rfl, (show 5 ≤ sizeLine by decide), fun t nt => ?_⟩
    have s3 := same_upd nt (o := .tup [.ref T.C_BadSheet, .ref T.C_BadText, .ref T.C_NoOne, .ref T.C_NoRound, .ref T.C_NoSuch])
    have he := s3 _ _ (upd_same (H := H) (a := e) (o := ExK (.ref T.C_Unlike) none e))
    refine ⟨e, T.C_Unlike, t, _, _, false, rfl, he, T.xc_Unlike, upd_same, .cons (.own _) (.cons (.own _) (.cons (.own _) (.cons (.own _) (.cons (.own _) .nil)))), none_of T.xo_Unlike_BadSheet T.xo_Unlike_BadText T.xo_Unlike_NoOne T.xo_Unlike_NoRound T.xo_Unlike_NoSuch, ?_⟩
    refine ⟨.ref e, rfl, e, T.C_Unlike, _, _, true, rfl, he, T.xc_Unlike, .own _, T.xo_Unlike_Unlike, _, rfl, iteT ?_⟩
    refine ⟨.ref e, rfl, e, T.C_Unlike, _, _, true, rfl, he, T.xc_Unlike, .ty "ValueError", T.xv_Unlike, _, rfl, iteT ?_⟩
    exact ⟨.bl false, rfl, _, rfl, q _ (s2.trans s3)⟩
theorem cut_frV (xs : List V) (m : Nat) : cutV xs (some (m : Int)) none = xs.drop m := by
  unfold cutV
  rw [HT.sIx_none, HT.sIx_nat]
  by_cases h : m ≤ xs.length
  · rw [Nat.min_eq_left h]
    exact List.take_of_length_le (by rw [List.length_drop]; omega)
  · rw [Nat.min_eq_right (by omega), List.drop_eq_nil_of_le (show xs.length ≤ m by omega), List.drop_length, List.take_nil]
theorem not_whole1 {xs : List V} (h : 1 ≤ xs.length) : ¬ (HT.sIx xs.length 0 (some 1) = 0 ∧ HT.sIx xs.length xs.length none = xs.length) := by
  rintro ⟨e, _⟩
  rw [show (1 : Int) = ((1 : Nat) : Int) from rfl, HT.sIx_nat] at e
  omega
theorem cut1 (xs : List V) : cutV xs (some 1) none = xs.drop 1 := cut_frV xs 1
theorem sho_row {n : Nat} {f : Nat → Int} (h : ∀ j, j < n → f j = 0 ∨ f j = 1) (l : n ≤ 20000) : Sho (.tuple ((rwf n f).map .int)) := (sho_ints (fun x hx => by
  rcases rwf_bits h x hx with e | e <;> rw [e] <;> decide) (by rw [rwf_len]; exact l)).2
def sp_law {K : PySem.W.Frag} {mg : Str → Option Value} (T : Defs K mg) : Sp := fun vs H Q _ => ∃ (a : Addr) (ns : List Int), vs = [.ref a] ∧ SqL K H a (ns.map V.int) ∧ ns.length ≤ 63 ∧ (GxR.TabG H T.P_turned ∧ GxR.TabG H T.P_both ∧ GxR.TabG H T.P_either ∧ GxR.TabG H T.P_oneof ∧ GxR.TabG H T.P_pick ∧ True) ∧ ∀ H', Q (.bl true) H'
theorem ok_law (T : Defs K mg) (TT : Tabs T base) : GOk P w K mg base CX0 16 T.f_law T.fd_law ["_law_script"] (sp_law T) := by
  have G__law_folded : FnOk P w K mg base CX0 1 T.f__law_folded T.fd__law_folded ["_law_script", "_law_many"] (sp__law_folded K) := ok__law_folded T TT
  have G__law_box : FnOk P w K mg base CX0 1 T.f__law_box T.fd__law_box ["_law_script", "_law_k"] (sp__law_box K) := ok__law_box T TT
  have G__law_any : FnOk P w K mg base CX0 12 T.f__law_any T.fd__law_any ["_law_box_here"] (sp__law_any K) := ok__law_any T TT
  have G__law_rows : FnOk P w K mg base CX0 2 T.f__law_rows T.fd__law_rows ["_law_box_here", "_law_many"] (sp__law_rows K) := ok__law_rows T TT
  have G__law_take : FnOk P w K mg base CX0 1 T.f__law_take T.fd__law_take ["_law_box_here", "_law_many"] (sp__law_take K) := ok__law_take T TT
  have G__law_bit : FnOk P w K mg base CX0 10 T.f__law_bit T.fd__law_bit ["_law_formula_here", "_law_bits"] (sp__law_bit K) := ok__law_bit T TT
  have G_row_by : FnOk P w K mg base (L2.CX P w) 14 T.f_row_by T.fd_row_by ["formula", "rows"] (sp_row_by T) := ok_row_by T TT
  have G__law_inputs : FnOk P w K mg base CX0 9 T.f__law_inputs T.fd__law_inputs ["_law_formula_here"] (sp__law_inputs K) := ok__law_inputs T TT
  have G__law_refused : FnOk P w K mg base CX0 15 T.f__law_refused T.fd__law_refused ["_law_formula_here", "_law_rows_here"] (sp__law_refused T) := ok__law_refused T TT
  refine gok_of T.F_law sc_law (fun vs H Q E h => ?_) (fun cdv A outer s H vs Q E hg hr h => ?_)
  · obtain ⟨a, ns, rfl, hS, hlen, ⟨g1, g2, g3, g4, g5, _⟩, q⟩ := h
    rfl
  · obtain ⟨a, ns, rfl, hS, hlen, ⟨g1, g2, g3, g4, g5, _⟩, q⟩ := h
    refine ⟨_, PSs.nox (pss_cons (ps_set (i := 1) sc_law.nd rfl (.inl rfl) (pe_call G__law_folded (hr.mono (by decide)) (by rfl) T.g__law_folded T.F__law_folded.kp T.b__law_folded .nil pass0 (pa_cons (pv 0) (pa_cons pe_int pa_nil))))
    (pss_cons ((ps_for PassesOwn.never rfl (pi_range1 (by rfl) T.m_range (pa_cons (pe_callB call_len_seq (by rfl) T.m_len bt_len (pa_cons (pv 1) pa_nil)) pa_nil)) (pg_name (i := 2) sc_law.nd rfl (.inl rfl)) (pss_cons (ps_set (i := 3) sc_law.nd rfl (.inl rfl) (pe_call G__law_box (hr.mono (by decide)) (by rfl) T.g__law_box T.F__law_box.kp T.b__law_box .nil pass0 (pa_cons (pv 1) (pa_cons (pv 2) pa_nil))))
    (pss_cons (ps_set (i := 4) sc_law.nd rfl (.inr rfl) (pe_call G__law_any (hr.mono (by decide)) (by rfl) T.g__law_any T.F__law_any.kp T.b__law_any .nil pass0 (pa_cons (pv 3) pa_nil)))
    (pss_cons (ps_set (i := 5) sc_law.nd rfl (.inl rfl) (pe_op op_add (pe_op op_add pe_int (pe_callB (cr_max rfl) (by rfl) T.m_max bt_max (pa_cons (pe_call G__law_inputs (hr.mono (by decide)) (by rfl) T.g__law_inputs T.F__law_inputs.kp T.b__law_inputs .nil pass0 (pa_cons (pv 4) pa_nil)) pa_nil))) (pe_call G__law_take (hr.mono (by decide)) (by rfl) T.g__law_take T.F__law_take.kp T.b__law_take .nil pass0 (pa_cons (pv 3) (pa_cons pe_int pa_nil)))))
    (pss_cons (ps_set (i := 6) sc_law.nd rfl (.inr rfl) (pe_call G__law_rows (hr.mono (by decide)) (by rfl) T.g__law_rows T.F__law_rows.kp T.b__law_rows .nil pass0 (pa_cons (pv 3) (pa_cons (pv 5) pa_nil))))
    (pss_cons (ps_set (i := 7) sc_law.nd rfl (.inl rfl) (pe_callB call_len_seq (by rfl) T.m_len bt_len (pa_cons (pe_ix ix_list (pv 6) pe_int (fun _ _ => rfl)) pa_nil)))
    (pss_cons (ps_set (i := 8) sc_law.nd rfl (.inl rfl) (pe_callTy call_tuple_of (by rfl) T.m_tuple bt_tuple (pa_cons (pe_lc (own := [("_law_t", 13)]) (g := gName 13) (tt := tYes) rfl sc_law.nd (pi_range1 (by rfl) T.m_range (pa_cons (pv 7) pa_nil)) (blkOk_by (N := N_law) (sc := defScope s_law) (by decide +kernel)) (fun _ _ _ _ _ => (pg_name (i := 13) sc_law.nd rfl (.inr rfl))) (fun _ _ _ _ _ => pts_nil) (fun _ _ _ _ _ => (pe_call G__law_bit (hr.mono (by decide)) (by rfl) T.g__law_bit T.F__law_bit.kp T.b__law_bit .nil pass0 (pa_cons (pv 4) (pa_cons (pe_lc (own := [("_law_row", 14)]) (g := gName 14) (tt := tYes) rfl sc_law.nd (listK (K := K) rfl (pv 6)) (blkOk_by (by rfl)) (fun _ _ _ _ _ => (pg_name (i := 14) sc_law.nd rfl (.inl rfl))) (fun _ _ _ _ _ => pts_nil) (fun _ _ _ _ _ => (pe_ix (ixtK (K := K) rfl) (pv 14) (pv 13) (fun _ _ => rfl)))) pa_nil))))) pa_nil)))
    (pss_cons (ps_set (i := 9) sc_law.nd rfl (.inl rfl) (pe_callTy call_list_of (by rfl) T.m_list bt_list (pa_cons (pv 6) pa_nil)))
    (pss_cons (ps_if (PW.pt (pw_or (pt_cmpR op_ne (pe_callB (cr_repr hg (u65g hr)) (by rfl) T.m_repr bt_repr (pa_cons (pe_call G_row_by (hr.mono (by decide)) (by rfl) T.g_row_by T.F_row_by.kp T.b_row_by .nil passL (pa_cons (pv 4) (pa_cons (pv 9) pa_nil))) pa_nil)) (pe_callB (cr_repr hg (u65g hr)) (by rfl) T.m_repr bt_repr (pa_cons (pv 8) pa_nil)) (nomark _)) (pw_or1 (pt_cmpR (op_neD hr.units) (pv 9) (pv 6) (nomark _))))) (pss_one (ps_ret pe_bl)) pss_nil)
    (pss_cons (ps_if (pt_cmpR op_gt (pv 5) pe_int (nomark _)) (pss_cons (ps_par (i := 10) (j := 11) (by rfl) sc_law.nd rfl rfl (by decide) rfl rfl (pa_cons (pe_call G__law_take (hr.mono (by decide)) (by rfl) T.g__law_take T.F__law_take.kp T.b__law_take .nil pass0 (pa_cons (pv 3) (pa_cons (pv 5) pa_nil))) (pa_cons (pe_and (pe_cmpR op_eq (pe_call G__law_take (hr.mono (by decide)) (by rfl) T.g__law_take T.F__law_take.kp T.b__law_take .nil pass0 (pa_cons (pv 3) (pa_cons pe_int pa_nil))) pe_int (nomark _)) (pe_one (pe_cmpR op_gt (pv 7) pe_int (nomark _)))) pa_nil)) (by rfl))
    (pss_cons (ps_asg (pe_ifExp (pt_val (pv 11)) (pe_slice sl_tup (pe_ix ix_list (pv 6) (pv 10) (fun _ _ => rfl)) (po_some pe_int) po_none) (pe_op op_catA (pe_ix ix_list (pv 6) (pv 10) (fun _ _ => rfl)) (pe_tup (pa_cons pe_int pa_nil)))) (pg_sub (pv 9) (pv 10) set_list))
    (pss_cons (ps_set (i := 12) sc_law.nd rfl (.inl rfl) (pe_callTy call_list_of (by rfl) T.m_list bt_list (pa_cons (pv 9) pa_nil)))
    (pss_one (ps_if (PW.pt (pw_or (pt_not (pt_val (pe_call G__law_refused (hr.mono (by decide)) (by rfl) T.g__law_refused T.F__law_refused.kp T.b__law_refused .nil pass0 (pa_cons (pv 4) (pa_cons (pv 9) pa_nil))))) (pw_or1 (pt_cmpR (op_neD hr.units) (pv 9) (pv 12) (nomark _))))) (pss_one (ps_ret pe_bl)) pss_nil))))) pss_nil)
    (pss_one (ps_if (pt_cmpR op_ne (pe_callB (cr_repr hg (u65g hr)) (by rfl) T.m_repr bt_repr (pa_cons (pe_call G_row_by (hr.mono (by decide)) (by rfl) T.g_row_by T.F_row_by.kp T.b_row_by .nil passL (pa_cons (pv 4) (pa_cons (pv 6) pa_nil))) pa_nil)) (pe_callB (cr_repr hg (u65g hr)) (by rfl) T.m_repr bt_repr (pa_cons (pv 8) pa_nil)) (nomark _)) (pss_one (ps_ret pe_bl)) pss_nil)))))))))))))
    (pss_one (ps_ret pe_bl)))), ?_⟩
    have tH : Tb5 T H := ⟨g1, g2, g3, g4, g5⟩
    clear g1 g2 g3 g4 g5
    have hsl : sizeLine = 16777216 := by decide
    refine ⟨.ref a, rfl, a, ns, 4, rfl, hS, hlen, by decide, by decide, fun H1 c cs s1 nc hc lc => ?_⟩
    have t1 := tH.sam (Sam.of s1)
    refine ⟨.ref c, rfl, c, _, rfl, .inl (SqL.mk hc), _, rfl, by rw [List.length_map]; omega, by rw [List.length_map]; omega, for_range (fun i σ H2 => ∃ y2 y3 y4 y5 y6 y7 y8 y9 y10 y11 y12, σ = [some (.ref a), some (.ref c), y2, y3, y4, y5, y6, y7, y8, y9, y10, y11, y12, none, none] ∧ Sam H1 H2) ⟨none, none, none, none, none, none, none, none, none, none, none, rfl, Sam.refl H1⟩ ?_ ?_⟩
    rotate_left
    · rintro σ H2 ⟨y2, y3, y4, y5, y6, y7, y8, y9, y10, y11, y12, rfl, s2⟩
      exact q _
    rintro i σ H2 hi ⟨y2, y3, y4, y5, y6, y7, y8, y9, y10, y11, y12, rfl, s2⟩
    have hi2 : i < 1000 := by
      rw [List.length_map] at hi
      omega
    refine ⟨.ref c, rfl, .int (0 + (i : Int)), rfl, c, cs, i, by rw [Int.zero_add]; rfl, SqL.mk (s2.lst hc), hi2, fun H3 b s3 nb hB => ?_⟩
    have nb1 : H1 b = none := s2.free nb
    have s13 := s2.trans (Sam.of s3)
    have t3 := t1.sam s13
    refine ⟨.ref b, rfl, b, 0, rfl, hB, by decide, fun G1 v f c1 B1 hf dp sz ins => ?_⟩
    refine ⟨v, rfl, f, v, rfl, hf, dp, by omega, fun G2 l g2 _ hl => ?_⟩
    have il := f.ins_len
    refine ⟨l, _, rfl, SqL.mk hl, by rw [List.length_map]; omega, fun m hm1 hm2 => ⟨_, _, rfl, rfl, ?_⟩⟩
    obtain ⟨m, hmm, rfl⟩ := List.mem_map.mp hm1
    have mi := ins m hmm
    have mx : ∀ j, j ∈ f.ins → j ≤ m := fun j hj => by
      have := hm2 _ (List.mem_map.mpr ⟨j, hj, rfl⟩)
      omega
    have B2 : Bx G2 b 200 := B1.same g2
    refine ⟨.ref b, rfl, b, 2, _, rfl, B2, by decide, by decide, by decide, fun G3 r3 c3 B3 l3 u3 => ⟨_, _, rfl, rfl, ?_⟩⟩
    obtain ⟨M, hM⟩ : ∃ M : Nat, 1 + (m : Int) + r3 = (M : Int) := ⟨(1 + (m : Int) + r3).toNat, by omega⟩
    try dsimp only
    rw [hM]
    have M8 : M ≤ 8 := by omega
    refine ⟨.ref b, rfl, _, rfl, b, _, M, rfl, B3, by decide, M8, fun G4 L N r c4 B4 nLb hL N1 N4 => ?_⟩
    have hfG : FmAt G4 f v := hf.but B1 ((same_but g2).trans (c3.trans c4))
    have hin : ∀ j, j ∈ f.ins → j < M := fun j hj => by
      have := mx j hj
      omega
    have M1 : 1 ≤ M := by omega
    have cH : But b H3 G4 := c1.trans ((same_but g2).trans (c3.trans c4))
    have tG := t3.bus hB (.of cH)
    have B4 : Bx G4 b 5000 := B4.mono (by omega)
    clear hf hl g2 B2 c1 B1 hm1 hm2 B3 c3 c4
    obtain ⟨ts, lt, hLl, hts⟩ := hL
    have t00 := hts 0 (ts[0]'(by omega)) (List.getElem?_eq_getElem (by omega))
    refine ⟨.ref L, rfl, L, _, 0, _, rfl, rfl, SqL.mk hLl, atI_nat (j := 0) (by rw [List.getElem?_map, List.getElem?_eq_getElem (show 0 < ts.length by omega)]; rfl), _, _, rfl, .inr (SqT.mk t00.1), ?_⟩
    rw [List.length_map, rwf_len]
    have bts : ∀ i, i < M → Bt N (r i) := fun i hi => (hts i (ts[i]'(by omega)) (List.getElem?_eq_getElem (by omega))).2
    -- what is due
    refine ⟨_, rfl, (N : Nat), rfl, by omega, by omega, fun D nD => ?_⟩
    refine lc_range (fun j G => Same G4 G ∧ G D = some (.lst (((List.range j).map (f.row r)).map V.int))) ⟨same_upd nD, upd_same⟩ (fun j G hj h => ?_) (fun G h => ?_)
    · obtain ⟨sG, hD⟩ := h
      rw [Int.toNat_natCast] at hj
      refine ⟨rfl, yes_ite ?_⟩
      refine ⟨v, rfl, .ref L, rfl, L, rfl, ⟨_, SqL.mk (sG _ _ hLl)⟩, fun D2 nD2 => ?_⟩
      refine lc_list (xs := ts.map V.ref) (fun k G' => Same G G' ∧ G' D2 = some (.lst ((List.range k).map fun i => V.int (r i j)))) ⟨same_upd nD2, upd_same⟩ (fun k G' _ h => SqL.mk (h.1 _ _ (sG _ _ hLl))) (fun k y G' hy h => ?_) (fun G' h => ?_)
      · obtain ⟨s4, hD2⟩ := h
        rw [List.getElem?_map] at hy
        obtain ⟨t, ht, rfl⟩ := Option.map_eq_some_iff.mp hy
        have hk := (List.getElem?_eq_some_iff.mp ht).1
        refine ⟨rfl, yes_ite ?_⟩
        refine ⟨.ref t, rfl, _, rfl, t, _, _, .int (r k j), rfl, rfl, SqT.mk ((sG.trans s4) _ _ (hts k t ht).1), ?_, ?_⟩
        · rw [Int.zero_add]
          exact atI_nat (by rw [List.getElem?_map, rwf_get _ hj]; rfl)
        refine ⟨_, hD2, by rw [List.length_map, List.length_range]; omega, same_newer s4 nD2, ?_⟩
        rw [upd_same, List.range_succ, List.map_append]
        rfl
      obtain ⟨s4, hD2⟩ := h
      rw [List.length_map, lt] at hD2
      refine ⟨f, v, D2, fun i => r i j, rfl, hfG.same (sG.trans s4), dp, ⟨_, hD2, fun i hi => by rw [List.getElem?_map, List.getElem?_range (hin i hi)]; rfl⟩, fun i hi => (bts i (hin i hi)).b j hj, fun G5 s5 => ?_⟩
      refine ⟨_, s5 _ _ (s4 _ _ hD), by rw [List.length_map, List.length_map, List.length_range]; omega, same_newer (sG.trans (s4.trans s5)) nD, ?_⟩
      rw [upd_same, List.range_succ, List.map_append, List.map_append]
      rfl
    obtain ⟨sG, hD⟩ := h
    rw [Int.toNat_natCast] at hD
    refine ⟨D, _, rfl, .inl ⟨SqL.mk hD, fun du ndu => ?_⟩⟩
    have s5 := sG.trans (same_upd ndu (o := .tup ((rwf N (f.row r)).map V.int)))
    have hdu : (upd G du (.tup ((rwf N (f.row r)).map V.int))) du = some (.tup ((rwf N (f.row r)).map V.int)) := upd_same
    have e0 : upd G du (.tup ((rwf N (f.row r)).map V.int)) = upd G du (.tup (((List.range N).map (f.row r)).map V.int)) := rfl
    rw [← e0]
    generalize upd G du (.tup ((rwf N (f.row r)).map V.int)) = X at s5 hdu ⊢
    clear e0 hD
    refine ⟨.ref L, rfl, L, _, rfl, .inl (SqL.mk (s5 _ _ hLl)), fun hd nhd => ?_⟩
    have s6 := same_upd nhd (o := .lst (ts.map V.ref))
    have hhd := upd_same (H := X) (a := hd) (o := .lst (ts.map V.ref))
    have nhL : hd ≠ L := fun e => by
      rw [e, s5 _ _ hLl] at nhd
      cases nhd
    have G4hd : G4 hd = none := s5.free nhd
    generalize upd X hd (.lst (ts.map V.ref)) = Y at s6 hhd ⊢
    have s7 := s5.trans s6
    have hLY := s7 _ _ hLl
    have htsY : ∀ (i : Nat) (t : Addr), ts[i]? = some t → Rt Y t N (r i) ∧ Bt N (r i) := fun i t e => ⟨(hts i t e).1.same s7, (hts i t e).2⟩
    have hduY : Rt Y du N (f.row r) := s6 _ _ hdu
    have BY := B4.same s7
    have hfY := hfG.same s7
    have tY := tG.sam (Sam.of s7)
    have cY : But b H3 Y := cH.trans (same_but s7)
    have nhb : hd ≠ b := fun e => by
      obtain ⟨_, _, _, hp, _⟩ := B4
      rw [e, hp] at G4hd
      cases G4hd
    have nhd3 : H3 hd = none := by
      cases z : H3 hd with
      | none => rfl
      | some o =>
        have := cH _ _ nhb z
        rw [G4hd] at this
        cases this
    have bt0 : ∀ j, j < N → f.row r j = 0 ∨ f.row r j = 1 := fun j hj => (row_bt fun i hi => bts i (hin i hi)).b j hj
    have sho := sho_row bt0 (show N ≤ 20000 by omega)
    clear hts hLl t00 sG s5 s6 hdu hfG tG B4 cH s7 nD
    refine ⟨v, rfl, .ref hd, rfl, f, v, hd, rfl, .inl ⟨M, N, r, hfY, by omega, by omega, ⟨ts, lt, hhd, htsY⟩, M1, M8, hin, by omega, tY, fun Z t z1 ht => ?_⟩⟩
    refine ⟨t, _, rfl, .tup (SqT.mk ht) (dp_ints _), sho, .ref du, rfl, du, _, rfl, .tup (SqT.mk (hduY.sam z1)) (dp_ints _), sho, rfl, _, rfl, iteNS rfl ?_⟩
    have hhZ := z1.lst hhd
    have hLZ := z1.lst hLY
    have htsZ : ∀ (i : Nat) (t : Addr), ts[i]? = some t → Rt Z t N (r i) ∧ Bt N (r i) := fun i t e => ⟨(htsY i t e).1.sam z1, (htsY i t e).2⟩
    have RL := RwL.bt lt hLZ htsZ
    have RH := RwL.bt lt hhZ htsZ
    refine ⟨.ref hd, rfl, .ref L, rfl, neRws RH RL ⟨_, rfl, iteF ?_⟩⟩
    have BZ := BY.sam z1
    have hfZ := hfY.sam z1
    have tZ := tY.sam z1
    have duZ := hduY.sam z1
    have cZ : Bus b H3 Z := (Bus.of cY).trans (.sam z1)
    -- one of another length
    refine nx_via (fun σ F => ∃ z10 z11 z12, σ = [some (.ref a), some (.ref c), some (.int (0 + (i : Int))), some (.ref b), some v, some (.int (M : Nat)), some (.ref L), some (.int (N : Nat)), some (.ref du), some (.ref hd), z10, z11, z12, none, none] ∧ FmAt F f v ∧ F L = some (.lst (ts.map V.ref)) ∧ (∀ (i : Nat) (t : Addr), ts[i]? = some t → Rt F t N (r i)) ∧ Rt F du N (f.row r) ∧ Bus b H3 F) (fun N' key => ?_) ?_
    · refine ⟨_, rfl, _, _, rfl, rfl, _, rfl, ite2 (fun e => ?_) (fun _ => key _ _ ⟨y10, y11, y12, rfl, hfZ, hLZ, fun i t e => (htsZ i t e).1, duZ, cZ⟩)⟩
      have M2 : 1 < M := by
        have : (1 : Int) < (M : Int) := of_decide_eq_true e
        omega
      refine seq_via (fun σ F => ∃ (k : Nat) (sh : Bool), σ = [some (.ref a), some (.ref c), some (.int (0 + (i : Int))), some (.ref b), some v, some (.int (M : Nat)), some (.ref L), some (.int (N : Nat)), some (.ref du), some (.ref hd), some (.int (k : Nat)), some (.bl sh), y12, none, none] ∧ k < M ∧ But b Z F) (fun N2 key2 => ?_) ?_
      · refine ⟨.ref b, rfl, _, rfl, b, (M : Int), _, rfl, BZ, by omega, by omega, by decide, fun F1 r1 c1 B1 l1 u1 => ?_⟩
        obtain ⟨k, rfl⟩ := nat_of l1
        refine ⟨.ref b, rfl, b, 2, _, rfl, B1, by decide, by decide, by decide, fun F2 r2 c2 B2 l2 u2 => ⟨rfl, _, rfl, ite2 (fun _ => ?_) (fun _ => ?_)⟩⟩
        · exact ⟨_, rfl, _, _, rfl, rfl, _, _, rfl, key2 _ _ ⟨k, _, rfl, by omega, c1.trans c2⟩⟩
        · exact ⟨_, _, rfl, key2 _ _ ⟨k, _, rfl, by omega, c1.trans c2⟩⟩
      rintro σ F ⟨k, sh, rfl, kM, cF⟩
      have hhF := cF _ _ nhb hhZ
      have hLF := cF _ _ nLb hLZ
      have htsF : ∀ (i : Nat) (t : Addr), ts[i]? = some t → Rt F t N (r i) := fun i t e => cF _ _ (BZ.ne_tup (htsZ i t e).1) (htsZ i t e).1
      have duF : Rt F du N (f.row r) := cF _ _ (BZ.ne_tup duZ) duZ
      have hfF : FmAt F f v := hfZ.but BZ cF
      have bF : Bus b H3 F := cZ.trans (.of cF)
      obtain ⟨tk, htk⟩ : ∃ tk, ts[k]? = some tk := ⟨_, List.getElem?_eq_getElem (by omega)⟩
      have rk := htsF k tk htk
      have ex : atI (ts.map V.ref) ((k : Nat) : Int) = some (.ref tk) := atI_nat (by rw [List.getElem?_map, htk]; rfl)
      refine seq_via (fun σ G => ∃ (W : Hp) (p : Addr) (ws : List Int), σ = [some (.ref a), some (.ref c), some (.int (0 + (i : Int))), some (.ref b), some v, some (.int (M : Nat)), some (.ref L), some (.int (N : Nat)), some (.ref du), some (.ref hd), some (.int (k : Nat)), some (.bl sh), y12, none, none] ∧ Same F W ∧ W p = some (.tup (ws.map V.int)) ∧ ws.length ≠ N ∧ G = upd W hd (.lst ((ts.set k p).map V.ref))) (fun N2 key2 => ?_) ?_
      · refine ⟨_, rfl, sh, rfl, ?_⟩
        cases sh with
        | true =>
          refine iteT ⟨.ref L, rfl, .int (k : Nat), rfl, L, _, _, .ref tk, rfl, rfl, SqL.mk hLF, ex, 1, rfl, tk, _, rfl, SqT.mk rk, not_whole1 (by rw [List.length_map, rwf_len]; exact N1), fun p np => ?_⟩
          rw [cut1]
          have sp := same_upd np (o := .tup (((rwf N (r k)).map V.int).drop 1))
          refine ⟨.ref hd, rfl, .int (k : Nat), rfl, hd, _, _, k, rfl, rfl, sp _ _ hhF, ixn (by rw [List.length_map]; omega), key2 _ _ ⟨_, p, (rwf N (r k)).drop 1, rfl, sp, by rw [upd_same, List.map_drop], by rw [List.length_drop, rwf_len]; omega, by rw [List.map_set]⟩⟩
        | false =>
          refine iteF ⟨.ref L, rfl, .int (k : Nat), rfl, L, _, _, .ref tk, rfl, rfl, SqL.mk hLF, ex, (show 1 ≤ sizeLine by decide), fun t1 nt1 => ?_⟩
          have s1' := same_upd nt1 (o := .tup [.int 1])
          refine ⟨tk, t1, _, _, rfl, rfl, SqT.mk (s1' _ _ rk), SqT.mk upd_same, by rw [List.length_map, rwf_len]; show N + 1 ≤ _; omega, fun z => absurd (congrArg List.length z) (by rw [List.length_map, rwf_len]; show ¬ N = 0; omega), fun _ z => (by cases z), fun _ _ p np => ?_⟩
          have sp := s1'.trans (same_upd np (o := .tup ((rwf N (r k)).map V.int ++ [.int 1])))
          refine ⟨.ref hd, rfl, .int (k : Nat), rfl, hd, _, _, k, rfl, rfl, sp _ _ hhF, ixn (by rw [List.length_map]; omega), key2 _ _ ⟨_, p, rwf N (r k) ++ [1], rfl, sp, by rw [upd_same, List.map_append]; rfl, by rw [List.length_append, rwf_len]; show N + 1 ≠ N; omega, by rw [List.map_set]⟩⟩
      rintro σ G ⟨W, p, ws, rfl, sW, hp, lw, rfl⟩
      have hhW := sW _ _ hhF
      have keep : ∀ t' xs, W t' = some (.tup xs) → (upd W hd (.lst ((ts.set k p).map V.ref))) t' = some (.tup xs) := fun t' xs e => by
        rw [upd_ne (ne_of e hhW (fun z => by cases z))]
        exact e
      have hLW : (upd W hd (.lst ((ts.set k p).map V.ref))) L = some (.lst (ts.map V.ref)) := by
        rw [upd_ne (Ne.symm nhL)]
        exact sW _ _ hLF
      have bW : Bus b H3 (upd W hd (.lst ((ts.set k p).map V.ref))) := bus_newer (bF.trans (.of (same_but sW))) nhd3
      have RLs : ts.map V.ref = ((List.range M).map fun i => (ts.getD i 0, rwf N (r i))).map fun q => V.ref q.1 := HO.lst.inj (Option.some.inj (hLZ.symm.trans RL.1))
      have RW : RwL (upd W hd (.lst ((ts.set k p).map V.ref))) hd (((List.range M).map fun i => (ts.getD i 0, rwf N (r i))).set k (p, ws)) := by
        refine ⟨by rw [upd_same, List.map_set, List.map_set, RLs], fun q' hq => ?_⟩
        rcases List.mem_or_eq_of_mem_set hq with z | rfl
        · obtain ⟨j, hj, rfl⟩ := List.mem_map.mp z
          have hj := List.mem_range.mp hj
          have e : ts[j]? = some (ts.getD j 0) := by
            rw [List.getD_eq_getElem?_getD, List.getElem?_eq_getElem (show j < ts.length by omega)]
            rfl
          exact keep _ _ (sW _ _ (htsF j _ e))
        · exact keep _ _ hp
      refine ⟨.ref hd, rfl, hd, _, rfl, .inl (SqL.mk upd_same), fun od nod => ?_⟩
      have sO := same_upd nod (o := .lst ((ts.set k p).map V.ref))
      have hod := upd_same (H := upd W hd (.lst ((ts.set k p).map V.ref))) (a := od) (o := .lst ((ts.set k p).map V.ref))
      have keep2 : ∀ t' xs, F t' = some (.tup xs) → upd (upd W hd (.lst ((ts.set k p).map V.ref))) od (.lst ((ts.set k p).map V.ref)) t' = some (.tup xs) := fun t' xs e => sO _ _ (keep _ _ (sW _ _ e))
      have R1 : RwL (upd (upd W hd (.lst ((ts.set k p).map V.ref))) od (.lst ((ts.set k p).map V.ref))) hd _ := ⟨sO _ _ RW.1, fun q' hq => sO _ _ (RW.2 q' hq)⟩
      have R2 : RwL (upd (upd W hd (.lst ((ts.set k p).map V.ref))) od (.lst ((ts.set k p).map V.ref))) od (((List.range M).map fun i => (ts.getD i 0, rwf N (r i))).set k (p, ws)) := ⟨by rw [hod, List.map_set, List.map_set, RLs], R1.2⟩
      have hLO := sO _ _ hLW
      have bO : Bus b H3 (upd (upd W hd (.lst ((ts.set k p).map V.ref))) od (.lst ((ts.set k p).map V.ref))) := bW.trans (.of (same_but sO))
      generalize upd (upd W hd (.lst ((ts.set k p).map V.ref))) od (.lst ((ts.set k p).map V.ref)) = O at keep2 R1 R2 hLO bO ⊢
      have gl : ∀ j, j < M → ((List.range M).map fun i => (ts.getD i 0, rwf N (r i)))[j]? = some (ts.getD j 0, rwf N (r j)) := fun j hj => by
        rw [List.getElem?_map, List.getElem?_range hj]
        rfl
      have m1 : (p, ws) ∈ ((List.range M).map fun i => (ts.getD i 0, rwf N (r i))).set k (p, ws) := by
        refine List.mem_of_getElem? (i := k) ?_
        rw [List.getElem?_set, if_pos rfl, if_pos (by rw [List.length_map, List.length_range]; exact kM)]
      obtain ⟨j, hj, jk⟩ : ∃ j, j < M ∧ k ≠ j := by
        by_cases z : k = 0
        · exact ⟨1, M2, by omega⟩
        · exact ⟨0, by omega, z⟩
      have m2 : (ts.getD j 0, rwf N (r j)) ∈ ((List.range M).map fun i => (ts.getD i 0, rwf N (r i))).set k (p, ws) := by
        refine List.mem_of_getElem? (i := j) ?_
        rw [List.getElem?_set, if_neg jk, gl j hj]
      refine ⟨v, rfl, .ref hd, rfl, v, hd, _, rfl, R1, by rw [List.length_set, List.length_map, List.length_range]; exact M8, ⟨_, _, m1, m2, by show ws.length ≠ (rwf N (r j)).length; rw [rwf_len]; exact lw⟩, fun G3 s3 => ⟨_, rfl, iteF ?_⟩⟩
      refine ⟨.ref hd, rfl, .ref od, rfl, neRws ⟨s3 _ _ R1.1, fun q' hq => s3 _ _ (R1.2 q' hq)⟩ ⟨s3 _ _ R2.1, fun q' hq => s3 _ _ (R2.2 q' hq)⟩ ⟨_, rfl, iteF ?_⟩⟩
      have k3 : ∀ t' xs, F t' = some (.tup xs) → G3 t' = some (.tup xs) := fun t' xs e => s3 _ _ (keep2 _ _ e)
      exact key _ _ ⟨_, _, _, rfl, hfF.keep k3, s3 _ _ hLO, fun i t e => k3 _ _ (htsF i t e), k3 _ _ duF, bO.trans (.of (same_but s3))⟩
    rintro σ F ⟨z10, z11, z12, rfl, hfF, hLF, htsF, duF, cF⟩
    refine ⟨v, rfl, .ref L, rfl, f, v, L, rfl, .inl ⟨M, N, r, hfF, by omega, by omega, ⟨ts, lt, hLF, fun i t e => ⟨htsF i t e, (htsZ i t e).2⟩⟩, M1, M8, hin, by omega, t3.bus hB cF, fun Z2 t z2 ht => ?_⟩⟩
    refine ⟨t, _, rfl, .tup (SqT.mk ht) (dp_ints _), sho, .ref du, rfl, du, _, rfl, .tup (SqT.mk (duF.sam z2)) (dp_ints _), sho, rfl, _, rfl, iteNS rfl ?_⟩
    exact ⟨_, _, _, _, _, _, _, _, _, _, _, rfl, bus_same nb1 s13 (cF.trans (.sam z2))⟩
end
def d_refuse_unlike : He.DefD := ⟨("refuse_unlike", none), "refuse_unlike", "refuse_unlike", defArgs s_refuse_unlike, defBody s_refuse_unlike, defScope s_refuse_unlike, [], []⟩
def d_turned : He.DefD := ⟨("turned", none), "turned", "turned", defArgs s_turned, defBody s_turned, defScope s_turned, [], []⟩
def d_both : He.DefD := ⟨("both", none), "both", "both", defArgs s_both, defBody s_both, defScope s_both, [], []⟩
def d_either : He.DefD := ⟨("either", none), "either", "either", defArgs s_either, defBody s_either, defScope s_either, [], []⟩
def d_oneof : He.DefD := ⟨("oneof", none), "oneof", "oneof", defArgs s_oneof, defBody s_oneof, defScope s_oneof, [], []⟩
def d_pick : He.DefD := ⟨("pick", none), "pick", "pick", defArgs s_pick, defBody s_pick, defScope s_pick, [], []⟩
def d_sides_of : He.DefD := ⟨("sides_of", none), "sides_of", "sides_of", defArgs s_sides_of, defBody s_sides_of, defScope s_sides_of, [], []⟩
def d_parts_of : He.DefD := ⟨("parts_of", none), "parts_of", "parts_of", defArgs s_parts_of, defBody s_parts_of, defScope s_parts_of, [], []⟩
def d_inputs_of : He.DefD := ⟨("inputs_of", none), "inputs_of", "inputs_of", defArgs s_inputs_of, defBody s_inputs_of, defScope s_inputs_of, [], []⟩
def d_thing_at : He.DefD := ⟨("thing_at", none), "thing_at", "thing_at", defArgs s_thing_at, defBody s_thing_at, defScope s_thing_at, [], []⟩
def d_row_within : He.DefD := ⟨("row_within", none), "row_within", "row_within", defArgs s_row_within, defBody s_row_within, defScope s_row_within, [], []⟩
def d_row_by : He.DefD := ⟨("row_by", none), "row_by", "row_by", defArgs s_row_by, defBody s_row_by, defScope s_row_by, [], []⟩
def d__law_box : He.DefD := ⟨("_law_box", none), "_law_box", "_law_box", defArgs s__law_box, defBody s__law_box, defScope s__law_box, [], []⟩
def d__law_take : He.DefD := ⟨("_law_take", none), "_law_take", "_law_take", defArgs s__law_take, defBody s__law_take, defScope s__law_take, [], []⟩
def d__law_folded : He.DefD := ⟨("_law_folded", none), "_law_folded", "_law_folded", defArgs s__law_folded, defBody s__law_folded, defScope s__law_folded, [], []⟩
def d__law_formula : He.DefD := ⟨("_law_formula", none), "_law_formula", "_law_formula", defArgs s__law_formula, defBody s__law_formula, defScope s__law_formula, [], []⟩
def d__law_any : He.DefD := ⟨("_law_any", none), "_law_any", "_law_any", defArgs s__law_any, defBody s__law_any, defScope s__law_any, [], []⟩
def d__law_inputs : He.DefD := ⟨("_law_inputs", none), "_law_inputs", "_law_inputs", defArgs s__law_inputs, defBody s__law_inputs, defScope s__law_inputs, [], []⟩
def d__law_bit : He.DefD := ⟨("_law_bit", none), "_law_bit", "_law_bit", defArgs s__law_bit, defBody s__law_bit, defScope s__law_bit, [], []⟩
def d__law_rows : He.DefD := ⟨("_law_rows", none), "_law_rows", "_law_rows", defArgs s__law_rows, defBody s__law_rows, defScope s__law_rows, [], []⟩
def d__law_refused : He.DefD := ⟨("_law_refused", none), "_law_refused", "_law_refused", defArgs s__law_refused, defBody s__law_refused, defScope s__law_refused, [], []⟩
def d_law : He.DefD := ⟨("law", none), "law", "law", defArgs s_law, defBody s_law, defScope s_law, [], []⟩
def hfn : List He.DefD := [d_refuse_unlike, d_turned, d_both, d_either, d_oneof, d_pick, d_sides_of, d_parts_of, d_inputs_of, d_thing_at, d_row_within, d_row_by, d__law_box, d__law_take, d__law_folded, d__law_formula, d__law_any, d__law_inputs, d__law_bit, d__law_rows, d__law_refused, d_law]
def hfa : List He.Fa := [.glo "refuse_unlike", .glo "turned", .glo "both", .glo "either", .glo "oneof", .glo "pick", .glo "sides_of", .glo "parts_of", .glo "inputs_of", .glo "thing_at", .glo "row_within", .glo "row_by", .glo "_law_box", .glo "_law_take", .glo "_law_folded", .glo "_law_formula", .glo "_law_any", .glo "_law_inputs", .glo "_law_bit", .glo "_law_rows", .glo "_law_refused", .glo "law", .free "ValueError", .free "abs", .free "divmod", .free "enumerate", .free "int", .free "isinstance", .free "len", .free "list", .free "max", .free "range", .free "repr", .free "sorted", .free "sum", .free "tuple", .free "zip", .glo "OnesError", .glo "Unlike", .glo "NoSuch", .glo "NoOne", .glo "NoRound", .glo "BadText", .glo "BadSheet", .exc "Unlike", .exm "Unlike" "OnesError" true]
def htf : List He.Defn := [("turned", none), ("both", none), ("either", none), ("oneof", none), ("pick", none)]
abbrev Hex (K : PySem.W.Frag) : Prop := (PySem.W.findIn K (.ref (He.ga K "Unlike")) "__getattribute__" = some (some (.builtin "BaseException.__getattribute__"))) ∧ (PySem.W.findIn K (.ref (He.ga K "Unlike")) "__getattr__" = some none) ∧ (PySem.W.subIn K (.ref (He.ga K "Unlike")) (.type "BaseException") = some true) ∧ (PySem.W.hasDictIn K (He.ga K "Unlike") = true) ∧ (PySem.W.findIn K (.ref (He.ga K "Unlike")) "__class__" = some (some (.builtin "object.__class__"))) ∧ (PySem.W.specialIn K (.builtin "object.__class__") "__get__" = some (some (.builtin "getset_descriptor.__get__"))) ∧ (PySem.W.takesIn K (.builtin "object.__class__") = some true) ∧ (PySem.W.mroIn K (He.ga K "Unlike") (.type "object") = some true) ∧ (PySem.W.kitOne K (.ref (He.ga K "Unlike")) (.ref (He.ga K "OnesError")) = some true) ∧ (PySem.W.kitOne K (.ref (He.ga K "Unlike")) (.ref (He.ga K "Unlike")) = some true) ∧ (PySem.W.kitOne K (.ref (He.ga K "Unlike")) (.ref (He.ga K "NoSuch")) = some false) ∧ (PySem.W.kitOne K (.ref (He.ga K "Unlike")) (.ref (He.ga K "NoOne")) = some false) ∧ (PySem.W.kitOne K (.ref (He.ga K "Unlike")) (.ref (He.ga K "NoRound")) = some false) ∧ (PySem.W.kitOne K (.ref (He.ga K "Unlike")) (.ref (He.ga K "BadText")) = some false) ∧ (PySem.W.kitOne K (.ref (He.ga K "Unlike")) (.ref (He.ga K "BadSheet")) = some false) ∧ (PySem.W.kitOne K (.ref (He.ga K "Unlike")) (.type "ValueError") = some true)
instance (K : PySem.W.Frag) : Decidable (Hex K) := inferInstance
def hex : PySem.W.Frag → Bool := fun K => decide (Hex K)
abbrev R : PySem.W.OpenRow := PySem.W.OpenLaw.row PySem.Challenge.rw_shareones_k35_rows_by_formulas
abbrev hk : PySem.W.Hook := He.hookX 4 hfa hfn [] htf hex
def ob (s : PySem.W.SharedT) : He.AlX := He.obsX 4 hfa hfn [] htf hex (HandSHeadRun.getT s)
theorem ob_eq (s : PySem.W.SharedT) : ob s = hk.obs s.abs := He.obsX_eq (HandSHeadRun.getT_eq s)
def loose : List Str := "refuse_unlike" :: "turned" :: "both" :: "either" :: "oneof" :: "pick" :: "sides_of" :: "parts_of" :: "inputs_of" :: "thing_at" :: "row_within" :: "row_by" :: "_law_box" :: "_law_take" :: "_law_folded" :: "_law_formula" :: "_law_any" :: "_law_inputs" :: "_law_bit" :: "_law_rows" :: "_law_refused" :: "OnesError" :: "Unlike" :: "NoSuch" :: "NoOne" :: "NoRound" :: "BadText" :: "BadSheet" :: []
theorem run (w : World) : HandSHeadRun.RunEq R (PySem.W.view R.prog [32]) hk ob 6000 loose w := by
  intro os
  kernel_rfl
theorem codeAt {K : PySem.W.Frag} {p : He.Defn} : CodeAt K (He.fAd K p) (He.cT K p).1 := fun oc od fd osl lk b e => (He.codeOf_eq lk e).symm
theorem facts {l : PySem.W.OpenLaw} {w : World} {K : PySem.W.Frag} {h : Heap} {mg : Str → Option Value} {f : Addr} (X : K.In h) (G : h.Ns mainGlobals mg) (hfa_ : mg ("law" : Str) = some (.ref f)) (cc : He.SaysX hfa hfn [] htf hex w h K) :
    ∃ (fd : FuncData) (cs : List (Addr × Addr)) (sp : Sp), (∀ q, q ∈ cs → TbAt K h q) ∧ (∀ (s : Shared) (u : Value), BindsTo s fd ⟨[u], []⟩ [("_law_script", u)]) ∧ (∀ (H : Hp) (a : Addr) (ns : List Int), ns.length ≤ 63 → (∀ q, q ∈ cs → H q.2 = some (.tbl #[])) → SqL K H a (ns.map V.int) → sp [.ref a] H (fun v _ => v = .bl true) fun _ _ _ => False) ∧ ∀ base : Heap, K.In base → base.Ns mainGlobals mg → (∀ q, q ∈ cs → GxR.TabB base mg q.1 q.2) → GOk l.prog w K mg base CX0 16 f fd ["_law_script"] sp := by
  have c : He.SaysD hfa hfn K := congrArg (fun z : He.AlT => z.1) cc.t
  obtain ⟨fd_refuse_unlike, F_refuse_unlike⟩ := c.def_ 0 (d := d_refuse_unlike) rfl
  obtain ⟨fd_turned, F_turned⟩ := c.def_ 1 (d := d_turned) rfl
  obtain ⟨fd_both, F_both⟩ := c.def_ 2 (d := d_both) rfl
  obtain ⟨fd_either, F_either⟩ := c.def_ 3 (d := d_either) rfl
  obtain ⟨fd_oneof, F_oneof⟩ := c.def_ 4 (d := d_oneof) rfl
  obtain ⟨fd_pick, F_pick⟩ := c.def_ 5 (d := d_pick) rfl
  obtain ⟨fd_sides_of, F_sides_of⟩ := c.def_ 6 (d := d_sides_of) rfl
  obtain ⟨fd_parts_of, F_parts_of⟩ := c.def_ 7 (d := d_parts_of) rfl
  obtain ⟨fd_inputs_of, F_inputs_of⟩ := c.def_ 8 (d := d_inputs_of) rfl
  obtain ⟨fd_thing_at, F_thing_at⟩ := c.def_ 9 (d := d_thing_at) rfl
  obtain ⟨fd_row_within, F_row_within⟩ := c.def_ 10 (d := d_row_within) rfl
  obtain ⟨fd_row_by, F_row_by⟩ := c.def_ 11 (d := d_row_by) rfl
  obtain ⟨fd__law_box, F__law_box⟩ := c.def_ 12 (d := d__law_box) rfl
  obtain ⟨fd__law_take, F__law_take⟩ := c.def_ 13 (d := d__law_take) rfl
  obtain ⟨fd__law_folded, F__law_folded⟩ := c.def_ 14 (d := d__law_folded) rfl
  obtain ⟨fd__law_formula, F__law_formula⟩ := c.def_ 15 (d := d__law_formula) rfl
  obtain ⟨fd__law_any, F__law_any⟩ := c.def_ 16 (d := d__law_any) rfl
  obtain ⟨fd__law_inputs, F__law_inputs⟩ := c.def_ 17 (d := d__law_inputs) rfl
  obtain ⟨fd__law_bit, F__law_bit⟩ := c.def_ 18 (d := d__law_bit) rfl
  obtain ⟨fd__law_rows, F__law_rows⟩ := c.def_ 19 (d := d__law_rows) rfl
  obtain ⟨fd__law_refused, F__law_refused⟩ := c.def_ 20 (d := d__law_refused) rfl
  obtain ⟨fd_law, F_law⟩ := c.def_ 21 (d := d_law) rfl
  have e := hfa_.symm.trans (He.glo_ok X G (c.fact 21 (f := .glo "law") rfl))
  cases e
  have b := FunD.bindsA (ps := ["_law_script"]) F_law fun _ _ _ _ _ _ us hl => match us, hl with | [_], _ => rfl
  have hm : Hex K := of_decide_eq_true cc.more
  obtain ⟨h0, h1, h2, h3, h4, h5, h6, h7, h8, h9, h10, h11, h12, h13, h14, h15⟩ := hm
  let T : Defs K mg := ⟨_, fd_refuse_unlike, F_refuse_unlike, (He.glo_ok X G (c.fact 0 (f := .glo "refuse_unlike") rfl)), (FunD.bindsN F_refuse_unlike fun _ _ _ _ _ _ us hl => match us, hl with | [_], _ => rfl), _, fd_turned, F_turned, (He.glo_ok X G (c.fact 1 (f := .glo "turned") rfl)), (FunD.bindsN F_turned fun _ _ _ _ _ _ us hl => match us, hl with | [_], _ => rfl), _, fd_both, F_both, (He.glo_ok X G (c.fact 2 (f := .glo "both") rfl)), (FunD.bindsN F_both fun _ _ _ _ _ _ us hl => match us, hl with | [_, _], _ => rfl), _, fd_either, F_either, (He.glo_ok X G (c.fact 3 (f := .glo "either") rfl)), (FunD.bindsN F_either fun _ _ _ _ _ _ us hl => match us, hl with | [_, _], _ => rfl), _, fd_oneof, F_oneof, (He.glo_ok X G (c.fact 4 (f := .glo "oneof") rfl)), (FunD.bindsN F_oneof fun _ _ _ _ _ _ us hl => match us, hl with | [_, _], _ => rfl), _, fd_pick, F_pick, (He.glo_ok X G (c.fact 5 (f := .glo "pick") rfl)), (FunD.bindsN F_pick fun _ _ _ _ _ _ us hl => match us, hl with | [_, _, _], _ => rfl), _, fd_sides_of, F_sides_of, (He.glo_ok X G (c.fact 6 (f := .glo "sides_of") rfl)), (FunD.bindsN F_sides_of fun _ _ _ _ _ _ us hl => match us, hl with | [_], _ => rfl), _, fd_parts_of, F_parts_of, (He.glo_ok X G (c.fact 7 (f := .glo "parts_of") rfl)), (FunD.bindsN F_parts_of fun _ _ _ _ _ _ us hl => match us, hl with | [_], _ => rfl), _, fd_inputs_of, F_inputs_of, (He.glo_ok X G (c.fact 8 (f := .glo "inputs_of") rfl)), (FunD.bindsN F_inputs_of fun _ _ _ _ _ _ us hl => match us, hl with | [_], _ => rfl), _, fd_thing_at, F_thing_at, (He.glo_ok X G (c.fact 9 (f := .glo "thing_at") rfl)), (FunD.bindsN F_thing_at fun _ _ _ _ _ _ us hl => match us, hl with | [_, _, _], _ => rfl), _, fd_row_within, F_row_within, (He.glo_ok X G (c.fact 10 (f := .glo "row_within") rfl)), (FunD.bindsN F_row_within fun _ _ _ _ _ _ us hl => match us, hl with | [_, _], _ => rfl), _, fd_row_by, F_row_by, (He.glo_ok X G (c.fact 11 (f := .glo "row_by") rfl)), (FunD.bindsN F_row_by fun _ _ _ _ _ _ us hl => match us, hl with | [_, _], _ => rfl), _, fd__law_box, F__law_box, (He.glo_ok X G (c.fact 12 (f := .glo "_law_box") rfl)), (FunD.bindsN F__law_box fun _ _ _ _ _ _ us hl => match us, hl with | [_, _], _ => rfl), _, fd__law_take, F__law_take, (He.glo_ok X G (c.fact 13 (f := .glo "_law_take") rfl)), (FunD.bindsN F__law_take fun _ _ _ _ _ _ us hl => match us, hl with | [_, _], _ => rfl), _, fd__law_folded, F__law_folded, (He.glo_ok X G (c.fact 14 (f := .glo "_law_folded") rfl)), (FunD.bindsN F__law_folded fun _ _ _ _ _ _ us hl => match us, hl with | [_, _], _ => rfl), _, fd__law_formula, F__law_formula, (He.glo_ok X G (c.fact 15 (f := .glo "_law_formula") rfl)), (FunD.bindsN F__law_formula fun _ _ _ _ _ _ us hl => match us, hl with | [_, _, _, _], _ => rfl), _, fd__law_any, F__law_any, (He.glo_ok X G (c.fact 16 (f := .glo "_law_any") rfl)), (FunD.bindsN F__law_any fun _ _ _ _ _ _ us hl => match us, hl with | [_], _ => rfl), _, fd__law_inputs, F__law_inputs, (He.glo_ok X G (c.fact 17 (f := .glo "_law_inputs") rfl)), (FunD.bindsN F__law_inputs fun _ _ _ _ _ _ us hl => match us, hl with | [_], _ => rfl), _, fd__law_bit, F__law_bit, (He.glo_ok X G (c.fact 18 (f := .glo "_law_bit") rfl)), (FunD.bindsN F__law_bit fun _ _ _ _ _ _ us hl => match us, hl with | [_, _], _ => rfl), _, fd__law_rows, F__law_rows, (He.glo_ok X G (c.fact 19 (f := .glo "_law_rows") rfl)), (FunD.bindsN F__law_rows fun _ _ _ _ _ _ us hl => match us, hl with | [_, _], _ => rfl), _, fd__law_refused, F__law_refused, (He.glo_ok X G (c.fact 20 (f := .glo "_law_refused") rfl)), (FunD.bindsN F__law_refused fun _ _ _ _ _ _ us hl => match us, hl with | [_, _], _ => rfl), _, fd_law, F_law, (He.glo_ok X G (c.fact 21 (f := .glo "law") rfl)), (FunD.bindsN F_law fun _ _ _ _ _ _ us hl => match us, hl with | [_], _ => rfl), (He.cT K ("turned", none)).1, (He.cT K ("turned", none)).2, codeAt, (He.cT K ("both", none)).1, (He.cT K ("both", none)).2, codeAt, (He.cT K ("either", none)).1, (He.cT K ("either", none)).2, codeAt, (He.cT K ("oneof", none)).1, (He.cT K ("oneof", none)).2, codeAt, (He.cT K ("pick", none)).1, (He.cT K ("pick", none)).2, codeAt, _, (He.glo_ok X G (c.fact 37 (f := .glo "OnesError") rfl)), _, (He.glo_ok X G (c.fact 38 (f := .glo "Unlike") rfl)), _, (He.glo_ok X G (c.fact 39 (f := .glo "NoSuch") rfl)), _, (He.glo_ok X G (c.fact 40 (f := .glo "NoOne") rfl)), _, (He.glo_ok X G (c.fact 41 (f := .glo "NoRound") rfl)), _, (He.glo_ok X G (c.fact 42 (f := .glo "BadText") rfl)), _, (He.glo_ok X G (c.fact 43 (f := .glo "BadSheet") rfl)), (He.exc_ok (c.fact 44 (f := .exc "Unlike") rfl)).1, (He.exc_ok (c.fact 44 (f := .exc "Unlike") rfl)).2.1, (He.exc_ok (c.fact 44 (f := .exc "Unlike") rfl)).2.2.1, (He.exc_ok (c.fact 44 (f := .exc "Unlike") rfl)).2.2.2, ⟨h0, h1, h2, h3, h4, h5, h6, h7⟩, (He.exm_ok (c.fact 45 (f := .exm "Unlike" "OnesError" true) rfl)), h8, h9, h10, h11, h12, h13, h14, h15, (He.free_ok X G (c.fact 22 (f := .free "ValueError") rfl)), (He.free_ok X G (c.fact 23 (f := .free "abs") rfl)), (He.free_ok X G (c.fact 24 (f := .free "divmod") rfl)), (He.free_ok X G (c.fact 25 (f := .free "enumerate") rfl)), (He.free_ok X G (c.fact 26 (f := .free "int") rfl)), (He.free_ok X G (c.fact 27 (f := .free "isinstance") rfl)), (He.free_ok X G (c.fact 28 (f := .free "len") rfl)), (He.free_ok X G (c.fact 29 (f := .free "list") rfl)), (He.free_ok X G (c.fact 30 (f := .free "max") rfl)), (He.free_ok X G (c.fact 31 (f := .free "range") rfl)), (He.free_ok X G (c.fact 32 (f := .free "repr") rfl)), (He.free_ok X G (c.fact 33 (f := .free "sorted") rfl)), (He.free_ok X G (c.fact 34 (f := .free "sum") rfl)), (He.free_ok X G (c.fact 35 (f := .free "tuple") rfl)), (He.free_ok X G (c.fact 36 (f := .free "zip") rfl))⟩
  refine ⟨fd_law, htf.map (He.cT K), sp_law T, fun p hp => ?_, fun s v => b s [v] rfl, fun H a ns hl hH hS => ⟨a, ns, rfl, hS, hl, ?_, fun _ => rfl⟩, fun base _ _ TB => ok_law T ?_⟩
  · obtain ⟨q, hq, rfl⟩ := List.mem_map.mp hp
    exact ⟨cc.empty q hq, cc.out q hq, PySem.W.codeHd_of_K X (cc.hd q hq)⟩
  · exact ⟨⟨#[], hH _ (List.mem_map.mpr ⟨_, List.mem_cons_self, rfl⟩), trip0⟩, ⟨#[], hH _ (List.mem_map.mpr ⟨_, (List.mem_cons_of_mem _ List.mem_cons_self), rfl⟩), trip0⟩, ⟨#[], hH _ (List.mem_map.mpr ⟨_, (List.mem_cons_of_mem _ (List.mem_cons_of_mem _ List.mem_cons_self)), rfl⟩), trip0⟩, ⟨#[], hH _ (List.mem_map.mpr ⟨_, (List.mem_cons_of_mem _ (List.mem_cons_of_mem _ (List.mem_cons_of_mem _ List.mem_cons_self))), rfl⟩), trip0⟩, ⟨#[], hH _ (List.mem_map.mpr ⟨_, (List.mem_cons_of_mem _ (List.mem_cons_of_mem _ (List.mem_cons_of_mem _ (List.mem_cons_of_mem _ List.mem_cons_self)))), rfl⟩), trip0⟩, trivial⟩
  · exact ⟨⟨(TB _ (List.mem_map.mpr ⟨_, List.mem_cons_self, rfl⟩)).code, (TB _ (List.mem_map.mpr ⟨_, List.mem_cons_self, rfl⟩)).bm, (TB _ (List.mem_map.mpr ⟨_, List.mem_cons_self, rfl⟩)).gP⟩, ⟨(TB _ (List.mem_map.mpr ⟨_, (List.mem_cons_of_mem _ List.mem_cons_self), rfl⟩)).code, (TB _ (List.mem_map.mpr ⟨_, (List.mem_cons_of_mem _ List.mem_cons_self), rfl⟩)).bm, (TB _ (List.mem_map.mpr ⟨_, (List.mem_cons_of_mem _ List.mem_cons_self), rfl⟩)).gP⟩, ⟨(TB _ (List.mem_map.mpr ⟨_, (List.mem_cons_of_mem _ (List.mem_cons_of_mem _ List.mem_cons_self)), rfl⟩)).code, (TB _ (List.mem_map.mpr ⟨_, (List.mem_cons_of_mem _ (List.mem_cons_of_mem _ List.mem_cons_self)), rfl⟩)).bm, (TB _ (List.mem_map.mpr ⟨_, (List.mem_cons_of_mem _ (List.mem_cons_of_mem _ List.mem_cons_self)), rfl⟩)).gP⟩, ⟨(TB _ (List.mem_map.mpr ⟨_, (List.mem_cons_of_mem _ (List.mem_cons_of_mem _ (List.mem_cons_of_mem _ List.mem_cons_self))), rfl⟩)).code, (TB _ (List.mem_map.mpr ⟨_, (List.mem_cons_of_mem _ (List.mem_cons_of_mem _ (List.mem_cons_of_mem _ List.mem_cons_self))), rfl⟩)).bm, (TB _ (List.mem_map.mpr ⟨_, (List.mem_cons_of_mem _ (List.mem_cons_of_mem _ (List.mem_cons_of_mem _ List.mem_cons_self))), rfl⟩)).gP⟩, ⟨(TB _ (List.mem_map.mpr ⟨_, (List.mem_cons_of_mem _ (List.mem_cons_of_mem _ (List.mem_cons_of_mem _ (List.mem_cons_of_mem _ List.mem_cons_self)))), rfl⟩)).code, (TB _ (List.mem_map.mpr ⟨_, (List.mem_cons_of_mem _ (List.mem_cons_of_mem _ (List.mem_cons_of_mem _ (List.mem_cons_of_mem _ List.mem_cons_self)))), rfl⟩)).bm, (TB _ (List.mem_map.mpr ⟨_, (List.mem_cons_of_mem _ (List.mem_cons_of_mem _ (List.mem_cons_of_mem _ (List.mem_cons_of_mem _ List.mem_cons_self)))), rfl⟩)).gP⟩⟩
end Fq
open PySem PySem.W PySem.Calls PyProof.Rows
set_option maxHeartbeats 0 in
theorem PySem.Challenge.cw_shareones_k35_rows_by_formulas_holds : PySem.Challenge.rw_shareones_k35_rows_by_formulas.Holds := by
  w_on; o_law
  refine HandSHeadRun.head_any (r := OpenLaw.row PySem.Challenge.rw_shareones_k35_rows_by_formulas) (q := view (OpenLaw.row PySem.Challenge.rw_shareones_k35_rows_by_formulas).prog [32]) (H := Fq.hk) (ob := Fq.ob) (M := 6000) (loose := Fq.loose) (d := HandSHeadRun.topDef (OpenLaw.row PySem.Challenge.rw_shareones_k35_rows_by_formulas).prog 32) (kwd := []) Fq.ob_eq
    (by kernel_rfl) (fun s => by kernel_rfl) Fq.run (by kernel_rfl) (by kernel_rfl) (by kernel_rfl) (by rfl) (by first | assumption | decide +kernel) (by decide +kernel) ⟨rfl, rfl, rfl, rfl, rfl, by decide +kernel⟩ ?hw ?hc
  case hw => w_witness2
  case hc =>
    refine Fq.walk_ofGT (l := PySem.Challenge.rw_shareones_k35_rows_by_formulas) (n := 63) (k := 16) (x := "_law_script") rfl (by decide) (by kernel_rfl) ⟨rfl, by decide, by decide⟩ ?F
    intro w mg fa h Y G hmg0
    obtain ⟨K, KX, c⟩ := Y
    have hmg : mg ("law" : PySem.Str) = some (.ref fa) := by
      have e : (HandSHeadRun.topDef (OpenLaw.row PySem.Challenge.rw_shareones_k35_rows_by_formulas).prog 32).name = ("law" : PySem.Str) := by kernel_rfl
      rw [← e]
      exact hmg0
    obtain ⟨fd, cs, sp, a1, a2, a3, a4⟩ := Fq.facts (l := PySem.Challenge.rw_shareones_k35_rows_by_formulas) KX G hmg c
    exact ⟨K, fd, cs, sp, KX, a1, a2, a3, a4⟩
