import PyProof.Rows.All
import Wide.All
import OpenK.AllK
import Wide.FinOn
import KE.KStateDown
import Lean
import HandS.ForMost
import HandS.Wide
import HandS.WideBits
import HandS.IsInst
import HandS.Walk
import HandS.Evl
import HandS.Style
import HandS.NoneIn
import HandS.Defaults
import HandS.Head0
import HandS.Head1
import HandS.Head2
import HandS.HeadEnd
import HandS.HeadHook1
import HandS.HeadHook2
import HandS.AnyAll
import HandS.TupAny
import HandS.TupMul
import HandS.Zip
import HandS.HeadHook3
import HandS.HeadHook4
import HandS.HeadWalk
import HandS.EndTab
import PyProof.TupleOfGen
import KE.KNest
import KE.KDictWalk
import HandS.Set
import HandS.Strs
import KE.GoesSet
import KE.GoesMore
import KE.GoesZip
import KE.GoesEnum
import PyProof.GenCompT
import HandS.Conv
import HandS.Flow
import HandS.SortKw
import KE.DataMinMax
import HandS.Style
import HandS.SortInts
import PyProof.Rows.MatchSeqLen
import PyProof.RulesMatch
import PyProof.RulesMatchSeq
import HandS.Exc
import HandS.ExcOwn
import HandS.ExcIs
import HandS.WordsExc
import HandS.SetFor
import PySem.Challenge.RW_shareones_k29_the_worst_of_a_maker
set_option Elab.async false
set_option pp.maxSteps 250
set_option linter.all false
set_option maxRecDepth 100000
set_option maxHeartbeats 4000000
namespace Fq
open PySem PySem.Spec PyProof.Rows L2
section
variable {P : Program} {w : World} {K : PySem.W.Frag} {mg : Str → Option Value} {base : Heap}
def topS (i : Nat) : Stmt := PySem.Challenge.pw_shareones_k29_the_worst_of_a_maker.main.body.getD i (.Pass ⟨0, 0, 0, 0⟩)
abbrev FnP (K : PySem.W.Frag) (x : Str) (st : Stmt) (f : Addr) (fd : FuncData) : Prop := FunD K x x (defArgs st) (defBody st) (defScope st) [] [] f fd
abbrev s_common_divisor : Stmt := topS 1
abbrev N_common_divisor : List Str := ["one", "other"]
theorem sc_common_divisor : FnScope N_common_divisor ["one", "other"] (defScope s_common_divisor) := ⟨rfl, rfl, rfl, by decide +kernel, rfl, by decide +kernel, by decide +kernel⟩
abbrev s_fraction : Stmt := topS 2
abbrev N_fraction : List Str := ["top", "bottom", "divisor"]
theorem sc_fraction : FnScope N_fraction ["top", "bottom"] (defScope s_fraction) := ⟨rfl, rfl, rfl, by decide +kernel, rfl, by decide +kernel, by decide +kernel⟩
abbrev s_before : Stmt := topS 3
abbrev N_before : List Str := ["one", "other"]
theorem sc_before : FnScope N_before ["one", "other"] (defScope s_before) := ⟨rfl, rfl, rfl, by decide +kernel, rfl, by decide +kernel, by decide +kernel⟩
abbrev s_ones : Stmt := topS 5
abbrev N_ones : List Str := ["row"]
theorem sc_ones : FnScope N_ones ["row"] (defScope s_ones) := ⟨rfl, rfl, rfl, by decide +kernel, rfl, by decide +kernel, by decide +kernel⟩
abbrev s_counter_round : Stmt := topS 7
abbrev N_counter_round : List Str := ["size", "step", "start", "t"]
theorem sc_counter_round : FnScope N_counter_round ["size", "step", "start"] (defScope s_counter_round) := ⟨rfl, rfl, rfl, by decide +kernel, rfl, by decide +kernel, by decide +kernel⟩
abbrev s_last_for_first : Stmt := topS 8
abbrev N_last_for_first : List Str := ["number", "wide", "told", "at"]
theorem sc_last_for_first : FnScope N_last_for_first ["number", "wide"] (defScope s_last_for_first) := ⟨rfl, rfl, rfl, by decide +kernel, rfl, by decide +kernel, by decide +kernel⟩
abbrev s_size_of : Stmt := topS 9
abbrev N_size_of : List Str := ["wide"]
theorem sc_size_of : FnScope N_size_of ["wide"] (defScope s_size_of) := ⟨rfl, rfl, rfl, by decide +kernel, rfl, by decide +kernel, by decide +kernel⟩
abbrev s_turned_round : Stmt := topS 10
abbrev N_turned_round : List Str := ["wide", "start", "size", "t"]
theorem sc_turned_round : FnScope N_turned_round ["wide", "start"] (defScope s_turned_round) := ⟨rfl, rfl, rfl, by decide +kernel, rfl, by decide +kernel, by decide +kernel⟩
abbrev s_odd_ones : Stmt := topS 11
abbrev N_odd_ones : List Str := ["number", "odd"]
theorem sc_odd_ones : FnScope N_odd_ones ["number"] (defScope s_odd_ones) := ⟨rfl, rfl, rfl, by decide +kernel, rfl, by decide +kernel, by decide +kernel⟩
abbrev s_held_round : Stmt := topS 12
abbrev N_held_round : List Str := ["wide", "taps", "start", "size", "told", "held"]
theorem sc_held_round : FnScope N_held_round ["wide", "taps", "start"] (defScope s_held_round) := ⟨rfl, rfl, rfl, by decide +kernel, rfl, by decide +kernel, by decide +kernel⟩
abbrev s_plain_round : Stmt := topS 13
abbrev N_plain_round : List Str := ["maker", "size", "step", "start", "wide", "taps", "numbers"]
theorem sc_plain_round : FnScope N_plain_round ["maker"] (defScope s_plain_round) := ⟨rfl, rfl, rfl, by decide +kernel, rfl, by decide +kernel, by decide +kernel⟩
abbrev s_round_of : Stmt := topS 14
abbrev N_round_of : List Str := ["maker", "many", "inner", "length", "by"]
theorem sc_round_of : FnScope N_round_of ["maker"] (defScope s_round_of) := ⟨rfl, rfl, rfl, by decide +kernel, rfl, by decide +kernel, by decide +kernel⟩
abbrev s_innermost : Stmt := topS 15
abbrev N_innermost : List Str := ["maker"]
theorem sc_innermost : FnScope N_innermost ["maker"] (defScope s_innermost) := ⟨rfl, rfl, rfl, by decide +kernel, rfl, by decide +kernel, by decide +kernel⟩
abbrev s_top_of : Stmt := topS 16
abbrev N_top_of : List Str := ["maker", "size", "step", "start", "numbers", "wide", "taps"]
theorem sc_top_of : FnScope N_top_of ["maker"] (defScope s_top_of) := ⟨rfl, rfl, rfl, by decide +kernel, rfl, by decide +kernel, by decide +kernel⟩
abbrev s_inner_beat : Stmt := topS 17
abbrev N_inner_beat : List Str := ["maker", "t", "word", "many", "inner"]
theorem sc_inner_beat : FnScope N_inner_beat ["maker", "t"] (defScope s_inner_beat) := ⟨rfl, rfl, rfl, by decide +kernel, rfl, by decide +kernel, by decide +kernel⟩
abbrev s_values_at : Stmt := topS 18
abbrev N_values_at : List Str := ["maker", "beats", "numbers", "t"]
theorem sc_values_at : FnScope N_values_at ["maker", "beats"] (defScope s_values_at) := ⟨rfl, rfl, rfl, by decide +kernel, rfl, by decide +kernel, by decide +kernel⟩
abbrev s_values_of : Stmt := topS 19
abbrev N_values_of : List Str := ["maker", "beats"]
theorem sc_values_of : FnScope N_values_of ["maker", "beats"] (defScope s_values_of) := ⟨rfl, rfl, rfl, by decide +kernel, rfl, by decide +kernel, by decide +kernel⟩
abbrev s_row_below : Stmt := topS 20
abbrev N_row_below : List Str := ["numbers", "k", "number"]
theorem sc_row_below : FnScope N_row_below ["numbers", "k"] (defScope s_row_below) := ⟨rfl, rfl, rfl, by decide +kernel, rfl, by decide +kernel, by decide +kernel⟩
abbrev s_row_of : Stmt := topS 21
abbrev N_row_of : List Str := ["maker", "k", "beats"]
theorem sc_row_of : FnScope N_row_of ["maker", "k", "beats"] (defScope s_row_of) := ⟨rfl, rfl, rfl, by decide +kernel, rfl, by decide +kernel, by decide +kernel⟩
abbrev s_offs_by : Stmt := topS 23
abbrev N_offs_by : List Str := ["row", "many", "length", "offs", "bit"]
theorem sc_offs_by : FnScope N_offs_by ["row", "many", "length"] (defScope s_offs_by) := ⟨rfl, rfl, rfl, by decide +kernel, rfl, by decide +kernel, by decide +kernel⟩
abbrev s_offs_of : Stmt := topS 24
abbrev N_offs_of : List Str := ["row"]
theorem sc_offs_of : FnScope N_offs_of ["row"] (defScope s_offs_of) := ⟨rfl, rfl, rfl, by decide +kernel, rfl, by decide +kernel, by decide +kernel⟩
abbrev s_worst_part : Stmt := topS 25
abbrev N_worst_part : List Str := ["row", "sizes", "worst", "off"]
theorem sc_worst_part : FnScope N_worst_part ["row"] (defScope s_worst_part) := ⟨rfl, rfl, rfl, by decide +kernel, rfl, by decide +kernel, by decide +kernel⟩
abbrev s_worst_of : Stmt := topS 26
abbrev N_worst_of : List Str := ["maker", "numbers", "worst", "k", "off", "n"]
theorem sc_worst_of : FnScope N_worst_of ["maker"] (defScope s_worst_of) := ⟨rfl, rfl, rfl, by decide +kernel, rfl, by decide +kernel, by decide +kernel⟩
abbrev s__law_box : Stmt := topS 28
abbrev N__law_box : List Str := ["_law_script", "_law_k", "_law_cell"]
theorem sc__law_box : FnScope N__law_box ["_law_script", "_law_k"] (defScope s__law_box) := ⟨rfl, rfl, rfl, by decide +kernel, rfl, by decide +kernel, by decide +kernel⟩
abbrev s__law_take : Stmt := topS 29
abbrev N__law_take : List Str := ["_law_box_here", "_law_many", "_law_found", "_law_once"]
theorem sc__law_take : FnScope N__law_take ["_law_box_here", "_law_many"] (defScope s__law_take) := ⟨rfl, rfl, rfl, by decide +kernel, rfl, by decide +kernel, by decide +kernel⟩
abbrev s__law_folded : Stmt := topS 30
abbrev N__law_folded : List Str := ["_law_script", "_law_many", "_law_cells", "_law_k", "_law_cell"]
theorem sc__law_folded : FnScope N__law_folded ["_law_script", "_law_many"] (defScope s__law_folded) := ⟨rfl, rfl, rfl, by decide +kernel, rfl, by decide +kernel, by decide +kernel⟩
abbrev s__law_lowest : Stmt := topS 31
abbrev N__law_lowest : List Str := ["_law_top", "_law_bottom", "_law_one", "_law_other"]
theorem sc__law_lowest : FnScope N__law_lowest ["_law_top", "_law_bottom"] (defScope s__law_lowest) := ⟨rfl, rfl, rfl, by decide +kernel, rfl, by decide +kernel, by decide +kernel⟩
abbrev s__law_alone : Stmt := topS 32
abbrev N__law_alone : List Str := ["_law_one", "_law_other"]
theorem sc__law_alone : FnScope N__law_alone ["_law_one", "_law_other"] (defScope s__law_alone) := ⟨rfl, rfl, rfl, by decide +kernel, rfl, by decide +kernel, by decide +kernel⟩
abbrev s__law_maker : Stmt := topS 33
abbrev N__law_maker : List Str := ["_law_box_here", "_law_deep", "_law_most", "_law_way", "_law_many", "_law_word", "_law_twos", "_law_wides", "_law_wide", "_law_taps", "_law_steps", "_law_k", "_law_step"]
theorem sc__law_maker : FnScope N__law_maker ["_law_box_here", "_law_deep", "_law_most"] (defScope s__law_maker) := ⟨rfl, rfl, rfl, by decide +kernel, rfl, by decide +kernel, by decide +kernel⟩
abbrev s__law_worst : Stmt := topS 34
abbrev N__law_worst : List Str := ["_law_numbers", "_law_k", "_law_many", "_law_long", "_law_count", "_law_best", "_law_n", "_law_one", "_law_off"]
theorem sc__law_worst : FnScope N__law_worst ["_law_numbers", "_law_k"] (defScope s__law_worst) := ⟨rfl, rfl, rfl, by decide +kernel, rfl, by decide +kernel, by decide +kernel⟩
abbrev s__law_right : Stmt := topS 35
abbrev N__law_right : List Str := ["_law_maker_here", "_law_numbers", "_law_best", "_law_k", "_law_off", "_law_n", "_law_due", "_law_turn", "_law_found", "_law_part"]
theorem sc__law_right : FnScope N__law_right ["_law_maker_here"] (defScope s__law_right) := ⟨rfl, rfl, rfl, by decide +kernel, rfl, by decide +kernel, by decide +kernel⟩
abbrev s__law_slow_right : Stmt := topS 36
abbrev N__law_slow_right : List Str := ["_law_box_here", "_law_numbers", "_law_many", "_law_best", "_law_k", "_law_off", "_law_n", "_law_found", "_law_beat"]
theorem sc__law_slow_right : FnScope N__law_slow_right ["_law_box_here"] (defScope s__law_slow_right) := ⟨rfl, rfl, rfl, by decide +kernel, rfl, by decide +kernel, by decide +kernel⟩
abbrev s_law : Stmt := topS 37
abbrev N_law : List Str := ["_law_script", "_law_cells", "_law_k", "_law_box_here", "_law_turn", "_law_maker_here", "_law_great", "_law_many", "_law_counter", "_law_one"]
theorem sc_law : FnScope N_law ["_law_script"] (defScope s_law) := ⟨rfl, rfl, rfl, by decide +kernel, rfl, by decide +kernel, by decide +kernel⟩
/-- the code object of the def at f is the one at c -/
def CodeAt (K : PySem.W.Frag) (f c : Addr) : Prop := ∀ (oc : Value) (od : Option Addr) (fd : FuncData) (osl : Array (Option Value)), K.lookup f = some ⟨oc, od, .func fd, osl⟩ → ∀ b, fd.code = .ref b → b = c
theorem okC {P : Program} {w : World} {K : PySem.W.Frag} {mg : Str → Option Value} {base : Heap} {x : Str} {st : Stmt} {f c : Addr} {fd : FuncData} {N ps : List Str} {k : Nat} {sp : Sp} (F : FnP K x st f fd) (hc : CodeAt K f c) (S : FnScope N ps (defScope st)) (len : ∀ vs H Q E, sp vs H Q E → vs.length = ps.length)
    (hb : ∀ (A : Around) (outer : List Env) (s : Shared) (H : Hp) (vs : List V) (Q : VK) (E : XK), Room k (A.deeper (envOfC x (defScope st) s.heap.objs.size f (.ref c))) → sp vs H Q E →
      ∃ t, PSs (cxOf CX0 P w K mg base N x (defScope st) f (.ref c) A outer s H E) (defBody st) t ∧ t { nx := fun _ H' => Q .non H', rt := Q } (L2.start N vs) H) : FnOk P w K mg base CX0 (k + 1) f fd ps sp := by
  obtain ⟨oc, od, dV, kV, doc, pm, an, cdv, ct, osl, rfl, lk, hcd, _, _⟩ := F.ex
  obtain ⟨b, rfl⟩ := He.codeIn_ref hcd
  have e := hc oc od _ osl lk b rfl
  subst e
  exact fn_of lk hcd S len hb
structure Defs (K : PySem.W.Frag) (mg : Str → Option Value) where
  f_common_divisor : Addr
  fd_common_divisor : FuncData
  F_common_divisor : FnP K "common_divisor" s_common_divisor f_common_divisor fd_common_divisor
  g_common_divisor : mg "common_divisor" = some (.ref f_common_divisor)
  b_common_divisor : Binds K fd_common_divisor ["one", "other"] []
  f_fraction : Addr
  fd_fraction : FuncData
  F_fraction : FnP K "fraction" s_fraction f_fraction fd_fraction
  g_fraction : mg "fraction" = some (.ref f_fraction)
  b_fraction : Binds K fd_fraction ["top", "bottom"] []
  f_before : Addr
  fd_before : FuncData
  F_before : FnP K "before" s_before f_before fd_before
  g_before : mg "before" = some (.ref f_before)
  b_before : Binds K fd_before ["one", "other"] []
  f_ones : Addr
  fd_ones : FuncData
  F_ones : FnP K "ones" s_ones f_ones fd_ones
  g_ones : mg "ones" = some (.ref f_ones)
  b_ones : Binds K fd_ones ["row"] []
  f_counter_round : Addr
  fd_counter_round : FuncData
  F_counter_round : FnP K "counter_round" s_counter_round f_counter_round fd_counter_round
  g_counter_round : mg "counter_round" = some (.ref f_counter_round)
  b_counter_round : Binds K fd_counter_round ["size", "step", "start"] []
  f_last_for_first : Addr
  fd_last_for_first : FuncData
  F_last_for_first : FnP K "last_for_first" s_last_for_first f_last_for_first fd_last_for_first
  g_last_for_first : mg "last_for_first" = some (.ref f_last_for_first)
  b_last_for_first : Binds K fd_last_for_first ["number", "wide"] []
  f_size_of : Addr
  fd_size_of : FuncData
  F_size_of : FnP K "size_of" s_size_of f_size_of fd_size_of
  g_size_of : mg "size_of" = some (.ref f_size_of)
  b_size_of : Binds K fd_size_of ["wide"] []
  f_turned_round : Addr
  fd_turned_round : FuncData
  F_turned_round : FnP K "turned_round" s_turned_round f_turned_round fd_turned_round
  g_turned_round : mg "turned_round" = some (.ref f_turned_round)
  b_turned_round : Binds K fd_turned_round ["wide", "start"] []
  f_odd_ones : Addr
  fd_odd_ones : FuncData
  F_odd_ones : FnP K "odd_ones" s_odd_ones f_odd_ones fd_odd_ones
  g_odd_ones : mg "odd_ones" = some (.ref f_odd_ones)
  b_odd_ones : Binds K fd_odd_ones ["number"] []
  f_held_round : Addr
  fd_held_round : FuncData
  F_held_round : FnP K "held_round" s_held_round f_held_round fd_held_round
  g_held_round : mg "held_round" = some (.ref f_held_round)
  b_held_round : Binds K fd_held_round ["wide", "taps", "start"] []
  f_plain_round : Addr
  fd_plain_round : FuncData
  F_plain_round : FnP K "plain_round" s_plain_round f_plain_round fd_plain_round
  g_plain_round : mg "plain_round" = some (.ref f_plain_round)
  b_plain_round : Binds K fd_plain_round ["maker"] []
  f_round_of : Addr
  fd_round_of : FuncData
  F_round_of : FnP K "round_of" s_round_of f_round_of fd_round_of
  g_round_of : mg "round_of" = some (.ref f_round_of)
  b_round_of : Binds K fd_round_of ["maker"] []
  f_innermost : Addr
  fd_innermost : FuncData
  F_innermost : FnP K "innermost" s_innermost f_innermost fd_innermost
  g_innermost : mg "innermost" = some (.ref f_innermost)
  b_innermost : Binds K fd_innermost ["maker"] []
  f_top_of : Addr
  fd_top_of : FuncData
  F_top_of : FnP K "top_of" s_top_of f_top_of fd_top_of
  g_top_of : mg "top_of" = some (.ref f_top_of)
  b_top_of : Binds K fd_top_of ["maker"] []
  f_inner_beat : Addr
  fd_inner_beat : FuncData
  F_inner_beat : FnP K "inner_beat" s_inner_beat f_inner_beat fd_inner_beat
  g_inner_beat : mg "inner_beat" = some (.ref f_inner_beat)
  b_inner_beat : Binds K fd_inner_beat ["maker", "t"] []
  f_values_at : Addr
  fd_values_at : FuncData
  F_values_at : FnP K "values_at" s_values_at f_values_at fd_values_at
  g_values_at : mg "values_at" = some (.ref f_values_at)
  b_values_at : Binds K fd_values_at ["maker", "beats"] []
  f_values_of : Addr
  fd_values_of : FuncData
  F_values_of : FnP K "values_of" s_values_of f_values_of fd_values_of
  g_values_of : mg "values_of" = some (.ref f_values_of)
  b_values_of : Binds K fd_values_of ["maker", "beats"] []
  f_row_below : Addr
  fd_row_below : FuncData
  F_row_below : FnP K "row_below" s_row_below f_row_below fd_row_below
  g_row_below : mg "row_below" = some (.ref f_row_below)
  b_row_below : Binds K fd_row_below ["numbers", "k"] []
  f_row_of : Addr
  fd_row_of : FuncData
  F_row_of : FnP K "row_of" s_row_of f_row_of fd_row_of
  g_row_of : mg "row_of" = some (.ref f_row_of)
  b_row_of : Binds K fd_row_of ["maker", "k", "beats"] []
  f_offs_by : Addr
  fd_offs_by : FuncData
  F_offs_by : FnP K "offs_by" s_offs_by f_offs_by fd_offs_by
  g_offs_by : mg "offs_by" = some (.ref f_offs_by)
  b_offs_by : Binds K fd_offs_by ["row", "many", "length"] []
  f_offs_of : Addr
  fd_offs_of : FuncData
  F_offs_of : FnP K "offs_of" s_offs_of f_offs_of fd_offs_of
  g_offs_of : mg "offs_of" = some (.ref f_offs_of)
  b_offs_of : Binds K fd_offs_of ["row"] []
  f_worst_part : Addr
  fd_worst_part : FuncData
  F_worst_part : FnP K "worst_part" s_worst_part f_worst_part fd_worst_part
  g_worst_part : mg "worst_part" = some (.ref f_worst_part)
  b_worst_part : Binds K fd_worst_part ["row"] []
  f_worst_of : Addr
  fd_worst_of : FuncData
  F_worst_of : FnP K "worst_of" s_worst_of f_worst_of fd_worst_of
  g_worst_of : mg "worst_of" = some (.ref f_worst_of)
  b_worst_of : Binds K fd_worst_of ["maker"] []
  f__law_box : Addr
  fd__law_box : FuncData
  F__law_box : FnP K "_law_box" s__law_box f__law_box fd__law_box
  g__law_box : mg "_law_box" = some (.ref f__law_box)
  b__law_box : Binds K fd__law_box ["_law_script", "_law_k"] []
  f__law_take : Addr
  fd__law_take : FuncData
  F__law_take : FnP K "_law_take" s__law_take f__law_take fd__law_take
  g__law_take : mg "_law_take" = some (.ref f__law_take)
  b__law_take : Binds K fd__law_take ["_law_box_here", "_law_many"] []
  f__law_folded : Addr
  fd__law_folded : FuncData
  F__law_folded : FnP K "_law_folded" s__law_folded f__law_folded fd__law_folded
  g__law_folded : mg "_law_folded" = some (.ref f__law_folded)
  b__law_folded : Binds K fd__law_folded ["_law_script", "_law_many"] []
  f__law_lowest : Addr
  fd__law_lowest : FuncData
  F__law_lowest : FnP K "_law_lowest" s__law_lowest f__law_lowest fd__law_lowest
  g__law_lowest : mg "_law_lowest" = some (.ref f__law_lowest)
  b__law_lowest : Binds K fd__law_lowest ["_law_top", "_law_bottom"] []
  f__law_alone : Addr
  fd__law_alone : FuncData
  F__law_alone : FnP K "_law_alone" s__law_alone f__law_alone fd__law_alone
  g__law_alone : mg "_law_alone" = some (.ref f__law_alone)
  b__law_alone : Binds K fd__law_alone ["_law_one", "_law_other"] []
  f__law_maker : Addr
  fd__law_maker : FuncData
  F__law_maker : FnP K "_law_maker" s__law_maker f__law_maker fd__law_maker
  g__law_maker : mg "_law_maker" = some (.ref f__law_maker)
  b__law_maker : Binds K fd__law_maker ["_law_box_here", "_law_deep", "_law_most"] []
  f__law_worst : Addr
  fd__law_worst : FuncData
  F__law_worst : FnP K "_law_worst" s__law_worst f__law_worst fd__law_worst
  g__law_worst : mg "_law_worst" = some (.ref f__law_worst)
  b__law_worst : Binds K fd__law_worst ["_law_numbers", "_law_k"] []
  f__law_right : Addr
  fd__law_right : FuncData
  F__law_right : FnP K "_law_right" s__law_right f__law_right fd__law_right
  g__law_right : mg "_law_right" = some (.ref f__law_right)
  b__law_right : Binds K fd__law_right ["_law_maker_here"] []
  f__law_slow_right : Addr
  fd__law_slow_right : FuncData
  F__law_slow_right : FnP K "_law_slow_right" s__law_slow_right f__law_slow_right fd__law_slow_right
  g__law_slow_right : mg "_law_slow_right" = some (.ref f__law_slow_right)
  b__law_slow_right : Binds K fd__law_slow_right ["_law_box_here"] []
  f_law : Addr
  fd_law : FuncData
  F_law : FnP K "law" s_law f_law fd_law
  g_law : mg "law" = some (.ref f_law)
  b_law : Binds K fd_law ["_law_script"] []
  c_row_below : Addr
  P_row_below : Addr
  k_row_below : CodeAt K f_row_below c_row_below
  m_abs : mg "abs" = none
  m_any : mg "any" = none
  m_bool : mg "bool" = none
  m_divmod : mg "divmod" = none
  m_enumerate : mg "enumerate" = none
  m_int : mg "int" = none
  m_isinstance : mg "isinstance" = none
  m_len : mg "len" = none
  m_list : mg "list" = none
  m_max : mg "max" = none
  m_range : mg "range" = none
  m_sum : mg "sum" = none
  m_tuple : mg "tuple" = none
structure Tabs {K : PySem.W.Frag} {mg : Str → Option Value} (T : Defs K mg) (base : Heap) : Prop where
  t_row_below : GxR.TabB base mg T.c_row_below T.P_row_below
theorem bt_abs : bootBuiltins "abs" = some (.builtin "abs") := by decide +kernel
theorem bt_any : bootBuiltins "any" = some (.builtin "any") := by decide +kernel
theorem bt_bool : bootBuiltins "bool" = some (.type "bool") := by decide +kernel
theorem bt_divmod : bootBuiltins "divmod" = some (.builtin "divmod") := by decide +kernel
theorem bt_enumerate : bootBuiltins "enumerate" = some (.type "enumerate") := by decide +kernel
theorem bt_int : bootBuiltins "int" = some (.type "int") := by decide +kernel
theorem bt_isinstance : bootBuiltins "isinstance" = some (.builtin "isinstance") := by decide +kernel
theorem bt_len : bootBuiltins "len" = some (.builtin "len") := by decide +kernel
theorem bt_list : bootBuiltins "list" = some (.type "list") := by decide +kernel
theorem bt_max : bootBuiltins "max" = some (.builtin "max") := by decide +kernel
theorem bt_range : bootBuiltins "range" = some (.type "range") := by decide +kernel
theorem bt_sum : bootBuiltins "sum" = some (.builtin "sum") := by decide +kernel
theorem bt_tuple : bootBuiltins "tuple" = some (.type "tuple") := by decide +kernel
def frT (t b : Int) : Int := (b.sign * t) / (Int.gcd t b : Int)
def frB (t b : Int) : Int := (b.natAbs : Int) / (Int.gcd t b : Int)
theorem fr_ex (t : Int) {b : Int} (hb : b ≠ 0) : ∃ (g : Nat) (x y : Int), 0 < g ∧ Int.gcd t b = g ∧ t = (g : Int) * x ∧ b = (g : Int) * y ∧ y ≠ 0 ∧ Int.gcd x y = 1 := by
  have hg : 0 < Int.gcd t b := Int.gcd_pos_of_ne_zero_right t hb
  obtain ⟨x, hx⟩ := Int.gcd_dvd_left t b
  obtain ⟨y, hy⟩ := Int.gcd_dvd_right t b
  refine ⟨Int.gcd t b, x, y, hg, rfl, hx, hy, fun e => hb (by rw [hy, e, Int.mul_zero]), ?_⟩
  generalize eg : Int.gcd t b = g at hg hx hy
  have e : g = g * Int.gcd x y := by
    rw [← eg]
    conv => lhs; rw [hx, hy, Int.gcd_mul_left]
    rw [Int.natAbs_natCast, eg]
  exact Nat.eq_of_mul_eq_mul_left hg (by rw [← e, Nat.mul_one])
theorem sgn {b : Int} {g : Nat} {y : Int} (hg : 0 < g) (hb : b = (g : Int) * y) : b.sign = y.sign := by
  rw [hb, Int.sign_mul, Int.sign_eq_one_of_pos (by omega), Int.one_mul]
theorem fr_vals {t b : Int} {g : Nat} {x y : Int} (hg : 0 < g) (eg : Int.gcd t b = g) (ht : t = (g : Int) * x) (hb : b = (g : Int) * y) : frT t b = y.sign * x ∧ frB t b = (y.natAbs : Int) := by
  have g0 : (g : Int) ≠ 0 := by omega
  constructor
  · unfold frT
    rw [eg, sgn hg hb, ht, show y.sign * ((g : Int) * x) = (g : Int) * (y.sign * x) by rw [Int.mul_left_comm]]
    exact Int.mul_ediv_cancel_left _ g0
  · unfold frB
    rw [eg, hb, Int.natAbs_mul, Int.natAbs_natCast, Int.natCast_mul]
    exact Int.mul_ediv_cancel_left _ g0
theorem sgn_abs {y : Int} (hy : y ≠ 0) : y.sign.natAbs = 1 := Int.natAbs_sign_of_ne_zero hy
theorem fr_pos (t : Int) {b : Int} (hb : b ≠ 0) : 0 < frB t b := by
  obtain ⟨g, x, y, hg, eg, ht, hy, hy0, h1⟩ := fr_ex t hb
  rw [(fr_vals hg eg ht hy).2]
  omega
theorem fr_gcd (t : Int) {b : Int} (hb : b ≠ 0) : Int.gcd (frT t b) (frB t b) = 1 := by
  obtain ⟨g, x, y, hg, eg, ht, hy, hy0, h1⟩ := fr_ex t hb
  rw [(fr_vals hg eg ht hy).1, (fr_vals hg eg ht hy).2]
  show Nat.gcd (y.sign * x).natAbs ((y.natAbs : Int)).natAbs = 1
  rw [Int.natAbs_mul, sgn_abs hy0, Nat.one_mul, Int.natAbs_natCast]
  exact h1
theorem fr_eq (t : Int) {b : Int} (hb : b ≠ 0) : frT t b * b = t * frB t b := by
  obtain ⟨g, x, y, hg, eg, ht, hy, hy0, h1⟩ := fr_ex t hb
  rw [(fr_vals hg eg ht hy).1, (fr_vals hg eg ht hy).2]
  rw [ht, hy]
  have e : y * y.sign = (y.natAbs : Int) := Int.mul_sign_self y
  rw [← e]
  simp only [Int.mul_comm, Int.mul_left_comm, Int.mul_assoc]
theorem fr_absT (t : Int) {b : Int} (hb : b ≠ 0) : (frT t b).natAbs ≤ t.natAbs := by
  obtain ⟨g, x, y, hg, eg, ht, hy, hy0, h1⟩ := fr_ex t hb
  rw [(fr_vals hg eg ht hy).1, ht, Int.natAbs_mul, sgn_abs hy0, Nat.one_mul, Int.natAbs_mul, Int.natAbs_natCast]
  exact Nat.le_mul_of_pos_left _ hg
theorem fr_absB (t : Int) {b : Int} (hb : b ≠ 0) : (frB t b).natAbs ≤ b.natAbs := by
  obtain ⟨g, x, y, hg, eg, ht, hy, hy0, h1⟩ := fr_ex t hb
  rw [(fr_vals hg eg ht hy).2, hy, Int.natAbs_mul, Int.natAbs_natCast, Int.natAbs_natCast]
  exact Nat.le_mul_of_pos_left _ hg
theorem fr_negT (t b : Int) : frT (-t) (-b) = frT t b := by
  unfold frT
  rw [Int.sign_neg, Int.neg_mul_neg, Int.gcd_neg, Int.neg_gcd]
theorem fr_negB (t b : Int) : frB (-t) (-b) = frB t b := by
  unfold frB
  rw [Int.natAbs_neg, Int.gcd_neg, Int.neg_gcd]
/-- what the program's two ways reckon -/
theorem fd_pos {g : Nat} {x : Int} (hg : 0 < g) : ((g : Int) * x).fdiv (g : Int) = x := by
  rw [Int.fdiv_eq_ediv_of_nonneg _ (by omega)]
  exact Int.mul_ediv_cancel_left _ (by omega)
theorem fd_neg {g : Nat} {x : Int} (hg : 0 < g) : ((g : Int) * x).fdiv (-(g : Int)) = -x := by
  rw [show (g : Int) * x = -(g : Int) * (-x) by rw [Int.neg_mul_neg]]
  exact Int.mul_fdiv_cancel_left _ (by omega)
theorem fr_lt (t : Int) {b : Int} (hb : b < 0) : t.fdiv (-(Int.gcd t b : Int)) = frT t b ∧ b.fdiv (-(Int.gcd t b : Int)) = frB t b := by
  obtain ⟨g, x, y, hg, eg, ht, hy, hy0, h1⟩ := fr_ex t (show b ≠ 0 by omega)
  rw [(fr_vals hg eg ht hy).1, (fr_vals hg eg ht hy).2, eg]
  have yn : y < 0 := by
    rw [hy] at hb
    exact Int.neg_of_mul_neg_right hb (by omega)
  constructor
  · conv => lhs; rw [ht]
    rw [fd_neg hg, Int.sign_eq_neg_one_of_neg yn]
    omega
  · conv => lhs; rw [hy]
    rw [fd_neg hg]
    omega
theorem fr_ge (t : Int) {b : Int} (hb : 0 < b) : t.fdiv (Int.gcd t b : Int) = frT t b ∧ b.fdiv (Int.gcd t b : Int) = frB t b := by
  obtain ⟨g, x, y, hg, eg, ht, hy, hy0, h1⟩ := fr_ex t (show b ≠ 0 by omega)
  rw [(fr_vals hg eg ht hy).1, (fr_vals hg eg ht hy).2, eg]
  have yn : 0 < y := by
    rw [hy] at hb
    exact Int.pos_of_mul_pos_right hb (by omega)
  constructor
  · conv => lhs; rw [ht]
    rw [fd_pos hg, Int.sign_eq_one_of_pos yn]
    omega
  · conv => lhs; rw [hy]
    rw [fd_pos hg]
    omega
/-! sizes -/
def S (n : Nat) (x : Int) : Prop := x.natAbs < 2 ^ n
theorem S.mono {n m : Nat} {x : Int} (h : S n x) (l : n ≤ m) : S m x := Nat.lt_of_lt_of_le h (Nat.pow_le_pow_right (by decide) l)
theorem S.mul {n m : Nat} {x y : Int} (h : S n x) (k : S m y) : S (n + m) (x * y) := by
  unfold S at *
  rw [Int.natAbs_mul, Nat.pow_add]
  exact Nat.mul_lt_mul'' h k
theorem S.add {n : Nat} {x y : Int} (h : S n x) (k : S n y) : S (n + 1) (x + y) := by
  unfold S at *
  rw [Nat.pow_succ]
  omega
theorem S.sub {n : Nat} {x y : Int} (h : S n x) (k : S n y) : S (n + 1) (x - y) := by
  unfold S at *
  rw [Nat.pow_succ]
  omega
theorem S.frT {n : Nat} {t b : Int} (h : S n t) (hb : b ≠ 0) : S n (frT t b) := Nat.lt_of_le_of_lt (fr_absT t hb) h
theorem S.frB {n : Nat} {t b : Int} (h : S n b) (hb : b ≠ 0) : S n (frB t b) := Nat.lt_of_le_of_lt (fr_absB t hb) h
theorem abs_eq (i : Int) : (if i < 0 then -i else i) = (i.natAbs : Int) := by
  split <;> omega
/-! the same rules with the written part by its name: for the inside of comprehensions -/
theorem pg_tupK {X : Cx} {K : PySem.W.Frag} {es : List Expr} {k n : Nat} {pos : Pos} {t : TGs} (h : X.K = K) (hc : X.calm = true) (hg : PGs X es t) (hn : (assignEach es X.env).length = n := by rfl) (hst : (assignEach es X.env).findIdx? (·.1) = none := by rfl) : PG X (.Tuple es k pos) (gTup K n t) := by
  subst h
  exact pg_tup hc hg hn hst
theorem isiK {X : Cx} {K : PySem.W.Frag} (h : X.K = K) : CallR X (.builtin "isinstance") (rIsi K) := by
  subst h
  exact call_isi
theorem ixlK {X : Cx} {K : PySem.W.Frag} (h : X.K = K) : IxR X (rIxL K) := by
  subst h
  exact ix_list
theorem ixtK {X : Cx} {K : PySem.W.Frag} (h : X.K = K) : IxR X (rIxT K) := by
  subst h
  exact ix_tup
theorem lenK {X : Cx} {K : PySem.W.Frag} (h : X.K = K) : CallR X (.builtin "len") (fun xs H Q => ∃ p ys, xs = [.ref p] ∧ (SqL K H p ys ∨ SqT K H p ys) ∧ Q (.int ys.length) H) := by
  subst h
  exact call_len_seq
theorem sumK {X : Cx} {K : PySem.W.Frag} (h : X.K = K) (hc : X.calm = true) : CallR X (.builtin "sum") (rSum K) := by
  subst h
  exact cr_sum hc
theorem yes_ite {σ : L2.St} {H : Hp} {A B : Hp → Prop} (h : A H) : tYes σ H (fun b H3 => if b = true then A H3 else B H3) := by
  show if true = true then A H else B H
  rw [if_pos rfl]
  exact h
/-! heaps -/
theorem same_upd {H : Hp} {p : Addr} {o : HO} (h : H p = none) : Same H (upd H p o) := fun b x e => by
  rw [upd_ne (ne_of_none e h)]
  exact e
def But (p : Addr) (H H' : Hp) : Prop := ∀ b o, b ≠ p → H b = some o → H' b = some o
theorem But.trans {p : Addr} {H H1 H2 : Hp} (a : But p H H1) (b : But p H1 H2) : But p H H2 := fun c o n e => b c o n (a c o n e)
theorem But.refl (p : Addr) (H : Hp) : But p H H := fun _ _ _ e => e
theorem But.put {p : Addr} {H H' : Hp} {o : HO} (a : But p H H') : But p H (L2.upd H' p o) := fun c x n e => by
  rw [upd_ne n]
  exact a c x n e
theorem same_but {p : Addr} {H H' : Hp} (a : Same H H') : But p H H' := fun c x _ e => a c x e
theorem But.new {p q : Addr} {H H' : Hp} {o : HO} (a : But p H H') (n : H' q = none) : But p H (upd H' q o) := fun c x hn e => by
  have e2 := a c x hn e
  rw [upd_ne (ne_of_none e2 n)]
  exact e2
/-- objects made since H may change: what H has stays -/
theorem same_newer {H H' : Hp} {q : Addr} {o : HO} (a : Same H H') (n : H q = none) : Same H (upd H' q o) := fun c x e => by
  rw [upd_ne (ne_of_none e n)]
  exact a c x e
theorem But.same {p : Addr} {H H1 H2 : Hp} (n : H p = none) (a : Same H H1) (b : But p H1 H2) : Same H H2 := fun c x e =>
  b c x (ne_of_none e n) (a c x e)
/-- the box: a rest, a begin, how often -/
def Bx (H : Hp) (p : Addr) (n : Nat) : Prop := ∃ a b c : Int, H p = some (.lst [.int a, .int b, .int c]) ∧ 0 ≤ a ∧ 0 ≤ b ∧ b < 2147483647 ∧ 0 ≤ c ∧ c ≤ n
theorem Bx.same {H H' : Hp} {p : Addr} {n : Nat} (h : Bx H p n) (s : Same H H') : Bx H' p n := by
  obtain ⟨a, b, c, hp, r⟩ := h
  exact ⟨a, b, c, s _ _ hp, r⟩
theorem Bx.mono {H : Hp} {p : Addr} {n m : Nat} (h : Bx H p n) (l : n ≤ m) : Bx H p m := by
  obtain ⟨a, b, c, hp, h1, h2, h3, h4, h5⟩ := h
  exact ⟨a, b, c, hp, h1, h2, h3, h4, by omega⟩
theorem Bx.new {H : Hp} {p q : Addr} {n : Nat} {o : HO} (h : Bx H p n) (nq : H q = none) : Bx (L2.upd H q o) p n := h.same (same_upd nq)
theorem Bx.ne_tup {H : Hp} {p q : Addr} {n : Nat} {xs : List V} (h : Bx H p n) (e : H q = some (.tup xs)) : q ≠ p := by
  obtain ⟨a, b, c, hp, _⟩ := h
  exact ne_of e hp (fun z => by cases z)
/-- an item of a menu of numbers -/
theorem at_menu {Pr : Int → Prop} {xs : List Int} {r : Int} (h0 : 0 ≤ r) (h1 : r < xs.length) (hx : ∀ x, x ∈ xs → Pr x) : ∃ v, atI (xs.map V.int) r = some (V.int v) ∧ Pr v := by
  obtain ⟨j, rfl⟩ := Int.eq_ofNat_of_zero_le h0
  have hj : j < xs.length := by omega
  refine ⟨xs[j], atI_nat (by rw [List.getElem?_map, List.getElem?_eq_getElem hj]; rfl), hx _ (List.getElem_mem hj)⟩
theorem SqL.mk {K : PySem.W.Frag} {H : Hp} {a : Addr} {xs : List V} (h : H a = some (.lst xs)) : SqL K H a xs := .inl (.inl h)
theorem SqT.mk {K : PySem.W.Frag} {H : Hp} {a : Addr} {xs : List V} (h : H a = some (.tup xs)) : SqT K H a xs := .inl (.inl h)
theorem same_tup {K : PySem.W.Frag} {H H' : Hp} {a : Addr} {xs : List V} (e : Same H H') (h : SqT K H a xs) : SqT K H' a xs := by
  rcases h with (h | ⟨o, h⟩) | h
  · exact .inl (.inl (e _ _ h))
  · exact .inl (.inr ⟨o, e _ _ h⟩)
  · exact .inr h
theorem ixn {n j : Nat} (hj : j < n) : ixN n (j : Int) = some j := by
  unfold ixN
  rw [if_pos (by omega), if_pos (by omega)]
  simp
theorem cdivP {a m : Int} (h0 : 0 < m) (h1 : m < 2 ^ 60) : CDivP a m := ⟨h0, PyProof.noPylong_of_log2 (wide_div (i := a) (b := 60) h0 (by omega) (by decide) (by decide)).2⟩
theorem i01 {c : Prop} [Decidable c] : -(2 ^ 64) < (if c then (1 : Int) else 0) ∧ (if c then (1 : Int) else 0) < 2 ^ 64 := by
  split <;> decide
theorem i01n {c : Prop} [Decidable c] : 0 ≤ (if c then (1 : Int) else 0) := by
  split <;> decide
theorem absn (i : Int) : 0 ≤ (if i < 0 then -i else i) := by
  split <;> omega
/-! the box of a cell -/
def sp__law_box (K : PySem.W.Frag) : Sp := fun vs H Q _ => ∃ (a : Addr) (ns : List Int) (k : Nat), vs = [.ref a, .int (k : Nat)] ∧ SqL K H a (ns.map V.int) ∧ k < 1000 ∧
  ∀ H' p, Same H H' → H p = none → Bx H' p 0 → Q (.ref p) H'
theorem ok__law_box (T : Defs K mg) (TT : Tabs T base) : FnOk P w K mg base CX0 1 T.f__law_box T.fd__law_box ["_law_script", "_law_k"] (sp__law_box K) := by
  refine T.F__law_box.ok sc__law_box (fun vs H Q E h => ?_) (fun cdv A outer s H vs Q E hr h => ?_)
  · obtain ⟨a, ns, k, rfl, hS, hk, q⟩ := h
    rfl
  · obtain ⟨a, ns, k, rfl, hS, hk, q⟩ := h
    refine ⟨_, PSs.nox (pss_cons (ps_set (i := 2) sc__law_box.nd rfl (.inl rfl) pe_int)
    (pss_cons (ps_if (pt_cmpR op_lt (pv 1) (pe_callB call_len_seq (by rfl) T.m_len bt_len (pa_cons (pv 0) pa_nil)) (nomark _)) (pss_one (ps_set (i := 2) sc__law_box.nd rfl (.inl rfl) (pe_ix ix_list (pv 0) (pv 1) (fun _ _ => rfl)))) pss_nil)
    (pss_one (ps_ret (pe_lst (pa_cons (pe_op op_mul (pe_callB call_abs (by rfl) T.m_abs bt_abs (pa_cons (pv 2) pa_nil)) (pe_callTy call_int1 (by rfl) T.m_int bt_int (pa_cons (pe_cmpR op_ge (pe_callB call_abs (by rfl) T.m_abs bt_abs (pa_cons (pv 2) pa_nil)) (pe_op op_pow pe_int pe_int) (nomark _)) pa_nil))) (pa_cons (pe_op op_mod (pe_op op_add (pv 2) (pe_op op_mul (pe_op op_mul pe_int (pv 1)) (pv 1))) pe_int) (pa_cons pe_int pa_nil)))))))), ?_⟩
    refine ⟨.int k, rfl, .ref a, rfl, a, _, rfl, .inl hS, _, _, rfl, rfl, _, rfl, ite2 (fun e => ?_) (fun e => ?_)⟩
    · have hl : (k : Int) < ((ns.map V.int).length : Nat) := of_decide_eq_true e
      rw [List.length_map] at hl
      have hj : k < ns.length := by omega
      refine ⟨.ref a, rfl, .int k, rfl, a, _, _, .int ns[k], rfl, rfl, hS, atI_nat (by rw [List.getElem?_map, List.getElem?_eq_getElem hj]; rfl), ?_⟩
      refine ⟨_, rfl, _, rfl, _, rfl, _, rfl, _, _, rfl, rfl, ⟨by decide, by decide, by decide⟩, _, _, rfl, rfl, .inr ⟨_, rfl, _, _, rfl, rfl, .inr i01, _, rfl, .int k, rfl, _, _, rfl, rfl, .inl ⟨by decide, by decide⟩, .int k, rfl, _, _, rfl, rfl, .inr ⟨by omega, by omega⟩, _, _, rfl, rfl, _, _, rfl, rfl, (show (0 : Int) < 2147483647 by decide), (show 3 ≤ sizeLine by decide), fun p np => ?_⟩⟩
      refine q _ p (same_upd np) np ⟨_, _, _, upd_same, ?_, Int.emod_nonneg _ (by decide), Int.emod_lt_of_pos _ (by decide), Int.le_refl 0, Int.le_refl 0⟩
      exact Int.mul_nonneg (absn _) i01n
    · refine ⟨_, rfl, _, rfl, _, rfl, _, rfl, _, _, rfl, rfl, ⟨by decide, by decide, by decide⟩, _, _, rfl, rfl, .inr ⟨_, rfl, _, _, rfl, rfl, .inr i01, _, rfl, .int k, rfl, _, _, rfl, rfl, .inl ⟨by decide, by decide⟩, .int k, rfl, _, _, rfl, rfl, .inr ⟨by omega, by omega⟩, _, _, rfl, rfl, _, _, rfl, rfl, (show (0 : Int) < 2147483647 by decide), (show 3 ≤ sizeLine by decide), fun p np => ?_⟩⟩
      refine q _ p (same_upd np) np ⟨_, _, _, upd_same, ?_, Int.emod_nonneg _ (by decide), Int.emod_lt_of_pos _ (by decide), Int.le_refl 0, Int.le_refl 0⟩
      exact Int.mul_nonneg (absn _) i01n
/-! one number taken -/
def sp__law_take (K : PySem.W.Frag) : Sp := fun vs H Q _ => ∃ (p : Addr) (m : Int) (n : Nat), vs = [.ref p, .int m] ∧ Bx H p n ∧ 0 < m ∧ m < 2 ^ 60 ∧ n < 1000000000000 ∧
  ∀ H' r, But p H H' → Bx H' p (n + 1) → 0 ≤ r → r < m → Q (.int r) H'
theorem ok__law_take (T : Defs K mg) (TT : Tabs T base) : FnOk P w K mg base CX0 1 T.f__law_take T.fd__law_take ["_law_box_here", "_law_many"] (sp__law_take K) := by
  refine T.F__law_take.ok sc__law_take (fun vs H Q E h => ?_) (fun cdv A outer s H vs Q E hr h => ?_)
  · obtain ⟨p, m, n, rfl, ⟨a, b, c, hp, ha, hb, hb2, hc, hc2⟩, h0, h1, hn, q⟩ := h
    rfl
  · obtain ⟨p, m, n, rfl, ⟨a, b, c, hp, ha, hb, hb2, hc, hc2⟩, h0, h1, hn, q⟩ := h
    refine ⟨_, PSs.nox (pss_cons (ps_if (pt_cmpR op_gt (pe_ix ix_list (pv 0) pe_int (fun _ _ => rfl)) pe_int (nomark _)) (pss_cons (ps_asg (pe_callB call_divmodW (by rfl) T.m_divmod bt_divmod (pa_cons (pe_ix ix_list (pv 0) pe_int (fun _ _ => rfl)) (pa_cons (pv 1) pa_nil))) (pg_tup rfl (pgs_cons (pg_sub (pv 0) pe_int set_list) (pgs_cons (pg_name (i := 2) sc__law_take.nd rfl (.inl rfl)) pgs_nil))))
    (pss_one (ps_ret (pv 2)))) pss_nil)
    (pss_cons (ps_asg (pe_op op_add (pe_ix ix_list (pv 0) pe_int (fun _ _ => rfl)) pe_int) (pg_sub (pv 0) pe_int set_list))
    (pss_cons (ps_set (i := 3) sc__law_take.nd rfl (.inl rfl) (pe_op op_mod (pe_op op_pow (pe_op op_add (pe_ix ix_list (pv 0) pe_int (fun _ _ => rfl)) (pe_op op_mul pe_int (pe_ix ix_list (pv 0) pe_int (fun _ _ => rfl)))) pe_int) pe_int))
    (pss_one (ps_ret (pe_op op_mod (pe_op op_fdiv (pe_op op_mod (pe_op op_add (pe_op op_mul (pv 3) pe_int) (pe_op op_mul (pe_op op_mul (pe_ix ix_list (pv 0) pe_int (fun _ _ => rfl)) (pe_ix ix_list (pv 0) pe_int (fun _ _ => rfl))) pe_int)) pe_int) pe_int) (pv 1))))))), ?_⟩
    have SQ : SqL K H p [.int a, .int b, .int c] := SqL.mk hp
    refine ⟨.ref p, rfl, p, _, 0, _, rfl, rfl, SQ, atI_nat (j := 0) rfl, _, _, rfl, rfl, _, rfl, ite2 (fun e => ?_) (fun e => ?_)⟩
    · refine ⟨.ref p, rfl, p, _, 0, _, rfl, rfl, SQ, atI_nat (j := 0) rfl, .int m, rfl, a, m, rfl, cdivP h0 h1, fun t nt => ?_⟩
      have hp1 : (upd H t (.tup [.int (a / m), .int (a % m)])) p = some (.lst [.int a, .int b, .int c]) := by
        rw [upd_ne (ne_of_none hp nt)]
        exact hp
      refine ⟨t, _, rfl, SqT.mk upd_same, rfl, _, _, rfl, .ref p, rfl, p, _, 0, 0, rfl, rfl, hp1, rfl, _, _, rfl, rfl, _, rfl, ?_⟩
      refine q _ _ ((But.refl p H).new nt).put ⟨_, _, _, upd_same, Int.ediv_nonneg ha (by omega), hb, hb2, hc, by omega⟩ (Int.emod_nonneg _ (by omega)) (Int.emod_lt_of_pos _ h0)
    · refine ⟨.ref p, rfl, p, _, 2, _, rfl, rfl, SQ, atI_nat (j := 2) rfl, _, _, rfl, rfl, .ref p, rfl, p, _, 2, 2, rfl, rfl, hp, rfl, ?_⟩
      have SQ1 : SqL K (upd H p (.lst [.int a, .int b, .int (c + 1)])) p [.int a, .int b, .int (c + 1)] := SqL.mk upd_same
      refine ⟨.ref p, rfl, p, _, 1, _, rfl, rfl, SQ1, atI_nat (j := 1) rfl, .ref p, rfl, p, _, 2, _, rfl, rfl, SQ1, atI_nat (j := 2) rfl, _, _, rfl, rfl, .inl ⟨by decide, by decide⟩, _, _, rfl, rfl, _, _, rfl, rfl, ⟨by decide, by decide, by omega⟩, _, _, rfl, rfl, (show (0 : Int) < 2147483647 by decide), ?_⟩
      refine ⟨_, rfl, _, _, rfl, rfl, .inr ⟨by decide, by decide⟩, .ref p, rfl, p, _, 2, _, rfl, rfl, SQ1, atI_nat (j := 2) rfl, .ref p, rfl, p, _, 2, _, rfl, rfl, SQ1, atI_nat (j := 2) rfl, _, _, rfl, rfl, .inl ⟨by omega, by omega⟩, _, _, rfl, rfl, .inr ⟨by decide, by decide⟩, _, _, rfl, rfl, _, _, rfl, rfl, (show (0 : Int) < 2147483629 by decide), _, _, rfl, rfl, ⟨by decide, by decide⟩, .int m, rfl, _, _, rfl, rfl, h0, ?_⟩
      refine q _ _ (But.refl p H).put ⟨_, _, _, upd_same, ha, hb, hb2, by omega, by omega⟩ (Int.emod_nonneg _ (by omega)) (Int.emod_lt_of_pos _ h0)
/-! the folded cells -/
theorem cut_take (ns : List Int) (m : Nat) : cutV (ns.map V.int) none (some (m : Int)) = (ns.take m).map V.int := by
  unfold cutV
  rw [HT.sIx_none, HT.sIx_nat, List.drop_zero, List.length_map, Nat.sub_zero, ← List.map_take]
  congr 1
  by_cases h : m ≤ ns.length
  · rw [Nat.min_eq_left h]
  · rw [Nat.min_eq_right (by omega), List.take_length, List.take_of_length_le (by omega)]
theorem cut_rest (ns : List Int) (m k : Nat) : ∃ ms : List Int, cutV (ns.map V.int) (some (m : Int)) (some (k : Int)) = ms.map V.int ∧ (0 < ms.length → m < ns.length) ∧ ms.length ≤ ns.length := by
  unfold cutV
  rw [HT.sIx_nat, HT.sIx_nat, List.length_map]
  refine ⟨(ns.drop (min m ns.length)).take (min k ns.length - min m ns.length), ?_, fun h => ?_, ?_⟩
  · rw [List.map_take, List.map_drop]
  · rw [List.length_take, List.length_drop] at h
    omega
  · rw [List.length_take, List.length_drop]
    omega
def sp__law_folded (K : PySem.W.Frag) : Sp := fun vs H Q _ => ∃ (a : Addr) (ns : List Int) (m : Nat), vs = [.ref a, .int (m : Nat)] ∧ SqL K H a (ns.map V.int) ∧ ns.length ≤ 63 ∧ 0 < m ∧ m < 64 ∧
  ∀ H' p (cs : List Int), Same H H' → H p = none → H' p = some (.lst (cs.map V.int)) → cs.length ≤ m → Q (.ref p) H'
theorem ok__law_folded (T : Defs K mg) (TT : Tabs T base) : FnOk P w K mg base CX0 1 T.f__law_folded T.fd__law_folded ["_law_script", "_law_many"] (sp__law_folded K) := by
  refine T.F__law_folded.ok sc__law_folded (fun vs H Q E h => ?_) (fun cdv A outer s H vs Q E hr h => ?_)
  · obtain ⟨a, ns, m, rfl, hS, hlen, hm, hm2, q⟩ := h
    rfl
  · obtain ⟨a, ns, m, rfl, hS, hlen, hm, hm2, q⟩ := h
    refine ⟨_, PSs.nox (pss_cons (ps_set (i := 2) sc__law_folded.nd rfl (.inl rfl) (pe_callTy call_list_of (by rfl) T.m_list bt_list (pa_cons (pe_slice sl_list (pv 0) po_none (po_some (pv 1))) pa_nil)))
    (pss_cons (ps_for PassesOwn.never rfl (pi_enum (by rfl) T.m_enumerate (pa_cons (pe_slice sl_list (pv 0) (po_some (pv 1)) (po_some pe_int)) pa_nil)) (pg_tup rfl (pgs_cons (pg_name (i := 3) sc__law_folded.nd rfl (.inl rfl)) (pgs_cons (pg_name (i := 4) sc__law_folded.nd rfl (.inl rfl)) pgs_nil))) (pss_one (ps_asg (pe_op op_add (pe_ix ix_list (pv 2) (pe_op op_mod (pv 3) (pv 1)) (fun _ _ => rfl)) (pe_op op_mul (pv 4) (pe_op op_add (pv 3) pe_int))) (pg_sub (pv 2) (pe_op op_mod (pv 3) (pv 1)) set_list))))
    (pss_one (ps_ret (pv 2))))), ?_⟩
    refine ⟨.ref a, rfl, .int m, rfl, m, rfl, a, _, rfl, hS, fun c nc => ?_⟩
    rw [cut_take]
    have s1 : Same H (upd H c (.lst ((ns.take m).map V.int))) := same_upd nc
    refine ⟨c, _, rfl, .inl (SqL.mk upd_same), fun l nl => ?_⟩
    have s2 := s1.trans (same_upd nl (o := .lst ((ns.take m).map V.int)))
    refine ⟨.ref a, rfl, .int m, rfl, m, rfl, 63, rfl, a, _, rfl, s2.seq hS, fun d nd => ?_⟩
    obtain ⟨ms, em, hms, hms2⟩ := cut_rest ns m 63
    rw [show (63 : Int) = ((63 : Nat) : Int) from rfl, em]
    have nl0 : H l = none := s1.free nl
    have nd0 : H d = none := s2.free nd
    have ndl : l ≠ d := fun e => by
      rw [← e, upd_same] at nd
      cases nd
    refine ⟨d, _, rfl, SqL.mk upd_same, for_it (walk_enum (xs := ms.map V.int)) (fun i σ H3 => ∃ y3 y4, ∃ cs : List Int, σ = [some (.ref a), some (.int m), some (.ref l), y3, y4] ∧ Same H H3 ∧ H3 l = some (.lst (cs.map V.int)) ∧ cs.length = (ns.take m).length ∧ H3 d = some (.lst (ms.map V.int))) ⟨none, none, ns.take m, rfl, s2.trans (same_upd nd), ?_, rfl, upd_same⟩ ?_ ?_ ?_⟩
    · rw [upd_ne ndl, upd_same]
    · rintro i σ H3 hi ⟨y3, y4, cs, rfl, s3, hl, hc, hd⟩
      exact SqL.mk hd
    · rintro i x σ H3 H4 hi ⟨y3, y4, cs, rfl, s3, hl, hc, hd⟩ ⟨t, x1, x2, rfl, nt, rfl, e1, e2⟩
      rw [List.length_map] at hi
      have lm : m < ns.length := hms (by omega)
      have lc : cs.length = m := by
        rw [hc, List.length_take]
        omega
      have ex1 : x1 = .int (i : Nat) := (Option.some.inj e1).symm
      have ex2 : x2 = .int ms[i] := by
        have e2 : (ms.map V.int)[i]? = some x2 := e2
        rw [List.getElem?_map, List.getElem?_eq_getElem hi] at e2
        exact (Option.some.inj e2).symm
      subst ex1 ex2
      have hl1 : (upd H3 t (.tup [.int (i : Nat), .int ms[i]])) l = some (.lst (cs.map V.int)) := by
        rw [upd_ne (ne_of_none hl nt)]
        exact hl
      have him : i % m < cs.length := by
        rw [lc]
        exact Nat.mod_lt _ hm
      have eim : ((i : Int) % (m : Int)) = ((i % m : Nat) : Int) := by omega
      refine ⟨t, _, rfl, SqT.mk upd_same, rfl, _, _, rfl, _, _, rfl, rfl, ?_⟩
      refine ⟨.ref l, rfl, .int (i : Nat), rfl, .int m, rfl, _, _, rfl, rfl, (show (0 : Int) < (m : Int) by omega), l, _, _, .int cs[i % m], rfl, rfl, SqL.mk hl1, ?_, .int ms[i], rfl, .int (i : Nat), rfl, _, _, rfl, rfl, _, _, rfl, rfl, .inr ⟨by omega, by omega⟩, _, _, rfl, rfl, .ref l, rfl, .int (i : Nat), rfl, .int m, rfl, _, _, rfl, rfl, (show (0 : Int) < (m : Int) by omega), l, _, _, i % m, rfl, rfl, hl1, ?_, ?_⟩
      · rw [eim]
        exact atI_nat (by rw [List.getElem?_map, List.getElem?_eq_getElem him]; rfl)
      · rw [eim]
        exact ixn (by rw [List.length_map]; exact him)
      · refine ⟨_, _, cs.set (i % m) (cs[i % m] + ms[i] * ((i : Int) + 2)), rfl, same_newer (s3.trans (same_upd nt)) nl0, ?_, by rw [List.length_set, hc], ?_⟩
        · rw [upd_same, List.map_set]
        · rw [upd_ne ndl.symm, upd_ne (ne_of_none hd nt)]
          exact hd
    · rintro σ H3 ⟨y3, y4, cs, rfl, s3, hl, hc, hd⟩
      exact ⟨.ref l, rfl, q H3 l cs s3 nl0 hl (by rw [hc, List.length_take]; omega)⟩
/-! the program's own -/
theorem op_fdivNW {X : Cx} : OpR X (binaryOp .FloorDiv) (rI (fun _ j => j ≠ 0 ∧ j.natAbs.log2 < 9000) fun i j => .int (i.fdiv j)) := opI fun _ _ _ _ _ _ _ hc q => floordiv_int hc.1 q (.inl (PyProof.noPylong_of_log2 hc.2))
theorem gcd_step (x y : Nat) : Nat.gcd y (x % y) = Nat.gcd x y := by
  rw [Nat.gcd_comm y, ← Nat.gcd_rec, Nat.gcd_comm]
theorem gcd_small {t b : Int} (hb : b ≠ 0) (h : S 4000 b) : (Int.gcd t b : Int).natAbs.log2 < 9000 := by
  have h1 : Int.gcd t b ≤ b.natAbs := Nat.le_of_dvd (by omega) (Nat.gcd_dvd_right _ _)
  have h2 : 0 < Int.gcd t b := Int.gcd_pos_of_ne_zero_right t hb
  exact (wide_div (i := 0) (j := (Int.gcd t b : Int)) (b := 4000) (by omega) (by rw [Int.natAbs_natCast]; exact Nat.lt_of_le_of_lt h1 h) (by decide) (by decide)).2
def sp_common_divisor (_ : PySem.W.Frag) : Sp := fun vs H Q _ => ∃ a b : Int, vs = [.int a, .int b] ∧ Q (.int (if (1 : Int) > (Int.gcd a b : Int) then 1 else (Int.gcd a b : Int))) H
theorem ok_common_divisor (T : Defs K mg) (TT : Tabs T base) : FnOk P w K mg base CX0 1 T.f_common_divisor T.fd_common_divisor ["one", "other"] (sp_common_divisor K) := by
  refine T.F_common_divisor.ok sc_common_divisor (fun vs H Q E h => ?_) (fun cdv A outer s H vs Q E hr h => ?_)
  · obtain ⟨a, b, rfl, q⟩ := h
    rfl
  · obtain ⟨a, b, rfl, q⟩ := h
    refine ⟨_, PSs.nox (pss_cons (ps_set (i := 0) sc_common_divisor.nd rfl (.inl rfl) (pe_callB call_abs (by rfl) T.m_abs bt_abs (pa_cons (pv 0) pa_nil)))
    (pss_cons (ps_set (i := 1) sc_common_divisor.nd rfl (.inl rfl) (pe_callB call_abs (by rfl) T.m_abs bt_abs (pa_cons (pv 1) pa_nil)))
    (pss_cons (ps_while PassesOwn.never (pt_cmpR op_gt (pv 1) pe_int (nomark _)) (pss_one (ps_par (i := 0) (j := 1) (by rfl) sc_common_divisor.nd rfl rfl (by decide) rfl rfl (pa_cons (pv 1) (pa_cons (pe_op op_mod (pv 0) (pv 1)) pa_nil)) (by rfl))))
    (pss_one (ps_ret (pe_callB (call_max2 rfl) (by rfl) T.m_max bt_max (pa_cons (pv 0) (pa_cons pe_int pa_nil)))))))), ?_⟩
    refine ⟨.int a, rfl, a, rfl, .int b, rfl, b, rfl, ?_⟩
    refine while_by (fun σ H1 => H1 = H ∧ ∃ x y : Nat, σ = [some (.int (x : Nat)), some (.int (y : Nat))] ∧ Nat.gcd x y = Int.gcd a b) (fun σ _ => match σ with | [_, some (.int y)] => y.toNat | _ => 0) ⟨rfl, a.natAbs, b.natAbs, ?_, rfl⟩ ?_ ?_
    · rw [abs_eq, abs_eq]
      rfl
    · rintro σ H1 ⟨rfl, x, y, rfl, hg⟩
      refine ⟨.int (y : Nat), rfl, _, _, rfl, rfl, _, rfl, ite2 (fun e => ?_) (fun e => ?_)⟩
      · have hy : (0 : Int) < (y : Int) := of_decide_eq_true e
        refine ⟨.int (y : Nat), rfl, .int (x : Nat), rfl, .int (y : Nat), rfl, _, _, rfl, rfl, hy, _, _, rfl, ⟨rfl, y, x % y, ?_, ?_⟩, ?_⟩
        · rfl
        · rw [gcd_step, hg]
        · show ((x : Int) % (y : Int)).toNat < ((y : Int)).toNat
          have := Int.emod_lt_of_pos (x : Int) hy
          have := Int.emod_nonneg (x : Int) (show (y : Int) ≠ 0 by omega)
          omega
      · have hy : ¬ (0 : Int) < (y : Int) := fun z => e (decide_eq_true z)
        have y0 : y = 0 := by omega
        subst y0
        rw [Nat.gcd_zero_right] at hg
        refine ⟨.int (x : Nat), rfl, _, _, rfl, ?_⟩
        rw [hg]
        exact q
    · rintro σ H1 Q1 Q2 hQ ⟨v, hv, i, j, e1, e2, k, e3, h3⟩
      exact ⟨v, hv, i, j, e1, e2, k, e3, hQ _ _ h3⟩
def sp_fraction (_ : PySem.W.Frag) : Sp := fun vs H Q _ => ∃ t b : Int, vs = [.int t, .int b] ∧ b ≠ 0 ∧ S 4000 b ∧ ∀ H' p, Same H H' → H p = none → H' p = some (.tup [.int (frT t b), .int (frB t b)]) → Q (.ref p) H'
theorem ok_fraction (T : Defs K mg) (TT : Tabs T base) : FnOk P w K mg base CX0 2 T.f_fraction T.fd_fraction ["top", "bottom"] (sp_fraction K) := by
  have G_common_divisor : FnOk P w K mg base CX0 1 T.f_common_divisor T.fd_common_divisor ["one", "other"] (sp_common_divisor K) := ok_common_divisor T TT
  refine T.F_fraction.ok sc_fraction (fun vs H Q E h => ?_) (fun cdv A outer s H vs Q E hr h => ?_)
  · obtain ⟨t, b, rfl, hb, hs, q⟩ := h
    rfl
  · obtain ⟨t, b, rfl, hb, hs, q⟩ := h
    refine ⟨_, PSs.nox (pss_cons (ps_set (i := 2) sc_fraction.nd rfl (.inl rfl) (pe_call G_common_divisor (hr.mono (by decide)) (by rfl) T.g_common_divisor T.F_common_divisor.kp T.b_common_divisor .nil pass0 (pa_cons (pv 0) (pa_cons (pv 1) pa_nil))))
    (pss_cons (ps_if (pt_cmpR op_lt (pv 1) pe_int (nomark _)) (pss_one (ps_set (i := 2) sc_fraction.nd rfl (.inl rfl) (pe_un un_neg (pv 2)))) pss_nil)
    (pss_one (ps_ret (pe_tup (pa_cons (pe_op op_fdivNW (pv 0) (pv 2)) (pa_cons (pe_op op_fdivNW (pv 1) (pv 2)) pa_nil))))))), ?_⟩
    have hg : 0 < Int.gcd t b := Int.gcd_pos_of_ne_zero_right t hb
    have hd := gcd_small (t := t) hb hs
    refine ⟨.int t, rfl, .int b, rfl, t, b, rfl, ?_⟩
    rw [if_neg (show ¬ (1 : Int) > (Int.gcd t b : Int) by omega)]
    refine ⟨.int b, rfl, _, _, rfl, rfl, _, rfl, ite2 (fun e => ?_) (fun e => ?_)⟩
    · have hb1 : b < 0 := of_decide_eq_true e
      refine ⟨_, rfl, _, rfl, .int t, rfl, _, rfl, _, _, rfl, rfl, ⟨by omega, by rw [Int.natAbs_neg]; exact hd⟩, .int b, rfl, _, rfl, _, _, rfl, rfl, ⟨by omega, by rw [Int.natAbs_neg]; exact hd⟩, (show 2 ≤ sizeLine by decide), fun p np => ?_⟩
      refine q _ p (same_upd np) np ?_
      rw [upd_same]
      exact congrArg some (by rw [← (fr_lt t hb1).1, ← (fr_lt t hb1).2])
    · have hb1 : ¬ b < 0 := fun z => e (decide_eq_true z)
      refine ⟨.int t, rfl, _, rfl, _, _, rfl, rfl, ⟨by omega, hd⟩, .int b, rfl, _, rfl, _, _, rfl, rfl, ⟨by omega, hd⟩, (show 2 ≤ sizeLine by decide), fun p np => ?_⟩
      refine q _ p (same_upd np) np ?_
      rw [upd_same]
      exact congrArg some (by rw [← (fr_ge t (show 0 < b by omega)).1, ← (fr_ge t (show 0 < b by omega)).2])
/-! match x: case (word, names ..) -/
abbrev TCs := Addr → List V → TS
structure PCs (X : Cx) (cs : List MatchCase) (t : TCs) : Prop where
  run : ∀ (pins : List (Addr × Obj)) (s : Shared) (σ : L2.St) (H : Hp) (D : L2.Ends) (a : Addr) (xs : List V) (first : Bool), Inv X pins σ H s → SqT X.K H a xs → t a xs D σ H →
    wpAny (model X.prog X.w) X.A (matchCases cs X.env (.ref a) first) (SP X pins D) X.xe s
def tMatch (K : PySem.W.Frag) (te : TE) (tc : TCs) : TS := fun D σ H => te σ H fun v H1 => ∃ a xs, v = .ref a ∧ SqT K H1 a xs ∧ tc a xs D σ H1
theorem ps_match {X : Cx} {e : Expr} {cs : List MatchCase} {pos : Pos} {te : TE} {tc : TCs} (he : PE X e te) (hc : PCs X cs tc) : PS X (.Match e cs pos) (tMatch X.K te tc) := by
  refine ⟨fun pins s σ H D I h => ?_⟩
  refine wpAny_Match (thn (he.run pins s σ H _ I h) fun v s1 ⟨x, H1, I1, r1, a, xs, e1, hq, q⟩ => ?_)
  subst e1
  cases r1
  exact hc.run pins s1 σ H1 D a xs true I1 hq q
theorem pcs_nil {X : Cx} : PCs X [] (fun _ _ D σ H => D.nx σ H) := ⟨fun _ _ σ H _ _ _ _ I _ h => wpAny_matchCases_nil ⟨σ, H, I, h⟩⟩
theorem pcs_any {X : Cx} {body : List Stmt} {rest : List MatchCase} {pos : Pos} {tb : TS} (hb : PSs X body tb) : PCs X (⟨.MatchAs none none pos, none, body⟩ :: rest) (fun _ _ => tb) := by
  refine ⟨fun pins s σ H D a xs first I hq h => wpAny_matchCases_cons (wpAny_matchPattern_Capture ?_)⟩
  exact wpAny_assignInOrder_none (hb.run pins s σ H D I h)
/-- the slots i .. get the values .. in turn -/
def sets (σ : L2.St) : List Nat → List V → L2.St
  | i :: is, v :: vs => sets (σ.set i (some v)) is vs
  | _, _ => σ
structure PCap (X : Cx) (ps : List Pattern) (ns : List (Nat × Str)) : Prop where
  each : ∀ (s : Shared) (us : List Value) (Q : Option (List (Str × Value)) → Shared → Prop), us.length = ns.length → Q (some (List.zipWith (fun n u => (n.2, u)) ns us)) s → wpAny (model X.prog X.w) X.A (matchEach ps X.env us) Q X.xe s
  slot : ∀ n, n ∈ ns → X.N[n.1]? = some n.2 ∧ Loc X.env.scope n.2 ∧ (X.fn n.2 = true ∨ X.env.scope.names.lookup n.2 = some .local)
  len : ps.length = ns.length
theorem pcap_nil {X : Cx} : PCap X [] [] := ⟨fun s us Q hl h => wpAny_matchEach_nil (by
  rw [show us = [] from List.eq_nil_of_length_eq_zero hl] at h
  exact h), fun n hn => (by cases hn), rfl⟩
theorem pcap_cons {X : Cx} {i : Nat} {x : Str} {pos : Pos} {ps : List Pattern} {ns : List (Nat × Str)} (hi : X.N[i]? = some x) (hx : Loc X.env.scope x) (h : PCap X ps ns) (hf : X.fn x = true ∨ X.env.scope.names.lookup x = some .local := by first | exact .inl rfl | exact .inr rfl | assumption) :
    PCap X (.MatchAs none (some x) pos :: ps) ((i, x) :: ns) := by
  refine ⟨fun s us Q hl hQ => ?_, fun n hn => ?_, ?_⟩
  · match us, hl with
    | u :: us, hl =>
      refine wpAny_matchEach_cons (wpAny_matchPattern_Capture ?_)
      refine h.each s us _ (Nat.succ.inj hl) ?_
      exact hQ
  · rcases List.mem_cons.mp hn with rfl | hn
    · exact ⟨hi, hx, hf⟩
    · exact h.slot n hn
  · rw [List.length_cons, List.length_cons, h.len]
theorem bind_all {X : Cx} {pins : List (Addr × Obj)} {H : Hp} (hN : X.N.Nodup) : ∀ (ns : List (Nat × Str)) (us : List Value) (vs : List V) (σ : L2.St) (s : Shared) (Q : Unit → Shared → Prop),
    (∀ n, n ∈ ns → X.N[n.1]? = some n.2 ∧ Loc X.env.scope n.2 ∧ (X.fn n.2 = true ∨ X.env.scope.names.lookup n.2 = some .local)) → us.length = ns.length → Vals vs us → Inv X pins σ H s → (∀ s', Inv X pins (sets σ (ns.map Prod.fst) vs) H s' → Q () s') →
    wpAny (model X.prog X.w) X.A (assignInOrder ((List.zipWith (fun (n : Nat × Str) u => (n.2, u)) ns us).map fun (n, _) => bindName X.env n) ((List.zipWith (fun (n : Nat × Str) u => (n.2, u)) ns us).map (·.2))) Q X.xe s
  | [], us, vs, σ, s, Q, _, hl, r, I, q => by
    have e : us = [] := List.eq_nil_of_length_eq_zero hl
    subst e
    cases r
    exact wpAny_assignInOrder_none (q s I)
  | n :: ns, us, vs, σ, s, Q, hs, hl, r, I, q => by
    match us, vs, hl, r with
    | u :: us, v :: vs, hl, .cons r1 r2 =>
      obtain ⟨h1, h2, h3⟩ := hs n List.mem_cons_self
      refine wpAny_assignInOrder_more (wpAny_bindName (store_ok I hN h1 h2 r1 (fun s1 I1 => ?_) h3))
      exact bind_all hN ns us vs _ s1 Q (fun m hm => hs m (List.mem_cons_of_mem _ hm)) (Nat.succ.inj hl) r2 I1 q
def tCase (word : Str) (is : List Nat) (tb : TS) (rest : TCs) : TCs := fun a xs D σ H =>
  (xs.length ≠ is.length + 1 ∧ rest a xs D σ H) ∨ ∃ z ys, xs = .str z :: ys ∧ ys.length = is.length ∧ ((z = word ∧ tb D (sets σ is ys) H) ∨ (z ≠ word ∧ rest a xs D σ H))
theorem pcs_seq {X : Cx} {e : Expr} {word : Str} {vp sp : Pos} {ps : List Pattern} {ns : List (Nat × Str)} {body : List Stmt} {rest : List MatchCase} {tb : TS} {tr : TCs} (hc : X.calm = true) (hN : X.N.Nodup) (hw : PE X e (tC (.str word))) (hcap : PCap X ps ns) (hb : PSs X body tb) (hr : PCs X rest tr)
    (hstar : (.MatchValue e vp :: ps).findIdx? (·.isStar) = none := by rfl) (hwild : ((.MatchValue e vp :: ps).all fun p => p.isWildcard || (p.isStar && p.names.isEmpty)) = false := by rfl) :
    PCs X (⟨.MatchSequence (.MatchValue e vp :: ps) sp, none, body⟩ :: rest) (tCase word (ns.map Prod.fst) tb tr) := by
  refine ⟨fun pins s σ H D a xs first I hq h => ?_⟩
  obtain ⟨its, rv, ht, hz⟩ := I.tuple hq
  have hl := rv.length
  have hsl : sizeLine = 16777216 := by decide
  have hfit : ((its.toArray.size : Nat) : Int) < 2 ^ 63 := by
    rw [List.size_toArray]
    omega
  have lp := hcap.len
  have miss : ∀ s', Inv X pins σ H s' → tr a xs D σ H → wpAny (model X.prog X.w) X.A (matchCases rest X.env (.ref a) false) (SP X pins D) X.xe s' := fun s' I' q => hr.run pins s' σ H D a xs false I' hq q
  refine wpAny_matchCases_cons ?_
  rcases h with ⟨hn, h⟩ | ⟨z, ys, rfl, hn, h⟩
  · rw [List.length_map] at hn
    refine matchSeq_tuple_miss ht hfit (by rw [List.size_toArray, List.length_cons]; omega) ?_ hstar hwild
    exact miss _ (I.kept (t' := s.toks + 1 + 1) fun b o q => q) h
  · rw [List.length_map] at hn
    rw [List.length_cons] at hl
    refine matchSeq_tuple_hit ht hfit (by rw [List.size_toArray, List.length_cons]; omega) ?_ hstar hwild
    have e1 : (Pattern.MatchValue e vp :: ps).length = its.toArray.size := by
      rw [List.size_toArray, List.length_cons]
      omega
    have key : ∀ s2 : Shared, Inv X pins σ H s2 → wpAny (model X.prog X.w) X.A (matchEach (.MatchValue e vp :: ps) X.env its) (fun r s₁ => match r with
        | none => wpAny (model X.prog X.w) X.A (matchCases rest X.env (.ref a) false) (SP X pins D) X.xe s₁
        | some bs => wpAny (model X.prog X.w) X.A (assignInOrder (bs.map fun (n, _) => bindName X.env n) (bs.map (·.2))) (fun _ s₂ => wpAny (model X.prog X.w) X.A (execs body X.env) (SP X pins D) X.xe s₂) X.xe s₁) X.xe s2 := fun s2 I1 => by
      clear e1 hfit hz ht
      match its, rv, hl with
      | u :: us, .cons r1 r2, hl =>
        refine wpAny_matchEach_cons (wpAny_matchPattern_Value ?_)
        refine thn (hw.run pins s2 σ H (fun v H' => v = .str word ∧ H' = H) I1 ⟨rfl, rfl⟩) fun c s3 ⟨x, H3, I3, r3, e3, e4⟩ => ?_
        subst e3 e4
        refine thn (op_eq pins s3 σ H3 (.str z) (.str word) u c (fun v H' => v = .bl (decide (V.str z = V.str word)) ∧ H' = H3) I3 r1 r3 ⟨rfl, rfl, rfl⟩) fun d s4 ⟨y, H4, I4, r4, e5, e6⟩ => ?_
        subst e5 e6
        obtain rfl : d = Value.bool (decide (V.str z = V.str word)) := r4
        refine wpAny_truthy_bool ?_
        rcases h with ⟨rfl, h⟩ | ⟨ne, h⟩
        · rw [if_pos (decide_eq_true rfl)]
          have ul : us.length = ns.length := by
            have := r2.length
            omega
          refine hcap.each s4 us _ ul ?_
          show wpAny _ _ (assignInOrder _ _) _ _ s4
          exact bind_all hN ns us ys σ s4 _ hcap.slot ul r2 I4 fun s5 I5 => hb.run pins s5 _ H4 D I5 h
        · rw [if_neg (fun y => ne (V.str.inj (of_decide_eq_true y)))]
          exact miss s4 I4 h
    rw [e1]
    refine unpackItems_tuple (I.ok.hd hc) ht fun h' hx => ?_
    have I1 : Inv X pins σ H { s with heap := h', toks := s.toks + 1 + 1 } := I.kept (t' := s.toks + 1 + 1) fun b o q => hx b o (Nat.ne_of_lt (Heap.lt_size q)) q
    refine key _ ?_
    exact I1
/-! max(tuple), max(tuple, default=d) -/
def rMaxT (K : PySem.W.Frag) : List V → Hp → VK → Prop := fun vs H Q => ∃ (a : Addr) (ns : List Int), vs = [V.ref a] ∧ SqT K H a (ns.map V.int) ∧ 0 < ns.length ∧ ∀ m, m ∈ ns → (∀ y, y ∈ ns → y ≤ m) → Q (.int m) H
theorem best_in {ns : List Int} (h : 0 < ns.length) : ns.getD (argBest (fun i j => decide (ns.getD i 0 > ns.getD j 0)) (ns.length - 1)) 0 ∈ ns ∧ ∀ y, y ∈ ns → y ≤ ns.getD (argBest (fun i j => decide (ns.getD i 0 > ns.getD j 0)) (ns.length - 1)) 0 := by
  obtain ⟨h1, h2⟩ := argBest_gt (fun i => ns.getD i 0) (ns.length - 1)
  refine ⟨?_, fun y hy => ?_⟩
  · generalize argBest (fun i j => decide (ns.getD i 0 > ns.getD j 0)) (ns.length - 1) = k at h1
    have hk : k < ns.length := by omega
    rw [List.getD_eq_getElem?_getD, List.getElem?_eq_getElem hk]
    exact List.getElem_mem hk
  · obtain ⟨j, hj, rfl⟩ := List.getElem_of_mem hy
    have := h2 j (by omega)
    have e : ns.getD j 0 = ns[j] := by
      rw [List.getD_eq_getElem?_getD, List.getElem?_eq_getElem hj]
      rfl
    rw [← e]
    exact this
theorem ints_at {its : List Value} {ns : List Int} (rv : Vals (ns.map V.int) its) : ∀ (i : Nat) (v : Value), its.toArray[i]? = some v → ∃ t, v = Value.int (ns.getD i 0) t := fun i v hv => by
  have hv2 : its[i]? = some v := by simpa using hv
  have hl := rv.length
  rw [List.length_map] at hl
  have hi : i < ns.length := by
    have := (List.getElem?_eq_some_iff.mp hv2).1
    omega
  obtain ⟨u, hu, ru⟩ := rv.get (show (ns.map V.int)[i]? = some (V.int ns[i]) by rw [List.getElem?_map, List.getElem?_eq_getElem hi]; rfl)
  rw [hv2] at hu
  cases hu
  obtain ⟨t, rfl⟩ := (show ∃ t, v = Value.int ns[i] t from ru)
  exact ⟨t, by
    show Value.int ns[i] t = Value.int (ns.getD i 0) t
    rw [List.getD_eq_getElem?_getD, List.getElem?_eq_getElem hi]
    rfl⟩
theorem cr_maxT {X : Cx} (hc : X.calm = true) : CallR X (.builtin "max") (rMaxT X.K) := by
  intro pins s σ H vs us Q I r h
  obtain ⟨a, ns, rfl, hs, hne, q⟩ := h
  obtain ⟨its, rv, ht, _⟩ := I.tuple hs
  rw [Vals.ref1 r]
  have hh := I.ok.hd hc
  have lta : a < s.heap.objs.size := by
    obtain ⟨o, ho, _⟩ := id ht
    exact Heap.lt_size ho
  have hl := rv.length
  rw [List.length_map] at hl
  have hz : its.toArray.size = ns.length := by rw [List.size_toArray, hl]
  refine call_max_walk (wpAny_pyIter_tuple (show s.heap.IsTuple a its.toArray from ht) ⟨s.heap.objs.size, _, _, _, _, _, fun i j => decide (ns.getD i 0 > ns.getD j 0), rfl, Walks.tuple (A := X.A.in1) hh s.heap.objs.size a (Nat.ne_of_lt lta) its.toArray, ⟨⟨_, Heap.get?_push_size _ rfl, rfl, rfl⟩, (show s.heap.IsTuple a its.toArray from ht).at fun o e => Heap.get?_push_of_some _ e⟩, fun b hb => ?_, by rw [hz]; exact hne, CmpOf.ints_gt (fun i => ns.getD i 0) (ints_at rv), fun v h' tk hP hk => ?_⟩)
  · show b < (s.heap.push _).objs.size
    rw [Heap.size_push]
    rcases List.mem_cons.mp hb with z | z
    · rw [z]
      exact Nat.lt_succ_self _
    · rw [List.mem_singleton.mp z]
      exact Nat.lt_succ_of_lt lta
  · obtain ⟨t, rfl⟩ := ints_at rv _ _ hP
    rw [hz]
    obtain ⟨b1, b2⟩ := best_in hne
    refine ⟨.int _, H, I.kept fun b o e => hk b o (fun z => ?_) (Heap.get?_push_of_some _ e), ⟨_, rfl⟩, q _ b1 b2⟩
    rw [List.mem_singleton] at z
    rw [z] at e
    exact Nat.lt_irrefl _ (Heap.lt_size e)
theorem cr_maxTD {X : Cx} (hc : X.calm = true) : CallRK X (.builtin "max") [Str.ofString "default"] (fun vs zs H Q => (∃ z, zs = [z]) ∧ rMaxT X.K vs H Q) := by
  intro pins s σ H vs zs us ws Q I r rz h
  obtain ⟨⟨z, rfl⟩, a, ns, rfl, hs, hne, q⟩ := h
  obtain ⟨its, rv, ht, _⟩ := I.tuple hs
  rw [Vals.ref1 r]
  match ws, rz with
  | [d], .cons rd .nil =>
    have hh := I.ok.hd hc
    have lta : a < s.heap.objs.size := by
      obtain ⟨o, ho, _⟩ := id ht
      exact Heap.lt_size ho
    have hl := rv.length
    rw [List.length_map] at hl
    have hz : its.toArray.size = ns.length := by rw [List.size_toArray, hl]
    have none : ∀ (b : Addr) (o : Obj), ({ s.heap with objs := #[] } : Heap).get? b = some o → False := fun b o e => by
      have := Heap.lt_size e
      exact Nat.not_lt_zero _ this
    refine call_max_walkD (wpAny_pyIter_tuple (show s.heap.IsTuple a its.toArray from ht) ⟨s.heap.objs.size, _, _, _, _, _, _, { s.heap with objs := #[] }, fun i j => decide (ns.getD i 0 > ns.getD j 0), rfl, (Walks.tuple (A := X.A.in1) hh s.heap.objs.size a (Nat.ne_of_lt lta) its.toArray).toS, ⟨⟨_, Heap.get?_push_size _ rfl, rfl, rfl⟩, (show s.heap.IsTuple a its.toArray from ht).at fun o e => Heap.get?_push_of_some _ e⟩, fun b hb => ?_, fun b o e => (none b o e).elim, fun b o e => (none b o e).elim, fun e => by rw [hz] at e; omega, fun _ => ⟨fun i j vi vj s' Q' E' _ hi hj hq => CmpOf.ints_gt (fun i => ns.getD i 0) (ints_at rv) i j vi vj s' Q' E' hi hj hq, fun v s' hP hm => ?_⟩⟩)
    · show b < (s.heap.push _).objs.size
      rw [Heap.size_push]
      rcases List.mem_cons.mp hb with z | z
      · rw [z]
        exact Nat.lt_succ_self _
      · rw [List.mem_singleton.mp z]
        exact Nat.lt_succ_of_lt lta
    · obtain ⟨t, rfl⟩ := ints_at rv _ _ hP
      rw [hz]
      obtain ⟨b1, b2⟩ := best_in hne
      obtain ⟨h', g', d', t', o'⟩ := s'
      have eg : g' = s.gens := hm.gens
      have ed : d' = s.drawn := hm.drawn
      have eo : o' = s.os := hm.os
      subst eg ed eo
      refine ⟨.int _, H, I.kept (h' := h') (t' := t') fun b o e => hm.heap b o (fun z => ?_) (Heap.get?_push_of_some _ e), ⟨_, rfl⟩, q _ b1 b2⟩
      rw [List.mem_singleton] at z
      rw [z] at e
      exact Nat.lt_irrefl _ (Heap.lt_size e)
/-! sum(tuple) -/
theorem preSum_take (ns : List Int) : ∀ k, preSum (fun i => ns.getD i 0) k = (ns.take k).sum
  | 0 => rfl
  | k + 1 => by
    show preSum (fun i => ns.getD i 0) k + ns.getD k 0 = _
    rw [preSum_take ns k, List.take_add_one, List.getD_eq_getElem?_getD]
    cases ns[k]? with
    | none => simp
    | some x => simp
def rSumT (K : PySem.W.Frag) : List V → Hp → VK → Prop := fun vs H Q => ∃ (a : Addr) (ns : List Int), vs = [V.ref a] ∧ SqT K H a (ns.map V.int) ∧ Q (.int ns.sum) H
theorem cr_sumT {X : Cx} (hc : X.calm = true) : CallR X (.builtin "sum") (rSumT X.K) := by
  intro pins s σ H vs us Q I r h
  obtain ⟨a, ns, rfl, hs, q⟩ := h
  obtain ⟨its, rv, ht, _⟩ := I.tuple hs
  rw [Vals.ref1 r]
  have hh := I.ok.hd hc
  have lta : a < s.heap.objs.size := by
    obtain ⟨o, ho, _⟩ := ht
    exact Heap.lt_size ho
  have hl := rv.length
  rw [List.length_map] at hl
  refine call_sum_walkG (wpAny_pyIter_tuple (show s.heap.IsTuple a its.toArray from ht) ⟨s.heap.objs.size, _, _, _, _, _, fun i => ns.getD i 0, rfl, Walks.tuple (A := X.A.in1) hh s.heap.objs.size a (Nat.ne_of_lt lta) its.toArray, ⟨⟨_, Heap.get?_push_size _ rfl, rfl, rfl⟩, (show s.heap.IsTuple a its.toArray from ht).at fun o e => Heap.get?_push_of_some _ e⟩, fun b hb => ?_, fun i v hv => ?_, fun h' tk t' hk => ?_⟩)
  · show b < (s.heap.push _).objs.size
    rw [Heap.size_push]
    rcases List.mem_cons.mp hb with z | z
    · rw [z]
      exact Nat.lt_succ_self _
    · rw [List.mem_singleton.mp z]
      exact Nat.lt_succ_of_lt lta
  · have hv2 : its[i]? = some v := by simpa using hv
    have hi : i < ns.length := by
      have := (List.getElem?_eq_some_iff.mp hv2).1
      omega
    obtain ⟨u, hu, ru⟩ := rv.get (show (ns.map V.int)[i]? = some (V.int ns[i]) by rw [List.getElem?_map, List.getElem?_eq_getElem hi]; rfl)
    rw [hv2] at hu
    cases hu
    obtain ⟨t, rfl⟩ := (show ∃ t, v = Value.int ns[i] t from ru)
    exact ⟨t, by
      show Value.int ns[i] t = Value.int (ns.getD i 0) t
      rw [List.getD_eq_getElem?_getD, List.getElem?_eq_getElem hi]
      rfl⟩
  · rw [preSum_take, List.take_of_length_le (by rw [List.size_toArray]; omega)]
    refine ⟨.int _, H, I.kept fun b o e => hk b o (fun z => ?_) (Heap.get?_push_of_some _ e), ⟨_, rfl⟩, q⟩
    rw [List.mem_singleton] at z
    rw [z] at e
    exact Nat.lt_irrefl _ (Heap.lt_size e)
theorem sumTK {X : Cx} {K : PySem.W.Frag} (h : X.K = K) (hc : X.calm = true) : CallR X (.builtin "sum") (rSumT K) := by
  subst h
  exact cr_sumT hc
/-! the law's lowest terms -/
def sp__law_lowest (_ : PySem.W.Frag) : Sp := fun vs H Q _ => ∃ t b : Int, vs = [.int t, .int b] ∧ 0 ≤ t ∧ 0 < b ∧ S 4000 b ∧ ∀ H' p, Same H H' → H p = none → H' p = some (.tup [.int (frT t b), .int (frB t b)]) → Q (.ref p) H'
theorem ok__law_lowest (T : Defs K mg) (TT : Tabs T base) : FnOk P w K mg base CX0 1 T.f__law_lowest T.fd__law_lowest ["_law_top", "_law_bottom"] (sp__law_lowest K) := by
  refine T.F__law_lowest.ok sc__law_lowest (fun vs H Q E h => ?_) (fun cdv A outer s H vs Q E hr h => ?_)
  · obtain ⟨t, b, rfl, ht, hb, hs, q⟩ := h
    rfl
  · obtain ⟨t, b, rfl, ht, hb, hs, q⟩ := h
    refine ⟨_, PSs.nox (pss_cons (ps_par (i := 2) (j := 3) (by rfl) sc__law_lowest.nd rfl rfl (by decide) rfl rfl (pa_cons (pv 0) (pa_cons (pv 1) pa_nil)) (by rfl))
    (pss_cons (ps_while PassesOwn.never (pt_cmpR op_gt (pv 3) pe_int (nomark _)) (pss_one (ps_par (i := 2) (j := 3) (by rfl) sc__law_lowest.nd rfl rfl (by decide) rfl rfl (pa_cons (pv 3) (pa_cons (pe_op op_mod (pv 2) (pv 3)) pa_nil)) (by rfl))))
    (pss_one (ps_ret (pe_tup (pa_cons (pe_op op_fdivNW (pv 0) (pv 2)) (pa_cons (pe_op op_fdivNW (pv 1) (pv 2)) pa_nil))))))), ?_⟩
    refine ⟨.int t, rfl, .int b, rfl, _, _, rfl, ?_⟩
    refine while_by (fun σ H1 => H1 = H ∧ ∃ x y : Nat, σ = [some (.int t), some (.int b), some (.int (x : Nat)), some (.int (y : Nat))] ∧ Nat.gcd x y = Int.gcd t b) (fun σ _ => match σ with | [_, _, _, some (.int y)] => y.toNat | _ => 0) ⟨rfl, t.natAbs, b.natAbs, ?_, rfl⟩ ?_ ?_
    · rw [Int.natAbs_of_nonneg ht, Int.natAbs_of_nonneg (Int.le_of_lt hb)]
      rfl
    · rintro σ H1 ⟨rfl, x, y, rfl, hg⟩
      refine ⟨.int (y : Nat), rfl, _, _, rfl, rfl, _, rfl, ite2 (fun e => ?_) (fun e => ?_)⟩
      · have hy : (0 : Int) < (y : Int) := of_decide_eq_true e
        refine ⟨.int (y : Nat), rfl, .int (x : Nat), rfl, .int (y : Nat), rfl, _, _, rfl, rfl, hy, _, _, rfl, ⟨rfl, y, x % y, ?_, ?_⟩, ?_⟩
        · rfl
        · rw [gcd_step, hg]
        · show ((x : Int) % (y : Int)).toNat < ((y : Int)).toNat
          have := Int.emod_lt_of_pos (x : Int) hy
          have := Int.emod_nonneg (x : Int) (show (y : Int) ≠ 0 by omega)
          omega
      · have hy : ¬ (0 : Int) < (y : Int) := fun z => e (decide_eq_true z)
        have y0 : y = 0 := by omega
        subst y0
        rw [Nat.gcd_zero_right] at hg
        subst hg
        have hp : 0 < Int.gcd t b := Int.gcd_pos_of_ne_zero_right t (by omega)
        have hd := gcd_small (t := t) (show b ≠ 0 by omega) hs
        refine ⟨.int t, rfl, .int (Int.gcd t b : Nat), rfl, _, _, rfl, rfl, ⟨by omega, hd⟩, .int b, rfl, .int (Int.gcd t b : Nat), rfl, _, _, rfl, rfl, ⟨by omega, hd⟩, (show 2 ≤ sizeLine by decide), fun p np => ?_⟩
        refine q _ p (same_upd np) np ?_
        rw [upd_same]
        exact congrArg some (by rw [← (fr_ge t hb).1, ← (fr_ge t hb).2])
    · rintro σ H1 Q1 Q2 hQ ⟨v, hv, i, j, e1, e2, k, e3, h3⟩
      exact ⟨v, hv, i, j, e1, e2, k, e3, hQ _ _ h3⟩
/-! what a register holds -/
def parF : Nat → Nat → Nat
  | 0, _ => 0
  | f + 1, n => (n % 2 + parF f (n / 2)) % 2
def par (n : Nat) : Nat := parF 7 n
def regS (w p x : Nat) : Nat := 2 * x % 2 ^ w + par (x &&& p)
def regA (w p s : Nat) : Nat → Nat
  | 0 => s
  | k + 1 => regS w p (regA w p s k)
def regI (w p z : Nat) : Nat := z / 2 + 2 ^ (w - 1) * ((z % 2 + par ((z / 2) &&& p)) % 2)
theorem par_lt (n : Nat) : par n < 2 := Nat.mod_lt _ (by decide)
theorem regS_lt {w p x : Nat} (hw : 1 ≤ w) : regS w p x < 2 ^ w := by
  unfold regS
  have h1 := par_lt (x &&& p)
  have h2 := Nat.mod_lt (2 * x) (Nat.two_pow_pos w)
  obtain ⟨v, rfl⟩ : ∃ v, w = v + 1 := ⟨w - 1, by omega⟩
  rw [Nat.pow_succ] at *
  have : 2 * x % (2 ^ v * 2) % 2 = 0 := by
    rw [Nat.mod_mul_left_mod]
    omega
  omega
theorem reg_back2 : ∀ p, p < 4 → 2 ≤ p → ∀ x, x < 4 → regI 2 p (regS 2 p x) = x := by decide +kernel
theorem reg_back3 : ∀ p, p < 8 → 4 ≤ p → ∀ x, x < 8 → regI 3 p (regS 3 p x) = x := by decide +kernel
theorem reg_back4 : ∀ p, p < 16 → 8 ≤ p → ∀ x, x < 16 → regI 4 p (regS 4 p x) = x := by decide +kernel
theorem reg_back5 : ∀ p, p < 32 → 16 ≤ p → ∀ x, x < 32 → regI 5 p (regS 5 p x) = x := by decide +kernel
theorem reg_back6 : ∀ p, p < 64 → 32 ≤ p → ∀ x, x < 64 → regI 6 p (regS 6 p x) = x := by decide +kernel
structure RgW (w p : Nat) : Prop where
  lo : 2 ≤ w
  hi : w ≤ 6
  pl : 2 ^ (w - 1) ≤ p
  ph : p < 2 ^ w
theorem reg_back {w p x : Nat} (h : RgW w p) (hx : x < 2 ^ w) : regI w p (regS w p x) = x := by
  obtain ⟨h1, h2, h3, h4⟩ := h
  match w, h1, h2 with
  | 2, _, _ => exact reg_back2 p h4 h3 x hx
  | 3, _, _ => exact reg_back3 p h4 h3 x hx
  | 4, _, _ => exact reg_back4 p h4 h3 x hx
  | 5, _, _ => exact reg_back5 p h4 h3 x hx
  | 6, _, _ => exact reg_back6 p h4 h3 x hx
theorem regA_lt {w p s : Nat} (h : RgW w p) (hs : s < 2 ^ w) : ∀ k, regA w p s k < 2 ^ w
  | 0 => hs
  | _ + 1 => regS_lt (by have := h.lo; omega)
theorem reg_inj {w p x y : Nat} (h : RgW w p) (hx : x < 2 ^ w) (hy : y < 2 ^ w) (e : regS w p x = regS w p y) : x = y := by
  rw [← reg_back h hx, e, reg_back h hy]
theorem regA_back {w p s : Nat} (h : RgW w p) (hs : s < 2 ^ w) : ∀ i d, regA w p s (i + d) = regA w p s i → regA w p s d = s
  | 0, d, e => by rw [Nat.zero_add] at e; exact e
  | i + 1, d, e => by
    rw [show i + 1 + d = (i + d) + 1 by omega] at e
    exact regA_back h hs i d (reg_inj h (regA_lt h hs _) (regA_lt h hs _) e)
theorem regA_zero {w p s : Nat} (h : RgW w p) (hs : s < 2 ^ w) (s0 : 0 < s) : ∀ k, 0 < regA w p s k
  | 0 => s0
  | k + 1 => by
    rcases Nat.eq_zero_or_pos (regA w p s (k + 1)) with z | z
    · exfalso
      have ih := regA_zero h hs s0 k
      have e0 : regS w p 0 = 0 := by
        unfold regS
        rw [Nat.mul_zero, Nat.zero_mod, Nat.zero_and]
        rfl
      have : regA w p s k = 0 := reg_inj h (regA_lt h hs k) (Nat.two_pow_pos w) (by rw [e0]; exact z)
      omega
    · exact z
theorem pigeon : ∀ (n : Nat) (l : List Nat), l.Nodup → (∀ x, x ∈ l → x < n) → l.length ≤ n
  | 0, l, _, h => by
    cases l with
    | nil => exact Nat.le_refl 0
    | cons x r => exact absurd (h x List.mem_cons_self) (Nat.not_lt_zero _)
  | n + 1, l, hd, h => by
    by_cases hm : n ∈ l
    · have h1 := pigeon n (l.erase n) (hd.erase n) fun x hx => by
        have h2 := (hd.mem_erase_iff).mp hx
        have := h x h2.2
        omega
      rw [List.length_erase_of_mem hm] at h1
      omega
    · have h1 := pigeon n l hd fun x hx => by
        have := h x hx
        have : x ≠ n := fun e => hm (e ▸ hx)
        omega
      omega
/-- the first k that comes back -/
structure IsPer (w p s k : Nat) : Prop where
  pos : 1 ≤ k
  le : k ≤ 2 ^ w
  back : regA w p s k = s
  first : ∀ j, 0 < j → j < k → regA w p s j ≠ s
theorem reg_nodup {w p s k : Nat} (h : RgW w p) (hs : s < 2 ^ w) (hf : ∀ j, 0 < j → j < k → regA w p s j ≠ s) : ((List.range k).map (regA w p s)).Nodup := by
  rw [List.nodup_iff_pairwise_ne, List.pairwise_map]
  refine List.pairwise_lt_range.imp_of_mem ?_
  intro a b ha hb hab e
  have hb := List.mem_range.mp hb
  refine hf (b - a) (by omega) (by omega) (regA_back h hs a (b - a) ?_)
  rw [show a + (b - a) = b by omega]
  exact e.symm
theorem per_ex {w p s : Nat} (h : RgW w p) (hs : s < 2 ^ w) : ∃ k, IsPer w p s k := by
  have ex : ∃ k, 1 ≤ k ∧ k ≤ 2 ^ w ∧ regA w p s k = s := by
    apply Classical.byContradiction
    intro hn
    have hf : ∀ j, 0 < j → j < 2 ^ w + 1 → regA w p s j ≠ s := fun j h0 h1 e => hn ⟨j, by omega, by omega, e⟩
    have := pigeon (2 ^ w) _ (reg_nodup h hs hf) fun x hx => by
      obtain ⟨j, _, rfl⟩ := List.mem_map.mp hx
      exact regA_lt h hs j
    rw [List.length_map, List.length_range] at this
    omega
  -- the least such
  have least : ∀ n, ∀ k, k ≤ n → 1 ≤ k → k ≤ 2 ^ w → regA w p s k = s → ∃ k, IsPer w p s k := by
    intro n
    induction n with
    | zero => intro k h1 h2; omega
    | succ n ih =>
      intro k h1 h2 h3 h4
      by_cases hj : ∃ j, 0 < j ∧ j < k ∧ regA w p s j = s
      · obtain ⟨j, j0, jk, je⟩ := hj
        exact ih j (by omega) j0 (by omega) je
      · exact ⟨k, h2, h3, h4, fun j j0 jk je => hj ⟨j, j0, jk, je⟩⟩
  obtain ⟨k, h1, h2, h3⟩ := ex
  exact least k k (Nat.le_refl k) h1 h2 h3
theorem IsPer.uniq {w p s k l : Nat} (h : IsPer w p s k) (g : IsPer w p s l) : k = l := by
  rcases Nat.lt_trichotomy k l with z | z | z
  · exact absurd h.back (g.first k h.pos z)
  · exact z
  · exact absurd g.back (h.first l g.pos z)
noncomputable def per (w p s : Nat) : Nat := @dite Nat (∃ k, IsPer w p s k) (Classical.propDecidable _) (fun h => h.choose) (fun _ => 0)
theorem per_is {w p s : Nat} (h : RgW w p) (hs : s < 2 ^ w) : IsPer w p s (per w p s) := by
  unfold per
  rw [dif_pos (per_ex h hs)]
  exact (per_ex h hs).choose_spec
theorem per_eq {w p s k : Nat} (h : RgW w p) (hs : s < 2 ^ w) (g : IsPer w p s k) : per w p s = k := (per_is h hs).uniq g
/-- the law's odd count -/
def oddL (w x p : Nat) : Int := ((List.range w).map fun j => (((x / 2 ^ j % 2 : Nat) : Int) * ((p / 2 ^ j % 2 : Nat) : Int))).sum % 2
theorem odd2 : ∀ p, p < 4 → ∀ x, x < 4 → oddL 2 x p = ((par (x &&& p) : Nat) : Int) := by decide +kernel
theorem odd3 : ∀ p, p < 8 → ∀ x, x < 8 → oddL 3 x p = ((par (x &&& p) : Nat) : Int) := by decide +kernel
theorem odd4 : ∀ p, p < 16 → ∀ x, x < 16 → oddL 4 x p = ((par (x &&& p) : Nat) : Int) := by decide +kernel
theorem odd5 : ∀ p, p < 32 → ∀ x, x < 32 → oddL 5 x p = ((par (x &&& p) : Nat) : Int) := by decide +kernel
theorem odd6 : ∀ p, p < 64 → ∀ x, x < 64 → oddL 6 x p = ((par (x &&& p) : Nat) : Int) := by decide +kernel
theorem odd_eq {w p x : Nat} (h : RgW w p) (hx : x < 2 ^ w) : oddL w x p = ((par (x &&& p) : Nat) : Int) := by
  obtain ⟨h1, h2, h3, h4⟩ := h
  match w, h1, h2 with
  | 2, _, _ => exact odd2 p h4 x hx
  | 3, _, _ => exact odd3 p h4 x hx
  | 4, _, _ => exact odd4 p h4 x hx
  | 5, _, _ => exact odd5 p h4 x hx
  | 6, _, _ => exact odd6 p h4 x hx
/-! makers -/
inductive Mk where
  | counter (r s t : Nat)
  | table (ns : List Int)
  | turned (w s : Nat)
  | register (w p s : Nat)
  | slow (n : Nat) (m : Mk)
  | slip (n : Nat) (m : Mk)
  | late (n : Nat) (m : Mk)
def Mk.inn : Mk → Mk
  | .slow _ m => m.inn
  | .slip _ m => m.inn
  | .late _ m => m.inn
  | m => m
def Mk.dep : Mk → Nat
  | .slow _ m => m.dep + 1
  | .slip _ m => m.dep + 1
  | .late _ m => m.dep + 1
  | _ => 0
def Mk.bt : Mk → Int → Int
  | .slow n m, t => m.bt (t / n)
  | .slip n m, t => m.bt (t + t / n)
  | .late n m, t => m.bt (t - n)
  | _, t => t
def lff (n : Nat) : Nat → Nat
  | 0 => 0
  | w + 1 => 2 * lff n w + n / 2 ^ w % 2
noncomputable def Mk.pl : Mk → List Int
  | .counter r s t => (List.range r).map fun i => (((t + s * i) % r : Nat) : Int)
  | .table ns => ns
  | .turned w s => (List.range (2 ^ w)).map fun i => ((lff ((s + i) % 2 ^ w) w : Nat) : Int)
  | .register w p s => (List.range (per w p s)).map fun k => ((regA w p s k : Nat) : Int)
  | _ => []
noncomputable def Mk.rnd : Mk → Nat
  | .slow n m => n * m.rnd
  | .slip n m => n * m.rnd / Nat.gcd m.rnd (n + 1)
  | .late _ m => m.rnd
  | m => m.pl.length
def Mk.Pl : Mk → Prop
  | .counter r s t => 1 ≤ r ∧ r ≤ 64 ∧ s ≤ 64 ∧ t < r
  | .table ns => 1 ≤ ns.length ∧ ns.length ≤ 64 ∧ ∀ x, x ∈ ns → 0 ≤ x ∧ x ≤ 63
  | .turned w s => 1 ≤ w ∧ w ≤ 6 ∧ s < 2 ^ w
  | .register w p s => RgW w p ∧ 1 ≤ s ∧ s < 2 ^ w
  | _ => False
def Mk.Ok : Mk → Prop
  | .slow n m => 1 ≤ n ∧ n ≤ 64 ∧ m.Ok
  | .slip n m => 1 ≤ n ∧ n ≤ 64 ∧ m.Ok
  | .late n m => n ≤ 64 ∧ m.Ok
  | m => m.Pl
def Mk.Top : Mk → Int → Prop
  | .counter r _ _, v => v = r
  | .table ns, v => ∃ M, M ∈ ns ∧ (∀ y, y ∈ ns → y ≤ M) ∧ v = M + 1
  | .turned w _, v => v = ((2 ^ w : Nat) : Int)
  | .register w _ _, v => v = ((2 ^ w : Nat) : Int)
  | _, _ => False
theorem Mk.Top.uniq {m : Mk} {v u : Int} (h : m.Top v) (k : m.Top u) : v = u := by
  cases m with
  | counter r s t => exact h.trans k.symm
  | table ns =>
    obtain ⟨M, h1, h2, rfl⟩ := h
    obtain ⟨N, k1, k2, rfl⟩ := k
    have := h2 N k1
    have := k2 M h1
    omega
  | turned w s => exact h.trans k.symm
  | register w p s => exact h.trans k.symm
  | _ => exact h.elim
noncomputable def Mk.val (m : Mk) (t : Int) : Int := m.inn.pl.getD ((m.bt t) % (m.inn.pl.length : Int)).toNat 0
theorem Mk.Ok.inn : ∀ {m : Mk}, m.Ok → m.inn.Pl
  | .slow _ m, h => Mk.Ok.inn (m := m) h.2.2
  | .slip _ m, h => Mk.Ok.inn (m := m) h.2.2
  | .late _ m, h => Mk.Ok.inn (m := m) h.2
  | .counter _ _ _, h => h
  | .table _, h => h
  | .turned _ _, h => h
  | .register _ _ _, h => h
theorem Mk.Pl.len {m : Mk} (h : m.Pl) : 1 ≤ m.pl.length ∧ m.pl.length ≤ 64 := by
  cases m with
  | counter r s t =>
    obtain ⟨h1, h2, _⟩ := h
    simp only [Mk.pl, List.length_map, List.length_range]
    omega
  | table ns => exact ⟨h.1, h.2.1⟩
  | turned w s =>
    obtain ⟨h1, h2, _⟩ := h
    simp only [Mk.pl, List.length_map, List.length_range]
    exact ⟨Nat.one_le_two_pow, Nat.le_trans (Nat.pow_le_pow_right (by decide) h2) (by decide)⟩
  | register w p s =>
    obtain ⟨h1, h2, h3⟩ := h
    have ip := per_is h1 h3
    simp only [Mk.pl, List.length_map, List.length_range]
    exact ⟨ip.pos, Nat.le_trans ip.le (Nat.le_trans (Nat.pow_le_pow_right (by decide) h1.hi) (by decide))⟩
  | _ => exact h.elim
theorem Mk.inn_dep : ∀ m : Mk, m.inn.dep = 0
  | .slow _ m => Mk.inn_dep m
  | .slip _ m => Mk.inn_dep m
  | .late _ m => Mk.inn_dep m
  | .counter _ _ _ => rfl
  | .table _ => rfl
  | .turned _ _ => rfl
  | .register _ _ _ => rfl
theorem Mk.inn_self : ∀ {m : Mk}, m.dep = 0 → m.inn = m
  | .counter _ _ _, _ => rfl
  | .table _, _ => rfl
  | .turned _ _, _ => rfl
  | .register _ _ _, _ => rfl
/-! makers as they stand -/
def MkAt (H : Hp) : Mk → V → Prop
  | .counter r s t, v => ∃ a, v = .ref a ∧ H a = some (.tup [.str "counter", .int (r : Nat), .int (s : Nat), .int (t : Nat)])
  | .table ns, v => ∃ a b, v = .ref a ∧ H a = some (.tup [.str "table", .ref b]) ∧ H b = some (.tup (ns.map V.int))
  | .turned w s, v => ∃ a, v = .ref a ∧ H a = some (.tup [.str "turned", .int (w : Nat), .int (s : Nat)])
  | .register w p s, v => ∃ a, v = .ref a ∧ H a = some (.tup [.str "register", .int (w : Nat), .int (p : Nat), .int (s : Nat)])
  | .slow n m, v => ∃ a x, v = .ref a ∧ H a = some (.tup [.str "slow", .int (n : Nat), x]) ∧ MkAt H m x
  | .slip n m, v => ∃ a x, v = .ref a ∧ H a = some (.tup [.str "slip", .int (n : Nat), x]) ∧ MkAt H m x
  | .late n m, v => ∃ a x, v = .ref a ∧ H a = some (.tup [.str "late", .int (n : Nat), x]) ∧ MkAt H m x
theorem MkAt.keep {H H' : Hp} (s : ∀ a xs, H a = some (.tup xs) → H' a = some (.tup xs)) : ∀ {m : Mk} {v : V}, MkAt H m v → MkAt H' m v
  | .counter _ _ _, _, ⟨a, e, h⟩ => ⟨a, e, s _ _ h⟩
  | .table _, _, ⟨a, b, e, h, k⟩ => ⟨a, b, e, s _ _ h, s _ _ k⟩
  | .turned _ _, _, ⟨a, e, h⟩ => ⟨a, e, s _ _ h⟩
  | .register _ _ _, _, ⟨a, e, h⟩ => ⟨a, e, s _ _ h⟩
  | .slow _ m, _, ⟨a, x, e, h, k⟩ => ⟨a, x, e, s _ _ h, MkAt.keep s (m := m) k⟩
  | .slip _ m, _, ⟨a, x, e, h, k⟩ => ⟨a, x, e, s _ _ h, MkAt.keep s (m := m) k⟩
  | .late _ m, _, ⟨a, x, e, h, k⟩ => ⟨a, x, e, s _ _ h, MkAt.keep s (m := m) k⟩
theorem MkAt.same {H H' : Hp} {m : Mk} {v : V} (h : MkAt H m v) (s : Same H H') : MkAt H' m v := h.keep fun _ _ e => s _ _ e
theorem MkAt.but {H H' : Hp} {m : Mk} {v : V} {p : Addr} {n : Nat} (h : MkAt H m v) (B : Bx H p n) (s : But p H H') : MkAt H' m v := h.keep fun _ _ e => s _ _ (B.ne_tup e) e
def inW (z : Str) : Bool := inV (.str z) [.str "slow", .str "slip", .str "late"]
theorem inW_slow : inW "slow" = true := by decide +kernel
theorem inW_slip : inW "slip" = true := by decide +kernel
theorem inW_late : inW "late" = true := by decide +kernel
theorem inW_counter : inW "counter" = false := by decide +kernel
theorem inW_table : inW "table" = false := by decide +kernel
theorem inW_turned : inW "turned" = false := by decide +kernel
theorem inW_register : inW "register" = false := by decide +kernel
/-- what stands around a maker -/
structure Around1 (m : Mk) (z : Str) (n : Nat) (m' : Mk) : Prop where
  word : (z = "slow" ∧ m = .slow n m') ∨ (z = "slip" ∧ m = .slip n m') ∨ (z = "late" ∧ m = .late n m')
theorem MkAt.shape {H : Hp} {m : Mk} {v : V} (h : MkAt H m v) : (∃ z n m' a x, v = .ref a ∧ H a = some (.tup [.str z, .int (n : Nat), x]) ∧ MkAt H m' x ∧ Around1 m z n m' ∧ inW z = true) ∨ (m.dep = 0 ∧ ∃ a z xs, v = .ref a ∧ H a = some (.tup (.str z :: xs)) ∧ inW z = false) := by
  cases m with
  | counter r s t => obtain ⟨a, e, h⟩ := h; exact .inr ⟨rfl, a, _, _, e, h, inW_counter⟩
  | table ns => obtain ⟨a, b, e, h, _⟩ := h; exact .inr ⟨rfl, a, _, _, e, h, inW_table⟩
  | turned w s => obtain ⟨a, e, h⟩ := h; exact .inr ⟨rfl, a, _, _, e, h, inW_turned⟩
  | register w p s => obtain ⟨a, e, h⟩ := h; exact .inr ⟨rfl, a, _, _, e, h, inW_register⟩
  | slow n m => obtain ⟨a, x, e, h, k⟩ := h; exact .inl ⟨_, n, m, a, x, e, h, k, ⟨.inl ⟨rfl, rfl⟩⟩, inW_slow⟩
  | slip n m => obtain ⟨a, x, e, h, k⟩ := h; exact .inl ⟨_, n, m, a, x, e, h, k, ⟨.inr (.inl ⟨rfl, rfl⟩)⟩, inW_slip⟩
  | late n m => obtain ⟨a, x, e, h, k⟩ := h; exact .inl ⟨_, n, m, a, x, e, h, k, ⟨.inr (.inr ⟨rfl, rfl⟩)⟩, inW_late⟩
theorem Around1.dep {m m' : Mk} {z : Str} {n : Nat} (h : Around1 m z n m') : m.dep = m'.dep + 1 ∧ m.inn = m'.inn := by
  rcases h.word with ⟨_, rfl⟩ | ⟨_, rfl⟩ | ⟨_, rfl⟩ <;> exact ⟨rfl, rfl⟩
def sp_innermost (_ : PySem.W.Frag) : Sp := fun vs H Q _ => ∃ m v, vs = [v] ∧ MkAt H m v ∧ ∀ H' u, Same H H' → MkAt H' m.inn u → Q u H'
theorem ok_innermost (T : Defs K mg) (TT : Tabs T base) : FnOk P w K mg base CX0 1 T.f_innermost T.fd_innermost ["maker"] (sp_innermost K) := by
  refine T.F_innermost.ok sc_innermost (fun vs H Q E h => ?_) (fun cdv A outer s H vs Q E hr h => ?_)
  · obtain ⟨m, v, rfl, hm, q⟩ := h
    rfl
  · obtain ⟨m, v, rfl, hm, q⟩ := h
    refine ⟨_, PSs.nox (pss_cons (ps_while PassesOwn.never (pt_cmpR op_in_seq (pe_ix ix_tup (pv 0) pe_int (fun _ _ => rfl)) (pe_tup (pa_cons pe_str (pa_cons pe_str (pa_cons pe_str pa_nil)))) rfl) (pss_one (ps_set (i := 0) sc_innermost.nd rfl (.inl rfl) (pe_ix ix_tup (pv 0) pe_int (fun _ _ => rfl)))))
    (pss_one (ps_ret (pv 0)))), ?_⟩
    refine ⟨fun n σ H1 => ∃ m' u, m'.dep = n ∧ σ = [some u] ∧ Same H H1 ∧ MkAt H1 m' u ∧ m'.inn = m.inn, ⟨_, m, v, rfl, rfl, Same.refl H, hm, rfl⟩, ?_⟩
    rintro n σ H1 ⟨m', u, rfl, rfl, s1, hm', ei⟩
    rcases hm'.shape with ⟨z, n, m2, a, x, rfl, ha, hx, ar, iw⟩ | ⟨d0, a, z, xs, rfl, ha, iw⟩
    · refine ⟨.ref a, rfl, a, _, 0, _, rfl, rfl, SqT.mk ha, atI_nat (j := 0) rfl, (show 3 ≤ sizeLine by decide), fun t nt => ⟨t, _, rfl, .inr (SqT.mk upd_same), rfl, rfl, _, rfl, ?_⟩⟩
      have s2 := s1.trans (same_upd nt (o := .tup [.str "slow", .str "slip", .str "late"]))
      rw [if_neg Bool.false_ne_true, show inV (.str z) [.str "slow", .str "slip", .str "late"] = true from iw]
      refine iteT ⟨_, fun σ' H' h => h, ?_⟩
      refine ⟨.ref a, rfl, a, _, 2, _, rfl, rfl, SqT.mk ((same_upd nt) _ _ ha), atI_nat (j := 2) rfl, ?_⟩
      exact ⟨m2.dep, by have := ar.dep.1; omega, m2, x, rfl, rfl, s2, hx.same (same_upd nt), by rw [← ar.dep.2, ei]⟩
    · refine ⟨.ref a, rfl, a, _, 0, _, rfl, rfl, SqT.mk ha, atI_nat (j := 0) rfl, (show 3 ≤ sizeLine by decide), fun t nt => ⟨t, _, rfl, .inr (SqT.mk upd_same), rfl, rfl, _, rfl, ?_⟩⟩
      rw [if_neg Bool.false_ne_true, show inV (.str z) [.str "slow", .str "slip", .str "late"] = false from iw]
      refine iteF ?_
      refine ⟨.ref a, rfl, q _ _ (s1.trans (same_upd nt)) ?_⟩
      rw [← ei, Mk.inn_self d0]
      exact hm'.same (same_upd nt)
def sp_inner_beat (_ : PySem.W.Frag) : Sp := fun vs H Q _ => ∃ m v t, vs = [v, .int t] ∧ MkAt H m v ∧ m.Ok ∧ ∀ H', Same H H' → Q (.int (m.bt t)) H'
theorem ok_inner_beat (T : Defs K mg) (TT : Tabs T base) : FnOk P w K mg base CX0 1 T.f_inner_beat T.fd_inner_beat ["maker", "t"] (sp_inner_beat K) := by
  refine T.F_inner_beat.ok sc_inner_beat (fun vs H Q E h => ?_) (fun cdv A outer s H vs Q E hr h => ?_)
  · obtain ⟨m, v, t, rfl, hm, ok, q⟩ := h
    rfl
  · obtain ⟨m, v, t, rfl, hm, ok, q⟩ := h
    refine ⟨_, PSs.nox (pss_cons (ps_while PassesOwn.never (pt_cmpR op_in_seq (pe_ix ix_tup (pv 0) pe_int (fun _ _ => rfl)) (pe_tup (pa_cons pe_str (pa_cons pe_str (pa_cons pe_str pa_nil)))) rfl) (pss_cons (ps_asg (pv 0) (pg_tup rfl (pgs_cons (pg_name (i := 2) sc_inner_beat.nd rfl (.inl rfl)) (pgs_cons (pg_name (i := 3) sc_inner_beat.nd rfl (.inl rfl)) (pgs_cons (pg_name (i := 4) sc_inner_beat.nd rfl (.inl rfl)) pgs_nil)))))
    (pss_cons (ps_if (pt_cmpR op_eq (pv 2) pe_str (nomark _)) (pss_one (ps_set (i := 1) sc_inner_beat.nd rfl (.inl rfl) (pe_op op_fdiv (pv 1) (pe_callB (call_max2 rfl) (by rfl) T.m_max bt_max (pa_cons (pv 3) (pa_cons pe_int pa_nil)))))) (pss_one (ps_if (pt_cmpR op_eq (pv 2) pe_str (nomark _)) (pss_one (ps_set (i := 1) sc_inner_beat.nd rfl (.inl rfl) (pe_op op_add (pv 1) (pe_op op_fdiv (pv 1) (pe_callB (call_max2 rfl) (by rfl) T.m_max bt_max (pa_cons (pv 3) (pa_cons pe_int pa_nil))))))) (pss_one (ps_set (i := 1) sc_inner_beat.nd rfl (.inl rfl) (pe_op op_sub (pv 1) (pv 3)))))))
    (pss_one (ps_set (i := 0) sc_inner_beat.nd rfl (.inl rfl) (pv 4))))))
    (pss_one (ps_ret (pv 1)))), ?_⟩
    refine ⟨fun n σ H1 => ∃ m' u t' y2 y3 y4, m'.dep = n ∧ σ = [some u, some (.int t'), y2, y3, y4] ∧ Same H H1 ∧ MkAt H1 m' u ∧ m'.Ok ∧ m'.bt t' = m.bt t, ⟨_, m, v, t, none, none, none, rfl, rfl, Same.refl H, hm, ok, rfl⟩, ?_⟩
    rintro n σ H1 ⟨m', u, t', y2, y3, y4, rfl, rfl, s1, hm', ok', ei⟩
    rcases hm'.shape with ⟨z, n, m2, a, x, rfl, ha, hx, ar, iw⟩ | ⟨d0, a, z, xs, rfl, ha, iw⟩
    · refine ⟨.ref a, rfl, a, _, 0, _, rfl, rfl, SqT.mk ha, atI_nat (j := 0) rfl, (show 3 ≤ sizeLine by decide), fun tp nt => ⟨tp, _, rfl, .inr (SqT.mk upd_same), rfl, rfl, _, rfl, ?_⟩⟩
      have s2 := s1.trans (same_upd nt (o := .tup [.str "slow", .str "slip", .str "late"]))
      have ha2 := (same_upd nt (o := .tup [.str "slow", .str "slip", .str "late"])) _ _ ha
      have hx2 := hx.same (same_upd nt (o := .tup [.str "slow", .str "slip", .str "late"]))
      rw [if_neg Bool.false_ne_true, show inV (.str z) [.str "slow", .str "slip", .str "late"] = true from iw]
      generalize upd H1 tp (.tup [.str "slow", .str "slip", .str "late"]) = H2 at s2 ha2 hx2 ⊢
      refine iteT ⟨_, fun σ' H' h => h, ?_⟩
      refine ⟨.ref a, rfl, a, _, rfl, SqT.mk ha2, rfl, _, _, rfl, _, _, rfl, _, _, rfl, rfl, ?_⟩
      have dp := ar.dep.1
      rcases ar.word with ⟨rfl, rfl⟩ | ⟨rfl, rfl⟩ | ⟨rfl, rfl⟩
      · have em : (if (1 : Int) > (n : Int) then 1 else (n : Int)) = (n : Int) := by
          have := ok'.1
          split <;> omega
        refine ⟨_, rfl, rfl, _, rfl, ?_⟩
        rw [decide_eq_true rfl]
        refine iteT ?_
        refine ⟨.int t', rfl, .int (n : Nat), rfl, _, _, rfl, _, _, rfl, rfl, ?_, ?_⟩
        · rw [em]
          exact ⟨(show (0 : Int) < (n : Int) by have := ok'.1; omega), (show (n : Int) < 1073741824 by have := ok'.2.1; omega)⟩
        rw [em]
        exact ⟨_, rfl, m2.dep, by omega, m2, x, t' / (n : Int), _, _, _, rfl, rfl, s2, hx2, ok'.2.2, ei⟩
      · have em : (if (1 : Int) > (n : Int) then 1 else (n : Int)) = (n : Int) := by
          have := ok'.1
          split <;> omega
        refine ⟨_, rfl, rfl, _, rfl, ?_⟩
        rw [decide_eq_false (show ¬ (V.str "slip" = V.str "slow") by decide +kernel)]
        refine iteF ?_
        refine ⟨_, rfl, rfl, _, rfl, ?_⟩
        rw [decide_eq_true rfl]
        refine iteT ?_
        refine ⟨.int t', rfl, .int t', rfl, .int (n : Nat), rfl, _, _, rfl, _, _, rfl, rfl, ?_, _, _, rfl, rfl, ?_⟩
        · rw [em]
          exact ⟨(show (0 : Int) < (n : Int) by have := ok'.1; omega), (show (n : Int) < 1073741824 by have := ok'.2.1; omega)⟩
        rw [em]
        exact ⟨_, rfl, m2.dep, by omega, m2, x, t' + t' / (n : Int), _, _, _, rfl, rfl, s2, hx2, ok'.2.2, ei⟩
      · refine ⟨_, rfl, rfl, _, rfl, ?_⟩
        rw [decide_eq_false (show ¬ (V.str "late" = V.str "slow") by decide +kernel)]
        refine iteF ?_
        refine ⟨_, rfl, rfl, _, rfl, ?_⟩
        rw [decide_eq_false (show ¬ (V.str "late" = V.str "slip") by decide +kernel)]
        refine iteF ?_
        refine ⟨.int t', rfl, .int (n : Nat), rfl, _, _, rfl, rfl, ?_⟩
        exact ⟨_, rfl, m2.dep, by omega, m2, x, t' - (n : Int), _, _, _, rfl, rfl, s2, hx2, ok'.2, ei⟩
    · refine ⟨.ref a, rfl, a, _, 0, _, rfl, rfl, SqT.mk ha, atI_nat (j := 0) rfl, (show 3 ≤ sizeLine by decide), fun tp nt => ⟨tp, _, rfl, .inr (SqT.mk upd_same), rfl, rfl, _, rfl, ?_⟩⟩
      rw [if_neg Bool.false_ne_true, show inV (.str z) [.str "slow", .str "slip", .str "late"] = false from iw]
      refine iteF ?_
      have eb : m'.bt t' = t' := by
        cases m' with
        | slow n m => cases d0
        | slip n m => cases d0
        | late n m => cases d0
        | _ => rfl
      rw [eb] at ei
      rw [ei]
      exact ⟨.int _, rfl, q _ (s1.trans (same_upd nt))⟩
/-! the program: numbers of plain makers -/
theorem is_pos {n : Nat} (h : 1 ≤ n) : (0 : Int) < (n : Int) := by omega
def sp_counter_round (_ : PySem.W.Frag) : Sp := fun vs H Q _ => ∃ r s t : Nat, vs = [.int (r : Nat), .int (s : Nat), .int (t : Nat)] ∧ 1 ≤ r ∧ r ≤ 64 ∧ s ≤ 64 ∧ t < r ∧
  ∀ H' p, Same H H' → H p = none → H' p = some (.lst ((Mk.counter r s t).pl.map V.int)) → Q (.ref p) H'
theorem ok_counter_round (T : Defs K mg) (TT : Tabs T base) : FnOk P w K mg base CX0 1 T.f_counter_round T.fd_counter_round ["size", "step", "start"] (sp_counter_round K) := by
  refine T.F_counter_round.ok sc_counter_round (fun vs H Q E h => ?_) (fun cdv A outer s H vs Q E hr h => ?_)
  · obtain ⟨r, s', t, rfl, r1, r2, s2, t2, q⟩ := h
    rfl
  · obtain ⟨r, s', t, rfl, r1, r2, s2, t2, q⟩ := h
    refine ⟨_, PSs.nox (pss_one (ps_ret (pe_lc (own := [("t", 3)]) (g := gName 3) (tt := tYes) rfl sc_counter_round.nd (pi_range1 (by rfl) T.m_range (pa_cons (pv 0) pa_nil)) (blkOk_by (N := N_counter_round) (sc := defScope s_counter_round) (by decide +kernel)) (fun _ _ _ _ _ => (pg_name (i := 3) sc_counter_round.nd rfl (.inl rfl))) (fun _ _ _ _ _ => pts_nil) (fun _ _ _ _ _ => (pe_op op_mod (pe_op op_add (pv 2) (pe_op op_mul (pv 1) (pv 3))) (pv 0)))))), ?_⟩
    have hsl : sizeLine = 16777216 := by decide
    refine ⟨.int (r : Nat), rfl, (r : Nat), rfl, by omega, by omega, fun D nD => ?_⟩
    refine lc_range (fun i H1 => Same H H1 ∧ H1 D = some (.lst (((List.range i).map fun i => (((t + s' * i) % r : Nat) : Int)).map V.int))) ⟨same_upd nD, upd_same⟩ (fun i H1 hi h => ?_) (fun H1 h => ?_)
    · obtain ⟨s1, hD⟩ := h
      have hi : i < r := by omega
      refine ⟨rfl, yes_ite ?_⟩
      refine ⟨.int (t : Nat), rfl, .int (s' : Nat), rfl, _, rfl, _, _, rfl, rfl, .inl ⟨by omega, by omega⟩, _, _, rfl, rfl, .int (r : Nat), rfl, _, _, rfl, rfl, is_pos r1, ?_⟩
      refine ⟨_, hD, by rw [List.length_map, List.length_map, List.length_range]; omega, same_newer s1 nD, ?_⟩
      rw [upd_same, List.range_succ, List.map_append, List.map_append]
      have e : ((t : Int) + (s' : Int) * (0 + (i : Int))) % (r : Int) = (((t + s' * i) % r : Nat) : Int) := by
        rw [Int.zero_add, Int.natCast_emod, Int.natCast_add, Int.natCast_mul]
      dsimp only
      rw [e]
      rfl
    · obtain ⟨s1, hD⟩ := h
      rw [Int.toNat_natCast] at hD
      exact q H1 D s1 nD hD
def sp_last_for_first (_ : PySem.W.Frag) : Sp := fun vs H Q _ => ∃ n w : Nat, vs = [.int (n : Nat), .int (w : Nat)] ∧ w ≤ 64 ∧ Q (.int (lff n w : Nat)) H
theorem bit_and (n i : Nat) : Builtin.bitAnd ((n : Int) / 2 ^ ((0 : Int) + (i : Int)).toNat) 1 = ((n / 2 ^ i % 2 : Nat) : Int) := by
  rw [Int.zero_add, Int.toNat_natCast]
  have h := _root_.Bits.bit_at (x := (n : Int)) i
  rw [Int.fdiv_eq_ediv_of_nonneg _ (by exact Int.le_of_lt (Int.pow_pos (by decide)))] at h
  rw [h]
  have e : ((2 : Int) ^ i) = ((2 ^ i : Nat) : Int) := by rw [Int.natCast_pow]; rfl
  rw [e]
  omega
theorem ok_last_for_first (T : Defs K mg) (TT : Tabs T base) : FnOk P w K mg base CX0 1 T.f_last_for_first T.fd_last_for_first ["number", "wide"] (sp_last_for_first K) := by
  refine T.F_last_for_first.ok sc_last_for_first (fun vs H Q E h => ?_) (fun cdv A outer s H vs Q E hr h => ?_)
  · obtain ⟨n, w', rfl, hw, q⟩ := h
    rfl
  · obtain ⟨n, w', rfl, hw, q⟩ := h
    refine ⟨_, PSs.nox (pss_cons (ps_set (i := 2) sc_last_for_first.nd rfl (.inl rfl) pe_int)
    (pss_cons (ps_for PassesOwn.never rfl (pi_range1 (by rfl) T.m_range (pa_cons (pv 1) pa_nil)) (pg_name (i := 3) sc_last_for_first.nd rfl (.inl rfl)) (pss_one (ps_set (i := 2) sc_last_for_first.nd rfl (.inl rfl) (pe_op op_add (pe_op op_mul pe_int (pv 2)) (pe_op op_and (pe_op op_shr (pv 0) (pv 3)) pe_int)))))
    (pss_one (ps_ret (pv 2))))), ?_⟩
    refine ⟨.int (w' : Nat), rfl, (w' : Nat), rfl, by omega, by omega, for_range (fun i σ G => ∃ y3, σ = [some (.int (n : Nat)), some (.int (w' : Nat)), some (.int (lff n i : Nat)), y3] ∧ G = H) ⟨none, rfl, rfl⟩ ?_ ?_⟩
    · rintro i σ G hi ⟨y3, rfl, rfl⟩
      refine ⟨_, rfl, _, _, rfl, rfl, .inl ⟨by decide, by decide⟩, .int (n : Nat), rfl, .int (0 + (i : Int)), rfl, _, _, rfl, rfl, (show (0 : Int) ≤ 0 + (i : Int) by omega), _, _, rfl, rfl, _, _, rfl, rfl, some (.int (0 + (i : Int))), ?_, rfl⟩
      try dsimp only
      rw [bit_and]
      rfl
    · rintro σ G ⟨y3, rfl, rfl⟩
      rw [Int.toNat_natCast]
      exact ⟨_, rfl, q⟩
theorem two_pow6 {w : Nat} (h : w ≤ 6) : 1 ≤ 2 ^ w ∧ 2 ^ w ≤ 64 := ⟨Nat.one_le_two_pow, Nat.le_trans (Nat.pow_le_pow_right (by decide) h) (by decide)⟩
theorem shl_one (w : Nat) : (1 : Int) * 2 ^ ((w : Nat) : Int).toNat = ((2 ^ w : Nat) : Int) := by
  rw [Int.toNat_natCast, Int.one_mul, Int.natCast_pow]
  rfl
def sp_size_of (_ : PySem.W.Frag) : Sp := fun vs H Q _ => ∃ w : Nat, vs = [.int (w : Nat)] ∧ w ≤ 6 ∧ Q (.int ((2 ^ w : Nat) : Int)) H
theorem ok_size_of (T : Defs K mg) (TT : Tabs T base) : FnOk P w K mg base CX0 1 T.f_size_of T.fd_size_of ["wide"] (sp_size_of K) := by
  refine T.F_size_of.ok sc_size_of (fun vs H Q E h => ?_) (fun cdv A outer s H vs Q E hr h => ?_)
  · obtain ⟨w', rfl, hw, q⟩ := h
    rfl
  · obtain ⟨w', rfl, hw, q⟩ := h
    refine ⟨_, PSs.nox (pss_one (ps_ret (pe_op op_shl pe_int (pe_callB (call_max2 rfl) (by rfl) T.m_max bt_max (pa_cons (pv 0) (pa_cons pe_int pa_nil)))))), ?_⟩
    have e0 : (if (0 : Int) > (w' : Int) then (0 : Int) else (w' : Int)) = (w' : Int) := if_neg (by omega)
    refine ⟨.int (w' : Nat), rfl, _, _, rfl, ?_⟩
    try dsimp only
    rw [e0]
    refine ⟨_, _, rfl, rfl, ⟨(show (0 : Int) ≤ (w' : Int) by omega), (show (w' : Int) ≤ 1000000 by omega), by decide⟩, ?_⟩
    try dsimp only
    rw [shl_one]
    exact q
def sp_turned_round (_ : PySem.W.Frag) : Sp := fun vs H Q _ => ∃ w s : Nat, vs = [.int (w : Nat), .int (s : Nat)] ∧ 1 ≤ w ∧ w ≤ 6 ∧ s < 2 ^ w ∧
  ∀ H' p, Same H H' → H p = none → H' p = some (.lst ((Mk.turned w s).pl.map V.int)) → Q (.ref p) H'
theorem ok_turned_round (T : Defs K mg) (TT : Tabs T base) : FnOk P w K mg base CX0 2 T.f_turned_round T.fd_turned_round ["wide", "start"] (sp_turned_round K) := by
  have G_size_of : FnOk P w K mg base CX0 1 T.f_size_of T.fd_size_of ["wide"] (sp_size_of K) := ok_size_of T TT
  have G_last_for_first : FnOk P w K mg base CX0 1 T.f_last_for_first T.fd_last_for_first ["number", "wide"] (sp_last_for_first K) := ok_last_for_first T TT
  refine T.F_turned_round.ok sc_turned_round (fun vs H Q E h => ?_) (fun cdv A outer s H vs Q E hr h => ?_)
  · obtain ⟨w', s', rfl, w1, w2, hs, q⟩ := h
    rfl
  · obtain ⟨w', s', rfl, w1, w2, hs, q⟩ := h
    refine ⟨_, PSs.nox (pss_cons (ps_set (i := 2) sc_turned_round.nd rfl (.inr rfl) (pe_call G_size_of (hr.mono (by decide)) (by rfl) T.g_size_of T.F_size_of.kp T.b_size_of .nil pass0 (pa_cons (pv 0) pa_nil)))
    (pss_one (ps_ret (pe_lc (own := [("t", 3)]) (g := gName 3) (tt := tYes) rfl sc_turned_round.nd (pi_range1 (by rfl) T.m_range (pa_cons (pv 2) pa_nil)) (blkOk_by (N := N_turned_round) (sc := defScope s_turned_round) (by decide +kernel)) (fun _ _ _ _ _ => (pg_name (i := 3) sc_turned_round.nd rfl (.inl rfl))) (fun _ _ _ _ _ => pts_nil) (fun _ _ _ _ _ => (pe_call G_last_for_first (hr.mono (by decide)) (by rfl) T.g_last_for_first T.F_last_for_first.kp T.b_last_for_first .nil pass0 (pa_cons (pe_op op_mod (pe_op op_add (pv 1) (pv 3)) (pv 2)) (pa_cons (pv 0) pa_nil)))))))), ?_⟩
    have hsl : sizeLine = 16777216 := by decide
    have tp := two_pow6 w2
    refine ⟨.int (w' : Nat), rfl, w', rfl, w2, ?_⟩
    refine ⟨.int ((2 ^ w' : Nat) : Int), rfl, _, rfl, by omega, by omega, fun D nD => ?_⟩
    refine lc_range (fun i H1 => Same H H1 ∧ H1 D = some (.lst (((List.range i).map fun i => ((lff ((s' + i) % 2 ^ w') w' : Nat) : Int)).map V.int))) ⟨same_upd nD, upd_same⟩ (fun i H1 hi h => ?_) (fun H1 h => ?_)
    · obtain ⟨s1, hD⟩ := h
      have hi : i < 2 ^ w' := by omega
      refine ⟨rfl, yes_ite ?_⟩
      have e : ((s' : Int) + (0 + (i : Int))) % ((2 ^ w' : Nat) : Int) = (((s' + i) % 2 ^ w' : Nat) : Int) := by
        rw [Int.zero_add, Int.natCast_emod, Int.natCast_add]
      refine ⟨.int (s' : Nat), rfl, _, rfl, _, _, rfl, rfl, .int ((2 ^ w' : Nat) : Int), rfl, _, _, rfl, rfl, is_pos tp.1, .int (w' : Nat), rfl, (s' + i) % 2 ^ w', w', congrArg (fun z => [V.int z, V.int ((w' : Nat) : Int)]) e, by omega, ?_⟩
      refine ⟨_, hD, by rw [List.length_map, List.length_map, List.length_range]; omega, same_newer s1 nD, ?_⟩
      rw [upd_same, List.range_succ, List.map_append, List.map_append]
      rfl
    · obtain ⟨s1, hD⟩ := h
      rw [Int.toNat_natCast] at hD
      exact q H1 D s1 nD hD
theorem xor01 {o b : Nat} (ho : o < 2) (hb : b < 2) : Builtin.bitXor (o : Int) (b : Int) = (((o + b) % 2 : Nat) : Int) := by
  match o, b, ho, hb with
  | 0, 0, _, _ => decide
  | 0, 1, _, _ => decide
  | 1, 0, _, _ => decide
  | 1, 1, _, _ => decide
theorem and_one (x : Nat) : Builtin.bitAnd (x : Int) 1 = ((x % 2 : Nat) : Int) := by
  have h := _root_.Bits.bit_at (x := (x : Int)) 0
  rw [Int.pow_zero, Int.fdiv_one] at h
  rw [h, Int.ediv_one]
  omega
theorem parF_zero : ∀ f, parF f 0 = 0
  | 0 => rfl
  | f + 1 => by
    show (0 % 2 + parF f (0 / 2)) % 2 = 0
    rw [Nat.zero_div, parF_zero f]
def sp_odd_ones (_ : PySem.W.Frag) : Sp := fun vs H Q _ => ∃ n : Nat, vs = [.int (n : Nat)] ∧ n < 2 ^ 7 ∧ Q (.int (par n : Nat)) H
theorem ok_odd_ones (T : Defs K mg) (TT : Tabs T base) : FnOk P w K mg base CX0 1 T.f_odd_ones T.fd_odd_ones ["number"] (sp_odd_ones K) := by
  refine T.F_odd_ones.ok sc_odd_ones (fun vs H Q E h => ?_) (fun cdv A outer s H vs Q E hr h => ?_)
  · obtain ⟨n, rfl, hn, q⟩ := h
    rfl
  · obtain ⟨n, rfl, hn, q⟩ := h
    refine ⟨_, PSs.nox (pss_cons (ps_set (i := 1) sc_odd_ones.nd rfl (.inl rfl) pe_int)
    (pss_cons (ps_while PassesOwn.never (pt_cmpR op_gt (pv 0) pe_int (nomark _)) (pss_cons (ps_set (i := 1) sc_odd_ones.nd rfl (.inl rfl) (pe_op op_xor (pv 1) (pe_op op_and (pv 0) pe_int)))
    (pss_one (ps_set (i := 0) sc_odd_ones.nd rfl (.inl rfl) (pe_op op_shr (pv 0) pe_int)))))
    (pss_one (ps_ret (pv 1))))), ?_⟩
    refine ⟨fun k σ H1 => ∃ x o f : Nat, x = k ∧ σ = [some (.int (x : Nat)), some (.int (o : Nat))] ∧ H1 = H ∧ x < 2 ^ f ∧ o < 2 ∧ (o + parF f x) % 2 = par n, ⟨n, n, 0, 7, rfl, rfl, rfl, hn, by decide, by rw [Nat.zero_add]; exact Nat.mod_eq_of_lt (par_lt n)⟩, ?_⟩
    rintro k σ H1 ⟨x, o, f, rfl, rfl, rfl, hx, ho, he⟩
    refine ⟨.int (x : Nat), rfl, _, _, rfl, rfl, _, rfl, ite2 (fun e => ⟨_, fun σ' H' h => h, ?_⟩) (fun e => ?_)⟩
    · have x0 : (0 : Int) < (x : Int) := of_decide_eq_true e
      match f, hx, he with
      | 0, hx, _ =>
        exfalso
        have : x < 1 := hx
        omega
      | f + 1, hx, he =>
        refine ⟨.int (o : Nat), rfl, .int (x : Nat), rfl, _, _, rfl, rfl, _, _, rfl, rfl, ?_⟩
        refine ⟨.int (x : Nat), rfl, _, _, rfl, rfl, (show (0 : Int) ≤ 1 by decide), ?_⟩
        refine ⟨x / 2, by omega, x / 2, (o + x % 2) % 2, f, rfl, ?_, rfl, by rw [Nat.pow_succ] at hx; omega, Nat.mod_lt _ (by decide), ?_⟩
        · have e1 : (x : Int) / 2 ^ (1 : Int).toNat = ((x / 2 : Nat) : Int) := by
            show (x : Int) / 2 ^ 1 = _
            omega
          try dsimp only
          rw [and_one, xor01 ho (Nat.mod_lt _ (by decide)), e1]
          rfl
        · have : (o + (x % 2 + parF f (x / 2)) % 2) % 2 = par n := he
          omega
    · have x0 : x = 0 := by
        have : ¬ (0 : Int) < (x : Int) := fun z => e (decide_eq_true z)
        omega
      subst x0
      rw [parF_zero, Nat.add_zero, Nat.mod_eq_of_lt ho] at he
      subst he
      exact ⟨_, rfl, q⟩
theorem and_nat (x p : Nat) : Builtin.bitAnd (x : Int) (p : Int) = ((x &&& p : Nat) : Int) := by
  rw [PyProof.Rows.bitAnd_pp (by omega) (by omega), Int.toNat_natCast, Int.toNat_natCast]
def sp_held_round (_ : PySem.W.Frag) : Sp := fun vs H Q _ => ∃ w p s : Nat, vs = [.int (w : Nat), .int (p : Nat), .int (s : Nat)] ∧ (Mk.register w p s).Pl ∧
  ∀ H' a, Same H H' → H a = none → H' a = some (.lst ((Mk.register w p s).pl.map V.int)) → Q (.ref a) H'
theorem step_eq {w x p : Nat} : (2 : Int) * (x : Int) % ((2 ^ w : Nat) : Int) + ((par (x &&& p) : Nat) : Int) = ((regS w p x : Nat) : Int) := by
  unfold regS
  rw [Int.natCast_add, Int.natCast_emod, Int.natCast_mul]
  rfl
theorem ok_held_round (T : Defs K mg) (TT : Tabs T base) : FnOk P w K mg base CX0 2 T.f_held_round T.fd_held_round ["wide", "taps", "start"] (sp_held_round K) := by
  have G_size_of : FnOk P w K mg base CX0 1 T.f_size_of T.fd_size_of ["wide"] (sp_size_of K) := ok_size_of T TT
  have G_odd_ones : FnOk P w K mg base CX0 1 T.f_odd_ones T.fd_odd_ones ["number"] (sp_odd_ones K) := ok_odd_ones T TT
  refine T.F_held_round.ok sc_held_round (fun vs H Q E h => ?_) (fun cdv A outer s H vs Q E hr h => ?_)
  · obtain ⟨w', p', s', rfl, ⟨hw, s1, s2⟩, q⟩ := h
    rfl
  · obtain ⟨w', p', s', rfl, ⟨hw, s1, s2⟩, q⟩ := h
    refine ⟨_, PSs.nox (pss_cons (ps_set (i := 3) sc_held_round.nd rfl (.inl rfl) (pe_call G_size_of (hr.mono (by decide)) (by rfl) T.g_size_of T.F_size_of.kp T.b_size_of .nil pass0 (pa_cons (pv 0) pa_nil)))
    (pss_cons (ps_set (i := 4) sc_held_round.nd rfl (.inl rfl) (pe_lst pa_nil))
    (pss_cons (ps_set (i := 5) sc_held_round.nd rfl (.inl rfl) (pv 2))
    (pss_cons (ps_while PassesOwn.never (PW.pt (pw_and (pt_cmpR op_lt (pe_callB call_len_seq (by rfl) T.m_len bt_len (pa_cons (pv 4) pa_nil)) (pv 3) (nomark _)) (pw_and1 (PW.pt (pw_or (pt_cmpR op_ne (pv 5) (pv 2) (nomark _)) (pw_or1 (pt_not (pt_truth (pv 4) (by intro _; rfl))))))))) (pss_cons (ps_expr (pe_bm PySem.F.plainAttrs_list PySem.F.slot_list_append PySem.F.type_list_append mt_append (pv 4) (pa_cons (pv 5) pa_nil)))
    (pss_one (ps_set (i := 5) sc_held_round.nd rfl (.inl rfl) (pe_op op_add (pe_op op_mod (pe_op op_mul pe_int (pv 5)) (pv 3)) (pe_call G_odd_ones (hr.mono (by decide)) (by rfl) T.g_odd_ones T.F_odd_ones.kp T.b_odd_ones .nil pass0 (pa_cons (pe_op op_and (pv 5) (pv 1)) pa_nil)))))))
    (pss_one (ps_ret (pv 4))))))), ?_⟩
    have hsl : sizeLine = 16777216 := by decide
    have tp := two_pow6 hw.hi
    have ip := per_is hw s2
    refine ⟨.int (w' : Nat), rfl, w', rfl, hw.hi, ?_⟩
    obtain ⟨n, hn⟩ : ∃ n, 2 ^ w' = n := ⟨_, rfl⟩
    rw [hn] at tp ⊢
    refine ⟨Nat.zero_le _, fun l nl => ?_⟩
    refine ⟨.int (s' : Nat), rfl, ?_⟩
    refine ⟨fun m σ H1 => ∃ k : Nat, m = n - k ∧ k ≤ n ∧ σ = [some (.int (w' : Nat)), some (.int (p' : Nat)), some (.int (s' : Nat)), some (.int (n : Nat)), some (.ref l), some (.int (regA w' p' s' k : Nat))] ∧ Same H H1 ∧ H1 l = some (.lst (((List.range k).map fun k => ((regA w' p' s' k : Nat) : Int)).map V.int)) ∧ ∀ j, 0 < j → j < k → regA w' p' s' j ≠ s', ⟨n, 0, by omega, by omega, rfl, same_upd nl, upd_same, fun j h0 h1 => by omega⟩, ?_⟩
    rintro m σ H1 ⟨k, rfl, hk, rfl, sH, hl, hf⟩
    have ll : (((List.range k).map fun k => ((regA w' p' s' k : Nat) : Int)).map V.int).length = k := by rw [List.length_map, List.length_map, List.length_range]
    have done : IsPer w' p' s' k → Q (.ref l) H1 := fun h => q H1 l sH nl (by
      rw [hl]
      show _ = some (HO.lst (((List.range (per w' p' s')).map fun k => ((regA w' p' s' k : Nat) : Int)).map V.int))
      rw [per_eq hw s2 h])
    have alt : regA w' p' s' k < 2 ^ w' := regA_lt hw s2 k
    have go : k < n → ∃ v, some (V.ref l) = some v ∧ True := fun _ => ⟨_, rfl, trivial⟩
    clear go
    refine ⟨.ref l, rfl, l, _, rfl, .inl (SqL.mk hl), .int (n : Nat), rfl, _, _, rfl, rfl, _, rfl, ?_⟩
    rw [ll]
    have body : ∀ (b : Prop), k < n → b → k < n := fun _ h _ => h
    clear body
    by_cases kn : k < n
    · rw [decide_eq_true (show (k : Int) < (n : Int) by omega)]
      refine iteT ?_
      refine ⟨_, rfl, .int (s' : Nat), rfl, rfl, _, rfl, ?_⟩
      by_cases es : regA w' p' s' k = s'
      · rw [show (!decide (V.int ((regA w' p' s' k : Nat) : Int) = V.int ((s' : Nat) : Int))) = false by rw [es, decide_eq_true rfl]; rfl]
        refine iteF ?_
        refine ⟨.ref l, rfl, _, .inl ⟨_, SqL.mk hl, rfl⟩, ?_⟩
        match k, kn, hk, hl, hf, done, alt, es with
        | 0, kn, hk, hl, hf, done, alt, es =>
          refine iteT ⟨_, fun σ' H' h => h, ?_⟩
          refine ⟨.ref l, rfl, .inl ⟨rfl, _, SqL.mk hl⟩, _, rfl, l, _, _, rfl, rfl, hl, (show 0 < sizeLine by decide), ?_⟩
          refine ⟨_, rfl, _, _, rfl, rfl, .inl ⟨by decide, by decide⟩, .int (n : Nat), rfl, _, _, rfl, rfl, is_pos tp.1, _, rfl, .int (p' : Nat), rfl, _, _, rfl, rfl, (regA w' p' s' 0 &&& p'), congrArg (fun z => [V.int z]) (and_nat _ _), Nat.lt_of_le_of_lt Nat.and_le_left (Nat.lt_of_lt_of_le alt (Nat.pow_le_pow_right (by decide) (by have := hw.hi; omega))), _, _, rfl, rfl, ?_⟩
          refine ⟨n - 1, by omega, 1, rfl, by omega, ?_, same_newer sH nl, by rw [upd_same]; rfl, fun j h0 h1 => by omega⟩
          try dsimp only
          rw [← hn, step_eq]
          rfl
        | k + 1, kn, hk, hl, hf, done, alt, es =>
          have nz : (!(((List.range (k + 1)).map fun k => ((regA w' p' s' k : Nat) : Int)).map V.int).isEmpty) = true := by
            rw [List.range_succ_eq_map]
            rfl
          rw [nz]
          refine iteF ?_
          exact ⟨.ref l, rfl, done ⟨by omega, by omega, es, hf⟩⟩
      · rw [show (!decide (V.int ((regA w' p' s' k : Nat) : Int) = V.int ((s' : Nat) : Int))) = true by
          rw [decide_eq_false (fun z => es (by have := V.int.inj z; omega))]
          rfl]
        refine iteT (iteT ⟨_, fun σ' H' h => h, ?_⟩)
        refine ⟨.ref l, rfl, .inl ⟨rfl, _, SqL.mk hl⟩, _, rfl, l, _, _, rfl, rfl, hl, by rw [ll]; omega, ?_⟩
        refine ⟨_, rfl, _, _, rfl, rfl, .inl ⟨by decide, by decide⟩, .int (n : Nat), rfl, _, _, rfl, rfl, is_pos tp.1, _, rfl, .int (p' : Nat), rfl, _, _, rfl, rfl, (regA w' p' s' k &&& p'), congrArg (fun z => [V.int z]) (and_nat _ _), Nat.lt_of_le_of_lt Nat.and_le_left (Nat.lt_of_lt_of_le alt (Nat.pow_le_pow_right (by decide) (by have := hw.hi; omega))), _, _, rfl, rfl, ?_⟩
        refine ⟨n - (k + 1), by omega, k + 1, rfl, by omega, ?_, same_newer sH nl, ?_, fun j h0 h1 => ?_⟩
        · try dsimp only
          rw [← hn, step_eq]
          rfl
        · rw [upd_same, List.range_succ, List.map_append, List.map_append]
          rfl
        · by_cases z : j = k
          · rw [z]
            exact es
          · exact hf j h0 (by omega)
    · rw [decide_eq_false (show ¬ (k : Int) < (n : Int) by omega)]
      refine iteF (iteF ?_)
      have kp : per w' p' s' = k := by
        have h1 := ip.le
        have h2 : ¬ per w' p' s' < k := fun z => hf _ ip.pos z ip.back
        omega
      refine ⟨.ref l, rfl, done ?_⟩
      rw [← kp]
      exact ip
def sp_plain_round (_ : PySem.W.Frag) : Sp := fun vs H Q _ => ∃ m v, vs = [v] ∧ MkAt H m v ∧ m.Pl ∧
  ∀ H' p, Same H H' → H p = none → H' p = some (.lst (m.pl.map V.int)) → Q (.ref p) H'
theorem ok_plain_round (T : Defs K mg) (TT : Tabs T base) : FnOk P w K mg base CX0 3 T.f_plain_round T.fd_plain_round ["maker"] (sp_plain_round K) := by
  have G_counter_round : FnOk P w K mg base CX0 1 T.f_counter_round T.fd_counter_round ["size", "step", "start"] (sp_counter_round K) := ok_counter_round T TT
  have G_turned_round : FnOk P w K mg base CX0 2 T.f_turned_round T.fd_turned_round ["wide", "start"] (sp_turned_round K) := ok_turned_round T TT
  have G_held_round : FnOk P w K mg base CX0 2 T.f_held_round T.fd_held_round ["wide", "taps", "start"] (sp_held_round K) := ok_held_round T TT
  refine T.F_plain_round.ok sc_plain_round (fun vs H Q E h => ?_) (fun cdv A outer s H vs Q E hr h => ?_)
  · obtain ⟨m, v, rfl, hm, pl, q⟩ := h
    rfl
  · obtain ⟨m, v, rfl, hm, pl, q⟩ := h
    refine ⟨_, PSs.nox (pss_one (ps_match (pv 0) (pcs_seq rfl sc_plain_round.nd pe_str (pcap_cons (i := 1) rfl (.inl rfl) (pcap_cons (i := 2) rfl (.inl rfl) (pcap_cons (i := 3) rfl (.inl rfl) pcap_nil))) (pss_one (ps_ret (pe_call G_counter_round (hr.mono (by decide)) (by rfl) T.g_counter_round T.F_counter_round.kp T.b_counter_round .nil pass0 (pa_cons (pv 1) (pa_cons (pv 2) (pa_cons (pv 3) pa_nil))))))
    (pcs_seq rfl sc_plain_round.nd pe_str (pcap_cons (i := 4) rfl (.inl rfl) (pcap_cons (i := 3) rfl (.inl rfl) pcap_nil)) (pss_one (ps_ret (pe_call G_turned_round (hr.mono (by decide)) (by rfl) T.g_turned_round T.F_turned_round.kp T.b_turned_round .nil pass0 (pa_cons (pv 4) (pa_cons (pv 3) pa_nil)))))
    (pcs_seq rfl sc_plain_round.nd pe_str (pcap_cons (i := 4) rfl (.inl rfl) (pcap_cons (i := 5) rfl (.inl rfl) (pcap_cons (i := 3) rfl (.inl rfl) pcap_nil))) (pss_one (ps_ret (pe_call G_held_round (hr.mono (by decide)) (by rfl) T.g_held_round T.F_held_round.kp T.b_held_round .nil pass0 (pa_cons (pv 4) (pa_cons (pv 5) (pa_cons (pv 3) pa_nil))))))
    (pcs_seq rfl sc_plain_round.nd pe_str (pcap_cons (i := 6) rfl (.inl rfl) pcap_nil) (pss_one (ps_ret (pe_callTy call_list_of (by rfl) T.m_list bt_list (pa_cons (pv 6) pa_nil))))
    pcs_nil)))))), ?_⟩
    cases m with
    | counter r s' t =>
      obtain ⟨a, rfl, ha⟩ := hm
      refine ⟨.ref a, rfl, a, _, rfl, SqT.mk ha, .inr ⟨_, _, rfl, rfl, .inl ⟨rfl, ?_⟩⟩⟩
      exact ⟨.int (r : Nat), rfl, .int (s' : Nat), rfl, .int (t : Nat), rfl, r, s', t, rfl, pl.1, pl.2.1, pl.2.2.1, pl.2.2.2, q⟩
    | turned w' s' =>
      obtain ⟨a, rfl, ha⟩ := hm
      refine ⟨.ref a, rfl, a, _, rfl, SqT.mk ha, .inl ⟨by simp, .inr ⟨_, _, rfl, rfl, .inl ⟨rfl, ?_⟩⟩⟩⟩
      exact ⟨.int (w' : Nat), rfl, .int (s' : Nat), rfl, w', s', rfl, pl.1, pl.2.1, pl.2.2, q⟩
    | table ns =>
      obtain ⟨a, b, rfl, ha, hb⟩ := hm
      refine ⟨.ref a, rfl, a, _, rfl, SqT.mk ha, .inl ⟨by simp, .inl ⟨by simp, .inl ⟨by simp, .inr ⟨_, _, rfl, rfl, .inl ⟨rfl, ?_⟩⟩⟩⟩⟩⟩
      exact ⟨.ref b, rfl, b, _, rfl, .inr (SqT.mk hb), fun l nl => q _ l (same_upd nl) nl upd_same⟩
    | register w' p' s' =>
      obtain ⟨a, rfl, ha⟩ := hm
      refine ⟨.ref a, rfl, a, _, rfl, SqT.mk ha, .inr ⟨_, _, rfl, rfl, .inr ⟨by decide +kernel, .inl ⟨by simp, .inr ⟨_, _, rfl, rfl, .inl ⟨rfl, ?_⟩⟩⟩⟩⟩⟩
      exact ⟨.int (w' : Nat), rfl, .int (p' : Nat), rfl, .int (s' : Nat), rfl, w', p', s', rfl, pl, q⟩
    | _ => exact pl.elim
/-! the program: rounds, tops, numbers at beats -/
def spr_round_of (d : Nat) (_ : PySem.W.Frag) : Sp := fun vs H Q _ => ∃ m v, vs = [v] ∧ MkAt H m v ∧ m.Ok ∧ m.dep < d ∧ ∀ H', Same H H' → Q (.int (m.rnd : Nat)) H'
theorem no_round_of {K : PySem.W.Frag} {vs : List V} {H : Hp} {Q : VK} {E : XK} (h : spr_round_of 0 K vs H Q E) : False := by
  obtain ⟨m, v, _, _, _, z, _⟩ := h
  exact Nat.not_lt_zero _ z
theorem gcd_le {a n : Nat} : 1 ≤ Nat.gcd a (n + 1) ∧ Nat.gcd a (n + 1) ≤ n + 1 := ⟨Nat.gcd_pos_of_pos_right _ (by omega), Nat.le_of_dvd (by omega) (Nat.gcd_dvd_right _ _)⟩
theorem okr_round_of (T : Defs K mg) (TT : Tabs T base) : ∀ d : Nat, FnOk P w K mg base CX0 (4 + d) T.f_round_of T.fd_round_of ["maker"] (spr_round_of d K)
  | 0 => ⟨fun _ _ _ _ z => (no_round_of z).elim, fun _ _ _ _ _ _ _ _ _ _ _ _ _ z => (no_round_of z).elim⟩
  | d + 1 => by
    have G_round_of : FnOk P w K mg base CX0 (4 + d) T.f_round_of T.fd_round_of ["maker"] (spr_round_of d K) := okr_round_of T TT d
    have G_common_divisor : FnOk P w K mg base CX0 1 T.f_common_divisor T.fd_common_divisor ["one", "other"] (sp_common_divisor K) := ok_common_divisor T TT
    have G_plain_round : FnOk P w K mg base CX0 3 T.f_plain_round T.fd_plain_round ["maker"] (sp_plain_round K) := ok_plain_round T TT
    show FnOk P w K mg base CX0 ((4 + d) + 1) T.f_round_of T.fd_round_of ["maker"] (spr_round_of (d + 1) K)
    refine T.F_round_of.ok sc_round_of (fun vs H Q E h => ?_) (fun cdv A outer s H vs Q E hr h => ?_)
    · obtain ⟨m, v, rfl, hm, ok, dp, q⟩ := h
      rfl
    · obtain ⟨m, v, rfl, hm, ok, dp, q⟩ := h
      refine ⟨_, PSs.nox (pss_one (ps_match (pv 0) (pcs_seq rfl sc_round_of.nd pe_str (pcap_cons (i := 1) rfl (.inl rfl) (pcap_cons (i := 2) rfl (.inl rfl) pcap_nil)) (pss_one (ps_ret (pe_op op_mul (pv 1) (pe_call G_round_of (hr.mono (by omega)) (by rfl) T.g_round_of T.F_round_of.kp T.b_round_of .nil pass0 (pa_cons (pv 2) pa_nil)))))
    (pcs_seq rfl sc_round_of.nd pe_str (pcap_cons (i := 1) rfl (.inl rfl) (pcap_cons (i := 2) rfl (.inl rfl) pcap_nil)) (pss_cons (ps_set (i := 3) sc_round_of.nd rfl (.inl rfl) (pe_call G_round_of (hr.mono (by omega)) (by rfl) T.g_round_of T.F_round_of.kp T.b_round_of .nil pass0 (pa_cons (pv 2) pa_nil)))
    (pss_one (ps_ret (pe_op op_fdiv (pe_op op_mul (pv 1) (pv 3)) (pe_call G_common_divisor (hr.mono (by omega)) (by rfl) T.g_common_divisor T.F_common_divisor.kp T.b_common_divisor .nil pass0 (pa_cons (pv 3) (pa_cons (pe_op op_add (pv 1) pe_int) pa_nil)))))))
    (pcs_seq rfl sc_round_of.nd pe_str (pcap_cons (i := 4) rfl (.inl rfl) (pcap_cons (i := 2) rfl (.inl rfl) pcap_nil)) (pss_one (ps_ret (pe_call G_round_of (hr.mono (by omega)) (by rfl) T.g_round_of T.F_round_of.kp T.b_round_of .nil pass0 (pa_cons (pv 2) pa_nil))))
    (pcs_any (pss_one (ps_ret (pe_callB call_len_seq (by rfl) T.m_len bt_len (pa_cons (pe_call G_plain_round (hr.mono (by omega)) (by rfl) T.g_plain_round T.F_plain_round.kp T.b_plain_round .nil pass0 (pa_cons (pv 0) pa_nil)) pa_nil)))))))))), ?_⟩
      cases m with
      | slow n m =>
        obtain ⟨a, x, rfl, ha, hx⟩ := hm
        have dp : m.dep + 1 < d + 1 := dp
        refine ⟨.ref a, rfl, a, _, rfl, SqT.mk ha, .inr ⟨_, _, rfl, rfl, .inl ⟨rfl, ?_⟩⟩⟩
        refine ⟨.int (n : Nat), rfl, x, rfl, m, x, rfl, hx, ok.2.2, by omega, fun H1 s1 => ?_⟩
        refine ⟨_, _, rfl, rfl, .inl ⟨(show -(2 ^ 64) < (n : Int) by omega), (show (n : Int) < 2 ^ 64 by have := ok.2.1; omega)⟩, ?_⟩
        have e : (n : Int) * (m.rnd : Int) = (((Mk.slow n m).rnd : Nat) : Int) := (Int.natCast_mul n m.rnd).symm
        try dsimp only
        rw [e]
        exact q H1 s1
      | slip n m =>
        obtain ⟨a, x, rfl, ha, hx⟩ := hm
        have dp : m.dep + 1 < d + 1 := dp
        refine ⟨.ref a, rfl, a, _, rfl, SqT.mk ha, .inr ⟨_, _, rfl, rfl, .inr ⟨by decide +kernel, .inr ⟨_, _, rfl, rfl, .inl ⟨rfl, ?_⟩⟩⟩⟩⟩
        refine ⟨x, rfl, m, x, rfl, hx, ok.2.2, by omega, fun H1 s1 => ?_⟩
        refine ⟨.int (n : Nat), rfl, .int (m.rnd : Nat), rfl, _, _, rfl, rfl, .inl ⟨(show -(2 ^ 64) < (n : Int) by omega), (show (n : Int) < 2 ^ 64 by have := ok.2.1; omega)⟩, .int (m.rnd : Nat), rfl, .int (n : Nat), rfl, _, _, rfl, rfl, _, _, rfl, ?_⟩
        have g := gcd_le (a := m.rnd) (n := n)
        have eg : Int.gcd (m.rnd : Int) ((n : Int) + 1) = Nat.gcd m.rnd (n + 1) := rfl
        have ef : (if (1 : Int) > (Int.gcd (m.rnd : Int) ((n : Int) + 1) : Int) then 1 else (Int.gcd (m.rnd : Int) ((n : Int) + 1) : Int)) = ((Nat.gcd m.rnd (n + 1) : Nat) : Int) := by
          rw [eg]
          split <;> omega
        rw [ef]
        have n2 := ok.2.1
        refine ⟨_, _, rfl, rfl, ⟨(show (0 : Int) < ((Nat.gcd m.rnd (n + 1) : Nat) : Int) by omega), (show ((Nat.gcd m.rnd (n + 1) : Nat) : Int) < 1073741824 by omega)⟩, ?_⟩
        have e : (n : Int) * (m.rnd : Int) / ((Nat.gcd m.rnd (n + 1) : Nat) : Int) = (((Mk.slip n m).rnd : Nat) : Int) := by
          rw [← Int.natCast_mul, ← Int.natCast_ediv]
          rfl
        try dsimp only
        rw [e]
        exact q H1 s1
      | late n m =>
        obtain ⟨a, x, rfl, ha, hx⟩ := hm
        have dp : m.dep + 1 < d + 1 := dp
        refine ⟨.ref a, rfl, a, _, rfl, SqT.mk ha, .inr ⟨_, _, rfl, rfl, .inr ⟨by decide +kernel, .inr ⟨_, _, rfl, rfl, .inr ⟨by decide +kernel, .inr ⟨_, _, rfl, rfl, .inl ⟨rfl, ?_⟩⟩⟩⟩⟩⟩⟩
        exact ⟨x, rfl, m, x, rfl, hx, ok.2, by omega, fun H1 s1 => q H1 s1⟩
      | counter r s' t =>
        obtain ⟨a, rfl, ha⟩ := id hm
        refine ⟨.ref a, rfl, a, _, rfl, SqT.mk ha, .inl ⟨by simp, .inl ⟨by simp, .inl ⟨by simp, ?_⟩⟩⟩⟩
        refine ⟨.ref a, rfl, .counter r s' t, _, rfl, hm, ok, fun H1 p s1 np hp => ⟨p, _, rfl, .inl (SqL.mk hp), ?_⟩⟩
        rw [List.length_map]
        exact q H1 s1
      | turned w' s' =>
        obtain ⟨a, rfl, ha⟩ := id hm
        refine ⟨.ref a, rfl, a, _, rfl, SqT.mk ha, .inr ⟨_, _, rfl, rfl, .inr ⟨by decide +kernel, .inr ⟨_, _, rfl, rfl, .inr ⟨by decide +kernel, .inr ⟨_, _, rfl, rfl, .inr ⟨by decide +kernel, ?_⟩⟩⟩⟩⟩⟩⟩
        refine ⟨.ref a, rfl, .turned w' s', _, rfl, hm, ok, fun H1 p s1 np hp => ⟨p, _, rfl, .inl (SqL.mk hp), ?_⟩⟩
        rw [List.length_map]
        exact q H1 s1
      | table ns =>
        obtain ⟨a, b, rfl, ha, hb⟩ := id hm
        refine ⟨.ref a, rfl, a, _, rfl, SqT.mk ha, .inl ⟨by simp, .inl ⟨by simp, .inl ⟨by simp, ?_⟩⟩⟩⟩
        refine ⟨.ref a, rfl, .table ns, _, rfl, hm, ok, fun H1 p s1 np hp => ⟨p, _, rfl, .inl (SqL.mk hp), ?_⟩⟩
        rw [List.length_map]
        exact q H1 s1
      | register w' p s' =>
        obtain ⟨a, rfl, ha⟩ := id hm
        refine ⟨.ref a, rfl, a, _, rfl, SqT.mk ha, .inl ⟨by simp, .inl ⟨by simp, .inl ⟨by simp, ?_⟩⟩⟩⟩
        refine ⟨.ref a, rfl, .register w' p s', _, rfl, hm, ok, fun H1 p s1 np hp => ⟨p, _, rfl, .inl (SqL.mk hp), ?_⟩⟩
        rw [List.length_map]
        exact q H1 s1
def sp_round_of (K : PySem.W.Frag) : Sp := spr_round_of 5 K
theorem ok_round_of (T : Defs K mg) (TT : Tabs T base) : FnOk P w K mg base CX0 9 T.f_round_of T.fd_round_of ["maker"] (sp_round_of K) := okr_round_of T TT 5
def sp_top_of (_ : PySem.W.Frag) : Sp := fun vs H Q _ => ∃ m v, vs = [v] ∧ MkAt H m v ∧ m.Ok ∧ ∀ H' z, Same H H' → m.inn.Top z → Q (.int z) H'
theorem ok_top_of (T : Defs K mg) (TT : Tabs T base) : FnOk P w K mg base CX0 2 T.f_top_of T.fd_top_of ["maker"] (sp_top_of K) := by
  have G_innermost : FnOk P w K mg base CX0 1 T.f_innermost T.fd_innermost ["maker"] (sp_innermost K) := ok_innermost T TT
  have G_size_of : FnOk P w K mg base CX0 1 T.f_size_of T.fd_size_of ["wide"] (sp_size_of K) := ok_size_of T TT
  refine T.F_top_of.ok sc_top_of (fun vs H Q E h => ?_) (fun cdv A outer s H vs Q E hr h => ?_)
  · obtain ⟨m, v, rfl, hm, ok, q⟩ := h
    rfl
  · obtain ⟨m, v, rfl, hm, ok, q⟩ := h
    refine ⟨_, PSs.nox (pss_one (ps_match (pe_call G_innermost (hr.mono (by decide)) (by rfl) T.g_innermost T.F_innermost.kp T.b_innermost .nil pass0 (pa_cons (pv 0) pa_nil)) (pcs_seq rfl sc_top_of.nd pe_str (pcap_cons (i := 1) rfl (.inl rfl) (pcap_cons (i := 2) rfl (.inl rfl) (pcap_cons (i := 3) rfl (.inl rfl) pcap_nil))) (pss_one (ps_ret (pv 1)))
    (pcs_seq rfl sc_top_of.nd pe_str (pcap_cons (i := 4) rfl (.inl rfl) pcap_nil) (pss_one (ps_ret (pe_op op_add (pe_callBK (cr_maxTD rfl) (by rfl) T.m_max bt_max (pa_cons (pv 4) pa_nil) (pk_cons (pe_un un_neg pe_int) pk_nil)) pe_int)))
    (pcs_seq rfl sc_top_of.nd pe_str (pcap_cons (i := 5) rfl (.inl rfl) (pcap_cons (i := 3) rfl (.inl rfl) pcap_nil)) (pss_one (ps_ret (pe_call G_size_of (hr.mono (by decide)) (by rfl) T.g_size_of T.F_size_of.kp T.b_size_of .nil pass0 (pa_cons (pv 5) pa_nil))))
    (pcs_seq rfl sc_top_of.nd pe_str (pcap_cons (i := 5) rfl (.inl rfl) (pcap_cons (i := 6) rfl (.inl rfl) (pcap_cons (i := 3) rfl (.inl rfl) pcap_nil))) (pss_one (ps_ret (pe_call G_size_of (hr.mono (by decide)) (by rfl) T.g_size_of T.F_size_of.kp T.b_size_of .nil pass0 (pa_cons (pv 5) pa_nil))))
    pcs_nil)))))), ?_⟩
    refine ⟨v, rfl, m, v, rfl, hm, fun H1 u s1 hu => ?_⟩
    have pl := ok.inn
    generalize m.inn = b at hu pl q
    cases b with
    | counter r s' t =>
      obtain ⟨a, rfl, ha⟩ := hu
      refine ⟨a, _, rfl, SqT.mk ha, .inr ⟨_, _, rfl, rfl, .inl ⟨rfl, ?_⟩⟩⟩
      exact ⟨.int (r : Nat), rfl, q H1 _ s1 rfl⟩
    | table ns =>
      obtain ⟨a, b, rfl, ha, hb⟩ := hu
      refine ⟨a, _, rfl, SqT.mk ha, .inl ⟨by simp, .inr ⟨_, _, rfl, rfl, .inl ⟨rfl, ?_⟩⟩⟩⟩
      refine ⟨.ref b, rfl, 1, rfl, ⟨_, rfl⟩, b, ns, rfl, SqT.mk hb, by have := pl.1; omega, fun M hM hle => ⟨_, _, rfl, rfl, ?_⟩⟩
      exact q H1 _ s1 ⟨M, hM, hle, rfl⟩
    | turned w' s' =>
      obtain ⟨a, rfl, ha⟩ := hu
      refine ⟨a, _, rfl, SqT.mk ha, .inl ⟨by simp, .inl ⟨by simp, .inr ⟨_, _, rfl, rfl, .inl ⟨rfl, ?_⟩⟩⟩⟩⟩
      refine ⟨.int (w' : Nat), rfl, w', rfl, pl.2.1, ?_⟩
      exact q H1 _ s1 rfl
    | register w' p' s' =>
      obtain ⟨a, rfl, ha⟩ := hu
      refine ⟨a, _, rfl, SqT.mk ha, .inr ⟨_, _, rfl, rfl, .inr ⟨by decide +kernel, .inl ⟨by simp, .inl ⟨by simp, .inr ⟨_, _, rfl, rfl, .inl ⟨rfl, ?_⟩⟩⟩⟩⟩⟩⟩
      refine ⟨.int (w' : Nat), rfl, w', rfl, pl.1.hi, ?_⟩
      exact q H1 _ s1 rfl
    | _ => exact pl.elim
theorem pl_at {m : Mk} (h : m.Pl) (t : Int) : atI (m.pl.map V.int) (t % (m.pl.length : Int)) = some (.int (m.pl.getD (t % (m.pl.length : Int)).toNat 0)) := by
  have hl := h.len
  have h1 := Int.emod_nonneg t (show (m.pl.length : Int) ≠ 0 by omega)
  have h2 := Int.emod_lt_of_pos t (show (0 : Int) < (m.pl.length : Int) by omega)
  obtain ⟨j, hj⟩ := Int.eq_ofNat_of_zero_le h1
  rw [hj] at h2 ⊢
  have hj2 : j < m.pl.length := by omega
  refine atI_nat ?_
  rw [List.getElem?_map, List.getElem?_eq_getElem hj2, Int.toNat_natCast, List.getD_eq_getElem?_getD, List.getElem?_eq_getElem hj2]
  rfl
def sp_values_at (_ : PySem.W.Frag) : Sp := fun vs H Q _ => ∃ m v b ts, vs = [v, .ref b] ∧ MkAt H m v ∧ m.Ok ∧ H b = some (.lst ((ts : List Int).map V.int)) ∧ ts.length ≤ 100000 ∧
  ∀ H' p, Same H H' → H p = none → H' p = some (.lst ((ts.map m.val).map V.int)) → Q (.ref p) H'
theorem ok_values_at (T : Defs K mg) (TT : Tabs T base) : FnOk P w K mg base CX0 4 T.f_values_at T.fd_values_at ["maker", "beats"] (sp_values_at K) := by
  have G_plain_round : FnOk P w K mg base CX0 3 T.f_plain_round T.fd_plain_round ["maker"] (sp_plain_round K) := ok_plain_round T TT
  have G_innermost : FnOk P w K mg base CX0 1 T.f_innermost T.fd_innermost ["maker"] (sp_innermost K) := ok_innermost T TT
  have G_inner_beat : FnOk P w K mg base CX0 1 T.f_inner_beat T.fd_inner_beat ["maker", "t"] (sp_inner_beat K) := ok_inner_beat T TT
  refine T.F_values_at.ok sc_values_at (fun vs H Q E h => ?_) (fun cdv A outer s H vs Q E hr h => ?_)
  · obtain ⟨m, v, b, ts, rfl, hm, ok, hb, hl, q⟩ := h
    rfl
  · obtain ⟨m, v, b, ts, rfl, hm, ok, hb, hl, q⟩ := h
    refine ⟨_, PSs.nox (pss_cons (ps_set (i := 2) sc_values_at.nd rfl (.inr rfl) (pe_orT (pe_call G_plain_round (hr.mono (by decide)) (by rfl) T.g_plain_round T.F_plain_round.kp T.b_plain_round .nil pass0 (pa_cons (pe_call G_innermost (hr.mono (by decide)) (by rfl) T.g_innermost T.F_innermost.kp T.b_innermost .nil pass0 (pa_cons (pv 0) pa_nil)) pa_nil)) (pe_one (pe_lst (pa_cons pe_int pa_nil)))))
    (pss_one (ps_ret (pe_lc (own := [("t", 3)]) (g := gName 3) (tt := tYes) rfl sc_values_at.nd (pi_list (pv 1)) (blkOk_by (N := N_values_at) (sc := defScope s_values_at) (by decide +kernel)) (fun _ _ _ _ _ => (pg_name (i := 3) sc_values_at.nd rfl (.inl rfl))) (fun _ _ _ _ _ => pts_nil) (fun _ _ _ _ _ => (pe_ix (ixlK (K := K) rfl) (pv 2) (pe_op op_mod (pe_call G_inner_beat (hr.mono (by decide)) (by rfl) T.g_inner_beat T.F_inner_beat.kp T.b_inner_beat .nil pass0 (pa_cons (pv 0) (pa_cons (pv 3) pa_nil))) (pe_callB (lenK (K := K) rfl) (by rfl) T.m_len bt_len (pa_cons (pv 2) pa_nil))) (fun _ _ => rfl))))))), ?_⟩
    have hsl : sizeLine = 16777216 := by decide
    refine ⟨v, rfl, m, v, rfl, hm, fun H1 u s1 hu => ?_⟩
    refine ⟨m.inn, u, rfl, hu, ok.inn, fun H2 p s2 np hp => ?_⟩
    have ll := ok.inn.len
    refine ⟨true, .inl ⟨_, SqL.mk hp, ?_⟩, ?_⟩
    · cases e : m.inn.pl with
      | nil =>
        rw [e] at ll
        exact absurd ll.1 (by decide)
      | cons x r => rfl
    refine iteT ?_
    have s12 := s1.trans s2
    refine ⟨.ref b, rfl, b, rfl, ⟨_, SqL.mk (s12 _ _ hb)⟩, fun D nD => ?_⟩
    refine lc_list (xs := ts.map V.int) (fun i H3 => Same H2 H3 ∧ H3 D = some (.lst (((ts.take i).map m.val).map V.int))) ⟨same_upd nD, upd_same⟩ (fun i H3 _ h => SqL.mk (h.1 _ _ (s12 _ _ hb))) (fun i x H3 hx h => ?_) (fun H3 h => ?_)
    · obtain ⟨s3, hD⟩ := h
      rw [List.getElem?_map] at hx
      obtain ⟨t, ht, rfl⟩ := Option.map_eq_some_iff.mp hx
      have hi := (List.getElem?_eq_some_iff.mp ht).1
      refine ⟨rfl, yes_ite ?_⟩
      refine ⟨.ref p, rfl, v, rfl, _, rfl, m, v, t, rfl, (hm.same s12).same s3, ok, fun H4 s4 => ?_⟩
      have hp4 := s4 _ _ (s3 _ _ hp)
      refine ⟨.ref p, rfl, p, _, rfl, .inl (SqL.mk hp4), _, _, rfl, rfl, by rw [List.length_map]; exact is_pos ll.1, p, _, _, .int (m.val t), rfl, rfl, SqL.mk hp4, ?_, ?_⟩
      · rw [List.length_map]
        exact pl_at ok.inn (m.bt t)
      · refine ⟨_, s4 _ _ hD, by rw [List.length_map, List.length_map, List.length_take]; omega, same_newer (s3.trans s4) nD, ?_⟩
        rw [upd_same, List.take_add_one, ht, List.map_append, List.map_append]
        rfl
    · obtain ⟨s3, hD⟩ := h
      rw [List.length_map, List.take_length] at hD
      exact q H3 D (s12.trans s3) (s12.free nD) hD
def sp_value_at (_ : PySem.W.Frag) : Sp := fun vs H Q _ => ∃ m v t, vs = [v, .int t] ∧ MkAt H m v ∧ m.Ok ∧ ∀ H', Same H H' → Q (.int (m.val t)) H'
def sp_values_of (_ : PySem.W.Frag) : Sp := fun vs H Q _ => ∃ m v, ∃ n : Nat, vs = [v, .int (n : Nat)] ∧ MkAt H m v ∧ m.Ok ∧ n ≤ 100000 ∧
  ∀ H' p, Same H H' → H p = none → H' p = some (.lst (((List.range n).map fun (i : Nat) => m.val i).map V.int)) → Q (.ref p) H'
theorem ok_values_of (T : Defs K mg) (TT : Tabs T base) : FnOk P w K mg base CX0 5 T.f_values_of T.fd_values_of ["maker", "beats"] (sp_values_of K) := by
  have G_values_at : FnOk P w K mg base CX0 4 T.f_values_at T.fd_values_at ["maker", "beats"] (sp_values_at K) := ok_values_at T TT
  refine T.F_values_of.ok sc_values_of (fun vs H Q E h => ?_) (fun cdv A outer s H vs Q E hr h => ?_)
  · obtain ⟨m, v, n, rfl, hm, ok, hn, q⟩ := h
    rfl
  · obtain ⟨m, v, n, rfl, hm, ok, hn, q⟩ := h
    refine ⟨_, PSs.nox (pss_one (ps_ret (pe_call G_values_at (hr.mono (by decide)) (by rfl) T.g_values_at T.F_values_at.kp T.b_values_at .nil pass0 (pa_cons (pv 0) (pa_cons (pe_listRg rfl (by rfl) T.m_list (prg_1 (by rfl) T.m_range (pv 1))) pa_nil))))), ?_⟩
    refine ⟨v, rfl, .int (n : Nat), rfl, (n : Nat), rfl, RgOk.of_le (Int.le_refl 0) (by omega) (by decide) (by omega), fun l nl => ?_⟩
    refine ⟨m, v, l, (List.range n).map fun (i : Nat) => (i : Int), rfl, hm.same (same_upd nl), ok, ?_, by rw [List.length_map, List.length_range]; exact hn, fun H1 p s1 np hp => ?_⟩
    · rw [upd_same]
      unfold rgV
      rw [List.map_map, show ((n : Int) - 0).toNat = n by omega]
      congr 2
      apply List.map_congr_left
      intro i _
      show V.int (0 + (i : Int)) = V.int (i : Int)
      rw [Int.zero_add]
    · refine q H1 p ((same_upd nl).trans s1) ((same_upd nl).free np) ?_
      rw [hp]
      simp only [List.map_map]
      rfl
/-! heaps with tables -/
theorem trip0 : TriplesOk (#[] : Array Value).toList := trivial
structure Sam (H H' : Hp) : Prop where
  obj : ∀ b o, (∀ ps, o ≠ .tbl ps) → H b = some o → H' b = some o
  tab : ∀ b ps, H b = some (.tbl ps) → ∃ ps', H' b = some (.tbl ps') ∧ (TriplesOk ps.toList → TriplesOk ps'.toList)
theorem Sam.of {H H' : Hp} (s : Same H H') : Sam H H' := ⟨fun b o _ e => s b o e, fun b ps e => ⟨ps, s b _ e, fun z => z⟩⟩
theorem Sam.refl (H : Hp) : Sam H H := .of (Same.refl H)
theorem Sam.trans {H H1 H2 : Hp} (a : Sam H H1) (b : Sam H1 H2) : Sam H H2 := ⟨fun c o n e => b.obj c o n (a.obj c o n e), fun c ps e => by
  obtain ⟨p1, e1, t1⟩ := a.tab c ps e
  obtain ⟨p2, e2, t2⟩ := b.tab c p1 e1
  exact ⟨p2, e2, fun z => t2 (t1 z)⟩⟩
theorem Sam.tabG {H H' : Hp} {P : Addr} (a : Sam H H') (t : GxR.TabG H P) : GxR.TabG H' P := by
  obtain ⟨ps, e, z⟩ := t
  obtain ⟨p1, e1, t1⟩ := a.tab P ps e
  exact ⟨p1, e1, t1 z⟩
theorem Sam.tup {H H' : Hp} {a : Addr} {xs : List V} (s : Sam H H') (h : H a = some (.tup xs)) : H' a = some (.tup xs) := s.obj _ _ (fun _ z => by cases z) h
theorem Sam.lst {H H' : Hp} {a : Addr} {xs : List V} (s : Sam H H') (h : H a = some (.lst xs)) : H' a = some (.lst xs) := s.obj _ _ (fun _ z => by cases z) h
theorem Sam.free {H H' : Hp} (s : Sam H H') {l : Addr} (h : H' l = none) : H l = none := by
  cases q : H l with
  | none => rfl
  | some o =>
    cases o with
    | tbl ps =>
      obtain ⟨p1, e1, _⟩ := s.tab l ps q
      rw [e1] at h
      cases h
    | _ =>
      rw [s.obj l _ (fun _ z => by cases z) q] at h
      cases h
theorem Sam.tabbed {P : Addr} {H H' : Hp} (g : GxR.TabG H P) (t : GxR.Tabbed P H H') : Sam H H' := by
  obtain ⟨⟨p1, e1, z1⟩, k⟩ := t
  obtain ⟨p0, e0, _⟩ := g
  refine ⟨fun b o n e => ?_, fun b ps e => ?_⟩
  · by_cases hb : b = P
    · rw [hb, e0] at e
      exact absurd (Option.some.inj e).symm (n p0)
    · rw [k b hb]
      exact e
  · by_cases hb : b = P
    · rw [hb]
      exact ⟨p1, e1, fun _ => z1⟩
    · exact ⟨ps, by rw [k b hb]; exact e, fun z => z⟩
theorem sam_newer {H H' : Hp} {q : Addr} {o : HO} (a : Sam H H') (n : H q = none) : Sam H (upd H' q o) := ⟨fun c x hx e => by
    rw [upd_ne (ne_of_none e n)]
    exact a.obj c x hx e, fun c ps e => by
    obtain ⟨p1, e1, t1⟩ := a.tab c ps e
    exact ⟨p1, by rw [upd_ne (ne_of_none e n)]; exact e1, t1⟩⟩
/-- all but the box stays, tables grow -/
structure Bus (p : Addr) (H H' : Hp) : Prop where
  obj : ∀ b o, b ≠ p → (∀ ps, o ≠ .tbl ps) → H b = some o → H' b = some o
  tab : ∀ b ps, b ≠ p → H b = some (.tbl ps) → ∃ ps', H' b = some (.tbl ps') ∧ (TriplesOk ps.toList → TriplesOk ps'.toList)
theorem Bus.of {p : Addr} {H H' : Hp} (s : But p H H') : Bus p H H' := ⟨fun b o n _ e => s b o n e, fun b ps n e => ⟨ps, s b _ n e, fun z => z⟩⟩
theorem Bus.sam {p : Addr} {H H' : Hp} (s : Sam H H') : Bus p H H' := ⟨fun b o _ n e => s.obj b o n e, fun b ps _ e => s.tab b ps e⟩
theorem Bus.refl (p : Addr) (H : Hp) : Bus p H H := .of (But.refl p H)
theorem Bus.trans {p : Addr} {H H1 H2 : Hp} (a : Bus p H H1) (b : Bus p H1 H2) : Bus p H H2 := ⟨fun c o h n e => b.obj c o h n (a.obj c o h n e), fun c ps h e => by
  obtain ⟨p1, e1, t1⟩ := a.tab c ps h e
  obtain ⟨p2, e2, t2⟩ := b.tab c p1 h e1
  exact ⟨p2, e2, fun z => t2 (t1 z)⟩⟩
theorem Bus.tup {p : Addr} {H H' : Hp} {n : Nat} {a : Addr} {xs : List V} (s : Bus p H H') (B : Bx H p n) (h : H a = some (.tup xs)) : H' a = some (.tup xs) := s.obj _ _ (B.ne_tup h) (fun _ z => by cases z) h
theorem Bus.lst {p : Addr} {H H' : Hp} {a : Addr} {xs : List V} (s : Bus p H H') (ne : a ≠ p) (h : H a = some (.lst xs)) : H' a = some (.lst xs) := s.obj _ _ ne (fun _ z => by cases z) h
theorem Bus.tabG {p : Addr} {H H' : Hp} {n : Nat} {P : Addr} (s : Bus p H H') (B : Bx H p n) (t : GxR.TabG H P) : GxR.TabG H' P := by
  obtain ⟨ps, e, z⟩ := t
  obtain ⟨a, b, c, hp, _⟩ := B
  obtain ⟨p1, e1, t1⟩ := s.tab P ps (ne_of e hp (fun z => by cases z)) e
  exact ⟨p1, e1, t1 z⟩
theorem Bus.new {p q : Addr} {H H' : Hp} {o : HO} (a : Bus p H H') (n : H' q = none) : Bus p H (upd H' q o) := a.trans (.of ((But.refl p H').new n))
/-- a thing made since H may change -/
theorem bus_newer {p q : Addr} {H H' : Hp} {o : HO} (a : Bus p H H') (n : H q = none) : Bus p H (upd H' q o) := ⟨fun c x h hx e => by
    rw [upd_ne (ne_of_none e n)]
    exact a.obj c x h hx e, fun c ps h e => by
    obtain ⟨p1, e1, t1⟩ := a.tab c ps h e
    exact ⟨p1, by rw [upd_ne (ne_of_none e n)]; exact e1, t1⟩⟩
theorem Bus.free {p : Addr} {H H' : Hp} {n : Nat} (s : Bus p H H') (B : Bx H p n) (B' : ∃ m, Bx H' p m) {l : Addr} (h : H' l = none) : H l = none := by
  cases q : H l with
  | none => rfl
  | some o =>
    have nl : l ≠ p := fun z => by
      obtain ⟨m, _, _, _, hp, _⟩ := B'
      rw [z, hp] at h
      cases h
    cases o with
    | tbl ps =>
      obtain ⟨p1, e1, _⟩ := s.tab l ps nl q
      rw [e1] at h
      cases h
    | _ =>
      rw [s.obj l _ nl (fun _ z => by cases z) q] at h
      cases h
theorem Bx.sam {H H' : Hp} {p : Addr} {n : Nat} (h : Bx H p n) (s : Sam H H') : Bx H' p n := by
  obtain ⟨a, b, c, hp, r⟩ := h
  exact ⟨a, b, c, s.lst hp, r⟩
theorem bus_same {p : Addr} {H H1 H2 : Hp} (n : H p = none) (a : Sam H H1) (b : Bus p H1 H2) : Sam H H2 := ⟨fun c x h e => b.obj c x (ne_of_none e n) h (a.obj c x h e), fun c ps e => by
  obtain ⟨p1, e1, t1⟩ := a.tab c ps e
  obtain ⟨p2, e2, t2⟩ := b.tab c p1 (ne_of_none e n) e1
  exact ⟨p2, e2, fun z => t2 (t1 z)⟩⟩
theorem ne_new {H : Hp} {p q : Addr} {n : Nat} (B : Bx H p n) (nq : H q = none) : q ≠ p := fun e => by
  obtain ⟨_, _, _, hp, _⟩ := B
  rw [e, hp] at nq
  cases nq
/-! the law's own rows -/
def Bits (rs : List Int) : Prop := ∀ x, x ∈ rs → x = 0 ∨ x = 1
theorem Bits.snoc {rs : List Int} {x : Int} (h : Bits rs) (hx : x = 0 ∨ x = 1) : Bits (rs ++ [x]) := fun y hy => by
  rcases List.mem_append.mp hy with hy | hy
  · exact h y hy
  · rw [List.mem_singleton] at hy
    rw [hy]
    exact hx
theorem but_newer {p q : Addr} {H H' : Hp} {o : HO} (a : But p H H') (n : H q = none) : But p H (upd H' q o) := fun c x hn e => by
  rw [upd_ne (ne_of_none e n)]
  exact a c x hn e
theorem Bx.other {H : Hp} {p q : Addr} {n : Nat} {o : HO} (h : Bx H p n) (nq : q ≠ p) : Bx (L2.upd H q o) p n := by
  obtain ⟨a, b, c, hp, r⟩ := h
  exact ⟨a, b, c, by rw [upd_ne (Ne.symm nq)]; exact hp, r⟩
def PV (p D : Addr) (HX : Hp) (k i : Nat) (H1 : Hp) : Prop := ∃ rs : List Int, rs.length = i ∧ Bits rs ∧ But p HX H1 ∧ Bx H1 p (k + i) ∧ H1 D = some (.lst (rs.map V.int))
theorem pv_start {p D : Addr} {HX : Hp} {k : Nat} (nD : HX D = none) (B : Bx HX p k) : PV p D HX k 0 (upd HX D (.lst [])) := ⟨[], rfl, fun _ h => (by cases h), (But.refl p HX).new nD, B.new nD, upd_same⟩
theorem pv_step {p D : Addr} {HX H1 H4 : Hp} {k i : Nat} {x : Int} (nD : HX D = none) (Dp : D ≠ p) (h : PV p D HX k i H1) (b : But p H1 H4) (B : Bx H4 p (k + (i + 1))) (hi : i < 100000) (hx : x = 0 ∨ x = 1) :
    ∃ acc, H4 D = some (.lst acc) ∧ acc.length < sizeLine ∧ PV p D HX k (i + 1) (upd H4 D (.lst (acc ++ [.int x]))) := by
  obtain ⟨rs, hl, hb, b1, _, hD⟩ := h
  have hsl : sizeLine = 16777216 := by decide
  refine ⟨_, b _ _ Dp hD, by rw [List.length_map]; omega, rs ++ [x], by rw [List.length_append, hl]; rfl, hb.snoc hx, but_newer (b1.trans b) nD, B.other Dp, ?_⟩
  rw [upd_same, List.map_append]
  rfl
theorem rep_one (m : Nat) (x : Int) : (List.replicate m [V.int x]).flatten = (List.replicate m x).map V.int := by
  rw [List.map_replicate]
  induction m with
  | zero => rfl
  | succ m ih => rw [List.replicate_succ, List.flatten_cons, ih, List.replicate_succ]; rfl
def PN (p D : Addr) (HX : Hp) (m : Int) (k i : Nat) (H1 : Hp) : Prop := ∃ rs : List Int, rs.length = i ∧ (∀ x, x ∈ rs → 0 ≤ x ∧ x < m) ∧ But p HX H1 ∧ Bx H1 p (k + i) ∧ H1 D = some (.lst (rs.map V.int))
theorem pn_start {p D : Addr} {HX : Hp} {m : Int} {k : Nat} (nD : HX D = none) (B : Bx HX p k) : PN p D HX m k 0 (upd HX D (.lst [])) := ⟨[], rfl, fun _ h => (by cases h), (But.refl p HX).new nD, B.new nD, upd_same⟩
theorem pn_step {p D : Addr} {HX H1 H4 : Hp} {m : Int} {k i : Nat} {x : Int} (nD : HX D = none) (Dp : D ≠ p) (h : PN p D HX m k i H1) (b : But p H1 H4) (B : Bx H4 p (k + (i + 1))) (hi : i < 100000) (hx : 0 ≤ x ∧ x < m) :
    ∃ acc, H4 D = some (.lst acc) ∧ acc.length < sizeLine ∧ PN p D HX m k (i + 1) (upd H4 D (.lst (acc ++ [.int x]))) := by
  obtain ⟨rs, hl, hb, b1, _, hD⟩ := h
  have hsl : sizeLine = 16777216 := by decide
  refine ⟨_, b _ _ Dp hD, by rw [List.length_map]; omega, rs ++ [x], by rw [List.length_append, hl]; rfl, fun y hy => ?_, but_newer (b1.trans b) nD, B.other Dp, ?_⟩
  · rcases List.mem_append.mp hy with hy | hy
    · exact hb y hy
    · rw [List.mem_singleton.mp hy]
      exact hx
  · rw [upd_same, List.map_append]
    rfl
/-! where a number stands first -/
theorem flat_ints (xs : List Int) : (xs.map V.int).all flatV = true := by
  rw [List.all_eq_true]
  intro x hx
  obtain ⟨i, _, rfl⟩ := List.mem_map.mp hx
  rfl
theorem in_ints (xs : List Int) (k : Int) : inV (.int k) (xs.map V.int) = decide (k ∈ xs) := by
  unfold inV
  rw [Bool.eq_iff_iff, List.any_eq_true, decide_eq_true_iff]
  constructor
  · rintro ⟨y, hy, e⟩
    obtain ⟨i, hi, rfl⟩ := List.mem_map.mp hy
    have : i = k := by
      have e : (i == k) = true := e
      exact eq_of_beq e
    rw [← this]
    exact hi
  · intro h
    exact ⟨_, List.mem_map.mpr ⟨k, h, rfl⟩, show (k == k) = true from beq_self_eq_true k⟩
theorem first_of {xs : List Int} {k : Int} : k ∈ xs → ∃ j : Nat, xs[j]? = some k ∧ ∀ m, m < j → xs[m]? ≠ some k := by
  induction xs with
  | nil => intro h; cases h
  | cons x r ih =>
    intro h
    by_cases e : x = k
    · exact ⟨0, by rw [e]; rfl, fun m hm => by omega⟩
    · rcases List.mem_cons.mp h with h | h
      · exact absurd h.symm e
      · obtain ⟨j, h1, h2⟩ := ih h
        refine ⟨j + 1, h1, fun m hm => ?_⟩
        cases m with
        | zero => exact fun z => e (Option.some.inj z)
        | succ m => exact h2 m (by omega)
theorem nat_of {x : Int} (h : 0 ≤ x) : ∃ m : Nat, x = (m : Nat) := Int.eq_ofNat_of_zero_le h
theorem nx_via {t u : TS} {D : Ends} {r : VK} {k c : L2.St → Hp → Prop} {σ : L2.St} {H : Hp} (R : L2.St → Hp → Prop) (h1 : ∀ N : L2.St → Hp → Prop, (∀ σ H, R σ H → N σ H) → t { D with nx := N } σ H) (h2 : ∀ σ H, R σ H → u D σ H) : Ends.nx { nx := tSeq t u D, rt := r, bk := k, ct := c } σ H := h1 _ h2
theorem seq_via {t u : TS} {D : Ends} {σ : L2.St} {H : Hp} (R : L2.St → Hp → Prop) (h1 : ∀ N : L2.St → Hp → Prop, (∀ σ H, R σ H → N σ H) → t { D with nx := N } σ H) (h2 : ∀ σ H, R σ H → u D σ H) : tSeq t u D σ H := h1 _ h2
/-! makers drawn -/
theorem rnd_pos : ∀ {m : Mk}, m.Ok → 1 ≤ m.rnd
  | .slow n m, h => Nat.mul_pos h.1 (rnd_pos (m := m) h.2.2)
  | .slip n m, h => by
    have r := rnd_pos (m := m) h.2.2
    obtain ⟨c, hc⟩ := Nat.gcd_dvd_left m.rnd (n + 1)
    have g := gcd_le (a := m.rnd) (n := n)
    show 1 ≤ n * m.rnd / Nat.gcd m.rnd (n + 1)
    generalize Nat.gcd m.rnd (n + 1) = d at hc g
    rw [hc, Nat.mul_left_comm, Nat.mul_div_cancel_left _ (by omega)]
    have c1 : 1 ≤ c := by
      rcases Nat.eq_zero_or_pos c with z | z
      · rw [z, Nat.mul_zero] at hc
        omega
      · exact z
    exact Nat.mul_pos h.1 c1
  | .late _ m, h => rnd_pos (m := m) h.2
  | .counter _ _ _, h => (Mk.Pl.len (m := .counter _ _ _) h).1
  | .table _, h => (Mk.Pl.len (m := .table _) h).1
  | .turned _ _, h => (Mk.Pl.len (m := .turned _ _) h).1
  | .register _ _ _, h => (Mk.Pl.len (m := .register _ _ _) h).1
theorem bt_round : ∀ {m : Mk}, m.Ok → ∀ (c : Nat) (t : Int), ∃ z : Int, m.bt (t + (c : Int) * (m.rnd : Int)) = m.bt t + z * (m.inn.pl.length : Int)
  | .slow n m, h, c, t => by
    have n0 : (n : Int) ≠ 0 := by have := h.1; omega
    obtain ⟨z, hz⟩ := bt_round (m := m) h.2.2 c (t / n)
    refine ⟨z, ?_⟩
    show m.bt ((t + (c : Int) * ((n * m.rnd : Nat) : Int)) / n) = _
    rw [show (c : Int) * ((n * m.rnd : Nat) : Int) = (n : Int) * ((c : Int) * (m.rnd : Int)) by rw [Int.natCast_mul, Int.mul_left_comm], Int.add_mul_ediv_left _ _ n0]
    exact hz
  | .slip n m, h, c, t => by
    have n0 : (n : Int) ≠ 0 := by have := h.1; omega
    obtain ⟨r', hr⟩ := Nat.gcd_dvd_left m.rnd (n + 1)
    obtain ⟨e, he⟩ := Nat.gcd_dvd_right m.rnd (n + 1)
    have g := gcd_le (a := m.rnd) (n := n)
    obtain ⟨z, hz⟩ := bt_round (m := m) h.2.2 (c * e) (t + t / n)
    refine ⟨z, ?_⟩
    have eR : n * m.rnd / Nat.gcd m.rnd (n + 1) = n * r' := by
      generalize Nat.gcd m.rnd (n + 1) = d at hr g
      rw [hr, Nat.mul_left_comm, Nat.mul_div_cancel_left _ (by omega)]
    have key : (n + 1) * r' = e * m.rnd := by
      generalize Nat.gcd m.rnd (n + 1) = d at hr he
      rw [he, hr, Nat.mul_comm d e, Nat.mul_assoc]
    show m.bt ((t + (c : Int) * ((n * m.rnd / Nat.gcd m.rnd (n + 1) : Nat) : Int)) + (t + (c : Int) * ((n * m.rnd / Nat.gcd m.rnd (n + 1) : Nat) : Int)) / n) = _
    rw [eR, show (c : Int) * ((n * r' : Nat) : Int) = (n : Int) * ((c : Int) * (r' : Int)) by rw [Int.natCast_mul, Int.mul_left_comm], Int.add_mul_ediv_left _ _ n0]
    have e2 : t + (n : Int) * ((c : Int) * (r' : Int)) + (t / (n : Int) + (c : Int) * (r' : Int)) = t + t / (n : Int) + ((c * e : Nat) : Int) * (m.rnd : Int) := by
      have k1 : ((c * e : Nat) : Int) * (m.rnd : Int) = (c : Int) * (((n + 1) * r' : Nat) : Int) := by
        rw [key, Int.natCast_mul, Int.natCast_mul, Int.mul_assoc]
      have k2 : (c : Int) * (((n + 1) * r' : Nat) : Int) = (n : Int) * ((c : Int) * (r' : Int)) + (c : Int) * (r' : Int) := by
        rw [Int.natCast_mul, Int.natCast_add, Int.add_mul, Int.mul_add, Int.mul_left_comm]
        congr 1
        rw [show ((1 : Nat) : Int) * (r' : Int) = (r' : Int) by omega]
      omega
    rw [e2]
    exact hz
  | .late n m, h, c, t => by
    obtain ⟨z, hz⟩ := bt_round (m := m) h.2 c (t - n)
    refine ⟨z, ?_⟩
    show m.bt (t + (c : Int) * (m.rnd : Int) - n) = _
    rw [show t + (c : Int) * (m.rnd : Int) - (n : Int) = t - (n : Int) + (c : Int) * (m.rnd : Int) by omega]
    exact hz
  | .counter _ _ _, _, c, _ => ⟨c, rfl⟩
  | .table _, _, c, _ => ⟨c, rfl⟩
  | .turned _ _, _, c, _ => ⟨c, rfl⟩
  | .register _ _ _, _, c, _ => ⟨c, rfl⟩
theorem val_round {m : Mk} (h : m.Ok) (t : Int) : m.val (t + (m.rnd : Int)) = m.val t := by
  obtain ⟨z, hz⟩ := bt_round h 1 t
  rw [show (((1 : Nat) : Int)) * (m.rnd : Int) = (m.rnd : Int) by omega] at hz
  unfold Mk.val
  rw [hz, Int.add_mul_emod_self_right]
/-! enumerate of a tuple -/
abbrev itObj (l : Addr) : Obj := { cls := .type "tuple_iterator", data := .fields #[.ref l, .int 0 0] }
abbrev enObj (a : Addr) : Obj := { cls := .type "enumerate", data := .fields #[.none, .bool false, .ref a, rawInt 0, .none, .none] }
set_option maxHeartbeats 1000000 in
theorem enum_newT (l : Addr) (items : Array Value) : Meets (Builtin.«enumerate.__new__» ⟨[.type "enumerate", .ref l], []⟩)
    (fun _ R s => s.heap.IsTuple l items ∧ R (.ok (.ret (.ref (s.heap.push (itObj l)).objs.size))) { s with heap := (s.heap.push (itObj l)).push (enObj s.heap.objs.size) }) :=
  .of_wp fun prog w A R s h => by
    obtain ⟨hp, g, d, tk, os⟩ := s
    obtain ⟨h1, h⟩ := h
    have hsub := sub_enumerate
    have q1 : ∀ {A' : Around} {E : Value → Shared → Prop} {Q : Value → Shared → Prop}, Q (.ref hp.objs.size) ⟨hp.push (itObj l), g, d, tk, os⟩ → wpAny (model prog w) A' (pyIter (.ref l)) Q E ⟨hp, g, d, tk, os⟩ := fun q => (begins_tuple l items).iter prog w _ _ ⟨hp, g, d, tk, os⟩ _ h1 q
    obtain ⟨⟨c, dct, dt, sl⟩, hl, hc, n, hd⟩ := h1
    replace hc : c = .type "tuple" := hc
    replace hd : dt = .seq items n := hd
    subst hc hd
    wp_walk using AutoSeq1.wpAny_loadPart' hl, q1
    refine wpAny_stack_any fun st => wpAny_pure ?_
    split
    · rename_i c _ _ _ _ _
      cases (c == Value.type "enumerate") <;> (wp_walk using AutoSeq1.wpAny_loadPart' hl, q1; exact ⟨_, rfl, h⟩)
    · wp_walk using AutoSeq1.wpAny_loadPart' hl, q1
      exact ⟨_, rfl, h⟩
theorem enum_callT {prog : Program} {w : World} {A : Around} {E : Value → Shared → Prop} {s : Shared} {l : Addr} {items : Array Value} {Q : Value → Shared → Prop} (hL : s.heap.IsTuple l items)
    (h : ∀ h', IsEnum h' (s.heap.objs.size + 1) s.heap.objs.size 0 .none → h'.IsTupleIter s.heap.objs.size l 0 → (∀ b o, s.heap.get? b = some o → h'.get? b = some o) → Q (.ref (s.heap.objs.size + 1)) { s with heap := h' }) :
    wpAny (model prog w) A (call (.type "enumerate") [.ref l]) Q E s := by
  refine callType_new F.called_enumerate (by decide) (F.typeCall_enumerate_1 _) (F.newCall_enumerate_1 _) (fun obj => F.args_object_init_2 obj _) F.entry_enumerate_new (enum_newT l items) ⟨hL, ?_⟩
  have hz : (s.heap.push (itObj l)).objs.size = s.heap.objs.size + 1 := Heap.size_push ..
  show _ ∧ _
  rw [hz]
  have he : IsEnum ((s.heap.push (itObj l)).push (enObj s.heap.objs.size)) (s.heap.objs.size + 1) s.heap.objs.size 0 .none := by
    have e := Heap.get?_push_size (s.heap.push (itObj l)) (o := enObj s.heap.objs.size) rfl
    rw [hz] at e
    exact e
  exact ⟨⟨_, he, rfl⟩, h _ he ⟨_, Heap.get?_push_of_some _ (Heap.get?_push_size _ rfl), rfl, rfl⟩ fun b o x => Heap.get?_push_of_some _ (Heap.get?_push_of_some _ x)⟩
/-- the tuple at a, each item in a new pair -/
def ItN (K : PySem.W.Frag) (a : Addr) : It :=
  ⟨fun i H => ∃ (xs : List V) (x : V), SqT K H a xs ∧ xs[i]? = some x, fun i H v H' => ∃ T x, v = .ref T ∧ H T = none ∧ H' = upd H T (.tup [.int (i : Nat), x]) ∧ ∀ xs, SqT K H a xs → xs[i]? = some x, fun i H => ∃ xs : List V, SqT K H a xs ∧ xs.length ≤ i⟩
theorem turn_N {P : Program} {w : World} {K : PySem.W.Frag} {elts : List Expr} {kk : Nat} {tpos : Pos} (a e it : Addr) (hae : a ≠ e) (hai : a ≠ it) :
    Turn P w K (.Tuple elts kk tpos) (ItN K a) [e, it] e (fun i h => (∃ old, IsEnum h e it ((i : Nat) : Int) old) ∧ h.IsTupleIter it a i ∧ e ≠ it) where
  mem := List.mem_cons_self
  obj := fun i h st b hb => by
    obtain ⟨⟨old, he⟩, ⟨o, ho, hc, hd⟩, _⟩ := st
    rcases List.mem_cons.mp hb with z | z
    · rw [z]
      exact ⟨_, he, fun v q => nomatch q⟩
    · rw [List.mem_singleton.mp z]
      exact ⟨o, ho, fun v q => by rw [hd] at q; cases q⟩
  keep := fun i h h' st k => let ⟨⟨old, he⟩, hi, hne⟩ := st; ⟨⟨old, k e List.mem_cons_self _ he⟩, hi.at fun o q => k it (List.mem_cons_of_mem _ List.mem_cons_self) o q, hne⟩
  item := by
    intro X hP hw hK hc i pins s σ H E I hf st hg
    subst hP hw hK
    obtain ⟨⟨old, he⟩, hit, hne⟩ := st
    obtain ⟨xs, x, hq, hx⟩ := hg
    obtain ⟨its, rv, p, hz⟩ := I.tuple hq
    obtain ⟨u, hu, ru⟩ := rv.get hx
    have hel : e < s.heap.objs.size := Heap.lt_size he
    have hil : it < s.heap.objs.size := by
      obtain ⟨_, q, _⟩ := hit
      exact Heap.lt_size q
    have hlt : i < its.toArray.size := by
      rw [List.size_toArray]
      exact (List.getElem?_eq_some_iff.mp hu).1
    refine wpAny_pyNext_enum_itemD (Draws.tuple (A := X.A.in1) (I.ok.hd hc) it a hai its.toArray) he ⟨hit, (show s.heap.IsTuple a its.toArray from p)⟩ hlt hne (fun z => ?_) fun x' h' tk hP' ho hst' hT hsz hk => ?_
    · rcases List.mem_cons.mp z with z | z
      · exact hne z
      · exact hae (List.mem_singleton.mp z).symm
    have ex : x' = u := by
      have hP' : its.toArray[i]? = some x' := hP'
      have hu' : its.toArray[i]? = some u := by simpa using hu
      rw [hu'] at hP'
      exact (Option.some.inj hP').symm
    subst ex
    refine ⟨_, rfl, wpAny_letOwnedTupleGo_enum (s := { s with heap := h', toks := tk + 1 }) ho fun h'' he' sb => ?_⟩
    have hT2 : h''.get? s.heap.objs.size = some { cls := .type "tuple", data := .seq #[.int i tk, x'] } := (sb.2 _ (Nat.ne_of_gt hel)).trans hT
    have new : ObjOk X.prog X.w (upd H s.heap.objs.size (.tup [.int (i : Nat), x])) h'' s.heap.objs.size (.tup [.int (i : Nat), x]) := ⟨(show 2 ≤ sizeLine by decide), [.int i tk, x'], .cons ⟨_, rfl⟩ (.cons ru .nil), ⟨_, hT2, rfl, _, rfl⟩⟩
    have I1 : Inv X pins σ (upd H s.heap.objs.size (.tup [.int (i : Nat), x])) { s with heap := h'', toks := tk + 1 } :=
      I.turnedNew (ch := [e, it]) (fun b ob hb q => (sb.2 b (fun z => hb (by rw [z]; exact List.mem_cons_self))).trans (hk b ob (fun z => hb (by rw [z]; exact List.mem_cons_self)) (fun z => hb (by rw [z]; exact List.mem_cons_of_mem _ List.mem_cons_self)) q)) hf (Nat.le_refl _) new
    refine ⟨.ref s.heap.objs.size, _, I1, rfl, ⟨_, x, rfl, I.hok.fresh (Nat.le_refl _), rfl, fun ys hy => by rw [I.tuple_inj hy hq]; exact hx⟩, ⟨⟨x', ?_⟩, hst'.1.at fun o q => (sb.2 it (Ne.symm hne)).trans q, hne⟩, fun b hb => ?_⟩
    · rw [show ((i + 1 : Nat) : Int) = (i : Int) + 1 by omega]
      exact he'
    · have hb' : b < s.heap.objs.size := by
        rcases List.mem_cons.mp hb with z | z
        · rw [z]
          exact hel
        · rw [List.mem_singleton.mp z]
          exact hil
      rw [upd_ne (Nat.ne_of_lt hb')]
      exact (hf b hb).1
  done := by
    intro X hP hw hK hc i pins s σ H E I hf st hg
    subst hP hw hK
    obtain ⟨⟨old, he⟩, hit, hne⟩ := st
    obtain ⟨xs, hq, hx⟩ := hg
    obtain ⟨its, rv, p, hz⟩ := I.tuple hq
    obtain ⟨f0, f1, f2, f3, f4, f5⟩ := hf it (List.mem_cons_of_mem _ List.mem_cons_self)
    have hl := rv.length
    have hT : s.TypeIs (.ref e) "enumerate" := ⟨_, he, rfl⟩
    have hend : its.toArray[i]? = none := by
      rw [List.getElem?_toArray, List.getElem?_eq_none (by omega)]
    unfold pyNext
    refine wpAny_bind (wpAny_attempt (wpAny_callSpecial?_slot (name := Str.ofString "__next__") hT F.slot_enumerate_next (wpAny_call_entry F.slot_enumerate_next hT F.entry_enumerate_next ?_ (F.args_enumerate_next_1 _))))
    show wpAny _ _ (field (.ref e) 2 >>= _) _ _ _
    refine wpAny_bind (wpAny_field he rfl (x := .ref it) rfl ?_)
    refine wpAny_bind (wpAny_nextOf_tuple_end (I.ok.hd hc) hit (show s.heap.IsTuple a its.toArray from p) hend fun h' x eb hx' => ?_)
    obtain ⟨o, ho, hcl⟩ := hx'
    refine wpAny_bind (wpAny_isInstance (T := "StopIteration") (b := true) ⟨o, ho, hcl⟩ isSubtype_stop ?_)
    exact wpAny_pure ⟨rfl, I.turned (t' := s.toks) (fun b o hb q => eb b o hb q) f0 f1 f3 f4 f5⟩
  self := fun A i s Q E st h => let ⟨⟨_, he⟩, _⟩ := st; wpAny_pyIter_enum he h
def iEnumT (K : PySem.W.Frag) (ta : TA) : TI := fun σ H R => ta σ H fun vs H1 => ∃ a xs, vs = [.ref a] ∧ SqT K H1 a xs ∧ R (ItN K a) H1
theorem pi_enumT {X : Cx} {e : Expr} {ta : TA} {p pos tpos : Pos} {elts : List Expr} {kk : Nat} (hg : Gl X "enumerate") (hm : X.mg "enumerate" = none) (ha : PA X [e] ta) (hs : starEach [e] X.env = [(false, eval e X.env)] := by rfl) :
    PI X (.Tuple elts kk tpos) (.Call (.Name "enumerate" p) [e] [] pos) (iEnumT X.K ta) := by
  refine ⟨fun pins s σ H R I h => ?_⟩
  refine Call_ (ld_blt I hg hm boot_enumerate (PyProof.Rows.callWith_type1 (thn (ha.run pos pins s σ H _ I h) fun us s1 ⟨vs, H1, I1, r1, q1⟩ => ?_) hs rfl))
  obtain ⟨a, xs, ex, hq, q⟩ := q1
  subst ex
  rw [Vals.ref1 r1]
  obtain ⟨its, rv, p', hz⟩ := I1.tuple hq
  have lta : a < s1.heap.objs.size := by
    obtain ⟨o, ho, _⟩ := id p'
    exact Heap.lt_size ho
  refine enum_callT (show s1.heap.IsTuple a its.toArray from p') fun h' he hit hk => wpAny_pyIter_enum he ?_
  have I2 : Inv X pins σ H1 { s1 with heap := h' } := I1.kept (t' := s1.toks) hk
  refine ⟨s1.heap.objs.size + 1, [s1.heap.objs.size + 1, s1.heap.objs.size], _, _, H1, rfl, I2, turn_N a (s1.heap.objs.size + 1) s1.heap.objs.size (Nat.ne_of_lt (Nat.lt_succ_of_lt lta)) (Nat.ne_of_lt lta), ⟨⟨.none, he⟩, hit, Nat.succ_ne_self _⟩, fun b hb => ?_, q⟩
  have hle : s1.heap.objs.size ≤ b := by
    rcases List.mem_cons.mp hb with z | z
    · rw [z]
      exact Nat.le_succ _
    · rw [List.mem_singleton.mp z]
      exact Nat.le_refl _
  exact I1.fpOk hle (I1.hok.fresh hle)
theorem walk_enumT {K : PySem.W.Frag} {a : Addr} {xs : List V} : Walk (ItN K a) xs.length (fun H => SqT K H a xs) (YPair (fun i => some (.int (i : Nat))) (fun i => xs[i]?)) := by
  refine ⟨fun i _ hi q => ⟨xs, xs[i], q, List.getElem?_eq_getElem hi⟩, fun _ q => ⟨xs, q, Nat.le_refl _⟩, fun i H v H' _ q y => ?_⟩
  obtain ⟨T, x, h1, h2, h3, h4⟩ := y
  exact ⟨T, .int (i : Nat), x, h1, h2, h3, rfl, h4 xs q⟩
/-! generator expressions: the walked thing, the element, the generator at hand -/
def SrcOk (X : Cx) (P : Addr) (s1 : Shared) (xv : Value) (n : Nat) (Pf : Nat → Value → Prop) : Prop :=
  ∃ (o : Obj) (aux : List Addr) (Z : Nat → Heap → Prop),
    (∀ Q : Value → Shared → Prop, Q (.ref s1.heap.objs.size) { s1 with heap := s1.heap.push o } → wpAny (model X.prog X.w) X.A (pyIter xv) Q X.xe s1) ∧
    (∀ b ∈ aux, b < s1.heap.objs.size ∧ b ≠ P) ∧
    (∀ B : Around, B.handled = none → Walks X.prog X.w B s1.heap.objs.size (s1.heap.objs.size :: aux) [s1.heap.objs.size] n Pf Z) ∧ Z 0 (s1.heap.push o)
def EltOk (X : Cx) (P : Addr) (scope : Scope) (x : Str) (elt : Expr) (s1 : Shared) (Pf F : Nat → Value → Prop) : Prop :=
  ∀ (cenv : Env) (B : Around) (E2 : Value → Shared → Prop) (i : Nat) (v : Value) (s2 : Shared) (m2 : Str → Option Value), cenv.scope = scope → cenv.cells = cloFrom X.env.cells scope.names [] → cenv.globals = X.env.globals → cenv.builtins = builtinsNs →
    B.handled = none → Pf i v → s2.heap.Ns cenv.locals m2 → m2 x = some v → (∀ b o, b ≠ P → s1.heap.get? b = some o → s2.heap.get? b = some o) →
    wpAny (model X.prog X.w) B (eval elt cenv) (fun y s3 => F i y ∧ Keeps s2 s3) E2 s2
def AtHand (X : Cx) (pins : List (Addr × Obj)) (σ : L2.St) (H1 : Hp) (P : Addr) (n : Nat) (F : Nat → Value → Prop) (g : Addr) (s5 : Shared) : Prop :=
  ∃ (fp wr : List Addr) (G : Array GenState → Array GenState → Prop) (F' : Nat → Value → Prop) (Z : Nat → Shared → Prop),
    WalksS X.prog X.w X.A.in4 g fp wr G n F' Z ∧ (∀ j v, F' j v → F j v) ∧ Z 0 s5 ∧ (∀ b ∈ fp, b < s5.heap.objs.size) ∧ g ∈ fp ∧ (∀ i s9, Z i s9 → s9.TypeIs (.ref g) "generator") ∧
    ∀ s', Moved wr G s5 s' → ∃ H2, GxR.Tabbed P H1 H2 ∧ Inv X pins σ H2 s'
theorem gen_one {X : Cx} {pins : List (Addr × Obj)} {σ : L2.St} {s : Shared} {c P : Addr} {elt iter : Expr} {x : Str} {px gpos : Pos} {scope : Scope} {k : Nat} {W : Value → Shared → Prop}
    (hr : Room k X.A) (TB : GxR.TabB X.base X.mg c P) (hcode : X.env.code = .ref c) (S : GxR.GenS X.env scope x) (hs : ∀ v, genFold iter X.env v = pure v)
    (h : wpAny (model X.prog X.w) X.A (eval iter X.env) (fun xv s1 => ∃ (H1 : Hp) (ps : Array Value) (n : Nat) (Pf F : Nat → Value → Prop), Inv X pins σ H1 s1 ∧ H1 P = some (.tbl ps) ∧ TriplesOk ps.toList ∧ SrcOk X P s1 xv n Pf ∧
      EltOk X P scope x elt s1 Pf F ∧ ∀ g s5, AtHand X pins σ H1 P n F g s5 → W (.ref g) s5) X.xe s) :
    wpAny (model X.prog X.w) X.A (eval (.GeneratorExp elt [⟨.Name x px, iter, [], 0⟩] scope gpos) X.env) W X.xe s := by
  have deep := hr.dp
  refine wpAny_GeneratorExp_walksQ hr.hd S.co (closure_ok S.free) S.cell S.dot S.loc S.kind (by omega) (wpAny_mono h (fun xv s1 z => ?_) fun _ _ e => e) hs
  obtain ⟨H1, ps, n, Pf, F, J1, hP, trip, ⟨o, aux, Z, go, hau, wk, z0⟩, hel, fin⟩ := z
  refine go _ ?_
  have hPs : s1.heap.get? P = some { cls := .none, data := .fields ps } := J1.hok P _ hP
  have ltP : P < s1.heap.objs.size := Heap.lt_size hPs
  have hP2 : (s1.heap.push o).get? P = some { cls := .none, data := .fields ps } := Heap.get?_push_of_some _ hPs
  have cd : PySem.W.CodeHd (s1.heap.push o) c P := TB.code.keeps fun b u e => Heap.get?_push_of_some _ (J1.bk b u e)
  have lim : (s1.heap.push o).NoLimit := J1.nolimit.push o
  have szp : (s1.heap.push o).objs.size = s1.heap.objs.size + 1 := Heap.size_push ..
  have go2 : ∀ (code : Value) (h3 : Heap) (tk : Nat) (more : Array Value), Heap.ExtBut P (s1.heap.push o) h3 → (s1.heap.push o).objs.size ≤ h3.objs.size → h3.get? P = some { cls := .none, data := .fields (ps ++ more) } → TriplesOk (ps ++ more).toList →
      wpAny (model X.prog X.w) X.A (builtinsFor X.env.globals X.env.builtins) (fun bi s4 =>
        ∃ I0 fp wr n0 Pf0 Z0 pz F0, Value.ref s1.heap.objs.size = .ref I0 ∧ (∀ B : Around, B.handled = none → Walks X.prog X.w B I0 fp wr n0 Pf0 Z0) ∧ Z0 0 s4.heap ∧ (∀ b ∈ fp, b < s4.heap.objs.size) ∧ s4.heap.NoLimit ∧ cStatics ∉ wr ∧
          (∀ hq : Heap, (∀ b o, s4.heap.get? b = some o → hq.get? b = some o) →
            QuietGen X.prog X.w (genEnv scope (cloFrom X.env.cells scope.names []) s4.heap.objs.size code bi X.env) x [] elt (List.range s4.heap.objs.size) wr Pf0 pz F0 hq) ∧
          (∀ g h5 tk5 gs, gs.bare = true → s4.heap.objs.size < g → h5.objs.size = g + 1 → (∀ b o, s4.heap.get? b = some o → h5.get? b = some o) →
            WalksS X.prog X.w X.A.in4 g (g :: s4.heap.objs.size :: List.range s4.heap.objs.size) (s4.heap.objs.size :: wr) (GenOnlyQ s4.gens.size) (passing pz n0 0).length
              (fun j y => ∃ i, (passing pz n0 0)[j]? = some i ∧ F0 i y) (GenAt X.prog X.w X.A.in4 g s4.gens.size s4.heap.objs.size (List.range s4.heap.objs.size) wr pz n0 F0) →
            GenAt X.prog X.w X.A.in4 g s4.gens.size s4.heap.objs.size (List.range s4.heap.objs.size) wr pz n0 F0 0 { s4 with gens := s4.gens.push gs, toks := tk5, heap := h5 } →
            W (.ref g) { s4 with gens := s4.gens.push gs, toks := tk5, heap := h5 })) X.xe { s1 with heap := h3, toks := tk } := by
    intro code h3 tk more hx hsz hP3 trip3
    obtain ⟨bm, ob, e1, e2, e3, e4, e5, e6, e7, e8⟩ := TB.bm
    have keep3 : ∀ b u, b ≠ P → s1.heap.get? b = some u → h3.get? b = some u := fun b u hb e => hx b u hb (Heap.get?_push_of_some _ e)
    have stP : cStatics ≠ P := fun z => by
      obtain ⟨_, ⟨o1, es, ep, ho, hd, _⟩, _⟩ := J1.nolimit
      rw [z, hPs] at ho
      cases ho
      cases hd
    have stL : cStatics < s1.heap.objs.size := by
      obtain ⟨_, hns, _⟩ := J1.nolimit
      exact hns.lt
    have newP : s1.heap.objs.size ≠ P := Nat.ne_of_gt ltP
    refine wpAny_builtinsFor (m := X.mg) (by rw [J1.ok.glob]; exact ((J1.mod.glob.keeps J1.bk).push o).extBut hx TB.gP) e1 e2 (keep3 _ _ e4 (J1.bk _ _ e5)) e6 e7 e8 ?_
    refine ⟨s1.heap.objs.size, s1.heap.objs.size :: aux, [s1.heap.objs.size], n, Pf, Z, fun _ => true, F, rfl, wk, ?_, ?_, lim.extBut hx stP, ?_, ?_, ?_⟩
    · refine (wk X.A hr.hd).frame _ _ _ z0 fun b hb u e => hx b u (fun z => ?_) e
      rcases List.mem_cons.mp hb with z2 | z2
      · exact newP (z2.symm.trans z)
      · exact (hau b z2).2 z
    · intro b hb
      show b < h3.objs.size
      have up : s1.heap.objs.size < h3.objs.size := by omega
      rcases List.mem_cons.mp hb with z2 | z2
      · rw [z2]
        exact up
      · exact Nat.lt_trans (hau b z2).1 up
    · intro z
      rcases List.mem_cons.mp z with z2 | z2
      · exact Nat.ne_of_lt stL z2
      · cases z2
    · intro hq keepq
      refine ⟨fun B E2 i v s2 m2 hB hv hn hm hk => ?_, fun B E2 i v s2 m2 hB hv _ hn hm hk => ?_⟩
      · simp only [List.forIn_nil]
        exact wpAny_pure ⟨rfl, GxR.keeps_refl _⟩
      · refine hel _ B E2 i v s2 m2 rfl rfl rfl rfl hB hv hn hm fun b u hb e => ?_
        have lb := Heap.lt_size e
        have up : s1.heap.objs.size < h3.objs.size := by omega
        refine hk b (List.mem_range.mpr (Nat.lt_trans lb up)) (fun z => ?_) u (keepq b u (keep3 b u hb e))
        rcases List.mem_cons.mp z with z2 | z2
        · exact Nat.ne_of_lt lb z2
        · cases z2
    · intro g h5 tk5 gs hgb hag hsz5 hk5 W5 gat
      simp only [GxR.passing_true, List.length_range] at W5
      refine fin g _ ⟨_, _, _, _, _, W5, fun j v hv => ?_, gat, fun b hb => ?_, List.mem_cons_self, fun i s9 h9 => h9.1.typeIs, fun s' hm => ?_⟩
      · obtain ⟨i, hij, e⟩ := hv
        obtain ⟨_, ej⟩ := List.getElem?_eq_some_iff.mp hij
        rw [List.getElem_range] at ej
        subst ej
        exact e
      · show b < h5.objs.size
        have h8 : h3.objs.size < g := hag
        have h9 : h5.objs.size = g + 1 := hsz5
        have u1 : g < h5.objs.size := by
          rw [h9]
          exact Nat.lt_succ_self g
        have u2 : h3.objs.size < h5.objs.size := Nat.lt_trans h8 u1
        rcases List.mem_cons.mp hb with z | z
        · rw [z]
          exact u1
        · rcases List.mem_cons.mp z with z | z
          · rw [z]
            exact u2
          · exact Nat.lt_trans (show b < h3.objs.size from List.mem_range.mp z) u2
      · have old : ∀ b u, s1.heap.get? b = some u → b ∉ h3.objs.size :: [s1.heap.objs.size] := fun b u e hb => by
          have lb := Heap.lt_size e
          have up : s1.heap.objs.size < h3.objs.size := by omega
          rcases List.mem_cons.mp hb with z | z
          · exact Nat.ne_of_lt (Nat.lt_trans lb up) z
          · rcases List.mem_cons.mp z with z | z
            · exact Nat.ne_of_lt lb z
            · cases z
        have R := GxR.inv_tab (more := more) (h' := s'.heap) (g' := s'.gens) (d' := s'.drawn) (t' := s'.toks) J1 hP (fun b u hb e => hm.heap b u (old b u e) (hk5 b u (keep3 b u hb e)))
          (hm.heap P _ (old P _ hPs) (hk5 P _ hP3)) (AllBare.movedS (J1.bare.push hgb) hm)
        rw [GxR.sh_eta s1 s' hm.os] at R
        exact ⟨_, ⟨⟨ps ++ more, upd_same, trip3⟩, fun b hb => upd_ne hb⟩, R⟩
  refine ⟨lim, ?_⟩
  cases hf : codeAmong gpos ps.toList with
  | none =>
    refine wpAny_genexprCodeX hcode (cd.code hP2 trip) (cd.tab hP2) hf fun c' h' tk hx hge hlt hco' _ htab' _ => ?_
    obtain ⟨o1, vs, f1, tf, fl, tg, inF, tx, tt, op, _, _, _, _, _, _, _, _, _, htr, _⟩ := hco'
    exact go2 _ h' tk _ hx (Nat.le_trans hge (Nat.le_of_lt hlt)) htab'.2 htr
  | some cv =>
    refine wpAny_genexprCode_hit hcode (cd.code hP2 trip) hf ?_
    exact go2 cv (s1.heap.push o) s1.toks #[] (Heap.ExtBut.refl _ _) (Nat.le_refl _) (by rw [Array.append_empty]; exact hP2) (by rw [Array.append_empty]; exact trip)
/-! tuple(element for x in walked) -/
structure PSrc (X : Cx) (P : Addr) (iter : Expr) (ti : L2.St → Hp → (List V → Hp → Prop) → Prop) : Prop where
  run : ∀ (pins : List (Addr × Obj)) (s : Shared) (σ : L2.St) (H : Hp) (R : List V → Hp → Prop), Inv X pins σ H s → ti σ H (fun xs H1 => GxR.TabG H1 P ∧ R xs H1) →
    wpAny (model X.prog X.w) X.A (eval iter X.env) (fun xv s1 => ∃ (H1 : Hp) (xs : List V), Inv X pins σ H1 s1 ∧ GxR.TabG H1 P ∧ R xs H1 ∧ SrcOk X P s1 xv xs.length (fun i u => ∃ y, xs[i]? = some y ∧ RelV y u)) X.xe s
/-- where the element is reckoned: the generator's own frame -/
structure InGen (X : Cx) (P : Addr) (scope : Scope) (s1 : Shared) (cenv : Env) (B : Around) (s2 : Shared) (m2 : Str → Option Value) : Prop where
  sc : cenv.scope = scope
  cells : cenv.cells = cloFrom X.env.cells scope.names []
  glob : cenv.globals = X.env.globals
  blt : cenv.builtins = builtinsNs
  hd : B.handled = none
  ns : s2.heap.Ns cenv.locals m2
  keep : ∀ b o, b ≠ P → s1.heap.get? b = some o → s2.heap.get? b = some o
structure PElt (X : Cx) (P : Addr) (scope : Scope) (x : Str) (elt : Expr) (te : L2.St → Hp → V → V → Prop) : Prop where
  run : ∀ (pins : List (Addr × Obj)) (s1 : Shared) (σ : L2.St) (H : Hp), Inv X pins σ H s1 → GxR.TabG H P → ∀ (cenv : Env) (B : Around) (E2 : Value → Shared → Prop) (s2 : Shared) (m2 : Str → Option Value) (v y : V) (u : Value),
    InGen X P scope s1 cenv B s2 m2 → RelV v u → te σ H v y → m2 x = some u → wpAny (model X.prog X.w) B (eval elt cenv) (fun z s3 => RelV y z ∧ Keeps s2 s3) E2 s2
def tTupG (P : Addr) (ti : L2.St → Hp → (List V → Hp → Prop) → Prop) (te : L2.St → Hp → V → V → Prop) : TE := fun σ H Q => ti σ H fun xs H1 => GxR.TabG H1 P ∧ xs.length ≤ sizeLine ∧ ∃ ys : List V, ys.length = xs.length ∧
  (∀ (i : Nat) (x : V), xs[i]? = some x → ∃ y, ys[i]? = some y ∧ te σ H1 x y) ∧ ∀ H2 p, GxR.Tabbed P H1 H2 → H2 p = none → Q (.ref p) (upd H2 p (.tup ys))
theorem vals_of : ∀ (ys : List V) (us : List Value), us.length = ys.length → (∀ (j : Nat) (u : Value), us[j]? = some u → ∃ y, ys[j]? = some y ∧ RelV y u) → Vals ys us
  | [], [], _, _ => .nil
  | y :: ys, u :: us, hl, h => by
    obtain ⟨y1, e1, r1⟩ := h 0 u rfl
    cases e1
    exact .cons r1 (vals_of ys us (by simpa using hl) fun j v hj => h (j + 1) v hj)
theorem pe_tupG {X : Cx} {c P : Addr} {elt iter : Expr} {x : Str} {px p pos gpos : Pos} {scope : Scope} {ti : L2.St → Hp → (List V → Hp → Prop) → Prop} {te : L2.St → Hp → V → V → Prop} {k : Nat}
    (hr : Room k X.A) (hg : Gl X "tuple") (hm : X.mg "tuple" = none) (hb : bootBuiltins "tuple" = some (.type "tuple")) (TB : GxR.TabB X.base X.mg c P) (hcode : X.env.code = .ref c) (S : GxR.GenS X.env scope x)
    (hi : PSrc X P iter ti) (hel : PElt X P scope x elt te) (hs : ∀ v, genFold iter X.env v = pure v)
    (he : starEach [.GeneratorExp elt [⟨.Name x px, iter, [], 0⟩] scope gpos] X.env = (false, eval (.GeneratorExp elt [⟨.Name x px, iter, [], 0⟩] scope gpos) X.env) :: starEach [] X.env := by rfl) :
    PE X (.Call (.Name "tuple" p) [.GeneratorExp elt [⟨.Name x px, iter, [], 0⟩] scope gpos] [] pos) (tTupG P ti te) := by
  refine ⟨fun pins s σ H Q I h => ?_⟩
  refine wpAny_Call_Name_kw (ld_blt I hg hm hb ?_)
  refine PyProof.Rows.callWith_type1 ?_ he (by rfl)
  rw [he]
  show wpAny _ _ (spliced ((false, eval (.GeneratorExp elt [⟨.Name x px, iter, [], 0⟩] scope gpos) X.env) :: backTo pos (starEach [] X.env))) _ _ s
  have h2 : ti σ H fun xs H1 => GxR.TabG H1 P ∧ (xs.length ≤ sizeLine ∧ ∃ ys : List V, ys.length = xs.length ∧ (∀ (i : Nat) (x : V), xs[i]? = some x → ∃ y, ys[i]? = some y ∧ te σ H1 x y) ∧ ∀ H2 p, GxR.Tabbed P H1 H2 → H2 p = none → Q (.ref p) (upd H2 p (.tup ys))) := h
  refine Calls.spliced_cons (gen_one (pins := pins) (σ := σ) hr TB hcode S hs (wpAny_mono (hi.run pins s σ H _ I h2) (fun xv s1 z => ?_) fun _ _ e => e))
  obtain ⟨H1, xs, J, ⟨ps, hP, trip⟩, ⟨lx, ys, ly, hys, q⟩, src⟩ := z
  refine ⟨H1, ps, xs.length, _, fun i u => ∃ y, ys[i]? = some y ∧ RelV y u, J, hP, trip, src, ?_, fun g s5 at5 => ?_⟩
  · intro cenv B E2 i v s2 m2 h1 h3 h4 h5 h6 hv h7 h8 h9
    obtain ⟨w1, ew, rw1⟩ := hv
    obtain ⟨y, ey, ty⟩ := hys i w1 ew
    exact wpAny_mono (hel.run pins s1 σ H1 J ⟨ps, hP, trip⟩ cenv B E2 s2 m2 w1 y v ⟨h1, h3, h4, h5, h6, h7, h9⟩ rw1 ty h8) (fun z s3 r => ⟨⟨y, ey, r.1⟩, r.2⟩) fun _ _ e => e
  · refine Calls.spliced_nil ?_
    obtain ⟨fp, wr, G, F', Z, W5, im, z0, hfp, hgf, hT, hinv⟩ := at5
    refine PySem.call_tuple_gen (n := xs.length) W5.in4_3 hT z0 hfp hgf (fun s' acc mv it => ?_) lx
    obtain ⟨H2, tb, J2⟩ := hinv s' mv
    have vs : Vals ys acc.toList := vals_of ys acc.toList (by rw [Array.length_toList, it.1, ly]) fun j u hj => im j u (it.2 j u (by simpa using hj))
    refine ⟨.ref s'.heap.objs.size, _, J2.laid (t' := s'.toks) (o := .tup ys) (fun b ob e => Heap.get?_push_of_some _ e) (Nat.le_refl _) ⟨by omega, acc.toList, vs, ?_⟩, rfl, q H2 _ tb (J2.hok.fresh (Nat.le_refl _))⟩
    have ea : acc.toList.toArray = acc := by simp
    rw [ea]
    exact IsTup.new _ _
/-- range(e) -/
theorem src_range {X : Cx} {P : Addr} {a : Expr} {ta : TA} {p pos : Pos} (hg : Gl X "range") (hm : X.mg "range" = none) (ha : PA X [a] ta) (hs : starEach [a] X.env = [(false, eval a X.env)] := by rfl) :
    PSrc X P (.Call (.Name "range" p) [a] [] pos) (fun σ H R => ta σ H fun vs H1 => ∃ n : Nat, vs = [.int (n : Nat)] ∧ n ≤ sizeLine ∧ R ((List.range n).map fun i => V.int (i : Nat)) H1) := by
  refine ⟨fun pins s σ H R I h => ?_⟩
  refine Call_ (ld_blt I hg hm boot_range (PyProof.Rows.callWith_type1 (thn (ha.run pos pins s σ H _ I h) fun us s1 ⟨vs, H1, J, r1, q1⟩ => ?_) hs rfl))
  obtain ⟨n, rfl, hn, tg, q⟩ := q1
  cases r1 with
  | cons r rr =>
    cases rr
    obtain ⟨t, rfl⟩ := r
    have hsl : sizeLine = 16777216 := by decide
    refine call_range_1 ⟨H1, _, J.kept fun b o e => Heap.get?_push_of_some _ e, tg, q, ?_⟩
    refine ⟨_, [], fun i h => IsRangeIter h (s1.heap.push { cls := .type "range", data := .fields #[.int 0 s1.toks, .int (n : Nat) t, .int 1 (s1.toks + 1)] }).objs.size ((0 : Int) + (i : Nat) * 1) ((n : Int) - (i : Nat)) 1, fun Q hQ => wpAny_pyIter_range (IsRange.new ..) (small_one (by omega) (by omega) (by omega) (by omega)) hQ, fun b hb => (by cases hb), fun B hB => ?_, ?_⟩
    · rw [List.length_map, List.length_range]
      have W0 := Walks.range (prog := X.prog) (w := X.w) (A := B) hB (s1.heap.push { cls := .type "range", data := .fields #[.int 0 s1.toks, .int (n : Nat) t, .int 1 (s1.toks + 1)] }).objs.size 0 1 n
      exact W0.mono_item fun i v hi hv => by
        obtain ⟨t2, rfl⟩ := hv
        refine ⟨.int (i : Nat), ?_, t2, by rw [Int.zero_add, Int.mul_one]⟩
        rw [List.getElem?_map, List.getElem?_range hi]
        rfl
    · show IsRangeIter _ _ ((0 : Int) + ((0 : Nat) : Int) * 1) ((n : Int) - ((0 : Nat) : Int)) 1
      have e2 : (n : Int) - ((0 : Nat) : Int) = Builtin.Range.rangeSize 0 (n : Int) 1 := by
        rw [rangeSize_one]
        split <;> omega
      rw [e2]
      exact Heap.get?_push_size _ rfl
theorem gs_free {cells : List (Str × Addr)} {names : List (Str × NameKind)} (h : (names.all fun y => y.2 != .free || (cells.lookup y.1).isSome) = true) : ∀ y ∈ names, y.2 = .free → ∃ c, cells.lookup y.1 = some c := fun y hy e => by
  have q := List.all_eq_true.mp h y hy
  rw [e] at q
  exact Option.isSome_iff_exists.mp (by simpa using q)
/-! elements -/
section
variable {X : Cx} {pins : List (Addr × Obj)} {σ : L2.St} {H : Hp} {s1 s2 : Shared} {P c : Addr} {scope : Scope} {cenv : Env} {B : Around} {m2 : Str → Option Value} {E2 : Value → Shared → Prop}
theorem ig_local {x : Str} {u : Value} {p : Pos} {W : Value → Shared → Prop} (g : InGen X P scope s1 cenv B s2 m2) (hk : scope.kind = .function) (hl : scope.names.lookup x = some .local) (hm : m2 x = some u) {s3 : Shared} (k3 : Keeps s2 s3) (h : W u s3)
    (hd : (x == ("__debug__" : Str)) = false := by decide) : wpAny (model X.prog X.w) B (eval (.Name x p) cenv) W E2 s3 := by
  obtain ⟨h3, tk, rfl, kp⟩ := k3
  exact wpAny_Name (wpAny_loadName_local (by rw [g.sc]; exact hk) (show cenv.scope.names.lookup x = some .local by rw [g.sc]; exact hl) (g.ns.keeps kp) hm h) hd
theorem ig_free {x : Str} {i : Nat} {v : V} {p : Pos} {W : Value → Shared → Prop} (I : Inv X pins σ H s1) (tg : GxR.TabG H P) (g : InGen X P scope s1 cenv B s2 m2) (hk : scope.kind = .function) (hl : scope.names.lookup x = some .free)
    (hN : X.N[i]? = some x) (hσ : σ[i]? = some (some v)) (hX : X.env.scope.names.lookup x = some .cell) (hcl : ∀ cells : List (Str × Addr), (cloFrom cells scope.names []).lookup x = some ((cells.lookup x).getD 0)) {s3 : Shared} (k3 : Keeps s2 s3)
    (h : ∀ u, RelV v u → W u s3) (hn : (x == ("__classdict__" : Str)) = false := by decide) (hd : (x == ("__debug__" : Str)) = false := by decide) : wpAny (model X.prog X.w) B (eval (.Name x p) cenv) W E2 s3 := by
  obtain ⟨h3, tk, rfl, kp⟩ := k3
  obtain ⟨m, _, hloc⟩ := I.loc
  obtain ⟨u, ru, lk⟩ := hloc i x v hN hσ (.inr (.inl hX))
  rcases lk with ⟨h1, _⟩ | ⟨_, cc, h2, ic⟩
  · have h1 : X.env.scope.names.lookup x = some .local := h1
    rw [hX] at h1
    cases h1
  · obtain ⟨ps, hP, _⟩ := tg
    have ncP : cc ≠ P := fun z => by
      have q := I.freeC x cc h2
      rw [z, hP] at q
      cases q
    obtain ⟨o, ho, hd2⟩ := ic
    have lk2 : cenv.cells.lookup x = some cc := by
      rw [g.cells, hcl, h2]
      rfl
    exact wpAny_Name (wpAny_loadName_free (by rw [g.sc]; exact hk) (show cenv.scope.names.lookup x = some .free by rw [g.sc]; exact hl) lk2 ⟨o, kp _ _ (g.keep _ _ ncP ho), hd2⟩ (h u ru) hn) hd
theorem ig_blt {x : Str} {u : Value} {p : Pos} {W : Value → Shared → Prop} (I : Inv X pins σ H s1) (tg : GxR.TabG H P) (TB : GxR.TabB X.base X.mg c P) (g : InGen X P scope s1 cenv B s2 m2) (hk : scope.kind = .function) (hl : scope.names.lookup x = some .globalImplicit)
    (hm : X.mg x = none) (hv : bootBuiltins x = some u) {s3 : Shared} (k3 : Keeps s2 s3) (h : W u s3) (hn : x ≠ "__name__" := by decide) (hd : (x == ("__debug__" : Str)) = false := by decide) : wpAny (model X.prog X.w) B (eval (.Name x p) cenv) W E2 s3 := by
  obtain ⟨h3, tk, rfl, kp⟩ := k3
  obtain ⟨mb, h1, h2⟩ := I.mod.blt
  obtain ⟨ps, hP, _⟩ := tg
  have hPs : s1.heap.get? P = some { cls := .none, data := .fields ps } := I.hok P _ hP
  have n1 : s1.heap.Ns mainGlobals X.mg := I.mod.glob.keeps I.bk
  have n2 : s1.heap.Ns builtinsNs mb := h1.keeps I.bk
  have up : ∀ {a : Addr} {m : Str → Option Value}, s1.heap.Ns a m → h3.Ns a m := fun {a m} ⟨o, es, ep, ho, hd1, r⟩ => by
    have na : a ≠ P := fun z => by
      rw [z, hPs] at ho
      cases ho
      cases hd1
    exact ⟨o, es, ep, kp _ _ (g.keep _ _ na ho), hd1, r⟩
  exact Calls.Name_function_global (by rw [g.sc]; exact hk) (show cenv.scope.names.lookup x = some .globalImplicit by rw [g.sc]; exact hl) (Calls.loadGlobal_builtin (by rw [g.glob, I.ok.glob]; exact up n1) hm (by rw [g.blt]; exact up n2) ((h2 x hn).trans hv) h) hd
theorem kp_tok {s3 : Shared} (k : Keeps s2 s3) (n : Nat) : Keeps s2 { s3 with toks := n } := by
  obtain ⟨h', tk, rfl, kp⟩ := k
  exact ⟨h', n, rfl, kp⟩
/-- a tracked tuple, read in the generator's frame -/
theorem ig_tup {a : Addr} {xs : List V} (I : Inv X pins σ H s1) (tg : GxR.TabG H P) (g : InGen X P scope s1 cenv B s2 m2) (ha : H a = some (.tup xs)) {s3 : Shared} (k3 : Keeps s2 s3) : ∃ its : List Value, Vals xs its ∧ IsTup s3.heap a its.toArray ∧ xs.length ≤ sizeLine := by
  obtain ⟨h3, tk, rfl, kp⟩ := k3
  obtain ⟨ps, hP, _⟩ := tg
  obtain ⟨hz, its, r, ⟨o, ho, rest⟩⟩ := I.hok a _ ha
  have naP : a ≠ P := ne_of ha hP (fun z => by cases z)
  exact ⟨its, r, ⟨o, kp _ _ (g.keep _ _ naP ho), rest⟩, hz⟩
end
/-- row[(at - by) % len(row)] -/
theorem elt_late {X : Cx} {P c : Addr} {scope : Scope} {i j : Nat} {xr xa xb : Str} {p1 p2 p3 p4 p5 p6 p7 p8 p9 : Pos} (TB : GxR.TabB X.base X.mg c P) (hk : scope.kind = .function) (l1 : scope.names.lookup xa = some .local) (l2 : scope.names.lookup xr = some .free) (l3 : scope.names.lookup xb = some .free)
    (l4 : scope.names.lookup ("len" : Str) = some .globalImplicit) (hm : X.mg "len" = none) (hNi : X.N[i]? = some xr) (hNj : X.N[j]? = some xb) (hXi : X.env.scope.names.lookup xr = some .cell) (hXj : X.env.scope.names.lookup xb = some .cell)
    (c1 : ∀ cells : List (Str × Addr), (cloFrom cells scope.names []).lookup xr = some ((cells.lookup xr).getD 0)) (c2 : ∀ cells : List (Str × Addr), (cloFrom cells scope.names []).lookup xb = some ((cells.lookup xb).getD 0))
    (n1 : (xr == ("__classdict__" : Str)) = false := by decide) (n2 : (xr == ("__debug__" : Str)) = false := by decide) (n3 : (xb == ("__classdict__" : Str)) = false := by decide) (n4 : (xb == ("__debug__" : Str)) = false := by decide) (n5 : (xa == ("__debug__" : Str)) = false := by decide) :
    PElt X P scope xa (.Subscript (.Name xr p1) (.BinOp (.BinOp (.Name xa p2) .Sub (.Name xb p3) p4) .Mod (.Call (.Name "len" p5) [.Name xr p6] [] p7) p8) p9)
      (fun σ H v y => ∃ (a : Addr) (xs : List V) (by_ : Int) (t : Nat), σ[i]? = some (some (.ref a)) ∧ H a = some (.tup xs) ∧ σ[j]? = some (some (.int by_)) ∧ v = .int (t : Nat) ∧ 0 < xs.length ∧ xs[(((t : Int) - by_) % (xs.length : Int)).toNat]? = some y) := by
  refine ⟨fun pins s1 σ H I tg cenv B E2 s2 m2 v y u g rv te hm2 => ?_⟩
  obtain ⟨a, xs, by_, t, h1, h2, h3, rfl, h4, h5⟩ := te
  obtain ⟨tk, rfl⟩ := (show ∃ tk, u = Value.int (t : Nat) tk from rv)
  refine Subscript_ (ig_free I tg g hk l2 hNi h1 hXi c1 (GxR.keeps_refl s2) (fun u1 r1 => ?_) n1 n2)
  obtain rfl : u1 = Value.ref a := r1
  refine wpAny_BinOp (wpAny_BinOp (ig_local g hk l1 hm2 (GxR.keeps_refl s2) ?_ n5))
  refine ig_free I tg g hk l3 hNj h3 hXj c2 (GxR.keeps_refl s2) (fun u2 r2 => ?_) n3 n4
  obtain ⟨tb, rfl⟩ := (show ∃ tb, u2 = Value.int by_ tb from r2)
  refine sub_int ?_
  refine wpAny_Call_Name_kw (ig_blt I tg TB g hk l4 hm PySem.boot_len (GxR.keeps_tok s2 _) ?_)
  refine PyProof.Rows.callWith_builtin1 ?_ rfl rfl
  refine Calls.spliced_cons (ig_free I tg g hk l2 hNi h1 hXi c1 (GxR.keeps_tok s2 _) (fun u3 r3 => ?_) n1 n2)
  obtain rfl : u3 = Value.ref a := r3
  refine Calls.spliced_nil ?_
  obtain ⟨its, rvs, it, hz⟩ := ig_tup I tg g h2 (GxR.keeps_tok s2 (s2.toks + 1))
  have hlen := rvs.length
  have hsl : sizeLine = 16777216 := by decide
  have hj : (((t : Int) - by_) % (xs.length : Int)).toNat < xs.length := (List.getElem?_eq_some_iff.mp h5).1
  refine len_tuple it (by simp only [List.size_toArray] <;> omega) ?_
  refine mod_int' (by rw [List.size_toArray, ← hlen]; omega) ?_
  rw [List.size_toArray, ← hlen, Int.fmod_eq_emod_of_nonneg _ (by omega)]
  have m0 := Int.emod_nonneg ((t : Int) - by_) (show (xs.length : Int) ≠ 0 by omega)
  obtain ⟨w1, ew, rw1⟩ := rvs.get h5
  have fin := GxR.keeps_tok s2 (s2.toks + 1 + 1 + 1 + 1)
  refine subscriptTail_builtinR (x := w1) it.typeIs slot_tuple_getitem.lookup (getItem_tuple (j := (((t : Int) - by_) % (xs.length : Int)).toNat) it (by omega) (by omega) ?_ (by simpa using ew) ⟨rfl, rw1, fin⟩)
  rw [List.size_toArray, ← hlen]


  exact seqIndex_of m0 (Int.emod_lt_of_pos _ (by omega))
/-- a list at hand -/
theorem src_list {X : Cx} {P : Addr} {e : Expr} {te : TE} (he : PE X e te) :
    PSrc X P e (fun σ H R => te σ H fun v H1 => ∃ (a : Addr) (xs : List V), v = .ref a ∧ H1 a = some (.lst xs) ∧ R xs H1) := by
  refine ⟨fun pins s σ H R I h => ?_⟩
  refine wpAny_mono (he.run pins s σ H _ I h) (fun u s1 z => ?_) fun _ _ e => e
  obtain ⟨v, H1, J, r1, a, xs, rfl, ha, tg, q⟩ := z
  obtain rfl : u = Value.ref a := r1
  obtain ⟨ps, hP, trip⟩ := tg
  have naP : a ≠ P := ne_of ha hP (fun z => by cases z)
  obtain ⟨hz, its, n, rv, hl, ho⟩ := J.lstM ha
  have isl : s1.heap.IsList a its.toArray := ⟨_, ho, rfl, n, rfl⟩
  have lta : a < s1.heap.objs.size := Heap.lt_size ho
  refine ⟨H1, xs, J, ⟨ps, hP, trip⟩, q, ?_⟩
  refine ⟨{ cls := .type "list_iterator", data := .fields #[.ref a, .int 0 0] }, [a], fun i h => h.IsListIter s1.heap.objs.size a i ∧ h.IsList a its.toArray, fun Q hQ => wpAny_pyIter_list isl hQ, fun b hb => ?_, fun B hB => ?_, ?_⟩
  · rw [List.mem_singleton.mp hb]
    exact ⟨lta, naP⟩
  · have W0 := Walks.list (prog := X.prog) (w := X.w) (A := B) hB s1.heap.objs.size a (Nat.ne_of_lt lta) its.toArray
    have en : its.toArray.size = xs.length := by rw [List.size_toArray, ← hl]
    rw [en] at W0
    exact W0.mono_item fun i v hi hv => by
      have gx : xs[i]? = some xs[i] := List.getElem?_eq_getElem hi
      obtain ⟨w1, ew, rw1⟩ := rv.get gx
      have z : its[i]? = some v := by simpa using hv
      rw [z] at ew
      cases ew
      exact ⟨_, gx, rw1⟩
  · exact ⟨⟨_, Heap.get?_push_size _ rfl, rfl, rfl⟩, isl.push _⟩
/-- 1 if number < k else 0 -/
theorem elt_below {X : Cx} {P : Addr} {scope : Scope} {j : Nat} {xa xb : Str} {p1 p2 p3 p4 p5 p6 : Pos} {k1 k2 : Nat} (hk : scope.kind = .function) (l1 : scope.names.lookup xa = some .local) (l3 : scope.names.lookup xb = some .free)
    (hNj : X.N[j]? = some xb) (hXj : X.env.scope.names.lookup xb = some .cell) (c2 : ∀ cells : List (Str × Addr), (cloFrom cells scope.names []).lookup xb = some ((cells.lookup xb).getD 0))
    (n3 : (xb == ("__classdict__" : Str)) = false := by decide) (n4 : (xb == ("__debug__" : Str)) = false := by decide) (n5 : (xa == ("__debug__" : Str)) = false := by decide) :
    PElt X P scope xa (.IfExp (.Compare (.Name xa p1) [.Lt] [.Name xb p2] p3) (.Constant (.int 1) k1 p4) (.Constant (.int 0) k2 p5) p6)
      (fun σ _ v y => ∃ b t : Int, σ[j]? = some (some (.int b)) ∧ v = .int t ∧ y = .int (if t < b then 1 else 0)) := by
  refine ⟨fun pins s1 σ H I tg cenv B E2 s2 m2 v y u g rv te hm2 => ?_⟩
  obtain ⟨b, t, h3, rfl, rfl⟩ := te
  obtain ⟨tk, rfl⟩ := (show ∃ tk, u = Value.int t tk from rv)
  refine wpAny_IfExp (wpAny_isTrue_Compare1 (ig_local g hk l1 hm2 (GxR.keeps_refl s2) ?_ n5) rfl)
  refine ig_free I tg g hk l3 hNj h3 hXj c2 (GxR.keeps_refl s2) (fun u2 r2 => ?_) n3 n4
  obtain ⟨tb, rfl⟩ := (show ∃ tb, u2 = Value.int b tb from r2)
  refine wpAny_lt_int (wpAny_truthy_bool ?_)
  by_cases e : t < b
  · rw [decide_eq_true e, if_pos rfl, if_pos e]
    exact wpAny_Constant_int ⟨⟨_, rfl⟩, GxR.keeps_tok s2 _⟩
  · rw [decide_eq_false e, if_neg Bool.false_ne_true, if_neg e]
    exact wpAny_Constant_int ⟨⟨_, rfl⟩, GxR.keeps_tok s2 _⟩
/-! the ones of a row told again and again -/
def cn (rs : List Int) : Nat → Int
  | 0 => 0
  | k + 1 => cn rs k + rs.getD (k % rs.length) 0
/-- what the first k bits are off, times the length -/
def Df (rs : List Int) (k : Nat) : Int := cn rs k * rs.length - k * rs.sum
theorem cn_take (rs : List Int) : ∀ k, k ≤ rs.length → cn rs k = (rs.take k).sum
  | 0, _ => rfl
  | k + 1, h => by
    show cn rs k + rs.getD (k % rs.length) 0 = _
    rw [cn_take rs k (by omega), Nat.mod_eq_of_lt (by omega), List.take_add_one, List.getD_eq_getElem?_getD, List.getElem?_eq_getElem (show k < rs.length by omega), List.sum_append]
    simp
theorem cn_all (rs : List Int) : cn rs rs.length = rs.sum := by
  rw [cn_take rs _ (Nat.le_refl _), List.take_length]
theorem cn_again (rs : List Int) : ∀ k, cn rs (k + rs.length) = cn rs k + rs.sum
  | 0 => by rw [Nat.zero_add, cn_all]; show _ = 0 + _; omega
  | k + 1 => by
    rw [show k + 1 + rs.length = (k + rs.length) + 1 by omega]
    show cn rs (k + rs.length) + rs.getD ((k + rs.length) % rs.length) 0 = (cn rs k + rs.getD (k % rs.length) 0) + _
    rw [cn_again rs k, Nat.add_mod_right]
    omega
theorem Df_again (rs : List Int) (k : Nat) : Df rs (k + rs.length) = Df rs k := by
  unfold Df
  rw [cn_again, Int.add_mul, Int.natCast_add, Int.add_mul, Int.mul_comm rs.sum]
  omega
theorem Df_zero (rs : List Int) : Df rs 0 = 0 := by
  unfold Df
  show 0 * _ - ((0 : Nat) : Int) * _ = (0 : Int)
  simp
theorem Df_step (rs : List Int) (k : Nat) : Df rs (k + 1) = Df rs k + rs.length * rs.getD (k % rs.length) 0 - rs.sum := by
  unfold Df
  show (cn rs k + rs.getD (k % rs.length) 0) * _ - _ = _
  rw [Int.add_mul, Int.natCast_add, Int.add_mul, Int.mul_comm (rs.getD (k % rs.length) 0)]
  omega
/-- the greatest off up to k, and the first place that has it -/
structure Best (D : Nat → Int) (k : Nat) (w : Int) (j : Nat) : Prop where
  le : j ≤ k
  eq : ((D j).natAbs : Int) = w
  most : ∀ i, i ≤ k → ((D i).natAbs : Int) ≤ w
  first : ∀ i, i < j → ((D i).natAbs : Int) < w
theorem Best.zero {D : Nat → Int} (h : D 0 = 0) : Best D 0 0 0 := ⟨Nat.le_refl 0, by rw [h]; rfl, fun i hi => by rw [show i = 0 by omega, h]; exact Int.le_refl 0, fun i hi => by omega⟩
theorem Best.more {D : Nat → Int} {k j : Nat} {w : Int} (h : Best D k w j) (l : w < ((D (k + 1)).natAbs : Int)) : Best D (k + 1) ((D (k + 1)).natAbs : Int) (k + 1) :=
  ⟨Nat.le_refl _, rfl, fun i hi => by
    by_cases e : i = k + 1
    · rw [e]; exact Int.le_refl _
    · exact Int.le_of_lt (Int.lt_of_le_of_lt (h.most i (by omega)) l), fun i hi => Int.lt_of_le_of_lt (h.most i (by omega)) l⟩
theorem Best.less {D : Nat → Int} {k j : Nat} {w : Int} (h : Best D k w j) (l : ((D (k + 1)).natAbs : Int) ≤ w) : Best D (k + 1) w j :=
  ⟨Nat.le_succ_of_le h.le, h.eq, fun i hi => by
    by_cases e : i = k + 1
    · rw [e]; exact l
    · exact h.most i (by omega), h.first⟩
theorem Best.uniq {D : Nat → Int} {k j j' : Nat} {w w' : Int} (h : Best D k w j) (h' : Best D k w' j') : w = w' ∧ j = j' := by
  have e : w = w' := by
    have a := h.most j' h'.le
    have b := h'.most j h.le
    rw [h'.eq] at a
    rw [h.eq] at b
    omega
  subst e
  refine ⟨rfl, ?_⟩
  rcases Nat.lt_trichotomy j j' with z | z | z
  · have := h'.first j z
    rw [h.eq] at this
    omega
  · exact z
  · have := h.first j' z
    rw [h'.eq] at this
    omega
/-- by the list's greatest one and where it comes first -/
theorem Best.of_list {D : Nat → Int} {k j : Nat} {w : Int} (hm : ∀ y, y ∈ (List.range (k + 1)).map (fun i => ((D i).natAbs : Int)) → y ≤ w) (h1 : ((List.range (k + 1)).map (fun i => ((D i).natAbs : Int)))[j]? = some w)
    (h2 : ∀ m, m < j → ((List.range (k + 1)).map (fun i => ((D i).natAbs : Int)))[m]? ≠ some w) : Best D k w j := by
  have at_ : ∀ i, i ≤ k → ((List.range (k + 1)).map (fun i => ((D i).natAbs : Int)))[i]? = some ((D i).natAbs : Int) := fun i hi => by
    rw [List.getElem?_map, List.getElem?_range (by omega)]
    rfl
  have hj : j ≤ k := by
    have := (List.getElem?_eq_some_iff.mp h1).1
    rw [List.length_map, List.length_range] at this
    omega
  have mo : ∀ i, i ≤ k → ((D i).natAbs : Int) ≤ w := fun i hi => hm _ (List.mem_of_getElem? (at_ i hi))
  refine ⟨hj, ?_, mo, fun i hi => ?_⟩
  · rw [at_ j hj] at h1
    exact Option.some.inj h1
  · have := mo i (by omega)
    have n := h2 i hi
    rw [at_ i (by omega)] at n
    have : ((D i).natAbs : Int) ≠ w := fun z => n (by rw [z])
    omega
/-! the program: ones, offs, the worst part -/
def sp_ones (_ : PySem.W.Frag) : Sp := fun vs H Q _ => ∃ (a : Addr) (rs : List Int), vs = [.ref a] ∧ H a = some (.tup (rs.map V.int)) ∧ Q (.int rs.sum) H
theorem ok_ones (T : Defs K mg) (TT : Tabs T base) : FnOk P w K mg base CX0 1 T.f_ones T.fd_ones ["row"] (sp_ones K) := by
  refine T.F_ones.ok sc_ones (fun vs H Q E h => ?_) (fun cdv A outer s H vs Q E hr h => ?_)
  · obtain ⟨a, rs, rfl, ha, q⟩ := h
    rfl
  · obtain ⟨a, rs, rfl, ha, q⟩ := h
    refine ⟨_, PSs.nox (pss_one (ps_ret (pe_callB (cr_sumT rfl) (by rfl) T.m_sum bt_sum (pa_cons (pv 0) pa_nil)))), ?_⟩
    exact ⟨.ref a, rfl, a, rs, rfl, SqT.mk ha, q⟩
def OL (rs : List Int) (i : Nat) : List V := ((List.range i).map (Df rs)).map V.int
theorem OL_succ (rs : List Int) (i : Nat) : OL rs (i + 1) = OL rs i ++ [.int (Df rs i)] := by
  unfold OL
  rw [List.range_succ, List.map_append, List.map_append]
  rfl
theorem OL_len (rs : List Int) (i : Nat) : (OL rs i).length = i := by
  unfold OL
  rw [List.length_map, List.length_map, List.length_range]
def sp_offs_by (_ : PySem.W.Frag) : Sp := fun vs H Q _ => ∃ (a : Addr) (rs : List Int), vs = [.ref a, .int rs.sum, .int (rs.length : Nat)] ∧ H a = some (.tup (rs.map V.int)) ∧ rs.length ≤ 100000 ∧
  ∀ H' p, Same H H' → H p = none → H' p = some (.lst (OL rs (rs.length + 1))) → Q (.ref p) H'
theorem ok_offs_by (T : Defs K mg) (TT : Tabs T base) : FnOk P w K mg base CX0 1 T.f_offs_by T.fd_offs_by ["row", "many", "length"] (sp_offs_by K) := by
  refine T.F_offs_by.ok sc_offs_by (fun vs H Q E h => ?_) (fun cdv A outer s H vs Q E hr h => ?_)
  · obtain ⟨a, rs, rfl, ha, hl, q⟩ := h
    rfl
  · obtain ⟨a, rs, rfl, ha, hl, q⟩ := h
    refine ⟨_, PSs.nox (pss_cons (ps_set (i := 3) sc_offs_by.nd rfl (.inl rfl) (pe_lst (pa_cons pe_int pa_nil)))
    (pss_cons (ps_for PassesOwn.never rfl (pi_tup (pv 0)) (pg_name (i := 4) sc_offs_by.nd rfl (.inl rfl)) (pss_one (ps_expr (pe_bm PySem.F.plainAttrs_list PySem.F.slot_list_append PySem.F.type_list_append mt_append (pv 3) (pa_cons (pe_op op_sub (pe_op op_add (pe_ix ix_list (pv 3) (pe_un un_neg pe_int) (fun _ _ => rfl)) (pe_op op_mul (pv 2) (pv 4))) (pv 1)) pa_nil)))))
    (pss_one (ps_ret (pv 3))))), ?_⟩
    have hsl : sizeLine = 16777216 := by decide
    refine ⟨(show 1 ≤ sizeLine by decide), fun p np => ?_⟩
    have s0 : Same H (upd H p (.lst [.int 0])) := same_upd np
    refine ⟨.ref a, rfl, a, rfl, ⟨_, SqT.mk (s0 _ _ ha)⟩, for_tup (xs := rs.map V.int) (fun i σ H1 => ∃ y3, σ = [some (.ref a), some (.int rs.sum), some (.int (rs.length : Nat)), some (.ref p), y3] ∧ Same H H1 ∧ H1 p = some (.lst (OL rs i ++ [.int (Df rs i)]))) ⟨none, rfl, s0, ?_⟩ ?_ ?_ ?_⟩
    · rw [upd_same, Df_zero]
      rfl
    · rintro i σ H1 hi ⟨y3, rfl, s1, hp⟩
      exact SqT.mk (s1 _ _ ha)
    · rintro i x σ H1 hx ⟨y3, rfl, s1, hp⟩
      rw [List.getElem?_map] at hx
      obtain ⟨b, hb, rfl⟩ := Option.map_eq_some_iff.mp hx
      have hi : i < rs.length := (List.getElem?_eq_some_iff.mp hb).1
      have eb : rs.getD (i % rs.length) 0 = b := by
        rw [Nat.mod_eq_of_lt hi, List.getD_eq_getElem?_getD, hb]
        rfl
      refine ⟨.ref p, rfl, .inl ⟨rfl, _, SqL.mk hp⟩, .ref p, rfl, 1, rfl, p, _, _, _, rfl, rfl, SqL.mk hp, atI_last _ _, ?_⟩
      refine ⟨.int (rs.length : Nat), rfl, .int b, rfl, _, _, rfl, rfl, .inl ⟨by omega, by omega⟩, _, _, rfl, rfl, .int rs.sum, rfl, _, _, rfl, rfl, ?_⟩
      have ll : (OL rs i ++ [V.int (Df rs i)]).length = i + 1 := by
        rw [List.length_append, OL_len]
        rfl
      refine ⟨p, _, _, rfl, rfl, hp, by rw [ll]; omega, ?_⟩
      refine ⟨_, rfl, same_newer s1 np, ?_⟩
      rw [upd_same, OL_succ, Df_step, eb]
    · rintro σ H1 ⟨y3, rfl, s1, hp⟩
      rw [List.length_map, ← OL_succ] at hp
      exact ⟨.ref p, rfl, q H1 p s1 np hp⟩
def sp_offs_of (_ : PySem.W.Frag) : Sp := fun vs H Q _ => ∃ (a : Addr) (rs : List Int), vs = [.ref a] ∧ H a = some (.tup (rs.map V.int)) ∧ rs.length ≤ 100000 ∧
  ∀ H' p, Same H H' → H p = none → H' p = some (.lst (OL rs (rs.length + 1))) → Q (.ref p) H'
theorem ok_offs_of (T : Defs K mg) (TT : Tabs T base) : FnOk P w K mg base CX0 2 T.f_offs_of T.fd_offs_of ["row"] (sp_offs_of K) := by
  have G_offs_by : FnOk P w K mg base CX0 1 T.f_offs_by T.fd_offs_by ["row", "many", "length"] (sp_offs_by K) := ok_offs_by T TT
  have G_ones : FnOk P w K mg base CX0 1 T.f_ones T.fd_ones ["row"] (sp_ones K) := ok_ones T TT
  refine T.F_offs_of.ok sc_offs_of (fun vs H Q E h => ?_) (fun cdv A outer s H vs Q E hr h => ?_)
  · obtain ⟨a, rs, rfl, ha, hl, q⟩ := h
    rfl
  · obtain ⟨a, rs, rfl, ha, hl, q⟩ := h
    refine ⟨_, PSs.nox (pss_one (ps_ret (pe_call G_offs_by (hr.mono (by decide)) (by rfl) T.g_offs_by T.F_offs_by.kp T.b_offs_by .nil pass0 (pa_cons (pv 0) (pa_cons (pe_call G_ones (hr.mono (by decide)) (by rfl) T.g_ones T.F_ones.kp T.b_ones .nil pass0 (pa_cons (pv 0) pa_nil)) (pa_cons (pe_callB call_len_seq (by rfl) T.m_len bt_len (pa_cons (pv 0) pa_nil)) pa_nil)))))), ?_⟩
    refine ⟨.ref a, rfl, .ref a, rfl, a, rs, rfl, ha, .ref a, rfl, a, _, rfl, .inr (SqT.mk ha), a, rs, by rw [List.length_map]; rfl, ha, hl, q⟩
theorem s_len {n : Nat} (h : n ≤ 100000) : S 4000 (n : Int) := S.mono (n := 20) (show ((n : Int)).natAbs < 2 ^ 20 by omega) (by decide)
def sp_worst_part (_ : PySem.W.Frag) : Sp := fun vs H Q _ => ∃ (a : Addr) (rs : List Int), vs = [.ref a] ∧ H a = some (.tup (rs.map V.int)) ∧ 1 ≤ rs.length ∧ rs.length ≤ 100000 ∧
  ∀ H' t p w j, Same H H' → H t = none → H' t = some (.tup [.ref p, .int (j : Nat)]) → H' p = some (.tup [.int (frT w rs.length), .int (frB w rs.length)]) → Best (Df rs) rs.length w j → Q (.ref t) H'
theorem ok_worst_part (T : Defs K mg) (TT : Tabs T base) : FnOk P w K mg base CX0 3 T.f_worst_part T.fd_worst_part ["row"] (sp_worst_part K) := by
  have G_fraction : FnOk P w K mg base CX0 2 T.f_fraction T.fd_fraction ["top", "bottom"] (sp_fraction K) := ok_fraction T TT
  have G_offs_of : FnOk P w K mg base CX0 2 T.f_offs_of T.fd_offs_of ["row"] (sp_offs_of K) := ok_offs_of T TT
  refine T.F_worst_part.ok sc_worst_part (fun vs H Q E h => ?_) (fun cdv A outer s H vs Q E hr h => ?_)
  · obtain ⟨a, rs, rfl, ha, h1, hl, q⟩ := h
    rfl
  · obtain ⟨a, rs, rfl, ha, h1, hl, q⟩ := h
    refine ⟨_, PSs.nox (pss_cons (ps_setLc (i := 1) (own := [("off", 3)]) (g := gName 3) (tt := tYes) rfl sc_worst_part.nd rfl rfl (sw_true rfl rfl rfl (by decide +kernel)) (pi_list (pe_call G_offs_of (hr.mono (by decide)) (by rfl) T.g_offs_of T.F_offs_of.kp T.b_offs_of .nil pass0 (pa_cons (pv 0) pa_nil))) (blkOk_by (N := N_worst_part) (sc := defScope s_worst_part) (by decide +kernel)) (fun _ _ _ _ _ => (pg_name (i := 3) sc_worst_part.nd rfl (.inl rfl))) (fun _ _ _ _ _ => pts_nil) (fun _ _ _ _ _ => (pe_callB call_abs (by rfl) T.m_abs bt_abs (pa_cons (pv 3) pa_nil))))
    (pss_cons (ps_set (i := 2) sc_worst_part.nd rfl (.inl rfl) (pe_callB (cr_max rfl) (by rfl) T.m_max bt_max (pa_cons (pv 1) pa_nil)))
    (pss_one (ps_ret (pe_tup (pa_cons (pe_call G_fraction (hr.mono (by decide)) (by rfl) T.g_fraction T.F_fraction.kp T.b_fraction .nil pass0 (pa_cons (pv 2) (pa_cons (pe_callB call_len_seq (by rfl) T.m_len bt_len (pa_cons (pv 0) pa_nil)) pa_nil))) (pa_cons (pe_bm PySem.F.plainAttrs_list PySem.F.slot_list_index PySem.F.type_list_index mt_index (pv 1) (pa_cons (pv 2) pa_nil)) pa_nil))))))), ?_⟩
    have hsl : sizeLine = 16777216 := by decide
    refine ⟨.ref a, rfl, a, rs, rfl, ha, hl, fun H1 p s1 np hp => ?_⟩
    refine ⟨p, rfl, ⟨_, SqL.mk hp⟩, fun D nD => ?_⟩
    refine lc_list (xs := OL rs (rs.length + 1)) (fun i H2 => Same H1 H2 ∧ H2 D = some (.lst (((List.range i).map fun i => ((Df rs i).natAbs : Int)).map V.int))) ⟨same_upd nD, upd_same⟩ (fun i H2 _ h2 => SqL.mk (h2.1 _ _ hp)) (fun i x H2 hx h2 => ?_) (fun H2 h2 => ?_)
    · obtain ⟨s2, hD⟩ := h2
      unfold OL at hx
      have hi := (List.getElem?_eq_some_iff.mp hx).1
      rw [List.length_map, List.length_map, List.length_range] at hi
      rw [List.getElem?_map, List.getElem?_map, List.getElem?_range hi] at hx
      cases hx
      refine ⟨rfl, yes_ite ?_⟩
      refine ⟨_, rfl, _, rfl, _, hD, by rw [List.length_map, List.length_map, List.length_range]; omega, same_newer s2 nD, ?_⟩
      rw [upd_same, List.range_succ, List.map_append, List.map_append, abs_eq]
      rfl
    · obtain ⟨s2, hD⟩ := h2
      rw [OL_len] at hD
      have s02 := s1.trans s2
      refine ⟨.ref D, rfl, D, _, rfl, SqL.mk hD, by rw [List.length_map, List.length_range]; omega, fun w hw hm => ?_⟩
      obtain ⟨j, h3, h4⟩ := first_of hw
      have hbest := Best.of_list hm h3 h4
      refine ⟨.int w, rfl, .ref a, rfl, a, _, rfl, .inr (SqT.mk (s02 _ _ ha)), w, rs.length, by rw [List.length_map]; rfl, by omega, s_len hl, fun H3 f s3 nf hf => ?_⟩
      refine ⟨.ref D, rfl, .inl ⟨rfl, _, SqL.mk (s3 _ _ hD)⟩, .int w, rfl, D, _, .int w, j, .int w, rfl, rfl, SqL.mk (s3 _ _ hD), rfl, flat_ints _, by rw [List.getElem?_map, h3]; rfl, beq_self_eq_true w, fun m z' hm e => ?_, ?_⟩
      · rw [List.getElem?_map] at e
        obtain ⟨x, hx, rfl⟩ := Option.map_eq_some_iff.mp e
        have hx0 : x ≠ w := fun y => h4 m hm (by rw [hx, y])
        show (x == w) = false
        exact beq_eq_false_iff_ne.mpr hx0
      · refine ⟨(show 2 ≤ sizeLine by decide), fun t nt => ?_⟩
        exact q _ t f w j ((s02.trans s3).trans (same_upd nt)) (s02.free (s3.free nt)) upd_same ((same_upd nt) _ _ hf) hbest
/-! rows of makers -/
def blw (k t : Int) : Int := if t < k then 1 else 0
theorem blw_bit (k t : Int) : blw k t = 0 ∨ blw k t = 1 := by
  unfold blw
  split
  · exact .inr rfl
  · exact .inl rfl
noncomputable def rowM (m : Mk) (k : Int) (n : Nat) : List Int := (List.range n).map fun (i : Nat) => blw k (m.val i)
theorem rowM_len (m : Mk) (k : Int) (n : Nat) : (rowM m k n).length = n := by
  unfold rowM
  rw [List.length_map, List.length_range]
theorem rowM_take (m : Mk) (k : Int) {n b : Nat} (h : b ≤ n) : (rowM m k n).take b = rowM m k b := by
  unfold rowM
  rw [← List.map_take, List.take_range, Nat.min_eq_left h]
theorem rowM_two {m : Mk} (ok : m.Ok) (k : Int) : (rowM m k (2 * m.rnd)).sum = 2 * (rowM m k m.rnd).sum := by
  have e : rowM m k (2 * m.rnd) = rowM m k m.rnd ++ rowM m k m.rnd := by
    unfold rowM
    rw [show 2 * m.rnd = m.rnd + m.rnd by omega, List.range_add, List.map_append, List.map_map]
    congr 1
    apply List.map_congr_left
    intro i _
    show blw k (m.val ((m.rnd + i : Nat) : Int)) = blw k (m.val (i : Nat))
    have := val_round ok (i : Int)
    rw [Int.natCast_add, Int.add_comm, this]
  rw [e, List.sum_append]
  omega
theorem fr_two (t : Int) {b : Int} (hb : 0 < b) : frT (2 * t) (2 * b) = frT t b ∧ frB (2 * t) (2 * b) = frB t b := by
  have hg : 0 < Int.gcd t b := Int.gcd_pos_of_ne_zero_right t (by omega)
  obtain ⟨x, hx⟩ := Int.gcd_dvd_left (a := t) (b := b)
  obtain ⟨y, hy⟩ := Int.gcd_dvd_right (a := t) (b := b)
  have e1 := fr_vals hg rfl hx hy
  have e2 := fr_vals (t := 2 * t) (b := 2 * b) (g := 2 * Int.gcd t b) (x := x) (y := y) (by omega) (by rw [Int.gcd_mul_left]; rfl) (by
    rw [Int.natCast_mul, Int.mul_assoc, ← hx]
    rfl) (by
    rw [Int.natCast_mul, Int.mul_assoc, ← hy]
    rfl)
  exact ⟨e2.1.trans e1.1.symm, e2.2.trans e1.2.symm⟩
theorem MkAt.sam {H H' : Hp} {m : Mk} {v : V} (h : MkAt H m v) (s : Sam H H') : MkAt H' m v := h.keep fun _ _ e => s.tup e
theorem MkAt.bus {H H' : Hp} {m : Mk} {v : V} {p : Addr} {n : Nat} (h : MkAt H m v) (B : Bx H p n) (s : Bus p H H') : MkAt H' m v := h.keep fun _ _ e => s.tup B e
def sp_row_below {K : PySem.W.Frag} {mg : Str → Option Value} (T : Defs K mg) : Sp := fun vs H Q _ => ∃ (a : Addr) (ns : List Int) (k : Int), vs = [.ref a, .int k] ∧ H a = some (.lst (ns.map V.int)) ∧ ns.length ≤ 100000 ∧ GxR.TabG H T.P_row_below ∧
  ∀ H' p, Sam H H' → H p = none → H' p = some (.tup ((ns.map (blw k)).map V.int)) → Q (.ref p) H'
theorem ok_row_below (T : Defs K mg) (TT : Tabs T base) : FnOk P w K mg base CX0 1 T.f_row_below T.fd_row_below ["numbers", "k"] (sp_row_below T) := by
  refine okC T.F_row_below T.k_row_below sc_row_below (fun vs H Q E h => ?_) (fun A outer s H vs Q E hr h => ?_)
  · obtain ⟨a, ns, k, rfl, ha, hl, tg, q⟩ := h
    rfl
  · obtain ⟨a, ns, k, rfl, ha, hl, tg, q⟩ := h
    refine ⟨_, PSs.nox (pss_one (ps_ret (pe_tupG hr (by rfl) T.m_tuple bt_tuple TT.t_row_below rfl ⟨rfl, rfl, by decide +kernel, rfl, rfl, gs_free rfl⟩ (src_list (pv 0)) (elt_below (j := 1) rfl rfl rfl rfl rfl (fun _ => rfl)) (fun _ => rfl)))), ?_⟩
    have hsl : sizeLine = 16777216 := by decide
    refine ⟨.ref a, rfl, a, _, rfl, ha, tg, by rw [List.length_map]; omega, (ns.map (blw k)).map V.int, ?_, ?_, ?_⟩
    · rw [List.length_map, List.length_map, List.length_map]
    · intro i x hx
      rw [List.getElem?_map] at hx
      obtain ⟨t, ht, rfl⟩ := Option.map_eq_some_iff.mp hx
      refine ⟨.int (blw k t), ?_, k, t, rfl, rfl, rfl⟩
      rw [List.getElem?_map, List.getElem?_map, ht]
      rfl
    · intro H2 p tb np
      have s2 := Sam.tabbed tg tb
      exact q _ p (sam_newer s2 (s2.free np)) (s2.free np) upd_same
def sp_row_of {K : PySem.W.Frag} {mg : Str → Option Value} (T : Defs K mg) : Sp := fun vs H Q _ => ∃ m v, ∃ (k : Int) (n : Nat), vs = [v, .int k, .int (n : Nat)] ∧ MkAt H m v ∧ m.Ok ∧ n ≤ 100000 ∧ GxR.TabG H T.P_row_below ∧
  ∀ H' p, Sam H H' → H p = none → H' p = some (.tup ((rowM m k n).map V.int)) → Q (.ref p) H'
theorem ok_row_of (T : Defs K mg) (TT : Tabs T base) : FnOk P w K mg base CX0 6 T.f_row_of T.fd_row_of ["maker", "k", "beats"] (sp_row_of T) := by
  have G_row_below : FnOk P w K mg base CX0 1 T.f_row_below T.fd_row_below ["numbers", "k"] (sp_row_below T) := ok_row_below T TT
  have G_values_of : FnOk P w K mg base CX0 5 T.f_values_of T.fd_values_of ["maker", "beats"] (sp_values_of K) := ok_values_of T TT
  refine T.F_row_of.ok sc_row_of (fun vs H Q E h => ?_) (fun cdv A outer s H vs Q E hr h => ?_)
  · obtain ⟨m, v, k, n, rfl, hm, ok, hn, tg, q⟩ := h
    rfl
  · obtain ⟨m, v, k, n, rfl, hm, ok, hn, tg, q⟩ := h
    refine ⟨_, PSs.nox (pss_one (ps_ret (pe_call G_row_below (hr.mono (by decide)) (by rfl) T.g_row_below T.F_row_below.kp T.b_row_below .nil pass0 (pa_cons (pe_call G_values_of (hr.mono (by decide)) (by rfl) T.g_values_of T.F_values_of.kp T.b_values_of .nil pass0 (pa_cons (pv 0) (pa_cons (pv 2) pa_nil))) (pa_cons (pv 1) pa_nil))))), ?_⟩
    refine ⟨v, rfl, .int (n : Nat), rfl, m, v, n, rfl, hm, ok, hn, fun H1 p1 s1 n1 h1 => ?_⟩
    refine ⟨.int k, rfl, p1, _, k, rfl, h1, by rw [List.length_map, List.length_range]; exact hn, (Sam.of s1).tabG tg, fun H2 p2 s2 n2 h2 => ?_⟩
    refine q H2 p2 ((Sam.of s1).trans s2) (s1.free n2) ?_
    have e : (List.map (blw k) (List.map (fun i : Nat => m.val i) (List.range n))) = rowM m k n := by
      unfold rowM
      rw [List.map_map]
      rfl
    rw [h2, e]
def sp_share_of (_ : PySem.W.Frag) : Sp := fun vs H Q _ => ∃ (a : Addr) (rs : List Int), vs = [.ref a] ∧ H a = some (.tup (rs.map V.int)) ∧ 1 ≤ rs.length ∧ rs.length ≤ 100000 ∧
  ∀ H' p, Same H H' → H p = none → H' p = some (.tup [.int (frT rs.sum rs.length), .int (frB rs.sum rs.length)]) → Q (.ref p) H'
def sp_share_told {K : PySem.W.Frag} {mg : Str → Option Value} (T : Defs K mg) : Sp := fun vs H Q _ => ∃ m v, ∃ k : Int, vs = [v, .int k] ∧ MkAt H m v ∧ m.Ok ∧ m.dep < 5 ∧ m.rnd ≤ 100000 ∧ GxR.TabG H T.P_row_below ∧
  ∀ H' p, Sam H H' → H p = none → H' p = some (.tup [.int (frT (rowM m k m.rnd).sum m.rnd), .int (frB (rowM m k m.rnd).sum m.rnd)]) → Q (.ref p) H'
/-! the law's makers -/
theorem gcd_stepN (x y : Nat) : Nat.gcd y (x % y) = Nat.gcd x y := by
  rw [Nat.gcd_comm, ← Nat.gcd_rec, Nat.gcd_comm]
def sp__law_alone (_ : PySem.W.Frag) : Sp := fun vs H Q _ => ∃ a b : Nat, vs = [.int (a : Nat), .int (b : Nat)] ∧ Q (.bl (decide (V.int ((Nat.gcd a b : Nat) : Int) = V.int 1))) H
theorem ok__law_alone (T : Defs K mg) (TT : Tabs T base) : FnOk P w K mg base CX0 1 T.f__law_alone T.fd__law_alone ["_law_one", "_law_other"] (sp__law_alone K) := by
  refine T.F__law_alone.ok sc__law_alone (fun vs H Q E h => ?_) (fun cdv A outer s H vs Q E hr h => ?_)
  · obtain ⟨a, b, rfl, q⟩ := h
    rfl
  · obtain ⟨a, b, rfl, q⟩ := h
    refine ⟨_, PSs.nox (pss_cons (ps_while PassesOwn.never (pt_cmpR op_gt (pv 1) pe_int (nomark _)) (pss_one (ps_par (i := 0) (j := 1) (by rfl) sc__law_alone.nd rfl rfl (by decide) rfl rfl (pa_cons (pv 1) (pa_cons (pe_op op_mod (pv 0) (pv 1)) pa_nil)) (by rfl))))
    (pss_one (ps_ret (pe_cmpR op_eq (pv 0) pe_int (nomark _))))), ?_⟩
    refine while_by (fun σ H1 => H1 = H ∧ ∃ x y : Nat, σ = [some (.int (x : Nat)), some (.int (y : Nat))] ∧ Nat.gcd x y = Nat.gcd a b) (fun σ _ => match σ with | [_, some (.int y)] => y.toNat | _ => 0) ⟨rfl, a, b, rfl, rfl⟩ ?_ ?_
    · rintro σ H1 ⟨rfl, x, y, rfl, hg⟩
      refine ⟨.int (y : Nat), rfl, _, _, rfl, rfl, _, rfl, ite2 (fun e => ?_) (fun e => ?_)⟩
      · have hy : (0 : Int) < (y : Int) := of_decide_eq_true e
        refine ⟨.int (y : Nat), rfl, .int (x : Nat), rfl, .int (y : Nat), rfl, _, _, rfl, rfl, hy, _, _, rfl, ⟨rfl, y, x % y, ?_, ?_⟩, ?_⟩
        · rfl
        · rw [gcd_stepN, hg]
        · show ((x : Int) % (y : Int)).toNat < ((y : Int)).toNat
          have := Int.emod_lt_of_pos (x : Int) hy
          have := Int.emod_nonneg (x : Int) (show (y : Int) ≠ 0 by omega)
          omega
      · have hy : ¬ (0 : Int) < (y : Int) := fun z => e (decide_eq_true z)
        have y0 : y = 0 := by omega
        subst y0
        rw [Nat.gcd_zero_right] at hg
        subst hg
        exact ⟨_, rfl, rfl, q⟩
    · rintro σ H1 Q1 Q2 hQ ⟨v, hv, i, j, e1, e2, k, e3, h3⟩
      exact ⟨v, hv, i, j, e1, e2, k, e3, hQ _ _ h3⟩
def SV (D : Addr) (HX : Hp) (m i : Nat) (H1 : Hp) : Prop := ∃ ss : List Int, ss.length ≤ i ∧ (i = 0 ∨ 1 ≤ ss.length) ∧ (∀ x, x ∈ ss → 1 ≤ x ∧ x ≤ m) ∧ Same HX H1 ∧ H1 D = some (.lst (ss.map V.int))
theorem at_menuV {Pr : V → Prop} {xs : List V} {r : Int} (h0 : 0 ≤ r) (h1 : r < xs.length) (hx : ∀ x, x ∈ xs → Pr x) : ∃ v, atI xs r = some v ∧ Pr v := by
  obtain ⟨j, rfl⟩ := Int.eq_ofNat_of_zero_le h0
  have hj : j < xs.length := by omega
  exact ⟨xs[j], atI_nat (List.getElem?_eq_getElem hj), hx _ (List.getElem_mem hj)⟩
theorem i01b {c : Bool} : 0 ≤ (if c = true then (1 : Int) else 0) ∧ (if c = true then (1 : Int) else 0) < ((2 : Nat) : Int) := by
  cases c <;> decide
theorem word_menu {x : V} (hx : x ∈ [V.str "slow", .str "slip", .str "late"]) : ∃ z : Str, x = .str z ∧ (z = "slow" ∨ z = "slip" ∨ z = "late") := by
  rcases List.mem_cons.mp hx with rfl | hx
  · exact ⟨_, rfl, .inl rfl⟩
  rcases List.mem_cons.mp hx with rfl | hx
  · exact ⟨_, rfl, .inr (.inl rfl)⟩
  rcases List.mem_cons.mp hx with rfl | hx
  · exact ⟨_, rfl, .inr (.inr rfl)⟩
  · cases hx
theorem around_ok {H : Hp} {m : Mk} {x : V} {a : Addr} {z : Str} {n : Nat} (ha : H a = some (.tup [.str z, .int (n : Nat), x])) (hx : MkAt H m x) (ok : m.Ok) (hz : z = "slow" ∨ z = "slip" ∨ z = "late") (n2 : n ≤ 64) (n1 : z = "late" ∨ 1 ≤ n) :
    ∃ m', MkAt H m' (.ref a) ∧ m'.Ok ∧ m'.dep = m.dep + 1 ∧ m'.inn = m.inn ∧ m'.rnd ≤ 64 * m.rnd := by
  rcases hz with rfl | rfl | rfl
  · have n1 : 1 ≤ n := n1.resolve_left (by decide +kernel)
    exact ⟨.slow n m, ⟨a, x, rfl, ha, hx⟩, ⟨n1, n2, ok⟩, rfl, rfl, Nat.mul_le_mul_right _ n2⟩
  · have n1 : 1 ≤ n := n1.resolve_left (by decide +kernel)
    exact ⟨.slip n m, ⟨a, x, rfl, ha, hx⟩, ⟨n1, n2, ok⟩, rfl, rfl, Nat.le_trans (Nat.div_le_self _ _) (Nat.mul_le_mul_right _ n2)⟩
  · exact ⟨.late n m, ⟨a, x, rfl, ha, hx⟩, ⟨n2, ok⟩, rfl, rfl, Nat.le_mul_of_pos_left _ (by decide)⟩
def twos : List Int := [1, 2, 4, 8, 16, 32, 64]
theorem twos_at {w : Nat} (h : w ≤ 6) : (twos.map V.int)[w]? = some (.int ((2 ^ w : Nat) : Int)) := by
  have : w = 0 ∨ w = 1 ∨ w = 2 ∨ w = 3 ∨ w = 4 ∨ w = 5 ∨ w = 6 := by omega
  rcases this with rfl | rfl | rfl | rfl | rfl | rfl | rfl <;> rfl
theorem rnd_plainM {m : Mk} (h : m.dep = 0) : m.rnd = m.pl.length := by
  cases m with
  | slow n m => cases h
  | slip n m => cases h
  | late n m => cases h
  | _ => rfl
def spr__law_maker (d : Nat) (_ : PySem.W.Frag) : Sp := fun vs H Q _ => ∃ (p : Addr) (M : Int) (n k : Nat), vs = [.ref p, .int (k : Nat), .int M] ∧ Bx H p n ∧ n + 400 * d < 1000000000 ∧ k < d ∧ d ≤ 3 ∧ 1 ≤ M ∧ M ≤ 64 ∧
  ∀ H' v m, But p H H' → Bx H' p (n + 400 * d) → MkAt H' m v → m.Ok → m.dep ≤ k → m.rnd ≤ 64 ^ (k + 1) → Q v H'
theorem no__law_maker {K : PySem.W.Frag} {vs : List V} {H : Hp} {Q : VK} {E : XK} (h : spr__law_maker 0 K vs H Q E) : False := by
  obtain ⟨p, M, n, k, _, _, _, z, _⟩ := h
  exact Nat.not_lt_zero _ z
theorem okr__law_maker (T : Defs K mg) (TT : Tabs T base) : ∀ d : Nat, FnOk P w K mg base CX0 (1 + d) T.f__law_maker T.fd__law_maker ["_law_box_here", "_law_deep", "_law_most"] (spr__law_maker d K)
  | 0 => ⟨fun _ _ _ _ z => (no__law_maker z).elim, fun _ _ _ _ _ _ _ _ _ _ _ _ _ z => (no__law_maker z).elim⟩
  | d + 1 => by
    have G__law_take : FnOk P w K mg base CX0 1 T.f__law_take T.fd__law_take ["_law_box_here", "_law_many"] (sp__law_take K) := ok__law_take T TT
    have G__law_maker : FnOk P w K mg base CX0 (1 + d) T.f__law_maker T.fd__law_maker ["_law_box_here", "_law_deep", "_law_most"] (spr__law_maker d K) := okr__law_maker T TT d
    have G__law_alone : FnOk P w K mg base CX0 1 T.f__law_alone T.fd__law_alone ["_law_one", "_law_other"] (sp__law_alone K) := ok__law_alone T TT
    show FnOk P w K mg base CX0 ((1 + d) + 1) T.f__law_maker T.fd__law_maker ["_law_box_here", "_law_deep", "_law_most"] (spr__law_maker (d + 1) K)
    refine T.F__law_maker.ok sc__law_maker (fun vs H Q E h => ?_) (fun cdv A outer s H vs Q E hr h => ?_)
    · obtain ⟨p, M, n, k, rfl, hB, hn, hk, hd3, M1, M2, q⟩ := h
      rfl
    · obtain ⟨p, M, n, k, rfl, hB, hn, hk, hd3, M1, M2, q⟩ := h
      refine ⟨_, PSs.nox (pss_cons (ps_asg (pe_tup (pa_cons (pe_call G__law_take (hr.mono (by omega)) (by rfl) T.g__law_take T.F__law_take.kp T.b__law_take .nil pass0 (pa_cons (pv 0) (pa_cons pe_int pa_nil))) (pa_cons (pe_op op_add pe_int (pe_call G__law_take (hr.mono (by omega)) (by rfl) T.g__law_take T.F__law_take.kp T.b__law_take .nil pass0 (pa_cons (pv 0) (pa_cons (pv 2) pa_nil)))) pa_nil))) (pg_tup rfl (pgs_cons (pg_name (i := 3) sc__law_maker.nd rfl (.inl rfl)) (pgs_cons (pg_name (i := 4) sc__law_maker.nd rfl (.inr rfl)) pgs_nil))))
    (pss_cons (ps_if (PW.pt (pw_and (pt_cmpR op_gt (pv 3) pe_int (nomark _)) (pw_and1 (pt_cmpR op_gt (pv 1) pe_int (nomark _))))) (pss_cons (ps_set (i := 5) sc__law_maker.nd rfl (.inl rfl) (pe_ix ix_list (pe_lst (pa_cons pe_str (pa_cons pe_str (pa_cons pe_str pa_nil)))) (pe_op op_sub (pv 3) pe_int) (fun _ _ => rfl)))
    (pss_one (ps_ret (pe_tup (pa_cons (pv 5) (pa_cons (pe_ix ix_list (pe_lst (pa_cons (pe_op op_add pe_int (pe_call G__law_take (hr.mono (by omega)) (by rfl) T.g__law_take T.F__law_take.kp T.b__law_take .nil pass0 (pa_cons (pv 0) (pa_cons pe_int pa_nil)))) (pa_cons (pe_call G__law_take (hr.mono (by omega)) (by rfl) T.g__law_take T.F__law_take.kp T.b__law_take .nil pass0 (pa_cons (pv 0) (pa_cons pe_int pa_nil))) pa_nil))) (pe_callTy call_int1 (by rfl) T.m_int bt_int (pa_cons (pe_cmpR op_eq (pv 5) pe_str (nomark _)) pa_nil)) (fun _ _ => rfl)) (pa_cons (pe_call G__law_maker (hr.mono (by omega)) (by rfl) T.g__law_maker T.F__law_maker.kp T.b__law_maker .nil pass0 (pa_cons (pv 0) (pa_cons (pe_op op_sub (pv 1) pe_int) (pa_cons (pv 2) pa_nil)))) pa_nil))))))) pss_nil)
    (pss_cons (ps_set (i := 6) sc__law_maker.nd rfl (.inr rfl) (pe_lst (pa_cons pe_int (pa_cons pe_int (pa_cons pe_int (pa_cons pe_int (pa_cons pe_int (pa_cons pe_int (pa_cons pe_int pa_nil)))))))))
    (pss_cons (ps_setLc (i := 7) (own := [("_law_wide", 8)]) (g := gName 8) rfl sc__law_maker.nd rfl rfl (sw_true rfl rfl rfl (by decide +kernel)) (pi_range2 (by rfl) T.m_range (pa_cons pe_int (pa_cons pe_int pa_nil))) (blkOk_by (N := N__law_maker) (sc := defScope s__law_maker) (by decide +kernel)) (fun _ _ _ _ _ => (pg_name (i := 8) sc__law_maker.nd rfl (.inl rfl))) (fun _ _ _ _ _ => pts_one (pt_cmpR op_le (pe_ix (ixlK (K := K) rfl) (pv 6) (pv 8) (fun _ _ => rfl)) (pe_callB (call_max2 rfl) (by rfl) T.m_max bt_max (pa_cons (pv 2) (pa_cons pe_int pa_nil))) (nomark _))) (fun _ _ _ _ _ => (pv 8)))
    (pss_cons (ps_set (i := 8) sc__law_maker.nd rfl (.inl rfl) (pe_ix ix_list (pv 7) (pe_call G__law_take (hr.mono (by omega)) (by rfl) T.g__law_take T.F__law_take.kp T.b__law_take .nil pass0 (pa_cons (pv 0) (pa_cons (pe_callB call_len_seq (by rfl) T.m_len bt_len (pa_cons (pv 7) pa_nil)) pa_nil))) (fun _ _ => rfl)))
    (pss_cons (ps_if (pt_cmpR op_eq (pv 3) pe_int (nomark _)) (pss_one (ps_ret (pe_tup (pa_cons pe_str (pa_cons (pv 8) (pa_cons (pe_call G__law_take (hr.mono (by omega)) (by rfl) T.g__law_take T.F__law_take.kp T.b__law_take .nil pass0 (pa_cons (pv 0) (pa_cons (pe_ix ix_list (pv 6) (pv 8) (fun _ _ => rfl)) pa_nil))) pa_nil)))))) pss_nil)
    (pss_cons (ps_if (PW.pt (pw_and (pt_cmpR op_eq (pv 3) pe_int (nomark _)) (pw_and1 (pt_cmpR op_gt (pv 8) pe_int (nomark _))))) (pss_cons (ps_set (i := 9) sc__law_maker.nd rfl (.inl rfl) (pe_op op_add (pe_ix ix_list (pv 6) (pe_op op_sub (pv 8) pe_int) (fun _ _ => rfl)) (pe_call G__law_take (hr.mono (by omega)) (by rfl) T.g__law_take T.F__law_take.kp T.b__law_take .nil pass0 (pa_cons (pv 0) (pa_cons (pe_ix ix_list (pv 6) (pe_op op_sub (pv 8) pe_int) (fun _ _ => rfl)) pa_nil)))))
    (pss_one (ps_ret (pe_tup (pa_cons pe_str (pa_cons (pv 8) (pa_cons (pv 9) (pa_cons (pe_op op_add pe_int (pe_call G__law_take (hr.mono (by omega)) (by rfl) T.g__law_take T.F__law_take.kp T.b__law_take .nil pass0 (pa_cons (pv 0) (pa_cons (pe_op op_sub (pe_ix ix_list (pv 6) (pv 8) (fun _ _ => rfl)) pe_int) pa_nil)))) pa_nil)))))))) pss_nil)
    (pss_cons (ps_if (pt_cmpR op_eq (pv 3) pe_int (nomark _)) (pss_one (ps_ret (pe_tup (pa_cons pe_str (pa_cons (pe_callTy call_tuple_of (by rfl) T.m_tuple bt_tuple (pa_cons (pe_lc (own := [("_law_k", 11)]) (g := gName 11) (tt := tYes) rfl sc__law_maker.nd (pi_range1 (by rfl) T.m_range (pa_cons (pv 4) pa_nil)) (blkOk_by (N := N__law_maker) (sc := defScope s__law_maker) (by decide +kernel)) (fun _ _ _ _ _ => (pg_name (i := 11) sc__law_maker.nd rfl (.inl rfl))) (fun _ _ _ _ _ => pts_nil) (fun _ _ _ _ _ => (pe_call G__law_take (hr.mono (by omega)) (by rfl) T.g__law_take T.F__law_take.kp T.b__law_take .nil pass0 (pa_cons (pv 0) (pa_cons (pe_ix (ixlK (K := K) rfl) (pe_lst (pa_cons pe_int (pa_cons pe_int pa_nil))) (pe_call G__law_take (hr.mono (by omega)) (by rfl) T.g__law_take T.F__law_take.kp T.b__law_take .nil pass0 (pa_cons (pv 0) (pa_cons pe_int pa_nil))) (fun _ _ => rfl)) pa_nil))))) pa_nil)) pa_nil))))) pss_nil)
    (pss_cons (ps_setLc (i := 10) (own := [("_law_step", 12)]) (g := gName 12) rfl sc__law_maker.nd rfl rfl (sw_true rfl rfl rfl (by decide +kernel)) (pi_range2 (by rfl) T.m_range (pa_cons pe_int (pa_cons (pe_op op_add (pv 4) pe_int) pa_nil))) (blkOk_by (N := N__law_maker) (sc := defScope s__law_maker) (by decide +kernel)) (fun _ _ _ _ _ => (pg_name (i := 12) sc__law_maker.nd rfl (.inl rfl))) (fun _ _ _ _ _ => pts_one (pt_val (pe_call G__law_alone (hr.mono (by omega)) (by rfl) T.g__law_alone T.F__law_alone.kp T.b__law_alone .nil pass0 (pa_cons (pv 12) (pa_cons (pv 4) pa_nil))))) (fun _ _ _ _ _ => (pv 12)))
    (pss_one (ps_ret (pe_tup (pa_cons pe_str (pa_cons (pv 4) (pa_cons (pe_ix ix_list (pv 10) (pe_call G__law_take (hr.mono (by omega)) (by rfl) T.g__law_take T.F__law_take.kp T.b__law_take .nil pass0 (pa_cons (pv 0) (pa_cons (pe_callB call_len_seq (by rfl) T.m_len bt_len (pa_cons (pv 10) pa_nil)) pa_nil))) (fun _ _ => rfl)) (pa_cons (pe_call G__law_take (hr.mono (by omega)) (by rfl) T.g__law_take T.F__law_take.kp T.b__law_take .nil pass0 (pa_cons (pv 0) (pa_cons (pv 4) pa_nil))) pa_nil)))))))))))))))), ?_⟩
      have hsl : sizeLine = 16777216 := by decide
      have pl_q : ∀ H' v m, But p H H' → Bx H' p (n + 350) → MkAt H' m v → m.dep = 0 → m.Pl → Q v H' := fun H' v m b B hm d0 pl => by
        refine q H' v m b (B.mono (by omega)) hm ?_ (by omega) ?_
        · cases m with
          | slow n k => cases d0
          | slip n k => cases d0
          | late n k => cases d0
          | _ => exact pl
        · rw [rnd_plainM d0]
          have := pl.len
          have : 64 ^ 1 ≤ 64 ^ (k + 1) := Nat.pow_le_pow_right (by decide) (by omega)
          omega
      refine ⟨.ref p, rfl, p, 9, n, rfl, hB, by decide, by decide, by omega, fun H1 way c1 B1 l1 u1 => ?_⟩
      refine ⟨.ref p, rfl, .int M, rfl, p, M, n + 1, rfl, B1, by omega, by omega, by omega, fun H2 r2 c2 B2 l2 u2 => ⟨_, _, rfl, rfl, (show 2 ≤ sizeLine by decide), fun t nt => ⟨t, _, rfl, SqT.mk upd_same, rfl, _, _, rfl, _, _, rfl, rfl, ?_⟩⟩⟩
      obtain ⟨mn, hmn⟩ := nat_of (show 0 ≤ 1 + r2 by omega)
      try dsimp only
      rw [hmn]
      have b2 : But p H (upd H2 t (.tup [.int way, .int (mn : Nat)])) := (c1.trans c2).new nt
      have B3 := B2.new (o := .tup [.int way, .int (mn : Nat)]) nt
      generalize upd H2 t (.tup [.int way, .int (mn : Nat)]) = G0 at b2 B3 ⊢
      have m1 : 1 ≤ mn := by omega
      have m2 : mn ≤ 64 := by omega
      clear c1 c2 B1 B2 nt l2 u2 hmn
      refine seq_via (fun σ G => σ = [some (.ref p), some (.int (k : Nat)), some (.int M), some (.int way), some (.int (mn : Nat)), none, none, none, none, none, none, none, none] ∧ G = G0) (fun N key => ?_) ?_
      · refine ⟨.int way, rfl, _, _, rfl, rfl, _, rfl, ite2 (fun e => ?_) (fun e => iteF (key _ _ ⟨rfl, rfl⟩))⟩
        have hw : (5 : Int) < way := of_decide_eq_true e
        refine ⟨.int (k : Nat), rfl, _, _, rfl, rfl, _, rfl, ite2 (fun e => ?_) (fun e => key _ _ ⟨rfl, rfl⟩)⟩
        have hk0 : (0 : Int) < (k : Int) := of_decide_eq_true e
        refine ⟨(show 3 ≤ sizeLine by decide), fun l nl => ⟨.int way, rfl, _, _, rfl, rfl, ?_⟩⟩
        obtain ⟨wd, ew, z, rfl, hz⟩ := at_menuV (Pr := fun x => ∃ z : Str, x = .str z ∧ (z = "slow" ∨ z = "slip" ∨ z = "late")) (xs := [.str "slow", .str "slip", .str "late"]) (r := way - 6) (by omega) (show way - 6 < 3 by omega) (fun x hx => word_menu hx)
        refine ⟨l, _, _, _, rfl, rfl, SqL.mk upd_same, ew, ?_⟩
        have b4 := b2.new (o := .lst [.str "slow", .str "slip", .str "late"]) nl
        have B4 := B3.new (o := .lst [.str "slow", .str "slip", .str "late"]) nl
        generalize upd G0 l (.lst [.str "slow", .str "slip", .str "late"]) = G1 at b4 B4 ⊢
        refine ⟨.str z, rfl, .ref p, rfl, p, 4, _, rfl, B4, by decide, by decide, by omega, fun F1 r3 c3 B5 l3 u3 => ⟨_, _, rfl, rfl, ?_⟩⟩
        refine ⟨.ref p, rfl, p, 65, _, rfl, B5, by decide, by decide, by omega, fun F2 r4 c4 B6 l4 u4 => ⟨(show 2 ≤ sizeLine by decide), fun l2 nl2 => ?_⟩⟩
        obtain ⟨v, ev, hv⟩ : ∃ v, atI ([1 + r3, r4].map V.int) (if decide (V.str z = V.str "late") = true then (1 : Int) else 0) = some (.int v) ∧ (z = "late" ∨ 1 ≤ v) ∧ 0 ≤ v ∧ v ≤ 64 := by
          by_cases c : V.str z = V.str "late"
          · rw [decide_eq_true c, if_pos rfl]
            exact ⟨r4, atI_nat (j := 1) rfl, .inl (V.str.inj c), l4, by omega⟩
          · rw [decide_eq_false c, if_neg Bool.false_ne_true]
            exact ⟨1 + r3, atI_nat (j := 0) rfl, .inr (by omega), by omega, by omega⟩
        obtain ⟨N', rfl⟩ := nat_of hv.2.1
        refine ⟨.str z, rfl, rfl, .inr ⟨_, rfl, l2, _, _, _, rfl, rfl, SqL.mk upd_same, ev, ?_⟩⟩
        have b6 := (b4.trans (c3.trans c4)).new (o := .lst [.int (1 + r3), .int r4]) nl2
        have B7 := B6.new (o := .lst [.int (1 + r3), .int r4]) nl2
        generalize upd F2 l2 (.lst [.int (1 + r3), .int r4]) = G2 at b6 B7 ⊢
        obtain ⟨k', rfl⟩ : ∃ k', k = k' + 1 := ⟨k - 1, by omega⟩
        refine ⟨.ref p, rfl, .int ((k' + 1 : Nat) : Int), rfl, _, _, rfl, rfl, .int M, rfl, p, M, _, k', ?_, B7, by omega, by omega, by omega, M1, M2, fun G3 x m c5 B8 hm ok dp rm => ⟨(show 3 ≤ sizeLine by decide), fun tg ntg => ?_⟩⟩
        · have e : ((k' + 1 : Nat) : Int) - 1 = (k' : Int) := by omega
          show [V.ref p, V.int (((k' + 1 : Nat) : Int) - 1), V.int M] ++ [] = _
          rw [e]
          rfl
        obtain ⟨m', hm', ok', dp', _, rd'⟩ := around_ok (H := upd G3 tg (.tup [.str z, .int (N' : Nat), x])) upd_same (hm.same (same_upd ntg)) ok hz (by omega) (hv.1.imp id (by omega))
        refine q _ (.ref tg) m' ((b6.trans c5).new ntg) ((B8.new ntg).mono (by omega)) hm' ok' (by omega) ?_
        rw [show 64 ^ (k' + 1 + 1) = 64 * 64 ^ (k' + 1) by rw [Nat.pow_succ 64 (k' + 1), Nat.mul_comm]]
        exact Nat.le_trans rd' (Nat.mul_le_mul_left _ rm)
      rintro σ G ⟨rfl, rfl⟩
      -- a plain one
      refine ⟨(show 7 ≤ sizeLine by decide), fun tw ntw => ?_⟩
      have htw : (upd G tw (.lst [.int 1, .int 2, .int 4, .int 8, .int 16, .int 32, .int 64])) tw = some (.lst (twos.map V.int)) := upd_same
      have b4 := b2.new (o := .lst [.int 1, .int 2, .int 4, .int 8, .int 16, .int 32, .int 64]) ntw
      have B4 := B3.new (o := .lst [.int 1, .int 2, .int 4, .int 8, .int 16, .int 32, .int 64]) ntw
      have twp : tw ≠ p := ne_new B3 ntw
      generalize upd G tw (.lst [.int 1, .int 2, .int 4, .int 8, .int 16, .int 32, .int 64]) = G1 at htw b4 B4 ⊢
      refine ⟨1, 7, rfl, ⟨by decide, by decide, by decide, by decide⟩, fun D nD => ?_⟩
      refine lc_range (lo := 1) (n := 6) (SV D G1 6) ⟨[], Nat.le_refl 0, .inl rfl, fun _ h => (by cases h), same_upd nD, upd_same⟩ (fun i F hi h => ?_) (fun F h => ?_)
      · obtain ⟨ss, e1, e2, e3, sF, hD⟩ := h
        refine ⟨rfl, .ref tw, rfl, _, rfl, tw, _, _, .int ((2 ^ (1 + i) : Nat) : Int), rfl, rfl, SqL.mk (sF _ _ htw), ?_, .int M, rfl, _, _, rfl, _, _, rfl, rfl, _, rfl, ?_⟩
        · rw [show (1 : Int) + (i : Int) = ((1 + i : Nat) : Int) by omega]
          exact atI_nat (twos_at (by omega))
        refine ite2 (fun e => ?_) (fun e => ?_)
        · refine ⟨_, rfl, _, hD, by rw [List.length_map]; omega, ss ++ [1 + (i : Int)], by rw [List.length_append]; exact Nat.add_le_add_right e1 1, .inr (by rw [List.length_append]; exact Nat.le_add_left _ _), fun x hx => ?_, same_newer sF nD, by rw [upd_same, List.map_append]; rfl⟩
          rcases List.mem_append.mp hx with hx | hx
          · exact e3 x hx
          · rw [List.mem_singleton.mp hx]
            omega
        · refine ⟨ss, by omega, .inr ?_, e3, sF, hD⟩
          rcases e2 with rfl | e2
          · exfalso
            refine e (decide_eq_true ?_)
            show (2 : Int) ≤ if (4 : Int) > M then 4 else M
            split <;> omega
          · exact e2
      obtain ⟨ss, e1, e2, e3, sF, hD⟩ := h
      have e2 : 1 ≤ ss.length := by omega
      have e1 : ss.length ≤ 6 := by omega
      have bF := b4.trans (same_but (p := p) sF)
      have BF := B4.same sF
      have Db : D ≠ p := ne_new B4 nD
      refine ⟨.ref D, rfl, .ref p, rfl, .ref D, rfl, D, _, rfl, .inl (SqL.mk hD), p, ss.length, _, by rw [List.length_map]; rfl, BF, by omega, by omega, by omega, fun F3 r5 c5 B6 l5 u5 => ?_⟩
      obtain ⟨wd, ev2, hv2⟩ := at_menu (Pr := fun v => 1 ≤ v ∧ v ≤ 6) (xs := ss) l5 u5 e3
      refine ⟨D, _, _, _, rfl, rfl, SqL.mk (c5 _ _ Db hD), ev2, ?_⟩
      obtain ⟨w', rfl⟩ := nat_of (show 0 ≤ wd by omega)
      have w1 : 1 ≤ w' := by omega
      have w2 : w' ≤ 6 := by omega
      have htw3 := c5 _ _ twp (sF _ _ htw)
      have b5 := bF.trans c5
      have tp := two_pow6 w2
      clear ev2 hD BF bF sF e3 e1 e2 htw B4 b4 b2 B3 c5 l5 u5
      refine ⟨.int way, rfl, rfl, _, rfl, ite2 (fun _ => ?_) (fun _ => ?_)⟩
      · refine ⟨.int (w' : Nat), rfl, .ref p, rfl, .ref tw, rfl, .int (w' : Nat), rfl, tw, _, _, _, rfl, rfl, SqL.mk htw3, atI_nat (twos_at w2), p, _, _, rfl, B6, by omega, by omega, by omega, fun F4 r6 c6 B7 l6 u6 => ⟨(show 3 ≤ sizeLine by decide), fun mk nmk => ?_⟩⟩
        obtain ⟨s', rfl⟩ := nat_of l6
        exact pl_q _ (.ref mk) (.turned w' s') ((b5.trans c6).new nmk) ((B7.new nmk).mono (by omega)) ⟨mk, rfl, upd_same⟩ rfl ⟨w1, w2, by omega⟩
      refine nx_via (fun σ G => σ = [some (.ref p), some (.int (k : Nat)), some (.int M), some (.int way), some (.int (mn : Nat)), none, some (.ref tw), some (.ref D), some (.int (w' : Nat)), none, none, none, none] ∧ G = F3) (fun N key => ?_) ?_
      · refine ⟨.int way, rfl, rfl, _, rfl, ite2 (fun e => ?_) (fun e => iteF (key _ _ ⟨rfl, rfl⟩))⟩
        refine ⟨.int (w' : Nat), rfl, _, _, rfl, rfl, _, rfl, ite2 (fun e => ?_) (fun e => key _ _ ⟨rfl, rfl⟩)⟩
        have w3 : 2 ≤ w' := by
          have : (1 : Int) < (w' : Int) := of_decide_eq_true e
          omega
        have ew1 : (w' : Int) - 1 = ((w' - 1 : Nat) : Int) := by omega
        have at1 : atI (twos.map V.int) ((w' : Int) - 1) = some (.int ((2 ^ (w' - 1) : Nat) : Int)) := by
          rw [ew1]
          exact atI_nat (twos_at (by omega))
        have tq := two_pow6 (show w' - 1 ≤ 6 by omega)
        have en : 2 ^ w' = 2 * 2 ^ (w' - 1) := by
          rw [show 2 * 2 ^ (w' - 1) = 2 ^ (w' - 1 + 1) by rw [Nat.pow_succ, Nat.mul_comm], show w' - 1 + 1 = w' by omega]
        obtain ⟨h2, hh2⟩ : ∃ h2, 2 ^ (w' - 1) = h2 := ⟨_, rfl⟩
        obtain ⟨nn, hn2⟩ : ∃ nn, 2 ^ w' = nn := ⟨_, rfl⟩
        rw [hh2] at at1 tq en
        rw [hn2] at tp en
        refine ⟨.ref tw, rfl, .int (w' : Nat), rfl, _, _, rfl, rfl, tw, _, _, _, rfl, rfl, SqL.mk htw3, at1, .ref p, rfl, .ref tw, rfl, .int (w' : Nat), rfl, _, _, rfl, rfl, tw, _, _, _, rfl, rfl, SqL.mk htw3, at1, p, _, _, rfl, B6, by omega, by omega, by omega, fun F4 r6 c6 B7 l6 u6 => ⟨_, _, rfl, rfl, ?_⟩⟩
        obtain ⟨p', hp'⟩ : ∃ p' : Nat, (h2 : Int) + r6 = p' := ⟨((h2 : Int) + r6).toNat, by omega⟩
        refine ⟨.int (w' : Nat), rfl, _, rfl, .ref p, rfl, .ref tw, rfl, .int (w' : Nat), rfl, tw, _, _, .int (nn : Nat), rfl, rfl, SqL.mk (c6 _ _ twp htw3), ?_, _, _, rfl, rfl, p, _, _, rfl, B7, by omega, by omega, by omega, fun F5 r7 c7 B8 l7 u7 => ⟨_, _, rfl, rfl, (show 4 ≤ sizeLine by decide), fun mk nmk => ?_⟩⟩
        · rw [← hn2]
          exact atI_nat (twos_at w2)
        obtain ⟨t, ht⟩ : ∃ t : Nat, 1 + r7 = t := ⟨(1 + r7).toNat, by omega⟩
        refine pl_q _ (.ref mk) (.register w' p' t) ((b5.trans (c6.trans c7)).new nmk) ((B8.new nmk).mono (by omega)) ⟨mk, rfl, ?_⟩ rfl ⟨⟨w3, w2, by rw [hh2]; omega, by rw [hn2]; omega⟩, by omega, by rw [hn2]; omega⟩
        rw [upd_same]
        try dsimp only
        rw [hp', ht]
      rintro σ G ⟨rfl, rfl⟩
      refine ⟨.int way, rfl, rfl, _, rfl, ite2 (fun _ => ?_) (fun _ => ?_)⟩
      · -- a table
        refine ⟨.int (mn : Nat), rfl, _, rfl, by omega, by omega, fun E nE => ?_⟩
        refine lc_range (fun i F => ∃ rs : List Int, rs.length = i ∧ (∀ x, x ∈ rs → 0 ≤ x ∧ x < 64) ∧ But p G F ∧ Bx F p (n + 20 + 2 * i) ∧ F E = some (.lst (rs.map V.int))) ⟨[], rfl, fun _ h => (by cases h), (But.refl p G).new nE, (B6.new nE).mono (by omega), upd_same⟩ (fun i F hi h => ?_) (fun F h => ?_)
        · obtain ⟨rs, hl, hb, bF, BF, hE⟩ := h
          refine ⟨rfl, yes_ite ?_⟩
          refine ⟨.ref p, rfl, (show 2 ≤ sizeLine by decide), fun l nl => ⟨.ref p, rfl, p, 2, _, rfl, BF.new nl, by decide, by decide, by omega, fun F1 r1 c1 B1 l1 u1 => ?_⟩⟩
          obtain ⟨ms, ev, hv⟩ := at_menu (Pr := fun v => 4 ≤ v ∧ v ≤ 64) (xs := [4, 64]) l1 u1 (fun x hx => by
            simp only [List.mem_cons, List.not_mem_nil, or_false] at hx
            omega)
          refine ⟨l, _, _, _, rfl, rfl, SqL.mk (c1 _ _ (ne_new BF nl) upd_same), ev, p, ms, _, rfl, B1, by omega, by omega, by omega, fun F2 r2 c2 B2 l2 u2 => ?_⟩
          have Ep : E ≠ p := ne_new B6 nE
          have hE2 := c2 _ _ Ep (c1 _ _ Ep ((same_upd nl) _ _ hE))
          refine ⟨_, hE2, by rw [List.length_map]; omega, rs ++ [r2], by rw [List.length_append, hl]; rfl, fun x hx => ?_, but_newer (((bF.new nl).trans c1).trans c2) nE, (B2.other Ep).mono (by omega), by rw [upd_same, List.map_append]; rfl⟩
          rcases List.mem_append.mp hx with hx | hx
          · exact hb x hx
          · rw [List.mem_singleton.mp hx]
            omega
        obtain ⟨rs, hl, hb, bF, BF, hE⟩ := h
        rw [Int.toNat_natCast] at hl BF
        refine ⟨E, _, rfl, .inl ⟨SqL.mk hE, fun tb ntb => ⟨(show 2 ≤ sizeLine by decide), fun mk nmk => ?_⟩⟩⟩
        exact pl_q _ (.ref mk) (.table rs) (b5.trans ((bF.new ntb).new nmk)) (((BF.new ntb).new nmk).mono (by omega)) ⟨mk, tb, rfl, upd_same, (same_upd nmk) _ _ upd_same⟩ rfl ⟨by omega, by omega, fun x hx => by have := hb x hx; omega⟩
      -- a counter
      refine ⟨.int (mn : Nat), rfl, _, _, rfl, rfl, 1, _, rfl, ⟨by decide, by decide, by omega, by omega⟩, fun E nE => ?_⟩
      have en : ((mn : Int) + 1 - 1).toNat = mn := by omega
      rw [en]
      refine lc_range (lo := 1) (n := mn) (SV E G mn) ⟨[], Nat.le_refl 0, .inl rfl, fun _ h => (by cases h), same_upd nE, upd_same⟩ (fun i F hi h => ?_) (fun F h => ?_)
      · obtain ⟨ss, e1, e2, e3, sF, hE⟩ := h
        refine ⟨rfl, _, rfl, .int (mn : Nat), rfl, 1 + i, mn, ?_, _, rfl, ?_⟩
        · rw [show (1 : Int) + (i : Int) = ((1 + i : Nat) : Int) by omega]
          rfl
        refine ite2 (fun e => ?_) (fun e => ?_)
        · refine ⟨_, rfl, _, hE, by rw [List.length_map]; omega, ss ++ [1 + (i : Int)], by rw [List.length_append]; exact Nat.add_le_add_right e1 1, .inr (by rw [List.length_append]; exact Nat.le_add_left _ _), fun x hx => ?_, same_newer sF nE, by rw [upd_same, List.map_append]; rfl⟩
          rcases List.mem_append.mp hx with hx | hx
          · exact e3 x hx
          · rw [List.mem_singleton.mp hx]
            omega
        · refine ⟨ss, by omega, .inr ?_, e3, sF, hE⟩
          rcases e2 with rfl | e2
          · exfalso
            refine e (decide_eq_true ?_)
            rw [show Nat.gcd (1 + 0) mn = 1 from Nat.gcd_one_left mn]
            rfl
          · exact e2
      obtain ⟨ss, e1, e2, e3, sF, hE⟩ := h
      have e2 : 1 ≤ ss.length := by omega
      have e1 : ss.length ≤ 64 := by omega
      have bF := b5.trans (same_but (p := p) sF)
      have BF := B6.same sF
      have Eb : E ≠ p := ne_new B6 nE
      refine ⟨.int (mn : Nat), rfl, .ref E, rfl, .ref p, rfl, .ref E, rfl, E, _, rfl, .inl (SqL.mk hE), p, ss.length, _, by rw [List.length_map]; rfl, BF, by omega, by omega, by omega, fun F5 r7 c7 B7 l7 u7 => ?_⟩
      obtain ⟨sp, ev3, hv3⟩ := at_menu (Pr := fun v => 1 ≤ v ∧ v ≤ (mn : Int)) (xs := ss) l7 u7 e3
      refine ⟨E, _, _, _, rfl, rfl, SqL.mk (c7 _ _ Eb hE), ev3, .ref p, rfl, .int (mn : Nat), rfl, p, mn, _, rfl, B7, by omega, by omega, by omega, fun F6 r8 c8 B8 l8 u8 => ⟨(show 4 ≤ sizeLine by decide), fun mk nmk => ?_⟩⟩
      obtain ⟨sp, rfl⟩ := nat_of (show 0 ≤ sp by omega)
      obtain ⟨t, rfl⟩ := nat_of l8
      exact pl_q _ (.ref mk) (.counter mn sp t) ((bF.trans (c7.trans c8)).new nmk) ((B8.new nmk).mono (by omega)) ⟨mk, rfl, upd_same⟩ rfl ⟨by omega, by omega, by omega, by omega⟩
def sp__law_maker (K : PySem.W.Frag) : Sp := spr__law_maker 3 K
theorem ok__law_maker (T : Defs K mg) (TT : Tabs T base) : FnOk P w K mg base CX0 4 T.f__law_maker T.fd__law_maker ["_law_box_here", "_law_deep", "_law_most"] (sp__law_maker K) := okr__law_maker T TT 3
theorem best_ex {D : Nat → Int} (h : D 0 = 0) : ∀ n, ∃ w j, Best D n w j
  | 0 => ⟨0, 0, Best.zero h⟩
  | n + 1 => by
    obtain ⟨w, j, b⟩ := best_ex h n
    by_cases l : w < ((D (n + 1)).natAbs : Int)
    · exact ⟨_, _, b.more l⟩
    · exact ⟨_, _, b.less (by omega)⟩
/-- the worst of the first i rows -/
structure Wst (R : Nat → List Int) (i : Nat) (W : Int) (K N : Nat) : Prop where
  at_ : (W = 0 ∧ K = 0 ∧ N = 0) ∨ (0 < W ∧ K < i ∧ Best (Df (R K)) (R K).length W N ∧ ∀ k, k < K → ∀ w j, Best (Df (R k)) (R k).length w j → w < W)
  all : ∀ k, k < i → ∀ w j, Best (Df (R k)) (R k).length w j → w ≤ W
theorem Wst.nn {R : Nat → List Int} {i K N : Nat} {W : Int} (h : Wst R i W K N) : 0 ≤ W := by
  rcases h.at_ with ⟨e, _⟩ | ⟨e, _⟩ <;> omega
theorem Wst.zero (R : Nat → List Int) : Wst R 0 0 0 0 := ⟨.inl ⟨rfl, rfl, rfl⟩, fun k h => by omega⟩
theorem Wst.more {R : Nat → List Int} {i K N j : Nat} {W w : Int} (h : Wst R i W K N) (b : Best (Df (R i)) (R i).length w j) (l : W < w) : Wst R (i + 1) w i j :=
  ⟨.inr ⟨by have := h.nn; omega, by omega, b, fun k hk w' j' b' => by have := h.all k hk w' j' b'; omega⟩, fun k hk w' j' b' => by
    by_cases e : k = i
    · subst e
      have := (b'.uniq b).1
      omega
    · have := h.all k (by omega) w' j' b'
      omega⟩
theorem Wst.less {R : Nat → List Int} {i K N j : Nat} {W w : Int} (h : Wst R i W K N) (b : Best (Df (R i)) (R i).length w j) (l : ¬ W < w) : Wst R (i + 1) W K N :=
  ⟨h.at_.elim .inl fun ⟨a, k, c, d⟩ => .inr ⟨a, by omega, c, d⟩, fun k hk w' j' b' => by
    by_cases e : k = i
    · subst e
      have := (b'.uniq b).1
      omega
    · exact h.all k (by omega) w' j' b'⟩
theorem Wst.uniq {R : Nat → List Int} {i K N K' N' : Nat} {W W' : Int} (h : Wst R i W K N) (h' : Wst R i W' K' N') : W = W' ∧ K = K' ∧ N = N' := by
  rcases h.at_ with ⟨a1, a2, a3⟩ | ⟨a1, a2, a3, a4⟩
  · rcases h'.at_ with ⟨b1, b2, b3⟩ | ⟨b1, b2, b3, b4⟩
    · exact ⟨by omega, by omega, by omega⟩
    · have := h.all K' b2 _ _ b3
      omega
  · rcases h'.at_ with ⟨b1, b2, b3⟩ | ⟨b1, b2, b3, b4⟩
    · have := h'.all K a2 _ _ a3
      omega
    · have c1 := h.all K' b2 _ _ b3
      have c2 := h'.all K a2 _ _ a3
      have e : K = K' := by
        rcases Nat.lt_trichotomy K K' with z | z | z
        · have := b4 K z _ _ a3
          omega
        · exact z
        · have := a4 K' z _ _ b3
          omega
      subst e
      exact ⟨by omega, rfl, (a3.uniq b3).2⟩
/-- each bit so often -/
structure SlowRow (q : Nat) (rs rs' : List Int) : Prop where
  q0 : 0 < q
  len : rs'.length = q * rs.length
  at_ : ∀ a r, r < q → a < rs.length → rs'.getD (q * a + r) 0 = rs.getD a 0
theorem SlowRow.get {q : Nat} {rs rs' : List Int} (h : SlowRow q rs rs') (h0 : 0 < rs.length) (a r : Nat) (hr : r < q) : rs'.getD ((q * a + r) % rs'.length) 0 = rs.getD (a % rs.length) 0 := by
  rw [h.len]
  have e : (q * a + r) % (q * rs.length) = q * (a % rs.length) + r := by
    rw [Nat.mod_mul, Nat.mul_add_mod, Nat.mod_eq_of_lt hr, Nat.mul_add_div h.q0, Nat.div_eq_of_lt hr, Nat.add_zero, Nat.add_comm]
  rw [e]
  exact h.at_ _ _ hr (Nat.mod_lt _ h0)
theorem SlowRow.cn1 {q : Nat} {rs rs' : List Int} (h : SlowRow q rs rs') (h0 : 0 < rs.length) (a : Nat) (e : cn rs' (q * a) = q * cn rs a) : ∀ r, r ≤ q → cn rs' (q * a + r) = q * cn rs a + r * rs.getD (a % rs.length) 0
  | 0, _ => by rw [Nat.add_zero, e]; simp
  | r + 1, hr => by
    show cn rs' (q * a + r) + rs'.getD ((q * a + r) % rs'.length) 0 = _
    rw [h.get h0 a r (by omega), h.cn1 h0 a e r (by omega), Int.natCast_add, Int.add_mul]
    omega
theorem SlowRow.cn0 {q : Nat} {rs rs' : List Int} (h : SlowRow q rs rs') (h0 : 0 < rs.length) : ∀ a, cn rs' (q * a) = q * cn rs a
  | 0 => by
    rw [Nat.mul_zero]
    show (0 : Int) = q * 0
    simp
  | a + 1 => by
    rw [Nat.mul_add, Nat.mul_one, h.cn1 h0 a (h.cn0 h0 a) q (Nat.le_refl _)]
    show _ = (q : Int) * (cn rs a + rs.getD (a % rs.length) 0)
    rw [Int.mul_add]
theorem SlowRow.sum {q : Nat} {rs rs' : List Int} (h : SlowRow q rs rs') (h0 : 0 < rs.length) : rs'.sum = q * rs.sum := by
  rw [← cn_all, h.len, h.cn0 h0, cn_all]
theorem SlowRow.df {q : Nat} {rs rs' : List Int} (h : SlowRow q rs rs') (h0 : 0 < rs.length) (a r : Nat) (hr : r ≤ q) : Df rs' (q * a + r) = q * ((q - r) * Df rs a + r * Df rs (a + 1)) := by
  rw [Df_step]
  unfold Df
  rw [h.cn1 h0 a (h.cn0 h0 a) r hr, h.sum h0, h.len]
  generalize cn rs a = c
  generalize rs.getD (a % rs.length) 0 = g
  generalize rs.sum = s
  generalize rs.length = l
  simp only [Int.natCast_add, Int.natCast_mul]
  generalize (q : Int) = q
  generalize (r : Int) = r
  generalize (a : Int) = a
  generalize (l : Int) = l
  simp only [Int.mul_add, Int.add_mul, Int.mul_sub, Int.sub_mul]
  simp only [Int.mul_assoc, Int.mul_comm, Int.mul_left_comm]
  omega
theorem conv {q r w x y : Int} (r0 : 0 ≤ r) (rq : r ≤ q) (hx : -w ≤ x ∧ x ≤ w) (hy : -w ≤ y ∧ y ≤ w) : -(q * w) ≤ (q - r) * x + r * y ∧ (q - r) * x + r * y ≤ q * w := by
  have a1 := Int.mul_le_mul_of_nonneg_left hx.1 (show 0 ≤ q - r by omega)
  have a2 := Int.mul_le_mul_of_nonneg_left hx.2 (show 0 ≤ q - r by omega)
  have b1 := Int.mul_le_mul_of_nonneg_left hy.1 r0
  have b2 := Int.mul_le_mul_of_nonneg_left hy.2 r0
  have e : (q - r) * w + r * w = q * w := by rw [← Int.add_mul]; congr 1; omega
  rw [Int.mul_neg] at a1 b1
  omega
theorem convS {q r w x y : Int} (r0 : 0 ≤ r) (rq : r < q) (hx : -w < x ∧ x < w) (hy : -w ≤ y ∧ y ≤ w) : -(q * w) < (q - r) * x + r * y ∧ (q - r) * x + r * y < q * w := by
  have a1 := Int.mul_lt_mul_of_pos_left hx.1 (show 0 < q - r by omega)
  have a2 := Int.mul_lt_mul_of_pos_left hx.2 (show 0 < q - r by omega)
  have b1 := Int.mul_le_mul_of_nonneg_left hy.1 r0
  have b2 := Int.mul_le_mul_of_nonneg_left hy.2 r0
  have e : (q - r) * w + r * w = q * w := by rw [← Int.add_mul]; congr 1; omega
  rw [Int.mul_neg] at a1 b1
  omega
theorem SlowRow.best {q : Nat} {rs rs' : List Int} {w : Int} {j : Nat} (h : SlowRow q rs rs') (h0 : 0 < rs.length) (b : Best (Df rs) rs.length w j) : Best (Df rs') rs'.length (q * (q * w)) (q * j) := by
  have q0 := h.q0
  have q1 : (0 : Int) < (q : Int) := by omega
  have df0 : ∀ a, Df rs' (q * a) = q * (q * Df rs a) := fun a => by
    have := h.df h0 a 0 (Nat.zero_le _)
    rw [Nat.add_zero] at this
    rw [this]
    simp
  have av : ∀ x : Int, (((q : Int) * x).natAbs : Int) = q * (x.natAbs : Int) := fun x => by
    rw [Int.natAbs_mul, Int.natAbs_natCast, Int.natCast_mul]
  refine ⟨?_, ?_, fun i hi => ?_, fun i hi => ?_⟩
  · rw [h.len]
    exact Nat.mul_le_mul_left _ b.le
  · rw [df0, av, av, b.eq]
  · have e := Nat.div_add_mod i q
    have m := Nat.mod_lt i q0
    rw [h.len] at hi
    rw [← e, h.df h0 _ _ (Nat.le_of_lt m), av]
    refine Int.mul_le_mul_of_nonneg_left ?_ (by omega)
    have x1 : i / q ≤ rs.length := Nat.div_le_of_le_mul hi
    have b1 := b.most _ x1
    have b2 : ((Df rs (i / q + 1)).natAbs : Int) ≤ w := by
      by_cases z : i / q = rs.length
      · rw [z, Nat.add_comm, Df_again]
        exact b.most 1 (by omega)
      · exact b.most _ (by omega)
    have := conv (q := q) (r := ((i % q : Nat) : Int)) (w := w) (x := Df rs (i / q)) (y := Df rs (i / q + 1)) (by omega) (by omega) (by omega) (by omega)
    omega
  · have e := Nat.div_add_mod i q
    have m := Nat.mod_lt i q0
    have jl := b.le
    have x1 : i / q < j := (Nat.div_lt_iff_lt_mul q0).mpr (by rw [Nat.mul_comm]; exact hi)
    rw [← e, h.df h0 _ _ (Nat.le_of_lt m), av]
    refine Int.mul_lt_mul_of_pos_left ?_ q1
    have b1 := b.first _ x1
    have b2 := b.most (i / q + 1) (by omega)
    have := convS (q := q) (r := ((i % q : Nat) : Int)) (w := w) (x := Df rs (i / q)) (y := Df rs (i / q + 1)) (by omega) (by omega) (by omega) (by omega)
    omega
theorem Wst.slow {R R' : Nat → List Int} {q i K N : Nat} {W : Int} (h : Wst R i W K N) (s : ∀ k, SlowRow q (R k) (R' k)) (h0 : ∀ k, 0 < (R k).length) : Wst R' i (q * (q * W)) K (q * N) := by
  have q0 := (s 0).q0
  have q1 : (0 : Int) < (q : Int) := by omega
  have tr : ∀ k w j, Best (Df (R' k)) (R' k).length w j → ∃ w0 j0, Best (Df (R k)) (R k).length w0 j0 ∧ w = q * (q * w0) := fun k w j b => by
    obtain ⟨w0, j0, b0⟩ := best_ex (Df_zero (R k)) (R k).length
    exact ⟨w0, j0, b0, (b.uniq ((s k).best (h0 k) b0)).1⟩
  refine ⟨?_, fun k hk w j b => ?_⟩
  · rcases h.at_ with ⟨rfl, rfl, rfl⟩ | ⟨a1, a2, a3, a4⟩
    · exact .inl ⟨by simp, rfl, by simp⟩
    · refine .inr ⟨Int.mul_pos q1 (Int.mul_pos q1 a1), a2, (s K).best (h0 K) a3, fun k hk w j b => ?_⟩
      obtain ⟨w0, j0, b0, rfl⟩ := tr k w j b
      exact Int.mul_lt_mul_of_pos_left (Int.mul_lt_mul_of_pos_left (a4 k hk _ _ b0) q1) q1
  · obtain ⟨w0, j0, b0, rfl⟩ := tr k w j b
    exact Int.mul_le_mul_of_nonneg_left (Int.mul_le_mul_of_nonneg_left (h.all k hk _ _ b0) (by omega)) (by omega)
/-- so many ones, and then none -/
theorem ones_first {rs : List Int} {k : Nat} (hk : k ≤ rs.length) (h : ∀ i, i < rs.length → rs.getD i 0 = if i < k then 1 else 0) : ∀ i, i ≤ rs.length → cn rs i = ((min i k : Nat) : Int)
  | 0, _ => by rw [Nat.zero_min]; rfl
  | i + 1, hi => by
    show cn rs i + rs.getD (i % rs.length) 0 = _
    rw [ones_first hk h i (by omega), Nat.mod_eq_of_lt (by omega), h i (by omega)]
    split <;> omega
theorem best_first {rs : List Int} {k : Nat} (k0 : 0 < k) (hk : k < rs.length) (h : ∀ i, i < rs.length → rs.getD i 0 = if i < k then 1 else 0) : Best (Df rs) rs.length ((k : Int) * ((rs.length : Int) - k)) k := by
  have c := ones_first (Nat.le_of_lt hk) h
  have sm : rs.sum = (k : Int) := by
    rw [← cn_all, c _ (Nat.le_refl _), Nat.min_eq_right (Nat.le_of_lt hk)]
  have d1 : ∀ i, i ≤ k → Df rs i = (i : Int) * ((rs.length : Int) - k) := fun i hi => by
    unfold Df
    rw [c i (by omega), sm, Nat.min_eq_left hi, Int.mul_sub]
  have d2 : ∀ i, k ≤ i → i ≤ rs.length → Df rs i = (k : Int) * ((rs.length : Int) - i) := fun i hi hl => by
    unfold Df
    rw [c i hl, sm, Nat.min_eq_right hi, Int.mul_sub, Int.mul_comm (i : Int)]
  have lk : (0 : Int) < (rs.length : Int) - k := by omega
  have ab : ∀ {x : Int}, 0 ≤ x → (x.natAbs : Int) = x := fun h => Int.natAbs_of_nonneg h
  refine ⟨Nat.le_of_lt hk, ?_, fun i hi => ?_, fun i hi => ?_⟩
  · rw [d1 k (Nat.le_refl _), ab (Int.mul_nonneg (by omega) (by omega))]
  · by_cases z : i ≤ k
    · rw [d1 i z, ab (Int.mul_nonneg (by omega) (by omega))]
      exact Int.mul_le_mul_of_nonneg_right (by omega) (by omega)
    · rw [d2 i (by omega) hi, ab (Int.mul_nonneg (by omega) (by omega))]
      exact Int.mul_le_mul_of_nonneg_left (by omega) (by omega)
  · rw [d1 i (by omega), ab (Int.mul_nonneg (by omega) (by omega))]
    exact Int.mul_lt_mul_of_pos_right (by omega) lk
theorem fr_mul {q b : Int} (t : Int) (hq : 0 < q) (hb : 0 < b) : frT (q * t) (q * b) = frT t b ∧ frB (q * t) (q * b) = frB t b := by
  have qb : 0 < q * b := Int.mul_pos hq hb
  have eg : ((Int.gcd (q * t) (q * b) : Nat) : Int) = q * (Int.gcd t b : Int) := by
    rw [Int.gcd_mul_left, Int.natCast_mul, Int.natAbs_of_nonneg (Int.le_of_lt hq)]
  unfold frT frB
  rw [eg, Int.sign_eq_one_of_pos qb, Int.sign_eq_one_of_pos hb, Int.one_mul, Int.one_mul, Int.natAbs_of_nonneg (Int.le_of_lt qb), Int.natAbs_of_nonneg (Int.le_of_lt hb)]
  exact ⟨Int.mul_ediv_mul_of_pos _ _ hq, Int.mul_ediv_mul_of_pos _ _ hq⟩
theorem fr_zero {b : Int} (hb : 0 < b) : frT 0 b = 0 ∧ frB 0 b = 1 := by
  unfold frT frB
  rw [Int.mul_zero, Int.zero_ediv, Int.gcd_zero_left]
  exact ⟨rfl, Int.ediv_self (by omega)⟩
def sp_before (_ : PySem.W.Frag) : Sp := fun vs H Q _ => ∃ (p r : Addr) (a b c d : Int), vs = [.ref p, .ref r] ∧ H p = some (.tup [.int a, .int b]) ∧ H r = some (.tup [.int c, .int d]) ∧ (-(2 ^ 64) < b ∧ b < 2 ^ 64) ∧ (-(2 ^ 64) < d ∧ d < 2 ^ 64) ∧ Q (.bl (decide (a * d < c * b))) H
theorem ok_before (T : Defs K mg) (TT : Tabs T base) : FnOk P w K mg base CX0 1 T.f_before T.fd_before ["one", "other"] (sp_before K) := by
  refine T.F_before.ok sc_before (fun vs H Q E h => ?_) (fun cdv A outer s H vs Q E hr h => ?_)
  · obtain ⟨p, r, a, b, c, d, rfl, hp, hq, h1, h2, q⟩ := h
    rfl
  · obtain ⟨p, r, a, b, c, d, rfl, hp, hq, h1, h2, q⟩ := h
    refine ⟨_, PSs.nox (pss_one (ps_ret (pe_cmpR op_lt (pe_op op_mul (pe_ix ix_tup (pv 0) pe_int (fun _ _ => rfl)) (pe_ix ix_tup (pv 1) pe_int (fun _ _ => rfl))) (pe_op op_mul (pe_ix ix_tup (pv 1) pe_int (fun _ _ => rfl)) (pe_ix ix_tup (pv 0) pe_int (fun _ _ => rfl))) (nomark _)))), ?_⟩
    have SP : SqT K H p [.int a, .int b] := SqT.mk hp
    have SR : SqT K H r [.int c, .int d] := SqT.mk hq
    exact ⟨.ref p, rfl, p, _, 0, _, rfl, rfl, SP, atI_nat (j := 0) rfl, .ref r, rfl, r, _, 1, _, rfl, rfl, SR, atI_nat (j := 1) rfl, _, _, rfl, rfl, .inr h2, .ref r, rfl, r, _, 0, _, rfl, rfl, SR, atI_nat (j := 0) rfl, .ref p, rfl, p, _, 1, _, rfl, rfl, SP, atI_nat (j := 1) rfl, _, _, rfl, rfl, .inr h1, _, _, rfl, rfl, q⟩
theorem frB_leM {t b : Int} (hb : 0 < b) : 0 < frB t b ∧ frB t b ≤ b := by
  refine ⟨fr_pos t (by omega), ?_⟩
  rw [← (fr_ge t hb).2, Int.fdiv_eq_ediv_of_nonneg _ (by omega)]
  exact Int.ediv_le_self _ (by omega)
theorem top_smallM {m : Mk} {z : Int} (pl : m.Pl) (h : m.Top z) : 1 ≤ z ∧ z ≤ 64 := by
  cases m with
  | counter r s t =>
    obtain ⟨h1, h2, _⟩ := pl
    have h : z = (r : Int) := h
    omega
  | table ns =>
    obtain ⟨h1, h2, h3⟩ := pl
    obtain ⟨M, hM, _, rfl⟩ := h
    have := h3 M hM
    omega
  | turned w s =>
    have h : z = ((2 ^ w : Nat) : Int) := h
    have := two_pow6 pl.2.1
    omega
  | register w p s =>
    have h : z = ((2 ^ w : Nat) : Int) := h
    have := two_pow6 pl.1.hi
    omega
  | _ => exact pl.elim
theorem fr_ltW {n W w : Int} (hn : 0 < n) : (frT W n * frB w n < frT w n * frB W n ↔ W < w) := by
  have e1 := fr_eq W (show n ≠ 0 by omega)
  have e2 := fr_eq w (show n ≠ 0 by omega)
  have p1 := fr_pos W (show n ≠ 0 by omega)
  have p2 := fr_pos w (show n ≠ 0 by omega)
  have k1 : frT W n * frB w n * n = W * (frB W n * frB w n) := by
    rw [Int.mul_right_comm, e1, Int.mul_assoc]
  have k2 : frT w n * frB W n * n = w * (frB W n * frB w n) := by
    rw [Int.mul_right_comm, e2, Int.mul_assoc, Int.mul_comm (frB w n)]
  have pp : 0 < frB W n * frB w n := Int.mul_pos p1 p2
  constructor
  · intro h
    have := Int.mul_lt_mul_of_pos_right h hn
    rw [k1, k2] at this
    exact Int.lt_of_mul_lt_mul_right this (Int.le_of_lt pp)
  · intro h
    have := Int.mul_lt_mul_of_pos_right h pp
    rw [← k1, ← k2] at this
    exact Int.lt_of_mul_lt_mul_right this (Int.le_of_lt hn)
/-- the worst row of a round of a maker -/
def MW (m : Mk) (z W : Int) (K N : Nat) : Prop := Wst (fun k => rowM m (k : Int) m.rnd) (z + 1).toNat W K N
def sp_worst_of {K : PySem.W.Frag} {mg : Str → Option Value} (T : Defs K mg) : Sp := fun vs H Q _ => ∃ m v, vs = [v] ∧ MkAt H m v ∧ m.Ok ∧ m.dep < 5 ∧ m.rnd ≤ 4096 ∧ GxR.TabG H T.P_row_below ∧
  ∀ H' t p (W z : Int) (k j : Nat), Sam H H' → H' t = some (.tup [.ref p, .int (k : Nat), .int (j : Nat)]) → H' p = some (.tup [.int (frT W m.rnd), .int (frB W m.rnd)]) → m.inn.Top z → MW m z W k j → Q (.ref t) H'
theorem ok_worst_of (T : Defs K mg) (TT : Tabs T base) : FnOk P w K mg base CX0 10 T.f_worst_of T.fd_worst_of ["maker"] (sp_worst_of T) := by
  have G_values_of : FnOk P w K mg base CX0 5 T.f_values_of T.fd_values_of ["maker", "beats"] (sp_values_of K) := ok_values_of T TT
  have G_round_of : FnOk P w K mg base CX0 9 T.f_round_of T.fd_round_of ["maker"] (sp_round_of K) := ok_round_of T TT
  have G_worst_part : FnOk P w K mg base CX0 3 T.f_worst_part T.fd_worst_part ["row"] (sp_worst_part K) := ok_worst_part T TT
  have G_before : FnOk P w K mg base CX0 1 T.f_before T.fd_before ["one", "other"] (sp_before K) := ok_before T TT
  have G_top_of : FnOk P w K mg base CX0 2 T.f_top_of T.fd_top_of ["maker"] (sp_top_of K) := ok_top_of T TT
  have G_row_below : FnOk P w K mg base CX0 1 T.f_row_below T.fd_row_below ["numbers", "k"] (sp_row_below T) := ok_row_below T TT
  refine T.F_worst_of.ok sc_worst_of (fun vs H Q E h => ?_) (fun cdv A outer s H vs Q E hr h => ?_)
  · obtain ⟨m, v, rfl, hm, ok, dp, rm, tg, q⟩ := h
    rfl
  · obtain ⟨m, v, rfl, hm, ok, dp, rm, tg, q⟩ := h
    refine ⟨_, PSs.nox (pss_cons (ps_set (i := 1) sc_worst_of.nd rfl (.inl rfl) (pe_call G_values_of (hr.mono (by decide)) (by rfl) T.g_values_of T.F_values_of.kp T.b_values_of .nil pass0 (pa_cons (pv 0) (pa_cons (pe_call G_round_of (hr.mono (by decide)) (by rfl) T.g_round_of T.F_round_of.kp T.b_round_of .nil pass0 (pa_cons (pv 0) pa_nil)) pa_nil))))
    (pss_cons (ps_set (i := 2) sc_worst_of.nd rfl (.inl rfl) (pe_tup (pa_cons (pe_tup (pa_cons pe_int (pa_cons pe_int pa_nil))) (pa_cons pe_int (pa_cons pe_int pa_nil)))))
    (pss_cons (ps_for PassesOwn.never rfl (pi_range1 (by rfl) T.m_range (pa_cons (pe_op op_add (pe_call G_top_of (hr.mono (by decide)) (by rfl) T.g_top_of T.F_top_of.kp T.b_top_of .nil pass0 (pa_cons (pv 0) pa_nil)) pe_int) pa_nil)) (pg_name (i := 3) sc_worst_of.nd rfl (.inl rfl)) (pss_cons (ps_asg (pe_call G_worst_part (hr.mono (by decide)) (by rfl) T.g_worst_part T.F_worst_part.kp T.b_worst_part .nil pass0 (pa_cons (pe_call G_row_below (hr.mono (by decide)) (by rfl) T.g_row_below T.F_row_below.kp T.b_row_below .nil pass0 (pa_cons (pv 1) (pa_cons (pv 3) pa_nil))) pa_nil)) (pg_tup rfl (pgs_cons (pg_name (i := 4) sc_worst_of.nd rfl (.inl rfl)) (pgs_cons (pg_name (i := 5) sc_worst_of.nd rfl (.inl rfl)) pgs_nil))))
    (pss_one (ps_if (pt_val (pe_call G_before (hr.mono (by decide)) (by rfl) T.g_before T.F_before.kp T.b_before .nil pass0 (pa_cons (pe_ix ix_tup (pv 2) pe_int (fun _ _ => rfl)) (pa_cons (pv 4) pa_nil)))) (pss_one (ps_set (i := 2) sc_worst_of.nd rfl (.inl rfl) (pe_tup (pa_cons (pv 4) (pa_cons (pv 3) (pa_cons (pv 5) pa_nil)))))) pss_nil))))
    (pss_one (ps_ret (pv 2)))))), ?_⟩
    have hsl : sizeLine = 16777216 := by decide
    have r1 := rnd_pos ok
    have ri : (0 : Int) < (m.rnd : Int) := by omega
    refine ⟨v, rfl, v, rfl, m, v, rfl, hm, ok, dp, fun H1 s1 => ?_⟩
    refine ⟨m, v, m.rnd, rfl, hm.same s1, ok, by omega, fun H2 l s2 nl hl => ?_⟩
    refine ⟨(show 2 ≤ sizeLine by decide), fun p0 n0 => ⟨(show 3 ≤ sizeLine by decide), fun t0 nt0 => ?_⟩⟩
    have s3 : Same H (upd (upd H2 p0 (.tup [.int 0, .int 1])) t0 (.tup [.ref p0, .int 0, .int 0])) := (s1.trans s2).trans ((same_upd n0).trans (same_upd nt0))
    have hl3 := (same_upd nt0 (o := .tup [.ref p0, .int 0, .int 0])) _ _ ((same_upd n0 (o := .tup [.int 0, .int 1])) _ _ hl)
    have hp3 : (upd (upd H2 p0 (.tup [.int 0, .int 1])) t0 (.tup [.ref p0, .int 0, .int 0])) p0 = some (.tup [.int 0, .int 1]) := (same_upd nt0) _ _ upd_same
    have ht3 : (upd (upd H2 p0 (.tup [.int 0, .int 1])) t0 (.tup [.ref p0, .int 0, .int 0])) t0 = some (.tup [.ref p0, .int 0, .int 0]) := upd_same
    generalize upd (upd H2 p0 (.tup [.int 0, .int 1])) t0 (.tup [.ref p0, .int 0, .int 0]) = H3 at s3 hl3 hp3 ht3 ⊢
    refine ⟨v, rfl, m, v, rfl, hm.same s3, ok, fun H4 z s4 hz => ⟨_, _, rfl, rfl, ?_⟩⟩
    have zs := top_smallM ok.inn hz
    obtain ⟨zn, hzn⟩ := nat_of (show 0 ≤ z + 1 by omega)
    have S4 := Sam.of (s3.trans s4)
    have fz := fr_zero ri
    refine ⟨((zn : Nat) : Int), by rw [← hzn], by omega, by omega, for_range (n := zn) (fun i σ G => ∃ y3 y4 y5 t p, ∃ (W : Int) (k j : Nat), σ = [some v, some (.ref l), some (.ref t), y3, y4, y5] ∧ Sam H4 G ∧ G t = some (.tup [.ref p, .int (k : Nat), .int (j : Nat)]) ∧ G p = some (.tup [.int (frT W m.rnd), .int (frB W m.rnd)]) ∧ Wst (fun k => rowM m (k : Int) m.rnd) i W k j) ⟨none, none, none, t0, p0, 0, 0, 0, rfl, Sam.refl H4, s4 _ _ ht3, by rw [fz.1, fz.2]; exact s4 _ _ hp3, Wst.zero _⟩ ?_ ?_⟩
    rotate_left
    · rintro σ G ⟨y3, y4, y5, t, p, W, k, j, rfl, sG, ht, hp, ws⟩
      refine ⟨.ref t, rfl, q _ t p W z k j (S4.trans sG) ht hp hz ?_⟩
      unfold MW
      rw [hzn, Int.toNat_natCast]
      exact ws
    rintro i σ G hi ⟨y3, y4, y5, t, p, W, k, j, rfl, sG, ht, hp, ws⟩
    have hlG := sG.lst (s4 _ _ hl3)
    rw [Int.zero_add]
    refine ⟨.ref l, rfl, _, rfl, l, _, _, rfl, hlG, by rw [List.length_map, List.length_range]; omega, sG.tabG (S4.tabG tg), fun F1 a1 f1 _ ha1 => ?_⟩
    have erow : (List.map (blw (i : Int)) (List.map (fun i : Nat => m.val i) (List.range m.rnd))) = rowM m (i : Int) m.rnd := by
      unfold rowM
      rw [List.map_map]
      rfl
    rw [erow] at ha1
    have lr := rowM_len m (i : Int) m.rnd
    refine ⟨a1, _, rfl, ha1, by omega, by omega, fun F2 t2 p2 w j2 f2 _ ht2 hp2 bst => ?_⟩
    rw [lr] at hp2
    refine ⟨t2, _, rfl, SqT.mk ht2, rfl, _, _, rfl, _, _, rfl, rfl, ?_⟩
    have sF := f1.trans (Sam.of f2)
    have htF := sF.tup ht
    have hpF := sF.tup hp
    have bw := frB_leM (t := w) ri
    have bW := frB_leM (t := W) ri
    refine ⟨.ref t, rfl, t, _, 0, _, rfl, rfl, SqT.mk htF, atI_nat (j := 0) rfl, .ref p2, rfl, p, p2, _, _, _, _, rfl, hpF, hp2, ⟨by omega, by omega⟩, ⟨by omega, by omega⟩, _, rfl, ite2 (fun e => ?_) (fun e => ?_)⟩
    · have lt : W < w := (fr_ltW ri).mp (of_decide_eq_true e)
      refine ⟨.ref p2, rfl, .int (i : Nat), rfl, .int (j2 : Nat), rfl, (show 3 ≤ sizeLine by decide), fun t5 nt5 => ?_⟩
      have f5 := same_upd nt5 (o := .tup [.ref p2, .int (i : Nat), .int (j2 : Nat)])
      exact ⟨_, _, _, t5, p2, w, i, j2, rfl, sG.trans (sF.trans (Sam.of f5)), upd_same, f5 _ _ hp2, ws.more bst lt⟩
    · have ge : ¬ W < w := fun c => e (decide_eq_true ((fr_ltW ri).mpr c))
      exact ⟨_, _, _, t, p, W, k, j, rfl, sG.trans sF, htF, hpF, ws.less bst ge⟩
theorem pi_lt {X : Cx} {tg l : Expr} {tl : TE} (hl : PE X l tl) : PI X tg l (fun σ H R => iList X.K tl σ H R ∨ iTup X.K tl σ H R) := ⟨fun pins s σ H R I h => h.elim (fun h => (pi_list hl).run pins s σ H R I h) (fun h => (pi_tup hl).run pins s σ H R I h)⟩
theorem pi_enumLT {X : Cx} {e : Expr} {ta : TA} {p pos tpos : Pos} {elts : List Expr} {kk : Nat} (hg : Gl X "enumerate") (hm : X.mg "enumerate" = none) (ha : PA X [e] ta) (hs : starEach [e] X.env = [(false, eval e X.env)] := by rfl) :
    PI X (.Tuple elts kk tpos) (.Call (.Name "enumerate" p) [e] [] pos) (fun σ H R => iEnum X.K ta σ H R ∨ iEnumT X.K ta σ H R) := ⟨fun pins s σ H R I h => h.elim (fun h => (pi_enum hg hm ha hs).run pins s σ H R I h) (fun h => (pi_enumT hg hm ha hs).run pins s σ H R I h)⟩
theorem flt_sum (k : Int) : ∀ xs : List Int, ((xs.filter fun t => decide (t < k)).length : Int) = (xs.map (blw k)).sum
  | [] => rfl
  | x :: r => by
    rw [List.map_cons, List.sum_cons, ← flt_sum k r]
    by_cases c : x < k
    · rw [List.filter_cons_of_pos (p := fun t => decide (t < k)) (decide_eq_true c), List.length_cons]
      unfold blw
      rw [if_pos c]
      omega
    · rw [List.filter_cons_of_neg (p := fun t => decide (t < k)) (by rw [decide_eq_false c]; exact Bool.false_ne_true)]
      unfold blw
      rw [if_neg c]
      omega
theorem rowM_map (m : Mk) (k : Int) (n : Nat) : (((List.range n).map fun (i : Nat) => m.val i).map (blw k)) = rowM m k n := by
  unfold rowM
  rw [List.map_map]
  rfl
theorem bits_cn {rs : List Int} (h : ∀ x, x ∈ rs → x = 0 ∨ x = 1) : ∀ i, 0 ≤ cn rs i ∧ cn rs i ≤ i
  | 0 => ⟨Int.le_refl 0, Int.le_refl 0⟩
  | i + 1 => by
    have ih := bits_cn h i
    have hb : rs.getD (i % rs.length) 0 = 0 ∨ rs.getD (i % rs.length) 0 = 1 := by
      rw [List.getD_eq_getElem?_getD]
      cases e : rs[i % rs.length]? with
      | none => exact .inl rfl
      | some x => exact h x (List.mem_of_getElem? e)
    show 0 ≤ cn rs i + rs.getD (i % rs.length) 0 ∧ cn rs i + rs.getD (i % rs.length) 0 ≤ ((i + 1 : Nat) : Int)
    rcases hb with e | e <;> rw [e] <;> omega
/-- the law's own worst part of the numbers below k, of a list or a tuple -/
def sp__law_worst (_ : PySem.W.Frag) : Sp := fun vs H Q _ => ∃ (a : Addr) (ns : List Int) (k : Int), vs = [.ref a, .int k] ∧ (H a = some (.lst (ns.map V.int)) ∨ H a = some (.tup (ns.map V.int))) ∧ ns.length ≤ 4096 ∧
  ∀ H' t w (j : Nat), Same H H' → H' t = some (.tup [.int w, .int (j : Nat)]) → Best (Df (ns.map (blw k))) (ns.map (blw k)).length w j → Q (.ref t) H'
theorem ok__law_worst (T : Defs K mg) (TT : Tabs T base) : FnOk P w K mg base CX0 1 T.f__law_worst T.fd__law_worst ["_law_numbers", "_law_k"] (sp__law_worst K) := by
  refine T.F__law_worst.ok sc__law_worst (fun vs H Q E h => ?_) (fun cdv A outer s H vs Q E hr h => ?_)
  · obtain ⟨a, ns, k, rfl, ha, hl, q⟩ := h
    rfl
  · obtain ⟨a, ns, k, rfl, ha, hl, q⟩ := h
    refine ⟨_, PSs.nox (pss_cons (ps_asg (pe_tup (pa_cons (pe_callB call_len_seq (by rfl) T.m_len bt_len (pa_cons (pe_lc (own := [("_law_one", 7)]) (g := gName 7) rfl sc__law_worst.nd (pi_lt (pv 0)) (blkOk_by (N := N__law_worst) (sc := defScope s__law_worst) (by decide +kernel)) (fun _ _ _ _ _ => (pg_name (i := 7) sc__law_worst.nd rfl (.inl rfl))) (fun _ _ _ _ _ => pts_one (pt_cmpR op_lt (pv 7) (pv 1) (nomark _))) (fun _ _ _ _ _ => (pv 7))) pa_nil)) (pa_cons (pe_callB call_len_seq (by rfl) T.m_len bt_len (pa_cons (pv 0) pa_nil)) (pa_cons pe_int (pa_cons (pe_tup (pa_cons pe_int (pa_cons pe_int pa_nil))) pa_nil))))) (pg_tup rfl (pgs_cons (pg_name (i := 2) sc__law_worst.nd rfl (.inl rfl)) (pgs_cons (pg_name (i := 3) sc__law_worst.nd rfl (.inl rfl)) (pgs_cons (pg_name (i := 4) sc__law_worst.nd rfl (.inl rfl)) (pgs_cons (pg_name (i := 5) sc__law_worst.nd rfl (.inl rfl)) pgs_nil))))))
    (pss_cons (ps_for PassesOwn.never rfl (pi_enumLT (by rfl) T.m_enumerate (pa_cons (pv 0) pa_nil)) (pg_tup rfl (pgs_cons (pg_name (i := 6) sc__law_worst.nd rfl (.inl rfl)) (pgs_cons (pg_name (i := 7) sc__law_worst.nd rfl (.inl rfl)) pgs_nil))) (pss_cons (ps_set (i := 4) sc__law_worst.nd rfl (.inl rfl) (pe_op op_add (pv 4) (pe_callTy call_int1 (by rfl) T.m_int bt_int (pa_cons (pe_cmpR op_lt (pv 7) (pv 1) (nomark _)) pa_nil))))
    (pss_cons (ps_set (i := 8) sc__law_worst.nd rfl (.inl rfl) (pe_callB call_abs (by rfl) T.m_abs bt_abs (pa_cons (pe_op op_sub (pe_op op_mul (pv 4) (pv 3)) (pe_op op_mul (pe_op op_add (pv 6) pe_int) (pv 2))) pa_nil)))
    (pss_one (ps_if (pt_cmpR op_gt (pv 8) (pe_ix ix_tup (pv 5) pe_int (fun _ _ => rfl)) (nomark _)) (pss_one (ps_set (i := 5) sc__law_worst.nd rfl (.inl rfl) (pe_tup (pa_cons (pv 8) (pa_cons (pe_op op_add (pv 6) pe_int) pa_nil))))) pss_nil)))))
    (pss_one (ps_ret (pv 5))))), ?_⟩
    have hsl : sizeLine = 16777216 := by decide
    rcases ha with ha | ha
    · refine .inl ⟨.ref a, rfl, a, rfl, ⟨_, SqL.mk ha⟩, fun D nD => ?_⟩
      refine lc_list (xs := ns.map V.int) (fun i F => Same H F ∧ F D = some (.lst (((ns.take i).filter fun t => decide (t < k)).map V.int))) ⟨same_upd nD, upd_same⟩ (fun i F _ h => SqL.mk (h.1 _ _ ha)) (fun i x F hx h => ?_) (fun F h => ?_)
      · obtain ⟨f, hD⟩ := h
        rw [List.getElem?_map] at hx
        obtain ⟨t, ht, rfl⟩ := Option.map_eq_some_iff.mp hx
        have hi := (List.getElem?_eq_some_iff.mp ht).1
        refine ⟨rfl, ?_⟩
        refine ⟨_, rfl, .int k, rfl, _, _, rfl, rfl, _, rfl, ite2 (fun e => ?_) (fun e => ?_)⟩
        · have e1 : t < k := of_decide_eq_true e
          refine ⟨_, rfl, _, hD, ?_, same_newer f nD, ?_⟩
          · rw [List.length_map]
            have := List.length_filter_le (fun t => decide (t < k)) (ns.take i)
            rw [List.length_take] at this
            omega
          · rw [upd_same, List.take_add_one, ht, Option.toList_some, List.filter_append, List.filter_cons_of_pos (p := fun t => decide (t < k)) (decide_eq_true e1), List.map_append]
            rfl
        · have e1 : ¬ t < k := fun z => e (decide_eq_true z)
          refine ⟨f, ?_⟩
          rw [List.take_add_one, ht, Option.toList_some, List.filter_append, List.filter_cons_of_neg (p := fun t => decide (t < k)) (by rw [decide_eq_false e1]; exact Bool.false_ne_true), List.filter_nil, List.append_nil]
          exact hD
      obtain ⟨f, hD⟩ := h
      rw [List.length_map, List.take_length] at hD
      refine ⟨D, _, rfl, .inl (SqL.mk hD), ?_⟩
      rw [List.length_map, flt_sum]
      refine ⟨.ref a, rfl, a, _, rfl, .inl (SqL.mk (f _ _ ha)), ?_⟩
      rw [show (ns.map V.int).length = ns.length from List.length_map ..]
      refine ⟨(show 2 ≤ sizeLine by decide), fun t0 nt0 => ⟨(show 4 ≤ sizeLine by decide), fun tt ntt => ⟨tt, _, rfl, SqT.mk upd_same, rfl, _, _, rfl, _, _, rfl, _, _, rfl, _, _, rfl, rfl, ?_⟩⟩⟩
      have f5 := same_upd ntt (o := .tup [.int (ns.map (blw k)).sum, .int (ns.length : Nat), .int 0, .ref t0])
      have sA := (f.trans (same_upd nt0 (o := .tup [.int 0, .int 0]))).trans f5
      have ht0 := f5 _ _ (upd_same (H := F) (a := t0) (o := .tup [.int 0, .int ((0 : Nat) : Int)]))
      generalize upd (upd F t0 (.tup [.int 0, .int 0])) tt (.tup [.int (ns.map (blw k)).sum, .int (ns.length : Nat), .int 0, .ref t0]) = A at sA ht0 ⊢
      clear f hD nD nt0 ntt f5
      refine .inl ⟨.ref a, rfl, a, _, rfl, SqL.mk (sA _ _ ha), for_it (walk_enum (xs := ns.map V.int)) (fun i σ G => ∃ y6 y7 y8 t, ∃ (w : Int) (j : Nat), σ = [some (.ref a), some (.int k), some (.int (ns.map (blw k)).sum), some (.int (ns.length : Nat)), some (.int (cn (ns.map (blw k)) i)), some (.ref t), y6, y7, y8] ∧ Same A G ∧ G t = some (.tup [.int w, .int (j : Nat)]) ∧ Best (Df (ns.map (blw k))) i w j) ⟨none, none, none, t0, 0, 0, rfl, Same.refl A, ht0, Best.zero (Df_zero _)⟩ ?_ ?_ ?_⟩
      · rintro i σ G hi ⟨y6, y7, y8, t, w, j, rfl, sG, _⟩
        exact SqL.mk (sG _ _ (sA _ _ ha))
      · rintro i x σ G G2 hi ⟨y6, y7, y8, t, w, j, rfl, sG, ht, bst⟩ ⟨T2, x1, x2, rfl, nT, rfl, e1, e2⟩
        rw [List.length_map] at hi
        have ex1 : x1 = .int (i : Nat) := (Option.some.inj e1).symm
        have ex2 : x2 = .int (ns.getD i 0) := by
          have e2 : (ns.map V.int)[i]? = some x2 := e2
          rw [List.getElem?_map, List.getElem?_eq_getElem hi] at e2
          rw [← Option.some.inj e2, List.getD_eq_getElem?_getD, List.getElem?_eq_getElem hi]
          rfl
        subst ex1 ex2
        have s2 : Same A (upd G T2 (.tup [.int (i : Nat), .int (ns.getD i 0)])) := sG.trans (same_upd nT)
        have ht2 := (same_upd nT (o := .tup [.int (i : Nat), .int (ns.getD i 0)])) _ _ ht
        refine ⟨T2, _, rfl, SqT.mk upd_same, rfl, _, _, rfl, _, _, rfl, rfl, ?_⟩
        generalize upd G T2 (.tup [.int (i : Nat), .int (ns.getD i 0)]) = G3 at s2 ht2 ⊢
        refine ⟨.int (cn (ns.map (blw k)) i), rfl, _, rfl, .int k, rfl, _, _, rfl, rfl, .inr ⟨_, rfl, _, _, rfl, rfl, ?_⟩⟩
        have ec : cn (ns.map (blw k)) i + (if decide (ns.getD i 0 < k) = true then 1 else 0) = cn (ns.map (blw k)) (i + 1) := by
          show _ = cn (ns.map (blw k)) i + (ns.map (blw k)).getD (i % (ns.map (blw k)).length) 0
          rw [List.length_map, Nat.mod_eq_of_lt hi, List.getD_eq_getElem?_getD, List.getD_eq_getElem?_getD, List.getElem?_map, List.getElem?_eq_getElem hi]
          show _ = _ + blw k ns[i]
          unfold blw
          simp
        try dsimp only
        rw [ec]
        have cb := bits_cn (rs := ns.map (blw k)) (fun x hx => by
          obtain ⟨t, _, rfl⟩ := List.mem_map.mp hx
          exact blw_bit _ _) (i + 1)
        refine ⟨.int (cn (ns.map (blw k)) (i + 1)), rfl, .int (ns.length : Nat), rfl, _, _, rfl, rfl, .inr ⟨by omega, by omega⟩, .int (i : Nat), rfl, _, _, rfl, rfl, .int (ns.map (blw k)).sum, rfl, _, _, rfl, rfl, .inl ⟨by omega, by omega⟩, _, _, rfl, rfl, _, rfl, ?_⟩
        have eo : (if cn (ns.map (blw k)) (i + 1) * (ns.length : Int) - ((i : Int) + 1) * (ns.map (blw k)).sum < 0 then -(cn (ns.map (blw k)) (i + 1) * (ns.length : Int) - ((i : Int) + 1) * (ns.map (blw k)).sum) else cn (ns.map (blw k)) (i + 1) * (ns.length : Int) - ((i : Int) + 1) * (ns.map (blw k)).sum) = ((Df (ns.map (blw k)) (i + 1)).natAbs : Int) := by
          rw [abs_eq]
          unfold Df
          rw [show ((i : Int) + 1) = ((i + 1 : Nat) : Int) by omega, List.length_map]
        try dsimp only
        rw [eo]
        refine ⟨_, rfl, .ref t, rfl, t, _, 0, _, rfl, rfl, SqT.mk ht2, atI_nat (j := 0) rfl, _, _, rfl, rfl, _, rfl, ite2 (fun e => ?_) (fun e => ?_)⟩
        · have lt : w < ((Df (ns.map (blw k)) (i + 1)).natAbs : Int) := of_decide_eq_true e
          refine ⟨_, rfl, .int (i : Nat), rfl, _, _, rfl, rfl, (show 2 ≤ sizeLine by decide), fun t5 nt5 => ?_⟩
          exact ⟨_, _, _, t5, _, i + 1, rfl, s2.trans (same_upd nt5), by rw [upd_same]; rfl, bst.more lt⟩
        · have ge : ¬ w < ((Df (ns.map (blw k)) (i + 1)).natAbs : Int) := fun z => e (decide_eq_true z)
          exact ⟨_, _, _, t, w, j, rfl, s2, ht2, bst.less (by omega)⟩
      · rintro σ G ⟨y6, y7, y8, t, w, j, rfl, sG, ht, bst⟩
        rw [List.length_map] at bst
        exact ⟨.ref t, rfl, q _ t w j (sA.trans sG) ht (by rw [List.length_map]; exact bst)⟩
    · refine .inr ⟨.ref a, rfl, a, rfl, ⟨_, SqT.mk ha⟩, fun D nD => ?_⟩
      refine lc_tup (xs := ns.map V.int) (fun i F => Same H F ∧ F D = some (.lst (((ns.take i).filter fun t => decide (t < k)).map V.int))) ⟨same_upd nD, upd_same⟩ (fun i F _ h => SqT.mk (h.1 _ _ ha)) (fun i x F hx h => ?_) (fun F h => ?_)
      · obtain ⟨f, hD⟩ := h
        rw [List.getElem?_map] at hx
        obtain ⟨t, ht, rfl⟩ := Option.map_eq_some_iff.mp hx
        have hi := (List.getElem?_eq_some_iff.mp ht).1
        refine ⟨rfl, ?_⟩
        refine ⟨_, rfl, .int k, rfl, _, _, rfl, rfl, _, rfl, ite2 (fun e => ?_) (fun e => ?_)⟩
        · have e1 : t < k := of_decide_eq_true e
          refine ⟨_, rfl, _, hD, ?_, same_newer f nD, ?_⟩
          · rw [List.length_map]
            have := List.length_filter_le (fun t => decide (t < k)) (ns.take i)
            rw [List.length_take] at this
            omega
          · rw [upd_same, List.take_add_one, ht, Option.toList_some, List.filter_append, List.filter_cons_of_pos (p := fun t => decide (t < k)) (decide_eq_true e1), List.map_append]
            rfl
        · have e1 : ¬ t < k := fun z => e (decide_eq_true z)
          refine ⟨f, ?_⟩
          rw [List.take_add_one, ht, Option.toList_some, List.filter_append, List.filter_cons_of_neg (p := fun t => decide (t < k)) (by rw [decide_eq_false e1]; exact Bool.false_ne_true), List.filter_nil, List.append_nil]
          exact hD
      obtain ⟨f, hD⟩ := h
      rw [List.length_map, List.take_length] at hD
      refine ⟨D, _, rfl, .inl (SqL.mk hD), ?_⟩
      rw [List.length_map, flt_sum]
      refine ⟨.ref a, rfl, a, _, rfl, .inr (SqT.mk (f _ _ ha)), ?_⟩
      rw [show (ns.map V.int).length = ns.length from List.length_map ..]
      refine ⟨(show 2 ≤ sizeLine by decide), fun t0 nt0 => ⟨(show 4 ≤ sizeLine by decide), fun tt ntt => ⟨tt, _, rfl, SqT.mk upd_same, rfl, _, _, rfl, _, _, rfl, _, _, rfl, _, _, rfl, rfl, ?_⟩⟩⟩
      have f5 := same_upd ntt (o := .tup [.int (ns.map (blw k)).sum, .int (ns.length : Nat), .int 0, .ref t0])
      have sA := (f.trans (same_upd nt0 (o := .tup [.int 0, .int 0]))).trans f5
      have ht0 := f5 _ _ (upd_same (H := F) (a := t0) (o := .tup [.int 0, .int ((0 : Nat) : Int)]))
      generalize upd (upd F t0 (.tup [.int 0, .int 0])) tt (.tup [.int (ns.map (blw k)).sum, .int (ns.length : Nat), .int 0, .ref t0]) = A at sA ht0 ⊢
      clear f hD nD nt0 ntt f5
      refine .inr ⟨.ref a, rfl, a, _, rfl, SqT.mk (sA _ _ ha), for_it (walk_enumT (xs := ns.map V.int)) (fun i σ G => ∃ y6 y7 y8 t, ∃ (w : Int) (j : Nat), σ = [some (.ref a), some (.int k), some (.int (ns.map (blw k)).sum), some (.int (ns.length : Nat)), some (.int (cn (ns.map (blw k)) i)), some (.ref t), y6, y7, y8] ∧ Same A G ∧ G t = some (.tup [.int w, .int (j : Nat)]) ∧ Best (Df (ns.map (blw k))) i w j) ⟨none, none, none, t0, 0, 0, rfl, Same.refl A, ht0, Best.zero (Df_zero _)⟩ ?_ ?_ ?_⟩
      · rintro i σ G hi ⟨y6, y7, y8, t, w, j, rfl, sG, _⟩
        exact SqT.mk (sG _ _ (sA _ _ ha))
      · rintro i x σ G G2 hi ⟨y6, y7, y8, t, w, j, rfl, sG, ht, bst⟩ ⟨T2, x1, x2, rfl, nT, rfl, e1, e2⟩
        rw [List.length_map] at hi
        have ex1 : x1 = .int (i : Nat) := (Option.some.inj e1).symm
        have ex2 : x2 = .int (ns.getD i 0) := by
          have e2 : (ns.map V.int)[i]? = some x2 := e2
          rw [List.getElem?_map, List.getElem?_eq_getElem hi] at e2
          rw [← Option.some.inj e2, List.getD_eq_getElem?_getD, List.getElem?_eq_getElem hi]
          rfl
        subst ex1 ex2
        have s2 : Same A (upd G T2 (.tup [.int (i : Nat), .int (ns.getD i 0)])) := sG.trans (same_upd nT)
        have ht2 := (same_upd nT (o := .tup [.int (i : Nat), .int (ns.getD i 0)])) _ _ ht
        refine ⟨T2, _, rfl, SqT.mk upd_same, rfl, _, _, rfl, _, _, rfl, rfl, ?_⟩
        generalize upd G T2 (.tup [.int (i : Nat), .int (ns.getD i 0)]) = G3 at s2 ht2 ⊢
        refine ⟨.int (cn (ns.map (blw k)) i), rfl, _, rfl, .int k, rfl, _, _, rfl, rfl, .inr ⟨_, rfl, _, _, rfl, rfl, ?_⟩⟩
        have ec : cn (ns.map (blw k)) i + (if decide (ns.getD i 0 < k) = true then 1 else 0) = cn (ns.map (blw k)) (i + 1) := by
          show _ = cn (ns.map (blw k)) i + (ns.map (blw k)).getD (i % (ns.map (blw k)).length) 0
          rw [List.length_map, Nat.mod_eq_of_lt hi, List.getD_eq_getElem?_getD, List.getD_eq_getElem?_getD, List.getElem?_map, List.getElem?_eq_getElem hi]
          show _ = _ + blw k ns[i]
          unfold blw
          simp
        try dsimp only
        rw [ec]
        have cb := bits_cn (rs := ns.map (blw k)) (fun x hx => by
          obtain ⟨t, _, rfl⟩ := List.mem_map.mp hx
          exact blw_bit _ _) (i + 1)
        refine ⟨.int (cn (ns.map (blw k)) (i + 1)), rfl, .int (ns.length : Nat), rfl, _, _, rfl, rfl, .inr ⟨by omega, by omega⟩, .int (i : Nat), rfl, _, _, rfl, rfl, .int (ns.map (blw k)).sum, rfl, _, _, rfl, rfl, .inl ⟨by omega, by omega⟩, _, _, rfl, rfl, _, rfl, ?_⟩
        have eo : (if cn (ns.map (blw k)) (i + 1) * (ns.length : Int) - ((i : Int) + 1) * (ns.map (blw k)).sum < 0 then -(cn (ns.map (blw k)) (i + 1) * (ns.length : Int) - ((i : Int) + 1) * (ns.map (blw k)).sum) else cn (ns.map (blw k)) (i + 1) * (ns.length : Int) - ((i : Int) + 1) * (ns.map (blw k)).sum) = ((Df (ns.map (blw k)) (i + 1)).natAbs : Int) := by
          rw [abs_eq]
          unfold Df
          rw [show ((i : Int) + 1) = ((i + 1 : Nat) : Int) by omega, List.length_map]
        try dsimp only
        rw [eo]
        refine ⟨_, rfl, .ref t, rfl, t, _, 0, _, rfl, rfl, SqT.mk ht2, atI_nat (j := 0) rfl, _, _, rfl, rfl, _, rfl, ite2 (fun e => ?_) (fun e => ?_)⟩
        · have lt : w < ((Df (ns.map (blw k)) (i + 1)).natAbs : Int) := of_decide_eq_true e
          refine ⟨_, rfl, .int (i : Nat), rfl, _, _, rfl, rfl, (show 2 ≤ sizeLine by decide), fun t5 nt5 => ?_⟩
          exact ⟨_, _, _, t5, _, i + 1, rfl, s2.trans (same_upd nt5), by rw [upd_same]; rfl, bst.more lt⟩
        · have ge : ¬ w < ((Df (ns.map (blw k)) (i + 1)).natAbs : Int) := fun z => e (decide_eq_true z)
          exact ⟨_, _, _, t, w, j, rfl, s2, ht2, bst.less (by omega)⟩
      · rintro σ G ⟨y6, y7, y8, t, w, j, rfl, sG, ht, bst⟩
        rw [List.length_map] at bst
        exact ⟨.ref t, rfl, q _ t w j (sA.trans sG) ht (by rw [List.length_map]; exact bst)⟩
theorem eqvP {K : PySem.W.Frag} {H : Hp} {t t' p p' : Addr} {a b j : Int} (ht : H t = some (.tup [.ref p, .int j])) (ht' : H t' = some (.tup [.ref p', .int j])) (hp : H p = some (.tup [.int a, .int b])) (hp' : H p' = some (.tup [.int a, .int b])) {Q : VK} (q : Q (.bl false) H) : rNeD K (.ref t) (.ref t') H Q := by
  refine ⟨_, _, .tup (SqT.mk ht) (.cons (.tup (SqT.mk hp) (.cons (.int a) (.cons (.int b) .nil))) (.cons (.int j) .nil)), .tup (SqT.mk ht') (.cons (.tup (SqT.mk hp') (.cons (.int a) (.cons (.int b) .nil))) (.cons (.int j) .nil)), rfl, rfl, ?_⟩
  have e : PyData.eqv (.tuple [.tuple [.int a, .int b], .int j]) (.tuple [.tuple [.int a, .int b], .int j]) = true := by
    simp [PyData.eqv, PyData.eqvAll]
  rw [e]
  exact q
theorem eqvP3 {K : PySem.W.Frag} {H : Hp} {t t' p p' : Addr} {a b j k : Int} (ht : H t = some (.tup [.ref p, .int j, .int k])) (ht' : H t' = some (.tup [.ref p', .int j, .int k])) (hp : H p = some (.tup [.int a, .int b])) (hp' : H p' = some (.tup [.int a, .int b])) {Q : VK} (q : Q (.bl false) H) : rNeD K (.ref t) (.ref t') H Q := by
  refine ⟨_, _, .tup (SqT.mk ht) (.cons (.tup (SqT.mk hp) (.cons (.int a) (.cons (.int b) .nil))) (.cons (.int j) (.cons (.int k) .nil))), .tup (SqT.mk ht') (.cons (.tup (SqT.mk hp') (.cons (.int a) (.cons (.int b) .nil))) (.cons (.int j) (.cons (.int k) .nil))), rfl, rfl, ?_⟩
  have e : PyData.eqv (.tuple [.tuple [.int a, .int b], .int j, .int k]) (.tuple [.tuple [.int a, .int b], .int j, .int k]) = true := by
    simp [PyData.eqv, PyData.eqvAll]
  rw [e]
  exact q
theorem eqv2 {K : PySem.W.Frag} {H : Hp} {p r : Addr} {a b : Int} (hp : H p = some (.tup [.int a, .int b])) (hr : H r = some (.tup [.int a, .int b])) {Q : VK} (q : Q (.bl false) H) : rNeD K (.ref p) (.ref r) H Q := by
  refine ⟨_, _, .tup (SqT.mk hp) (.cons (.int a) (.cons (.int b) .nil)), .tup (SqT.mk hr) (.cons (.int a) (.cons (.int b) .nil)), rfl, rfl, ?_⟩
  have e : PyData.eqv (.tuple [.int a, .int b]) (.tuple [.int a, .int b]) = true := by
    simp [PyData.eqv, PyData.eqvAll]
  rw [e]
  exact q
theorem kIn {K : PySem.W.Frag} {a b : String} {r : Bool} (h : kitB a b = some r) : PySem.W.kitOne K (.type a) (.type b) = some r := kit_ty h
theorem k_ib : kitB "int" "bool" = some false := by decide +kernel
theorem k_tb : kitB "tuple" "bool" = some false := by decide +kernel
theorem k_tt : kitB "tuple" "tuple" = some true := by decide +kernel
def sp__law_right {K : PySem.W.Frag} {mg : Str → Option Value} (T : Defs K mg) : Sp := fun vs H Q _ => ∃ m v, vs = [v] ∧ MkAt H m v ∧ m.Ok ∧ m.dep < 5 ∧ m.rnd ≤ 4096 ∧ GxR.TabG H T.P_row_below ∧ ∀ H', Sam H H' → Q (.bl true) H'
theorem ok__law_right (T : Defs K mg) (TT : Tabs T base) : FnOk P w K mg base CX0 11 T.f__law_right T.fd__law_right ["_law_maker_here"] (sp__law_right T) := by
  have G_values_of : FnOk P w K mg base CX0 5 T.f_values_of T.fd_values_of ["maker", "beats"] (sp_values_of K) := ok_values_of T TT
  have G__law_worst : FnOk P w K mg base CX0 1 T.f__law_worst T.fd__law_worst ["_law_numbers", "_law_k"] (sp__law_worst K) := ok__law_worst T TT
  have G__law_lowest : FnOk P w K mg base CX0 1 T.f__law_lowest T.fd__law_lowest ["_law_top", "_law_bottom"] (sp__law_lowest K) := ok__law_lowest T TT
  have G_worst_of : FnOk P w K mg base CX0 10 T.f_worst_of T.fd_worst_of ["maker"] (sp_worst_of T) := ok_worst_of T TT
  have G_round_of : FnOk P w K mg base CX0 9 T.f_round_of T.fd_round_of ["maker"] (sp_round_of K) := ok_round_of T TT
  have G_top_of : FnOk P w K mg base CX0 2 T.f_top_of T.fd_top_of ["maker"] (sp_top_of K) := ok_top_of T TT
  refine T.F__law_right.ok sc__law_right (fun vs H Q E h => ?_) (fun cdv A outer s H vs Q E hr h => ?_)
  · obtain ⟨m, v, rfl, hm, ok, dp, rm, tg, q⟩ := h
    rfl
  · obtain ⟨m, v, rfl, hm, ok, dp, rm, tg, q⟩ := h
    refine ⟨_, PSs.nox (pss_cons (ps_par (i := 1) (j := 2) (by rfl) sc__law_right.nd rfl rfl (by decide) rfl rfl (pa_cons (pe_call G_values_of (hr.mono (by decide)) (by rfl) T.g_values_of T.F_values_of.kp T.b_values_of .nil pass0 (pa_cons (pv 0) (pa_cons (pe_call G_round_of (hr.mono (by decide)) (by rfl) T.g_round_of T.F_round_of.kp T.b_round_of .nil pass0 (pa_cons (pv 0) pa_nil)) pa_nil))) (pa_cons (pe_tup (pa_cons pe_int (pa_cons pe_int (pa_cons pe_int pa_nil)))) pa_nil)) (by rfl))
    (pss_cons (ps_for PassesOwn.never rfl (pi_range1 (by rfl) T.m_range (pa_cons (pe_op op_add (pe_call G_top_of (hr.mono (by decide)) (by rfl) T.g_top_of T.F_top_of.kp T.b_top_of .nil pass0 (pa_cons (pv 0) pa_nil)) pe_int) pa_nil)) (pg_name (i := 3) sc__law_right.nd rfl (.inl rfl)) (pss_cons (ps_asg (pe_call G__law_worst (hr.mono (by decide)) (by rfl) T.g__law_worst T.F__law_worst.kp T.b__law_worst .nil pass0 (pa_cons (pv 1) (pa_cons (pv 3) pa_nil))) (pg_tup rfl (pgs_cons (pg_name (i := 4) sc__law_right.nd rfl (.inl rfl)) (pgs_cons (pg_name (i := 5) sc__law_right.nd rfl (.inl rfl)) pgs_nil))))
    (pss_one (ps_if (pt_cmpR op_gt (pv 4) (pe_ix ix_tup (pv 2) pe_int (fun _ _ => rfl)) (nomark _)) (pss_one (ps_set (i := 2) sc__law_right.nd rfl (.inl rfl) (pe_tup (pa_cons (pv 4) (pa_cons (pv 3) (pa_cons (pv 5) pa_nil)))))) pss_nil))))
    (pss_cons (ps_set (i := 6) sc__law_right.nd rfl (.inl rfl) (pe_tup (pa_cons (pe_call G__law_lowest (hr.mono (by decide)) (by rfl) T.g__law_lowest T.F__law_lowest.kp T.b__law_lowest .nil pass0 (pa_cons (pe_ix ix_tup (pv 2) pe_int (fun _ _ => rfl)) (pa_cons (pe_callB call_len_seq (by rfl) T.m_len bt_len (pa_cons (pv 1) pa_nil)) pa_nil))) (pa_cons (pe_ix ix_tup (pv 2) pe_int (fun _ _ => rfl)) (pa_cons (pe_ix ix_tup (pv 2) pe_int (fun _ _ => rfl)) pa_nil)))))
    (pss_cons (ps_for PassesOwn.never rfl (pi_range1 (by rfl) T.m_range (pa_cons pe_int pa_nil)) (pg_name (i := 7) sc__law_right.nd rfl (.inl rfl)) (pss_cons (ps_set (i := 8) sc__law_right.nd rfl (.inl rfl) (pe_call G_worst_of (hr.mono (by decide)) (by rfl) T.g_worst_of T.F_worst_of.kp T.b_worst_of .nil pass0 (pa_cons (pv 0) pa_nil)))
    (pss_one (ps_if (PW.pt (pw_or (pt_not (pt_val (pe_callB call_isi (by rfl) T.m_isinstance bt_isinstance (pa_cons (pv 8) (pa_cons (pe_bltn (v := .ty "tuple") (by rfl) T.m_tuple bt_tuple rfl) pa_nil))))) (pw_or (pt_cmpR (op_neD hr.units) (pv 8) (pv 6) (nomark _)) (pw_or1 (pt_val (pe_callB (cr_any rfl) (by rfl) T.m_any bt_any (pa_cons (pe_lc (own := [("_law_part", 9)]) (g := gName 9) (tt := tYes) rfl sc__law_right.nd (pi_tup (pv 8)) (blkOk_by (N := N__law_right) (sc := defScope s__law_right) (by decide +kernel)) (fun _ _ _ _ _ => (pg_name (i := 9) sc__law_right.nd rfl (.inl rfl))) (fun _ _ _ _ _ => pts_nil) (fun _ _ _ _ _ => (pe_callB (isiK (K := K) rfl) (by rfl) T.m_isinstance bt_isinstance (pa_cons (pv 9) (pa_cons (pe_bltn (v := .ty "bool") (by rfl) T.m_bool bt_bool rfl) pa_nil))))) pa_nil))))))) (pss_one (ps_ret pe_bl)) pss_nil))))
    (pss_one (ps_ret pe_bl)))))), ?_⟩
    have hsl : sizeLine = 16777216 := by decide
    have r1 := rnd_pos ok
    refine ⟨v, rfl, v, rfl, m, v, rfl, hm, ok, dp, fun H1 s1 => ?_⟩
    refine ⟨m, v, m.rnd, rfl, hm.same s1, ok, by omega, fun H2 l s2 nl hl => ?_⟩
    refine ⟨(show 3 ≤ sizeLine by decide), fun t0 nt0 => ⟨_, _, rfl, ?_⟩⟩
    have s3 := (s1.trans s2).trans (same_upd nt0 (o := .tup [.int 0, .int 0, .int 0]))
    have hl3 := (same_upd nt0 (o := .tup [.int 0, .int 0, .int 0])) _ _ hl
    have ht3 := (upd_same (H := H2) (a := t0) (o := .tup [.int 0, .int ((0 : Nat) : Int), .int ((0 : Nat) : Int)]))
    generalize upd H2 t0 (.tup [.int 0, .int 0, .int 0]) = H3 at s3 hl3 ht3 ⊢
    clear hl s1 s2 nl nt0
    refine ⟨v, rfl, m, v, rfl, hm.same s3, ok, fun H4 z s4 hz => ⟨_, _, rfl, rfl, ?_⟩⟩
    have zs := top_smallM ok.inn hz
    obtain ⟨zn, hzn⟩ := nat_of (show 0 ≤ z + 1 by omega)
    have s34 := s3.trans s4
    have hl4 := s4 _ _ hl3
    refine ⟨((zn : Nat) : Int), by rw [← hzn], by omega, by omega, for_range (n := zn) (fun i σ G => ∃ y3 y4 y5 t, ∃ (W : Int) (k j : Nat), σ = [some v, some (.ref l), some (.ref t), y3, y4, y5, none, none, none, none] ∧ Same H4 G ∧ G t = some (.tup [.int W, .int (k : Nat), .int (j : Nat)]) ∧ Wst (fun k => rowM m (k : Int) m.rnd) i W k j) ⟨none, none, none, t0, 0, 0, 0, rfl, Same.refl H4, s4 _ _ ht3, Wst.zero _⟩ ?_ ?_⟩
    · rintro i σ G hi ⟨y3, y4, y5, t, W, k, j, rfl, sG, ht, ws⟩
      rw [Int.zero_add]
      refine ⟨.ref l, rfl, _, rfl, l, _, _, rfl, .inl (sG _ _ hl4), by rw [List.length_map, List.length_range]; omega, fun F t2 w j2 f ht2 bst => ?_⟩
      rw [rowM_map] at bst
      have htF := f _ _ ht
      refine ⟨t2, _, rfl, SqT.mk ht2, rfl, _, _, rfl, _, _, rfl, rfl, ?_⟩
      refine ⟨_, rfl, .ref t, rfl, t, _, 0, _, rfl, rfl, SqT.mk htF, atI_nat (j := 0) rfl, _, _, rfl, rfl, _, rfl, ite2 (fun e => ?_) (fun e => ?_)⟩
      · have lt : W < w := of_decide_eq_true e
        refine ⟨_, rfl, .int (i : Nat), rfl, _, rfl, (show 3 ≤ sizeLine by decide), fun t5 nt5 => ?_⟩
        exact ⟨_, _, _, t5, w, i, j2, rfl, sG.trans (f.trans (same_upd nt5)), upd_same, ws.more bst lt⟩
      · have ge : ¬ W < w := fun c => e (decide_eq_true c)
        exact ⟨_, _, _, t, W, k, j, rfl, sG.trans f, htF, ws.less bst ge⟩
    rintro σ G ⟨y3, y4, y5, t, W, k, j, rfl, sG, ht, ws⟩
    refine ⟨.ref t, rfl, t, _, 0, _, rfl, rfl, SqT.mk ht, atI_nat (j := 0) rfl, .ref l, rfl, l, _, rfl, .inl (SqL.mk (sG _ _ hl4)), W, (m.rnd : Int), by rw [List.length_map, List.length_map, List.length_range]; rfl, ws.nn, by omega, s_len (by omega), fun F p f np hp => ?_⟩
    refine ⟨.ref t, rfl, t, _, 1, _, rfl, rfl, SqT.mk (f _ _ ht), atI_nat (j := 1) rfl, .ref t, rfl, t, _, 2, _, rfl, rfl, SqT.mk (f _ _ ht), atI_nat (j := 2) rfl, (show 3 ≤ sizeLine by decide), fun du ndu => ?_⟩
    have f5 := same_upd ndu (o := .tup [.ref p, .int (k : Nat), .int (j : Nat)])
    have hdu : (upd F du (.tup [.ref p, .int (k : Nat), .int (j : Nat)])) du = some (.tup [.ref p, .int (k : Nat), .int (j : Nat)]) := upd_same
    have hp5 := f5 _ _ hp
    have S5 : Sam H (upd F du (.tup [.ref p, .int (k : Nat), .int (j : Nat)])) := Sam.of ((s34.trans sG).trans (f.trans f5))
    generalize upd F du (.tup [.ref p, .int (k : Nat), .int (j : Nat)]) = A at hdu hp5 S5 ⊢
    clear f5 hp f np ndu ht sG hl4 s34 hl3 ht3 s3 s4
    refine ⟨2, rfl, by decide, by decide, for_range (n := 2) (fun i σ G1 => ∃ y7 y8, σ = [some v, some (.ref l), some (.ref t), y3, y4, y5, some (.ref du), y7, y8, none] ∧ Sam A G1) ⟨none, none, rfl, Sam.refl A⟩ ?_ ?_⟩
    rotate_left
    · rintro σ G1 ⟨y7, y8, rfl, sA⟩
      exact q G1 (S5.trans sA)
    rintro i σ G1 hi ⟨y7, y8, rfl, sA⟩
    have S6 := S5.trans sA
    refine ⟨v, rfl, m, v, rfl, hm.sam S6, ok, dp, rm, S6.tabG tg, fun E t1 p1 W1 z1 k1 j1 sE ht1 hp1 hz1 mw => ?_⟩
    have ez := hz.uniq hz1
    subst ez
    unfold MW at mw
    rw [hzn, Int.toNat_natCast] at mw
    obtain ⟨rfl, rfl, rfl⟩ := mw.uniq ws
    have sAE := sA.trans sE
    refine ⟨.ref t1, rfl, _, _, _, _, _, rfl, .ty "tuple", .base (.tup ht1), kIn k_tt, _, rfl, iteF ?_⟩
    refine ⟨.ref t1, rfl, .ref du, rfl, eqvP3 ht1 (sAE.tup hdu) hp1 (sAE.tup hp5) ⟨_, rfl, iteF ?_⟩⟩
    refine ⟨.ref t1, rfl, t1, rfl, ⟨_, SqT.mk ht1⟩, fun D2 nD2 => ?_⟩
    refine lc_tup (xs := [.ref p1, .int (k1 : Nat), .int (j1 : Nat)]) (fun i F3 => Same E F3 ∧ F3 D2 = some (.lst ((List.replicate i false).map V.bl))) ⟨same_upd nD2, upd_same⟩ (fun i F3 _ h => SqT.mk (h.1 _ _ ht1)) (fun i x F3 hx h => ?_) (fun F3 h => ?_)
    · obtain ⟨s5, hD2⟩ := h
      refine ⟨rfl, yes_ite ?_⟩
      have fin : ∃ acc, F3 D2 = some (.lst acc) ∧ acc.length < sizeLine ∧ (Same E (upd F3 D2 (.lst (acc ++ [.bl false]))) ∧ (upd F3 D2 (.lst (acc ++ [.bl false]))) D2 = some (.lst ((List.replicate (i + 1) false).map V.bl))) := by
        have hi := (List.getElem?_eq_some_iff.mp hx).1
        have hi : i < 3 := hi
        refine ⟨_, hD2, by rw [List.length_map, List.length_replicate]; omega, same_newer s5 nD2, ?_⟩
        rw [upd_same, List.replicate_succ', List.map_append]
        rfl
      match i, hx, fin with
      | 0, hx, fin =>
        cases hx
        exact ⟨_, rfl, _, _, _, _, _, rfl, .ty "bool", .base (.tup (s5 _ _ hp1)), kIn k_tb, fin⟩
      | 1, hx, fin =>
        cases hx
        exact ⟨_, rfl, _, _, _, _, _, rfl, .ty "bool", .base (.int _), kIn k_ib, fin⟩
      | 2, hx, fin =>
        cases hx
        exact ⟨_, rfl, _, _, _, _, _, rfl, .ty "bool", .base (.int _), kIn k_ib, fin⟩
      | n + 3, hx, _ => cases hx
    obtain ⟨s5, hD2⟩ := h
    refine ⟨D2, List.replicate 3 false, rfl, SqL.mk hD2, _, rfl, iteF ?_⟩
    exact ⟨_, _, rfl, sAE.trans (Sam.of s5)⟩
theorem eqvP3E {K : PySem.W.Frag} {H : Hp} {t t' p p' : Addr} {a b j k : Int} (ht : H t = some (.tup [.ref p, .int j, .int k])) (ht' : H t' = some (.tup [.ref p', .int j, .int k])) (hp : H p = some (.tup [.int a, .int b])) (hp' : H p' = some (.tup [.int a, .int b])) {Q : VK} (q : Q (.bl true) H) : rEqD K (.ref t) (.ref t') H Q := by
  refine ⟨_, _, .tup (SqT.mk ht) (.cons (.tup (SqT.mk hp) (.cons (.int a) (.cons (.int b) .nil))) (.cons (.int j) (.cons (.int k) .nil))), .tup (SqT.mk ht') (.cons (.tup (SqT.mk hp') (.cons (.int a) (.cons (.int b) .nil))) (.cons (.int j) (.cons (.int k) .nil))), rfl, rfl, ?_⟩
  have e : PyData.eqv (.tuple [.tuple [.int a, .int b], .int j, .int k]) (.tuple [.tuple [.int a, .int b], .int j, .int k]) = true := by
    simp [PyData.eqv, PyData.eqvAll]
  rw [e]
  exact q
theorem slow_rows {ns : List Int} {q : Nat} (q0 : 0 < q) (k : Int) : SlowRow q (ns.map (blw k)) (rowM (.slow q (.table ns)) k (q * ns.length)) := by
  refine ⟨q0, by rw [rowM_len, List.length_map], fun a r hr ha => ?_⟩
  rw [List.length_map] at ha
  have h1 : q * (a + 1) ≤ q * ns.length := Nat.mul_le_mul_left _ ha
  rw [Nat.mul_add, Nat.mul_one] at h1
  unfold rowM
  rw [List.getD_eq_getElem?_getD, List.getElem?_map, List.getElem?_range (by omega), List.getD_eq_getElem?_getD, List.getElem?_map, List.getElem?_eq_getElem ha]
  show blw k ((Mk.slow q (.table ns)).val ((q * a + r : Nat) : Int)) = blw k ns[a]
  have e : (Mk.slow q (.table ns)).val ((q * a + r : Nat) : Int) = ns.getD ((((q * a + r : Nat) : Int) / (q : Int)) % (ns.length : Int)).toNat 0 := rfl
  have e2 : (q * a + r) / q = a := by
    rw [Nat.mul_add_div q0, Nat.div_eq_of_lt hr, Nat.add_zero]
  rw [e, ← Int.natCast_ediv, e2, ← Int.natCast_emod, Int.toNat_natCast, Nat.mod_eq_of_lt ha, List.getD_eq_getElem?_getD, List.getElem?_eq_getElem ha]
  rfl
def sp__law_slow_right {K : PySem.W.Frag} {mg : Str → Option Value} (T : Defs K mg) : Sp := fun vs H Q _ => ∃ (p : Addr) (n : Nat), vs = [.ref p] ∧ Bx H p n ∧ n < 1000000 ∧ GxR.TabG H T.P_row_below ∧ ∀ H', Bus p H H' → Bx H' p (n + 100) → Q (.bl true) H'
theorem ok__law_slow_right (T : Defs K mg) (TT : Tabs T base) : FnOk P w K mg base CX0 11 T.f__law_slow_right T.fd__law_slow_right ["_law_box_here"] (sp__law_slow_right T) := by
  have G_worst_of : FnOk P w K mg base CX0 10 T.f_worst_of T.fd_worst_of ["maker"] (sp_worst_of T) := ok_worst_of T TT
  have G__law_worst : FnOk P w K mg base CX0 1 T.f__law_worst T.fd__law_worst ["_law_numbers", "_law_k"] (sp__law_worst K) := ok__law_worst T TT
  have G__law_take : FnOk P w K mg base CX0 1 T.f__law_take T.fd__law_take ["_law_box_here", "_law_many"] (sp__law_take K) := ok__law_take T TT
  have G__law_lowest : FnOk P w K mg base CX0 1 T.f__law_lowest T.fd__law_lowest ["_law_top", "_law_bottom"] (sp__law_lowest K) := ok__law_lowest T TT
  refine T.F__law_slow_right.ok sc__law_slow_right (fun vs H Q E h => ?_) (fun cdv A outer s H vs Q E hr h => ?_)
  · obtain ⟨p, n, rfl, hB, hn, tg, q⟩ := h
    rfl
  · obtain ⟨p, n, rfl, hB, hn, tg, q⟩ := h
    refine ⟨_, PSs.nox (pss_cons (ps_set (i := 1) sc__law_slow_right.nd rfl (.inl rfl) (pe_callTy call_tuple_of (by rfl) T.m_tuple bt_tuple (pa_cons (pe_lc (own := [("_law_beat", 8)]) (g := gName 8) (tt := tYes) rfl sc__law_slow_right.nd (pi_range1 (by rfl) T.m_range (pa_cons pe_int pa_nil)) (blkOk_by (N := N__law_slow_right) (sc := defScope s__law_slow_right) (by decide +kernel)) (fun _ _ _ _ _ => (pg_name (i := 8) sc__law_slow_right.nd rfl (.inl rfl))) (fun _ _ _ _ _ => pts_nil) (fun _ _ _ _ _ => (pe_call G__law_take (hr.mono (by decide)) (by rfl) T.g__law_take T.F__law_take.kp T.b__law_take .nil pass0 (pa_cons (pv 0) (pa_cons pe_int pa_nil))))) pa_nil)))
    (pss_cons (ps_par (i := 2) (j := 3) (by rfl) sc__law_slow_right.nd rfl rfl (by decide) rfl rfl (pa_cons (pe_op op_add pe_int (pe_call G__law_take (hr.mono (by decide)) (by rfl) T.g__law_take T.F__law_take.kp T.b__law_take .nil pass0 (pa_cons (pv 0) (pa_cons pe_int pa_nil)))) (pa_cons (pe_tup (pa_cons pe_int (pa_cons pe_int (pa_cons pe_int pa_nil)))) pa_nil)) (by rfl))
    (pss_cons (ps_for PassesOwn.never rfl (pi_range1 (by rfl) T.m_range (pa_cons (pe_op op_add (pe_callB (cr_maxT rfl) (by rfl) T.m_max bt_max (pa_cons (pv 1) pa_nil)) pe_int) pa_nil)) (pg_name (i := 4) sc__law_slow_right.nd rfl (.inl rfl)) (pss_cons (ps_asg (pe_call G__law_worst (hr.mono (by decide)) (by rfl) T.g__law_worst T.F__law_worst.kp T.b__law_worst .nil pass0 (pa_cons (pv 1) (pa_cons (pv 4) pa_nil))) (pg_tup rfl (pgs_cons (pg_name (i := 5) sc__law_slow_right.nd rfl (.inl rfl)) (pgs_cons (pg_name (i := 6) sc__law_slow_right.nd rfl (.inl rfl)) pgs_nil))))
    (pss_one (ps_if (pt_cmpR op_gt (pv 5) (pe_ix ix_tup (pv 3) pe_int (fun _ _ => rfl)) (nomark _)) (pss_one (ps_set (i := 3) sc__law_slow_right.nd rfl (.inl rfl) (pe_tup (pa_cons (pv 5) (pa_cons (pv 4) (pa_cons (pv 6) pa_nil)))))) pss_nil))))
    (pss_cons (ps_set (i := 7) sc__law_slow_right.nd rfl (.inl rfl) (pe_call G_worst_of (hr.mono (by decide)) (by rfl) T.g_worst_of T.F_worst_of.kp T.b_worst_of .nil pass0 (pa_cons (pe_tup (pa_cons pe_str (pa_cons (pv 2) (pa_cons (pe_tup (pa_cons pe_str (pa_cons (pv 1) pa_nil))) pa_nil)))) pa_nil)))
    (pss_one (ps_ret (pe_cmpR (op_eqD hr.units) (pv 7) (pe_tup (pa_cons (pe_call G__law_lowest (hr.mono (by decide)) (by rfl) T.g__law_lowest T.F__law_lowest.kp T.b__law_lowest .nil pass0 (pa_cons (pe_op op_mul (pe_ix ix_tup (pv 3) pe_int (fun _ _ => rfl)) (pv 2)) (pa_cons pe_int pa_nil))) (pa_cons (pe_ix ix_tup (pv 3) pe_int (fun _ _ => rfl)) (pa_cons (pe_op op_mul (pe_ix ix_tup (pv 3) pe_int (fun _ _ => rfl)) (pv 2)) pa_nil)))) (nomark _)))))))), ?_⟩
    have hsl : sizeLine = 16777216 := by decide
    refine ⟨64, rfl, by decide, by decide, fun D nD => ?_⟩
    have Dp : D ≠ p := ne_new hB nD
    refine lc_range (n := 64) (PN p D H 3 n) (pn_start nD hB) (fun i F hi h => ?_) (fun F h => ?_)
    · obtain ⟨rs, hl, hb, bF, BF, hD⟩ := id h
      refine ⟨rfl, yes_ite ?_⟩
      exact ⟨.ref p, rfl, p, 3, _, rfl, BF, by decide, by decide, by omega, fun F1 r1 c1 B1 l1 u1 => pn_step nD Dp h c1 (B1.mono (by omega)) (by have : i < 64 := hi; omega) ⟨l1, u1⟩⟩
    obtain ⟨ns, hl, hb, bF, BF, hD⟩ := h
    have hl : ns.length = 64 := hl
    refine ⟨D, _, rfl, .inl ⟨SqL.mk hD, fun tb ntb => ?_⟩⟩
    have htb : (upd F tb (.tup (ns.map V.int))) tb = some (.tup (ns.map V.int)) := upd_same
    have b1 := bF.new (o := .tup (ns.map V.int)) ntb
    have B1 := BF.new (o := .tup (ns.map V.int)) ntb
    generalize upd F tb (.tup (ns.map V.int)) = F1 at htb b1 B1 ⊢
    clear bF BF hD ntb nD
    refine ⟨.ref p, rfl, p, 48, _, rfl, B1, by decide, by decide, by omega, fun F2 r2 c2 B2 l2 u2 => ⟨_, _, rfl, rfl, ?_⟩⟩
    obtain ⟨qn, hq⟩ := nat_of (show 0 ≤ 17 + r2 by omega)
    try dsimp only
    rw [hq]
    have q0 : 0 < qn := by omega
    have q64 : qn ≤ 64 := by omega
    have htb2 := c2 _ _ (B1.ne_tup htb) htb
    have b2 := b1.trans c2
    clear c2 B1 b1 htb l2 u2
    refine ⟨(show 3 ≤ sizeLine by decide), fun t0 nt0 => ⟨_, _, rfl, ?_⟩⟩
    have b3 := b2.new (o := .tup [.int 0, .int 0, .int 0]) nt0
    have B3 := B2.new (o := .tup [.int 0, .int 0, .int 0]) nt0
    have htb3 := (same_upd nt0 (o := .tup [.int 0, .int 0, .int 0])) _ _ htb2
    have ht3 := (upd_same (H := F2) (a := t0) (o := .tup [.int 0, .int ((0 : Nat) : Int), .int ((0 : Nat) : Int)]))
    generalize upd F2 t0 (.tup [.int 0, .int 0, .int 0]) = F3 at b3 B3 htb3 ht3 ⊢
    clear b2 B2 htb2 nt0
    refine ⟨.ref tb, rfl, tb, _, rfl, SqT.mk htb3, by omega, fun M hM hMm => ⟨_, _, rfl, rfl, ?_⟩⟩
    have Mb := hb M hM
    obtain ⟨zn, hzn⟩ := nat_of (show 0 ≤ M + 2 by omega)
    refine ⟨((zn : Nat) : Int), by rw [← hzn], by omega, by omega, for_range (n := zn) (fun i σ G => ∃ y4 y5 y6 t, ∃ (W : Int) (k j : Nat), σ = [some (.ref p), some (.ref tb), some (.int (qn : Nat)), some (.ref t), y4, y5, y6, none, none] ∧ Same F3 G ∧ G t = some (.tup [.int W, .int (k : Nat), .int (j : Nat)]) ∧ Wst (fun k => ns.map (blw (k : Int))) i W k j) ⟨none, none, none, t0, 0, 0, 0, rfl, Same.refl F3, ht3, Wst.zero _⟩ ?_ ?_⟩
    · rintro i σ G hi ⟨y4, y5, y6, t, W, k, j, rfl, sG, ht, ws⟩
      rw [Int.zero_add]
      refine ⟨.ref tb, rfl, _, rfl, tb, _, _, rfl, .inr (sG _ _ htb3), by omega, fun G2 t2 w j2 f ht2 bst => ?_⟩
      have htF := f _ _ ht
      refine ⟨t2, _, rfl, SqT.mk ht2, rfl, _, _, rfl, _, _, rfl, rfl, ?_⟩
      refine ⟨_, rfl, .ref t, rfl, t, _, 0, _, rfl, rfl, SqT.mk htF, atI_nat (j := 0) rfl, _, _, rfl, rfl, _, rfl, ite2 (fun e => ?_) (fun e => ?_)⟩
      · have lt : W < w := of_decide_eq_true e
        refine ⟨_, rfl, .int (i : Nat), rfl, _, rfl, (show 3 ≤ sizeLine by decide), fun t5 nt5 => ?_⟩
        exact ⟨_, _, _, t5, w, i, j2, rfl, sG.trans (f.trans (same_upd nt5)), upd_same, ws.more bst lt⟩
      · have ge : ¬ W < w := fun c => e (decide_eq_true c)
        exact ⟨_, _, _, t, W, k, j, rfl, sG.trans f, htF, ws.less bst ge⟩
    rintro σ G ⟨y4, y5, y6, t, W, k, j, rfl, sG, ht, ws⟩
    refine ⟨_, rfl, _, rfl, (show 2 ≤ sizeLine by decide), fun ta nta => ⟨(show 3 ≤ sizeLine by decide), fun sl nsl => ?_⟩⟩
    have f1 := same_upd nta (o := .tup [.str "table", .ref tb])
    have f2 := same_upd nsl (o := .tup [.str "slow", .int (qn : Nat), .ref ta])
    have hta := f2 _ _ (upd_same (H := G) (a := ta) (o := .tup [.str "table", .ref tb]))
    have hsl2 : (upd (upd G ta (.tup [.str "table", .ref tb])) sl (.tup [.str "slow", .int (qn : Nat), .ref ta])) sl = some (.tup [.str "slow", .int (qn : Nat), .ref ta]) := upd_same
    have s5 := sG.trans (f1.trans f2)
    have ht5 := (f1.trans f2) _ _ ht
    generalize upd (upd G ta (.tup [.str "table", .ref tb])) sl (.tup [.str "slow", .int (qn : Nat), .ref ta]) = A at hta hsl2 s5 ht5 ⊢
    clear f1 f2 sG ht nta nsl
    have b5 : Bus p H A := (Bus.of b3).trans (.sam (.of s5))
    have B5 := B3.same s5
    have pl : (Mk.table ns).Pl := ⟨by omega, by omega, fun x hx => by have := hb x hx; omega⟩
    have er : (Mk.slow qn (.table ns)).rnd = qn * 64 := by
      show qn * ns.length = _
      rw [hl]
    have e64 : qn * 64 ≤ 4096 := by omega
    refine ⟨.slow qn (.table ns), .ref sl, rfl, ⟨sl, .ref ta, rfl, hsl2, ⟨ta, tb, rfl, hta, s5 _ _ htb3⟩⟩, ⟨q0, q64, pl⟩, (show 1 < 5 by decide), by omega, b5.tabG hB tg, fun E t1 p1 W1 z1 k1 j1 sE ht1 hp1 hz1 mw => ?_⟩
    have ez : M + 1 = z1 := Mk.Top.uniq (m := .table ns) ⟨M, hM, hMm, rfl⟩ hz1
    unfold MW at mw
    rw [show z1 + 1 = (zn : Int) by omega, Int.toNat_natCast] at mw
    have ws2 := ws.slow (q := qn) (R' := fun k => rowM (.slow qn (.table ns)) (k : Int) (Mk.slow qn (.table ns)).rnd) (fun k => slow_rows q0 _) (fun k => by rw [List.length_map]; omega)
    obtain ⟨rfl, rfl, rfl⟩ := mw.uniq ws2
    have ht6 := sE.tup ht5
    have fm := fr_mul (q := (qn : Int)) (b := 64) ((qn : Int) * W) (by omega) (by decide)
    rw [er, Int.natCast_mul, show ((64 : Nat) : Int) = 64 from rfl, fm.1, fm.2, Int.mul_comm (qn : Int) W] at hp1
    have wq : 0 ≤ W * (qn : Int) := Int.mul_nonneg ws.nn (by omega)
    refine ⟨.ref t1, rfl, .ref t, rfl, t, _, 0, _, rfl, rfl, SqT.mk ht6, atI_nat (j := 0) rfl, .int (qn : Nat), rfl, _, _, rfl, rfl, .inr ⟨by omega, by omega⟩, W * (qn : Int), 64, rfl, wq, by decide, s_len (n := 64) (by decide), fun E2 p2 f2 _ hp2 => ?_⟩
    refine ⟨.ref t, rfl, t, _, 1, _, rfl, rfl, SqT.mk (f2 _ _ ht6), atI_nat (j := 1) rfl, .ref t, rfl, t, _, 2, _, rfl, rfl, SqT.mk (f2 _ _ ht6), atI_nat (j := 2) rfl, .int (qn : Nat), rfl, _, _, rfl, rfl, .inr ⟨by omega, by omega⟩, (show 3 ≤ sizeLine by decide), fun du ndu => ?_⟩
    have f3 := same_upd ndu (o := .tup [.ref p2, .int (k1 : Nat), .int ((j : Int) * (qn : Int))])
    have ej : ((qn * j : Nat) : Int) = (j : Int) * (qn : Int) := by rw [Int.natCast_mul, Int.mul_comm]
    rw [ej] at ht1
    refine eqvP3E (f3 _ _ (f2 _ _ ht1)) upd_same (f3 _ _ (f2 _ _ hp1)) (f3 _ _ hp2) ?_
    have sF := Sam.of (f2.trans f3)
    exact q _ (b5.trans (.sam (sE.trans sF))) (((B5.sam sE).sam sF).mono (by omega))
theorem Bus.same {p : Addr} {H H' : Hp} (s : Same H H') : Bus p H H' := .sam (.of s)
theorem cnt_row {n k : Nat} (hk : k < n) : ∀ i, i < (rowM (.counter n 1 0) (k : Int) n).length → (rowM (.counter n 1 0) (k : Int) n).getD i 0 = if i < k then 1 else 0 := fun i hi => by
  rw [rowM_len] at hi
  unfold rowM
  rw [List.getD_eq_getElem?_getD, List.getElem?_map, List.getElem?_range hi]
  show blw (k : Int) ((Mk.counter n 1 0).val (i : Int)) = _
  have e : (Mk.counter n 1 0).val (i : Int) = ((List.range n).map fun j => (((0 + 1 * j) % n : Nat) : Int)).getD ((i : Int) % (((List.range n).map fun j => (((0 + 1 * j) % n : Nat) : Int)).length : Int)).toNat 0 := rfl
  rw [e, List.length_map, List.length_range, ← Int.natCast_emod, Int.toNat_natCast, Nat.mod_eq_of_lt hi, List.getD_eq_getElem?_getD, List.getElem?_map, List.getElem?_range hi]
  show blw (k : Int) (((0 + 1 * i) % n : Nat) : Int) = _
  rw [Nat.zero_add, Nat.one_mul, Nat.mod_eq_of_lt hi]
  unfold blw
  split <;> split <;> omega
def sp_law {K : PySem.W.Frag} {mg : Str → Option Value} (T : Defs K mg) : Sp := fun vs H Q _ => ∃ (a : Addr) (ns : List Int), vs = [.ref a] ∧ SqL K H a (ns.map V.int) ∧ ns.length ≤ 63 ∧ (GxR.TabG H T.P_row_below ∧ True) ∧ ∀ H', Q (.bl true) H'
theorem ok_law (T : Defs K mg) (TT : Tabs T base) : FnOk P w K mg base CX0 12 T.f_law T.fd_law ["_law_script"] (sp_law T) := by
  have G__law_folded : FnOk P w K mg base CX0 1 T.f__law_folded T.fd__law_folded ["_law_script", "_law_many"] (sp__law_folded K) := ok__law_folded T TT
  have G__law_box : FnOk P w K mg base CX0 1 T.f__law_box T.fd__law_box ["_law_script", "_law_k"] (sp__law_box K) := ok__law_box T TT
  have G__law_maker : FnOk P w K mg base CX0 4 T.f__law_maker T.fd__law_maker ["_law_box_here", "_law_deep", "_law_most"] (sp__law_maker K) := ok__law_maker T TT
  have G__law_take : FnOk P w K mg base CX0 1 T.f__law_take T.fd__law_take ["_law_box_here", "_law_many"] (sp__law_take K) := ok__law_take T TT
  have G__law_right : FnOk P w K mg base CX0 11 T.f__law_right T.fd__law_right ["_law_maker_here"] (sp__law_right T) := ok__law_right T TT
  have G__law_slow_right : FnOk P w K mg base CX0 11 T.f__law_slow_right T.fd__law_slow_right ["_law_box_here"] (sp__law_slow_right T) := ok__law_slow_right T TT
  have G_worst_part : FnOk P w K mg base CX0 3 T.f_worst_part T.fd_worst_part ["row"] (sp_worst_part K) := ok_worst_part T TT
  have G_round_of : FnOk P w K mg base CX0 9 T.f_round_of T.fd_round_of ["maker"] (sp_round_of K) := ok_round_of T TT
  have G_row_of : FnOk P w K mg base CX0 6 T.f_row_of T.fd_row_of ["maker", "k", "beats"] (sp_row_of T) := ok_row_of T TT
  have G__law_lowest : FnOk P w K mg base CX0 1 T.f__law_lowest T.fd__law_lowest ["_law_top", "_law_bottom"] (sp__law_lowest K) := ok__law_lowest T TT
  refine T.F_law.ok sc_law (fun vs H Q E h => ?_) (fun cdv A outer s H vs Q E hr h => ?_)
  · obtain ⟨a, ns, rfl, hS, hlen, ⟨tg, _⟩, q⟩ := h
    rfl
  · obtain ⟨a, ns, rfl, hS, hlen, ⟨tg, _⟩, q⟩ := h
    refine ⟨_, PSs.nox (pss_cons (ps_set (i := 1) sc_law.nd rfl (.inl rfl) (pe_call G__law_folded (hr.mono (by decide)) (by rfl) T.g__law_folded T.F__law_folded.kp T.b__law_folded .nil pass0 (pa_cons (pv 0) (pa_cons pe_int pa_nil))))
    (pss_cons (ps_for PassesOwn.never rfl (pi_range1 (by rfl) T.m_range (pa_cons (pe_callB (call_max2 rfl) (by rfl) T.m_max bt_max (pa_cons pe_int (pa_cons (pe_callB call_len_seq (by rfl) T.m_len bt_len (pa_cons (pv 1) pa_nil)) pa_nil))) pa_nil)) (pg_name (i := 2) sc_law.nd rfl (.inl rfl)) (pss_cons (ps_set (i := 3) sc_law.nd rfl (.inl rfl) (pe_call G__law_box (hr.mono (by decide)) (by rfl) T.g__law_box T.F__law_box.kp T.b__law_box .nil pass0 (pa_cons (pv 1) (pa_cons (pv 2) pa_nil))))
    (pss_cons (ps_for PassesOwn.never rfl (pi_range1 (by rfl) T.m_range (pa_cons pe_int pa_nil)) (pg_name (i := 4) sc_law.nd rfl (.inl rfl)) (pss_cons (ps_set (i := 5) sc_law.nd rfl (.inl rfl) (pe_call G__law_maker (hr.mono (by decide)) (by rfl) T.g__law_maker T.F__law_maker.kp T.b__law_maker .nil pass0 (pa_cons (pv 3) (pa_cons (pe_call G__law_take (hr.mono (by decide)) (by rfl) T.g__law_take T.F__law_take.kp T.b__law_take .nil pass0 (pa_cons (pv 3) (pa_cons pe_int pa_nil))) (pa_cons (pe_ix ix_list (pe_lst (pa_cons pe_int (pa_cons pe_int (pa_cons pe_int (pa_cons pe_int pa_nil))))) (pe_call G__law_take (hr.mono (by decide)) (by rfl) T.g__law_take T.F__law_take.kp T.b__law_take .nil pass0 (pa_cons (pv 3) (pa_cons pe_int pa_nil))) (fun _ _ => rfl)) pa_nil)))))
    (pss_cons (ps_set (i := 6) sc_law.nd rfl (.inl rfl) (pe_and (pe_cmpR op_eq (pe_call G__law_take (hr.mono (by decide)) (by rfl) T.g__law_take T.F__law_take.kp T.b__law_take .nil pass0 (pa_cons (pv 3) (pa_cons pe_int pa_nil))) pe_int (nomark _)) (pe_one (pe_cmpR op_eq (pe_op op_add (pv 2) (pv 4)) pe_int (nomark _)))))
    (pss_one (ps_if (PW.pt (pw_and (pt_cmpR op_le (pe_call G_round_of (hr.mono (by decide)) (by rfl) T.g_round_of T.F_round_of.kp T.b_round_of .nil pass0 (pa_cons (pv 5) pa_nil)) (pe_ix ix_list (pe_lst (pa_cons pe_int (pa_cons pe_int pa_nil))) (pe_callTy call_int1 (by rfl) T.m_int bt_int (pa_cons (pv 6) pa_nil)) (fun _ _ => rfl)) (nomark _)) (pw_and1 (pt_not (pt_val (pe_call G__law_right (hr.mono (by decide)) (by rfl) T.g__law_right T.F__law_right.kp T.b__law_right .nil pass0 (pa_cons (pv 5) pa_nil))))))) (pss_one (ps_ret pe_bl)) pss_nil)))))
    (pss_cons (ps_if (PW.pt (pw_and (pt_cmpR op_eq (pv 2) pe_int (nomark _)) (pw_and (pt_cmpR op_eq (pe_call G__law_take (hr.mono (by decide)) (by rfl) T.g__law_take T.F__law_take.kp T.b__law_take .nil pass0 (pa_cons (pv 3) (pa_cons pe_int pa_nil))) pe_int (nomark _)) (pw_and1 (pt_not (pt_val (pe_call G__law_slow_right (hr.mono (by decide)) (by rfl) T.g__law_slow_right T.F__law_slow_right.kp T.b__law_slow_right .nil pass0 (pa_cons (pv 3) pa_nil)))))))) (pss_one (ps_ret pe_bl)) pss_nil)
    (pss_cons (ps_set (i := 7) sc_law.nd rfl (.inl rfl) (pe_op op_add pe_int (pe_call G__law_take (hr.mono (by decide)) (by rfl) T.g__law_take T.F__law_take.kp T.b__law_take .nil pass0 (pa_cons (pv 3) (pa_cons pe_int pa_nil)))))
    (pss_cons (ps_set (i := 8) sc_law.nd rfl (.inl rfl) (pe_tup (pa_cons pe_str (pa_cons (pv 7) (pa_cons pe_int (pa_cons pe_int pa_nil))))))
    (pss_cons (ps_if (pt_not (pt_val (pe_call G__law_right (hr.mono (by decide)) (by rfl) T.g__law_right T.F__law_right.kp T.b__law_right .nil pass0 (pa_cons (pv 8) pa_nil)))) (pss_one (ps_ret pe_bl)) pss_nil)
    (pss_one (ps_for PassesOwn.never rfl (pi_range2 (by rfl) T.m_range (pa_cons pe_int (pa_cons (pv 7) pa_nil))) (pg_name (i := 9) sc_law.nd rfl (.inl rfl)) (pss_one (ps_if (pt_cmpR (op_neD hr.units) (pe_call G_worst_part (hr.mono (by decide)) (by rfl) T.g_worst_part T.F_worst_part.kp T.b_worst_part .nil pass0 (pa_cons (pe_call G_row_of (hr.mono (by decide)) (by rfl) T.g_row_of T.F_row_of.kp T.b_row_of .nil pass0 (pa_cons (pv 8) (pa_cons (pv 9) (pa_cons (pv 7) pa_nil)))) pa_nil)) (pe_tup (pa_cons (pe_call G__law_lowest (hr.mono (by decide)) (by rfl) T.g__law_lowest T.F__law_lowest.kp T.b__law_lowest .nil pass0 (pa_cons (pe_op op_mul (pv 9) (pe_op op_sub (pv 7) (pv 9))) (pa_cons (pv 7) pa_nil))) (pa_cons (pv 9) pa_nil))) (nomark _)) (pss_one (ps_ret pe_bl)) pss_nil)))))))))))
    (pss_one (ps_ret pe_bl)))), ?_⟩
    have hsl : sizeLine = 16777216 := by decide
    refine ⟨.ref a, rfl, a, ns, 4, rfl, hS, hlen, by decide, by decide, fun H1 c cs s1 nc hc lc => ?_⟩
    have tg1 := (Sam.of s1).tabG tg
    have hn : (if (((cs.map V.int).length : Nat) : Int) > 2 then (((cs.map V.int).length : Nat) : Int) else 2) ≤ 4 ∧ 0 ≤ (if (((cs.map V.int).length : Nat) : Int) > 2 then (((cs.map V.int).length : Nat) : Int) else 2) := by
      rw [List.length_map]
      split <;> omega
    refine ⟨.ref c, rfl, c, _, rfl, .inl (SqL.mk hc), _, _, rfl, _, rfl, by omega, by omega, for_range (fun i σ H2 => ∃ y2 y3 y4 y5 y6 y7 y8 y9, σ = [some (.ref a), some (.ref c), y2, y3, y4, y5, y6, y7, y8, y9] ∧ Sam H1 H2) ⟨none, none, none, none, none, none, none, none, rfl, Sam.refl H1⟩ ?_ ?_⟩
    rotate_left
    · rintro σ H2 ⟨y2, y3, y4, y5, y6, y7, y8, y9, rfl, s2⟩
      exact q _
    rintro i σ H2 hi ⟨y2, y3, y4, y5, y6, y7, y8, y9, rfl, s2⟩
    have hi2 : i < 1000 := by omega
    refine ⟨.ref c, rfl, .int (0 + (i : Int)), rfl, c, cs, i, by rw [Int.zero_add]; rfl, SqL.mk (s2.lst hc), hi2, fun H3 b s3 nb hB => ?_⟩
    have nb1 : H1 b = none := s2.free nb
    have s13 := s2.trans (Sam.of s3)
    have tg3 := s13.tabG tg1
    refine ⟨4, rfl, by decide, by decide, for_range (n := 4) (fun j σ G => ∃ y4 y5 y6, σ = [some (.ref a), some (.ref c), some (.int (0 + (i : Int))), some (.ref b), y4, y5, y6, y7, y8, y9] ∧ Bus b H3 G ∧ Bx G b (5000 * j)) ⟨_, _, _, rfl, Bus.refl b H3, hB⟩ ?_ ?_⟩
    · rintro j σ G hj ⟨y4, y5, y6, rfl, bG, BG⟩
      refine ⟨.ref b, rfl, .ref b, rfl, b, 3, _, rfl, BG, by decide, by decide, by omega, fun G0 r0 c0 B0 l0 u0 => ?_⟩
      obtain ⟨k0, rfl⟩ := nat_of l0
      refine ⟨(show 4 ≤ sizeLine by decide), fun l nl => ?_⟩
      refine ⟨.ref b, rfl, b, 4, _, rfl, B0.new nl, by decide, by decide, by omega, fun G1 r1 c1 B1 l1 u1 => ?_⟩
      obtain ⟨M, ev, hM⟩ := at_menu (Pr := fun v => 1 ≤ v ∧ v ≤ 64) (xs := [16, 16, 8, 64]) l1 u1 (fun x hx => by
        simp only [List.mem_cons, List.not_mem_nil, or_false] at hx
        omega)
      refine ⟨l, _, _, _, rfl, rfl, SqL.mk (c1 _ _ (ne_new B0 nl) upd_same), ev, b, M, _, k0, rfl, B1, by omega, by omega, by decide, hM.1, hM.2, fun G2 v m c2 B2 hm ok dp _ => ?_⟩
      have b2 : Bus b H3 G2 := bG.trans (.of (c0.trans (((But.refl b G0).new nl).trans (c1.trans c2))))
      clear c0 c1 c2 B0 B1 nl l0 l1 u1 ev BG bG
      refine nx_via (fun σ G => ∃ g, σ = [some (.ref a), some (.ref c), some (.int (0 + (i : Int))), some (.ref b), some (.int (0 + (j : Int))), some v, some (.bl g), y7, y8, y9] ∧ But b G2 G ∧ Bx G b (5000 * j + 3000)) (fun N key => ?_) ?_
      · refine ⟨.ref b, rfl, b, 16, _, rfl, B2, by decide, by decide, by omega, fun G3 r3 c3 B3 l3 u3 => ⟨rfl, _, rfl, ite2 (fun _ => ?_) (fun _ => key _ _ ⟨_, rfl, c3, B3.mono (by omega)⟩)⟩⟩
        exact ⟨_, rfl, _, rfl, _, _, rfl, rfl, rfl, key _ _ ⟨_, rfl, c3, B3.mono (by omega)⟩⟩
      rintro σ G3 ⟨g, rfl, c3, B3⟩
      have hm3 := hm.but B2 c3
      have b3 := b2.trans (.of c3)
      clear hm c3 B2 b2
      refine ⟨v, rfl, m, v, rfl, hm3, ok, by omega, fun G4 s4 => ⟨(show 2 ≤ sizeLine by decide), fun l nl => ?_⟩⟩
      obtain ⟨L, ev, hL⟩ := at_menu (Pr := fun v => 120 ≤ v ∧ v ≤ 1024) (xs := [120, 1024]) (r := if g = true then (1 : Int) else 0) (by split <;> decide) (by split <;> decide) (fun x hx => by
        simp only [List.mem_cons, List.not_mem_nil, or_false] at hx
        omega)
      have s5 := s4.trans (same_upd nl (o := .lst [.int 120, .int 1024]))
      refine ⟨_, rfl, .inr ⟨_, rfl, l, _, _, _, rfl, rfl, SqL.mk upd_same, ev, _, _, rfl, rfl, _, rfl, ite2 (fun e => ?_) (fun _ => iteF ?_)⟩⟩
      rotate_left
      · exact ⟨_, _, _, rfl, b3.trans (Bus.same s5), (B3.same s5).mono (by omega)⟩
      have rm : m.rnd ≤ 4096 := by
        have : (m.rnd : Int) ≤ L := of_decide_eq_true e
        omega
      refine ⟨v, rfl, m, v, rfl, hm3.same s5, ok, by omega, rm, (b3.trans (Bus.same s5)).tabG hB tg3, fun G6 s6 => ⟨_, rfl, iteF ?_⟩⟩
      exact ⟨_, _, _, rfl, (b3.trans (Bus.same s5)).trans (.sam s6), ((B3.same s5).sam s6).mono (by omega)⟩
    rintro σ G ⟨y4, y5, y6, rfl, bG, BG⟩
    refine nx_via (fun σ F => σ = [some (.ref a), some (.ref c), some (.int (0 + (i : Int))), some (.ref b), y4, y5, y6, y7, y8, y9] ∧ Bus b H3 F ∧ Bx F b 21000) (fun N key => ?_) ?_
    · refine ⟨_, rfl, rfl, _, rfl, ite2 (fun _ => ?_) (fun _ => iteF (key _ _ ⟨rfl, bG, BG.mono (by omega)⟩))⟩
      refine ⟨.ref b, rfl, b, 16, _, rfl, BG, by decide, by decide, by omega, fun F1 r1 c1 B1 l1 u1 => ⟨rfl, _, rfl, ite2 (fun _ => ?_) (fun _ => iteF (key _ _ ⟨rfl, bG.trans (.of c1), B1.mono (by omega)⟩))⟩⟩
      have b1 := bG.trans (.of c1)
      exact ⟨.ref b, rfl, b, _, rfl, B1, by omega, b1.tabG hB tg3, fun F2 b2 B2 => ⟨_, rfl, iteF (key _ _ ⟨rfl, b1.trans b2, B2.mono (by omega)⟩)⟩⟩
    clear bG BG
    rintro σ G ⟨rfl, bG, BG⟩
    refine ⟨.ref b, rfl, b, 63, _, rfl, BG, by decide, by decide, by omega, fun F1 r1 c1 B1 l1 u1 => ⟨_, _, rfl, rfl, ?_⟩⟩
    obtain ⟨mn, hmn⟩ := nat_of (show 0 ≤ 2 + r1 by omega)
    try dsimp only
    rw [hmn]
    have m2 : 2 ≤ mn := by omega
    have m64 : mn ≤ 64 := by omega
    refine ⟨_, rfl, (show 4 ≤ sizeLine by decide), fun ca nca => ?_⟩
    have hca : (upd F1 ca (.tup [.str "counter", .int (mn : Nat), .int 1, .int 0])) ca = some (.tup [.str "counter", .int (mn : Nat), .int ((1 : Nat) : Int), .int ((0 : Nat) : Int)]) := upd_same
    have b2 : Bus b H3 (upd F1 ca (.tup [.str "counter", .int (mn : Nat), .int 1, .int 0])) := (bG.trans (.of c1)).new nca
    generalize upd F1 ca (.tup [.str "counter", .int (mn : Nat), .int 1, .int 0]) = A at hca b2 ⊢
    clear c1 B1 bG BG nca l1 u1
    have tgA := b2.tabG hB tg3
    have SA := bus_same nb1 s13 b2
    have okc : (Mk.counter mn 1 0).Ok := ⟨by omega, m64, by decide, by omega⟩
    have erc : (Mk.counter mn 1 0).rnd = mn := by
      show ((List.range mn).map _).length = mn
      rw [List.length_map, List.length_range]
    refine ⟨.ref ca, rfl, .counter mn 1 0, .ref ca, rfl, ⟨ca, rfl, hca⟩, okc, (show 0 < 5 by decide), by omega, tgA, fun A2 sA => ⟨_, rfl, iteF ?_⟩⟩
    refine ⟨.int (mn : Nat), rfl, 1, _, rfl, ⟨by decide, by decide, by omega, by omega⟩, for_range (fun j σ F => ∃ y9, σ = [some (.ref a), some (.ref c), some (.int (0 + (i : Int))), some (.ref b), y4, y5, y6, some (.int (mn : Nat)), some (.ref ca), y9] ∧ Sam A F) ⟨_, rfl, sA⟩ ?_ ?_⟩
    rotate_left
    · rintro σ F ⟨y9, rfl, sF⟩
      exact ⟨_, _, _, _, _, _, _, _, rfl, SA.trans sF⟩
    rintro j σ F hj ⟨y9, rfl, sF⟩
    have ej : (1 : Int) + (j : Int) = ((1 + j : Nat) : Int) := by omega
    rw [ej]
    have jm : 1 + j < mn := by omega
    refine ⟨.ref ca, rfl, _, rfl, .int (mn : Nat), rfl, .counter mn 1 0, .ref ca, ((1 + j : Nat) : Int), mn, rfl, ⟨ca, rfl, sF.tup hca⟩, okc, by omega, sF.tabG tgA, fun F2 rw2 f2 _ hrw => ?_⟩
    have lr := rowM_len (.counter mn 1 0) ((1 + j : Nat) : Int) mn
    refine ⟨rw2, _, rfl, hrw, by omega, by omega, fun F3 t p w jj f3 _ ht hp bst => ?_⟩
    have bf := best_first (rs := rowM (.counter mn 1 0) ((1 + j : Nat) : Int) mn) (k := 1 + j) (by omega) (by omega) (cnt_row jm)
    obtain ⟨rfl, rfl⟩ := bst.uniq bf
    rw [lr] at hp
    have w0 : 0 ≤ ((1 + j : Nat) : Int) * ((mn : Int) - ((1 + j : Nat) : Int)) := Int.mul_nonneg (by omega) (by omega)
    refine ⟨_, rfl, .int (mn : Nat), rfl, _, rfl, _, _, rfl, rfl, _, _, rfl, rfl, .inl ⟨by omega, by omega⟩, .int (mn : Nat), rfl, _, (mn : Int), rfl, w0, by omega, s_len (by omega), fun F4 p4 f4 _ hp4 => ?_⟩
    refine ⟨_, rfl, (show 2 ≤ sizeLine by decide), fun du ndu => ?_⟩
    have f5 := same_upd ndu (o := .tup [.ref p4, .int ((1 + j : Nat) : Int)])
    refine eqvP (f5 _ _ (f4 _ _ ht)) upd_same (f5 _ _ (f4 _ _ hp)) (f5 _ _ hp4) ⟨_, rfl, iteF ?_⟩
    exact ⟨_, rfl, sF.trans (f2.trans (Sam.of (f3.trans (f4.trans f5))))⟩
end
def d_common_divisor : He.DefD := ⟨("common_divisor", none), "common_divisor", "common_divisor", defArgs s_common_divisor, defBody s_common_divisor, defScope s_common_divisor, [], []⟩
def d_fraction : He.DefD := ⟨("fraction", none), "fraction", "fraction", defArgs s_fraction, defBody s_fraction, defScope s_fraction, [], []⟩
def d_before : He.DefD := ⟨("before", none), "before", "before", defArgs s_before, defBody s_before, defScope s_before, [], []⟩
def d_ones : He.DefD := ⟨("ones", none), "ones", "ones", defArgs s_ones, defBody s_ones, defScope s_ones, [], []⟩
def d_counter_round : He.DefD := ⟨("counter_round", none), "counter_round", "counter_round", defArgs s_counter_round, defBody s_counter_round, defScope s_counter_round, [], []⟩
def d_last_for_first : He.DefD := ⟨("last_for_first", none), "last_for_first", "last_for_first", defArgs s_last_for_first, defBody s_last_for_first, defScope s_last_for_first, [], []⟩
def d_size_of : He.DefD := ⟨("size_of", none), "size_of", "size_of", defArgs s_size_of, defBody s_size_of, defScope s_size_of, [], []⟩
def d_turned_round : He.DefD := ⟨("turned_round", none), "turned_round", "turned_round", defArgs s_turned_round, defBody s_turned_round, defScope s_turned_round, [], []⟩
def d_odd_ones : He.DefD := ⟨("odd_ones", none), "odd_ones", "odd_ones", defArgs s_odd_ones, defBody s_odd_ones, defScope s_odd_ones, [], []⟩
def d_held_round : He.DefD := ⟨("held_round", none), "held_round", "held_round", defArgs s_held_round, defBody s_held_round, defScope s_held_round, [], []⟩
def d_plain_round : He.DefD := ⟨("plain_round", none), "plain_round", "plain_round", defArgs s_plain_round, defBody s_plain_round, defScope s_plain_round, [], []⟩
def d_round_of : He.DefD := ⟨("round_of", none), "round_of", "round_of", defArgs s_round_of, defBody s_round_of, defScope s_round_of, [], []⟩
def d_innermost : He.DefD := ⟨("innermost", none), "innermost", "innermost", defArgs s_innermost, defBody s_innermost, defScope s_innermost, [], []⟩
def d_top_of : He.DefD := ⟨("top_of", none), "top_of", "top_of", defArgs s_top_of, defBody s_top_of, defScope s_top_of, [], []⟩
def d_inner_beat : He.DefD := ⟨("inner_beat", none), "inner_beat", "inner_beat", defArgs s_inner_beat, defBody s_inner_beat, defScope s_inner_beat, [], []⟩
def d_values_at : He.DefD := ⟨("values_at", none), "values_at", "values_at", defArgs s_values_at, defBody s_values_at, defScope s_values_at, [], []⟩
def d_values_of : He.DefD := ⟨("values_of", none), "values_of", "values_of", defArgs s_values_of, defBody s_values_of, defScope s_values_of, [], []⟩
def d_row_below : He.DefD := ⟨("row_below", none), "row_below", "row_below", defArgs s_row_below, defBody s_row_below, defScope s_row_below, [], []⟩
def d_row_of : He.DefD := ⟨("row_of", none), "row_of", "row_of", defArgs s_row_of, defBody s_row_of, defScope s_row_of, [], []⟩
def d_offs_by : He.DefD := ⟨("offs_by", none), "offs_by", "offs_by", defArgs s_offs_by, defBody s_offs_by, defScope s_offs_by, [], []⟩
def d_offs_of : He.DefD := ⟨("offs_of", none), "offs_of", "offs_of", defArgs s_offs_of, defBody s_offs_of, defScope s_offs_of, [], []⟩
def d_worst_part : He.DefD := ⟨("worst_part", none), "worst_part", "worst_part", defArgs s_worst_part, defBody s_worst_part, defScope s_worst_part, [], []⟩
def d_worst_of : He.DefD := ⟨("worst_of", none), "worst_of", "worst_of", defArgs s_worst_of, defBody s_worst_of, defScope s_worst_of, [], []⟩
def d__law_box : He.DefD := ⟨("_law_box", none), "_law_box", "_law_box", defArgs s__law_box, defBody s__law_box, defScope s__law_box, [], []⟩
def d__law_take : He.DefD := ⟨("_law_take", none), "_law_take", "_law_take", defArgs s__law_take, defBody s__law_take, defScope s__law_take, [], []⟩
def d__law_folded : He.DefD := ⟨("_law_folded", none), "_law_folded", "_law_folded", defArgs s__law_folded, defBody s__law_folded, defScope s__law_folded, [], []⟩
def d__law_lowest : He.DefD := ⟨("_law_lowest", none), "_law_lowest", "_law_lowest", defArgs s__law_lowest, defBody s__law_lowest, defScope s__law_lowest, [], []⟩
def d__law_alone : He.DefD := ⟨("_law_alone", none), "_law_alone", "_law_alone", defArgs s__law_alone, defBody s__law_alone, defScope s__law_alone, [], []⟩
def d__law_maker : He.DefD := ⟨("_law_maker", none), "_law_maker", "_law_maker", defArgs s__law_maker, defBody s__law_maker, defScope s__law_maker, [], []⟩
def d__law_worst : He.DefD := ⟨("_law_worst", none), "_law_worst", "_law_worst", defArgs s__law_worst, defBody s__law_worst, defScope s__law_worst, [], []⟩
def d__law_right : He.DefD := ⟨("_law_right", none), "_law_right", "_law_right", defArgs s__law_right, defBody s__law_right, defScope s__law_right, [], []⟩
def d__law_slow_right : He.DefD := ⟨("_law_slow_right", none), "_law_slow_right", "_law_slow_right", defArgs s__law_slow_right, defBody s__law_slow_right, defScope s__law_slow_right, [], []⟩
def d_law : He.DefD := ⟨("law", none), "law", "law", defArgs s_law, defBody s_law, defScope s_law, [], []⟩
def hfn : List He.DefD := [d_common_divisor, d_fraction, d_before, d_ones, d_counter_round, d_last_for_first, d_size_of, d_turned_round, d_odd_ones, d_held_round, d_plain_round, d_round_of, d_innermost, d_top_of, d_inner_beat, d_values_at, d_values_of, d_row_below, d_row_of, d_offs_by, d_offs_of, d_worst_part, d_worst_of, d__law_box, d__law_take, d__law_folded, d__law_lowest, d__law_alone, d__law_maker, d__law_worst, d__law_right, d__law_slow_right, d_law]
def hfa : List He.Fa := [.glo "common_divisor", .glo "fraction", .glo "before", .glo "ones", .glo "counter_round", .glo "last_for_first", .glo "size_of", .glo "turned_round", .glo "odd_ones", .glo "held_round", .glo "plain_round", .glo "round_of", .glo "innermost", .glo "top_of", .glo "inner_beat", .glo "values_at", .glo "values_of", .glo "row_below", .glo "row_of", .glo "offs_by", .glo "offs_of", .glo "worst_part", .glo "worst_of", .glo "_law_box", .glo "_law_take", .glo "_law_folded", .glo "_law_lowest", .glo "_law_alone", .glo "_law_maker", .glo "_law_worst", .glo "_law_right", .glo "_law_slow_right", .glo "law", .free "abs", .free "any", .free "bool", .free "divmod", .free "enumerate", .free "int", .free "isinstance", .free "len", .free "list", .free "max", .free "range", .free "sum", .free "tuple"]
def htf : List He.Defn := [("row_below", none)]
def hex : PySem.W.Frag → Bool := fun _ => true
abbrev R : PySem.W.OpenRow := PySem.W.OpenLaw.row PySem.Challenge.rw_shareones_k29_the_worst_of_a_maker
abbrev hk : PySem.W.Hook := He.hookX 4 hfa hfn [] htf hex
def ob (s : PySem.W.SharedT) : He.AlX := He.obsX 4 hfa hfn [] htf hex (HandSHeadRun.getT s)
theorem ob_eq (s : PySem.W.SharedT) : ob s = hk.obs s.abs := He.obsX_eq (HandSHeadRun.getT_eq s)
def loose : List Str := "common_divisor" :: "fraction" :: "before" :: "ones" :: "counter_round" :: "last_for_first" :: "size_of" :: "turned_round" :: "odd_ones" :: "held_round" :: "plain_round" :: "round_of" :: "innermost" :: "top_of" :: "inner_beat" :: "values_at" :: "values_of" :: "row_below" :: "row_of" :: "offs_by" :: "offs_of" :: "worst_part" :: "worst_of" :: "_law_box" :: "_law_take" :: "_law_folded" :: "_law_lowest" :: "_law_alone" :: "_law_maker" :: "_law_worst" :: "_law_right" :: "_law_slow_right" :: []
theorem run (w : World) : HandSHeadRun.RunEq R (PySem.W.view R.prog [37]) hk ob 6000 loose w := by
  intro os
  kernel_rfl
theorem codeAt {K : PySem.W.Frag} {p : He.Defn} : CodeAt K (He.fAd K p) (He.cT K p).1 := fun oc od fd osl lk b e => (He.codeOf_eq lk e).symm
theorem facts {l : PySem.W.OpenLaw} {w : World} {K : PySem.W.Frag} {h : Heap} {mg : Str → Option Value} {f : Addr} (X : K.In h) (G : h.Ns mainGlobals mg) (hfa_ : mg ("law" : Str) = some (.ref f)) (cc : He.SaysX hfa hfn [] htf hex w h K) :
    LamX.LawAtS l w K CX0 12 63 "_law_script" mg f h := by
  have c : He.SaysD hfa hfn K := congrArg (fun z : He.AlT => z.1) cc.t
  obtain ⟨fd_common_divisor, F_common_divisor⟩ := c.def_ 0 (d := d_common_divisor) rfl
  obtain ⟨fd_fraction, F_fraction⟩ := c.def_ 1 (d := d_fraction) rfl
  obtain ⟨fd_before, F_before⟩ := c.def_ 2 (d := d_before) rfl
  obtain ⟨fd_ones, F_ones⟩ := c.def_ 3 (d := d_ones) rfl
  obtain ⟨fd_counter_round, F_counter_round⟩ := c.def_ 4 (d := d_counter_round) rfl
  obtain ⟨fd_last_for_first, F_last_for_first⟩ := c.def_ 5 (d := d_last_for_first) rfl
  obtain ⟨fd_size_of, F_size_of⟩ := c.def_ 6 (d := d_size_of) rfl
  obtain ⟨fd_turned_round, F_turned_round⟩ := c.def_ 7 (d := d_turned_round) rfl
  obtain ⟨fd_odd_ones, F_odd_ones⟩ := c.def_ 8 (d := d_odd_ones) rfl
  obtain ⟨fd_held_round, F_held_round⟩ := c.def_ 9 (d := d_held_round) rfl
  obtain ⟨fd_plain_round, F_plain_round⟩ := c.def_ 10 (d := d_plain_round) rfl
  obtain ⟨fd_round_of, F_round_of⟩ := c.def_ 11 (d := d_round_of) rfl
  obtain ⟨fd_innermost, F_innermost⟩ := c.def_ 12 (d := d_innermost) rfl
  obtain ⟨fd_top_of, F_top_of⟩ := c.def_ 13 (d := d_top_of) rfl
  obtain ⟨fd_inner_beat, F_inner_beat⟩ := c.def_ 14 (d := d_inner_beat) rfl
  obtain ⟨fd_values_at, F_values_at⟩ := c.def_ 15 (d := d_values_at) rfl
  obtain ⟨fd_values_of, F_values_of⟩ := c.def_ 16 (d := d_values_of) rfl
  obtain ⟨fd_row_below, F_row_below⟩ := c.def_ 17 (d := d_row_below) rfl
  obtain ⟨fd_row_of, F_row_of⟩ := c.def_ 18 (d := d_row_of) rfl
  obtain ⟨fd_offs_by, F_offs_by⟩ := c.def_ 19 (d := d_offs_by) rfl
  obtain ⟨fd_offs_of, F_offs_of⟩ := c.def_ 20 (d := d_offs_of) rfl
  obtain ⟨fd_worst_part, F_worst_part⟩ := c.def_ 21 (d := d_worst_part) rfl
  obtain ⟨fd_worst_of, F_worst_of⟩ := c.def_ 22 (d := d_worst_of) rfl
  obtain ⟨fd__law_box, F__law_box⟩ := c.def_ 23 (d := d__law_box) rfl
  obtain ⟨fd__law_take, F__law_take⟩ := c.def_ 24 (d := d__law_take) rfl
  obtain ⟨fd__law_folded, F__law_folded⟩ := c.def_ 25 (d := d__law_folded) rfl
  obtain ⟨fd__law_lowest, F__law_lowest⟩ := c.def_ 26 (d := d__law_lowest) rfl
  obtain ⟨fd__law_alone, F__law_alone⟩ := c.def_ 27 (d := d__law_alone) rfl
  obtain ⟨fd__law_maker, F__law_maker⟩ := c.def_ 28 (d := d__law_maker) rfl
  obtain ⟨fd__law_worst, F__law_worst⟩ := c.def_ 29 (d := d__law_worst) rfl
  obtain ⟨fd__law_right, F__law_right⟩ := c.def_ 30 (d := d__law_right) rfl
  obtain ⟨fd__law_slow_right, F__law_slow_right⟩ := c.def_ 31 (d := d__law_slow_right) rfl
  obtain ⟨fd_law, F_law⟩ := c.def_ 32 (d := d_law) rfl
  have e := hfa_.symm.trans (He.glo_ok X G (c.fact 32 (f := .glo "law") rfl))
  cases e
  have b := FunD.bindsA (ps := ["_law_script"]) F_law fun _ _ _ _ _ _ us hl => match us, hl with | [_], _ => rfl
  let T : Defs K mg := ⟨_, fd_common_divisor, F_common_divisor, (He.glo_ok X G (c.fact 0 (f := .glo "common_divisor") rfl)), (FunD.bindsN F_common_divisor fun _ _ _ _ _ _ us hl => match us, hl with | [_, _], _ => rfl), _, fd_fraction, F_fraction, (He.glo_ok X G (c.fact 1 (f := .glo "fraction") rfl)), (FunD.bindsN F_fraction fun _ _ _ _ _ _ us hl => match us, hl with | [_, _], _ => rfl), _, fd_before, F_before, (He.glo_ok X G (c.fact 2 (f := .glo "before") rfl)), (FunD.bindsN F_before fun _ _ _ _ _ _ us hl => match us, hl with | [_, _], _ => rfl), _, fd_ones, F_ones, (He.glo_ok X G (c.fact 3 (f := .glo "ones") rfl)), (FunD.bindsN F_ones fun _ _ _ _ _ _ us hl => match us, hl with | [_], _ => rfl), _, fd_counter_round, F_counter_round, (He.glo_ok X G (c.fact 4 (f := .glo "counter_round") rfl)), (FunD.bindsN F_counter_round fun _ _ _ _ _ _ us hl => match us, hl with | [_, _, _], _ => rfl), _, fd_last_for_first, F_last_for_first, (He.glo_ok X G (c.fact 5 (f := .glo "last_for_first") rfl)), (FunD.bindsN F_last_for_first fun _ _ _ _ _ _ us hl => match us, hl with | [_, _], _ => rfl), _, fd_size_of, F_size_of, (He.glo_ok X G (c.fact 6 (f := .glo "size_of") rfl)), (FunD.bindsN F_size_of fun _ _ _ _ _ _ us hl => match us, hl with | [_], _ => rfl), _, fd_turned_round, F_turned_round, (He.glo_ok X G (c.fact 7 (f := .glo "turned_round") rfl)), (FunD.bindsN F_turned_round fun _ _ _ _ _ _ us hl => match us, hl with | [_, _], _ => rfl), _, fd_odd_ones, F_odd_ones, (He.glo_ok X G (c.fact 8 (f := .glo "odd_ones") rfl)), (FunD.bindsN F_odd_ones fun _ _ _ _ _ _ us hl => match us, hl with | [_], _ => rfl), _, fd_held_round, F_held_round, (He.glo_ok X G (c.fact 9 (f := .glo "held_round") rfl)), (FunD.bindsN F_held_round fun _ _ _ _ _ _ us hl => match us, hl with | [_, _, _], _ => rfl), _, fd_plain_round, F_plain_round, (He.glo_ok X G (c.fact 10 (f := .glo "plain_round") rfl)), (FunD.bindsN F_plain_round fun _ _ _ _ _ _ us hl => match us, hl with | [_], _ => rfl), _, fd_round_of, F_round_of, (He.glo_ok X G (c.fact 11 (f := .glo "round_of") rfl)), (FunD.bindsN F_round_of fun _ _ _ _ _ _ us hl => match us, hl with | [_], _ => rfl), _, fd_innermost, F_innermost, (He.glo_ok X G (c.fact 12 (f := .glo "innermost") rfl)), (FunD.bindsN F_innermost fun _ _ _ _ _ _ us hl => match us, hl with | [_], _ => rfl), _, fd_top_of, F_top_of, (He.glo_ok X G (c.fact 13 (f := .glo "top_of") rfl)), (FunD.bindsN F_top_of fun _ _ _ _ _ _ us hl => match us, hl with | [_], _ => rfl), _, fd_inner_beat, F_inner_beat, (He.glo_ok X G (c.fact 14 (f := .glo "inner_beat") rfl)), (FunD.bindsN F_inner_beat fun _ _ _ _ _ _ us hl => match us, hl with | [_, _], _ => rfl), _, fd_values_at, F_values_at, (He.glo_ok X G (c.fact 15 (f := .glo "values_at") rfl)), (FunD.bindsN F_values_at fun _ _ _ _ _ _ us hl => match us, hl with | [_, _], _ => rfl), _, fd_values_of, F_values_of, (He.glo_ok X G (c.fact 16 (f := .glo "values_of") rfl)), (FunD.bindsN F_values_of fun _ _ _ _ _ _ us hl => match us, hl with | [_, _], _ => rfl), _, fd_row_below, F_row_below, (He.glo_ok X G (c.fact 17 (f := .glo "row_below") rfl)), (FunD.bindsN F_row_below fun _ _ _ _ _ _ us hl => match us, hl with | [_, _], _ => rfl), _, fd_row_of, F_row_of, (He.glo_ok X G (c.fact 18 (f := .glo "row_of") rfl)), (FunD.bindsN F_row_of fun _ _ _ _ _ _ us hl => match us, hl with | [_, _, _], _ => rfl), _, fd_offs_by, F_offs_by, (He.glo_ok X G (c.fact 19 (f := .glo "offs_by") rfl)), (FunD.bindsN F_offs_by fun _ _ _ _ _ _ us hl => match us, hl with | [_, _, _], _ => rfl), _, fd_offs_of, F_offs_of, (He.glo_ok X G (c.fact 20 (f := .glo "offs_of") rfl)), (FunD.bindsN F_offs_of fun _ _ _ _ _ _ us hl => match us, hl with | [_], _ => rfl), _, fd_worst_part, F_worst_part, (He.glo_ok X G (c.fact 21 (f := .glo "worst_part") rfl)), (FunD.bindsN F_worst_part fun _ _ _ _ _ _ us hl => match us, hl with | [_], _ => rfl), _, fd_worst_of, F_worst_of, (He.glo_ok X G (c.fact 22 (f := .glo "worst_of") rfl)), (FunD.bindsN F_worst_of fun _ _ _ _ _ _ us hl => match us, hl with | [_], _ => rfl), _, fd__law_box, F__law_box, (He.glo_ok X G (c.fact 23 (f := .glo "_law_box") rfl)), (FunD.bindsN F__law_box fun _ _ _ _ _ _ us hl => match us, hl with | [_, _], _ => rfl), _, fd__law_take, F__law_take, (He.glo_ok X G (c.fact 24 (f := .glo "_law_take") rfl)), (FunD.bindsN F__law_take fun _ _ _ _ _ _ us hl => match us, hl with | [_, _], _ => rfl), _, fd__law_folded, F__law_folded, (He.glo_ok X G (c.fact 25 (f := .glo "_law_folded") rfl)), (FunD.bindsN F__law_folded fun _ _ _ _ _ _ us hl => match us, hl with | [_, _], _ => rfl), _, fd__law_lowest, F__law_lowest, (He.glo_ok X G (c.fact 26 (f := .glo "_law_lowest") rfl)), (FunD.bindsN F__law_lowest fun _ _ _ _ _ _ us hl => match us, hl with | [_, _], _ => rfl), _, fd__law_alone, F__law_alone, (He.glo_ok X G (c.fact 27 (f := .glo "_law_alone") rfl)), (FunD.bindsN F__law_alone fun _ _ _ _ _ _ us hl => match us, hl with | [_, _], _ => rfl), _, fd__law_maker, F__law_maker, (He.glo_ok X G (c.fact 28 (f := .glo "_law_maker") rfl)), (FunD.bindsN F__law_maker fun _ _ _ _ _ _ us hl => match us, hl with | [_, _, _], _ => rfl), _, fd__law_worst, F__law_worst, (He.glo_ok X G (c.fact 29 (f := .glo "_law_worst") rfl)), (FunD.bindsN F__law_worst fun _ _ _ _ _ _ us hl => match us, hl with | [_, _], _ => rfl), _, fd__law_right, F__law_right, (He.glo_ok X G (c.fact 30 (f := .glo "_law_right") rfl)), (FunD.bindsN F__law_right fun _ _ _ _ _ _ us hl => match us, hl with | [_], _ => rfl), _, fd__law_slow_right, F__law_slow_right, (He.glo_ok X G (c.fact 31 (f := .glo "_law_slow_right") rfl)), (FunD.bindsN F__law_slow_right fun _ _ _ _ _ _ us hl => match us, hl with | [_], _ => rfl), _, fd_law, F_law, (He.glo_ok X G (c.fact 32 (f := .glo "law") rfl)), (FunD.bindsN F_law fun _ _ _ _ _ _ us hl => match us, hl with | [_], _ => rfl), (He.cT K ("row_below", none)).1, (He.cT K ("row_below", none)).2, codeAt, (He.free_ok X G (c.fact 33 (f := .free "abs") rfl)), (He.free_ok X G (c.fact 34 (f := .free "any") rfl)), (He.free_ok X G (c.fact 35 (f := .free "bool") rfl)), (He.free_ok X G (c.fact 36 (f := .free "divmod") rfl)), (He.free_ok X G (c.fact 37 (f := .free "enumerate") rfl)), (He.free_ok X G (c.fact 38 (f := .free "int") rfl)), (He.free_ok X G (c.fact 39 (f := .free "isinstance") rfl)), (He.free_ok X G (c.fact 40 (f := .free "len") rfl)), (He.free_ok X G (c.fact 41 (f := .free "list") rfl)), (He.free_ok X G (c.fact 42 (f := .free "max") rfl)), (He.free_ok X G (c.fact 43 (f := .free "range") rfl)), (He.free_ok X G (c.fact 44 (f := .free "sum") rfl)), (He.free_ok X G (c.fact 45 (f := .free "tuple") rfl))⟩
  refine ⟨fd_law, htf.map (He.cT K), sp_law T, fun p hp => ?_, fun p hp => ?_, fun p hp => ?_, fun s v => b s [v] rfl, fun H a ns hl _ hH hS => ⟨a, ns, rfl, hS, hl, ?_, fun _ => rfl⟩, fun base _ _ TB => ok_law T ?_⟩
  · obtain ⟨q, hq, rfl⟩ := List.mem_map.mp hp
    exact cc.empty q hq
  · obtain ⟨q, hq, rfl⟩ := List.mem_map.mp hp
    exact cc.out q hq
  · obtain ⟨q, hq, rfl⟩ := List.mem_map.mp hp
    exact PySem.W.codeHd_of_K X (cc.hd q hq)
  · exact ⟨⟨#[], hH _ (List.mem_map.mpr ⟨_, List.mem_cons_self, rfl⟩), trip0⟩, trivial⟩
  · exact ⟨⟨(TB _ (List.mem_map.mpr ⟨_, List.mem_cons_self, rfl⟩)).code, (TB _ (List.mem_map.mpr ⟨_, List.mem_cons_self, rfl⟩)).bm, (TB _ (List.mem_map.mpr ⟨_, List.mem_cons_self, rfl⟩)).gP⟩⟩
end Fq
open PySem PySem.W PySem.Calls PyProof.Rows
set_option maxHeartbeats 0 in
theorem PySem.Challenge.cw_shareones_k29_the_worst_of_a_maker_holds : PySem.Challenge.rw_shareones_k29_the_worst_of_a_maker.Holds := by
  w_on; o_law
  refine HandSHeadRun.head_any (r := OpenLaw.row PySem.Challenge.rw_shareones_k29_the_worst_of_a_maker) (q := view (OpenLaw.row PySem.Challenge.rw_shareones_k29_the_worst_of_a_maker).prog [37]) (H := Fq.hk) (ob := Fq.ob) (M := 6000) (loose := Fq.loose) (d := HandSHeadRun.topDef (OpenLaw.row PySem.Challenge.rw_shareones_k29_the_worst_of_a_maker).prog 37) (kwd := []) Fq.ob_eq
    (by kernel_rfl) (fun s => by kernel_rfl) Fq.run (by kernel_rfl) (by kernel_rfl) (by kernel_rfl) (by rfl) (by first | assumption | decide +kernel) (by decide +kernel) ⟨rfl, rfl, rfl, rfl, rfl, by decide +kernel⟩ ?hw ?hc
  case hw => w_witness2
  case hc =>
    refine LamX.walk_ofTsE (l := PySem.Challenge.rw_shareones_k29_the_worst_of_a_maker) (n := 63) (k := 12) (x := "_law_script") (CX := fun _ => L2.CX0) rfl (by decide) (by kernel_rfl) ⟨rfl, by decide, by decide⟩ ?F (fun _ _ _ _ _ z => z)
    intro w mg fa h Y G hmg0
    obtain ⟨K, KX, c⟩ := Y
    have hmg : mg ("law" : PySem.Str) = some (.ref fa) := by
      have e : (HandSHeadRun.topDef (OpenLaw.row PySem.Challenge.rw_shareones_k29_the_worst_of_a_maker).prog 37).name = ("law" : PySem.Str) := by kernel_rfl
      rw [← e]
      exact hmg0
    exact ⟨K, KX, Fq.facts KX G hmg c⟩
