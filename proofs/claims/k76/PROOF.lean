import PyProof.Rows.All
import Wide.All
import OpenK.AllK
import Wide.FinOn
import KE.KStateDown
import Lean
import HandS.ForMost
import HandS.Wide
import HandS.WideBits
import HandS.IsInst
import HandS.Walk
import HandS.Evl
import HandS.Style
import HandS.NoneIn
import HandS.Defaults
import HandS.Head0
import HandS.Head1
import HandS.Head2
import HandS.HeadEnd
import HandS.HeadHook1
import HandS.HeadHook2
import HandS.AnyAll
import HandS.Conv
import HandS.Deep
import HandS.EndTab
import HandS.Exc
import HandS.ExcIs
import HandS.ExcOwn
import HandS.Flow
import HandS.HeadHook3
import HandS.HeadHook4
import HandS.HeadWalk
import HandS.Set
import HandS.SetFor
import HandS.SortInts
import HandS.SortKw
import HandS.Strs
import HandS.Style
import HandS.TupAny
import HandS.TupMul
import HandS.WordsExc
import HandS.Zip
import KE.DataMinMax
import KE.GoesEnum
import KE.GoesMore
import KE.GoesSet
import KE.GoesZip
import KE.KDictWalk
import KE.KNest
import PyProof.GenCompT
import PyProof.Rows.MatchSeqLen
import PyProof.RulesMatch
import PyProof.RulesMatchSeq
import PyProof.TupleOfGen
import PySem.Challenge.RW_shareones_k76_whole_parts_never_beyond
set_option Elab.async false
set_option pp.maxSteps 250
set_option linter.all false
set_option maxRecDepth 100000
set_option maxHeartbeats 4000000
namespace Fq
open PySem PySem.Spec PyProof.Rows L2
section
variable {P : Program} {w : World} {K : PySem.W.Frag} {mg : Str → Option Value} {base : Heap}
def topS (i : Nat) : Stmt := PySem.Challenge.pw_shareones_k76_whole_parts_never_beyond.main.body.getD i (.Pass ⟨0, 0, 0, 0⟩)
abbrev FnP (K : PySem.W.Frag) (x : Str) (st : Stmt) (f : Addr) (fd : FuncData) : Prop := FunD K x x (defArgs st) (defBody st) (defScope st) [] [] f fd
abbrev s_common_divisor : Stmt := topS 1
abbrev N_common_divisor : List Str := ["one", "other"]
theorem sc_common_divisor : FnScope N_common_divisor ["one", "other"] (defScope s_common_divisor) := ⟨rfl, rfl, rfl, by decide +kernel, rfl, by decide +kernel, by decide +kernel⟩
abbrev s_fraction : Stmt := topS 2
abbrev N_fraction : List Str := ["top", "bottom", "divisor"]
theorem sc_fraction : FnScope N_fraction ["top", "bottom"] (defScope s_fraction) := ⟨rfl, rfl, rfl, by decide +kernel, rfl, by decide +kernel, by decide +kernel⟩
abbrev s_before : Stmt := topS 3
abbrev N_before : List Str := ["one", "other"]
theorem sc_before : FnScope N_before ["one", "other"] (defScope s_before) := ⟨rfl, rfl, rfl, by decide +kernel, rfl, by decide +kernel, by decide +kernel⟩
abbrev s_ones : Stmt := topS 5
abbrev N_ones : List Str := ["row"]
theorem sc_ones : FnScope N_ones ["row"] (defScope s_ones) := ⟨rfl, rfl, rfl, by decide +kernel, rfl, by decide +kernel, by decide +kernel⟩
abbrev s_again : Stmt := topS 6
abbrev N_again : List Str := ["row", "many"]
theorem sc_again : FnScope N_again ["row", "many"] (defScope s_again) := ⟨rfl, rfl, rfl, by decide +kernel, rfl, by decide +kernel, by decide +kernel⟩
abbrev s_counter_round : Stmt := topS 8
abbrev N_counter_round : List Str := ["size", "step", "start", "t"]
theorem sc_counter_round : FnScope N_counter_round ["size", "step", "start"] (defScope s_counter_round) := ⟨rfl, rfl, rfl, by decide +kernel, rfl, by decide +kernel, by decide +kernel⟩
abbrev s_last_for_first : Stmt := topS 9
abbrev N_last_for_first : List Str := ["number", "wide", "told", "at"]
theorem sc_last_for_first : FnScope N_last_for_first ["number", "wide"] (defScope s_last_for_first) := ⟨rfl, rfl, rfl, by decide +kernel, rfl, by decide +kernel, by decide +kernel⟩
abbrev s_size_of : Stmt := topS 10
abbrev N_size_of : List Str := ["wide"]
theorem sc_size_of : FnScope N_size_of ["wide"] (defScope s_size_of) := ⟨rfl, rfl, rfl, by decide +kernel, rfl, by decide +kernel, by decide +kernel⟩
abbrev s_turned_round : Stmt := topS 11
abbrev N_turned_round : List Str := ["wide", "start", "size", "t"]
theorem sc_turned_round : FnScope N_turned_round ["wide", "start"] (defScope s_turned_round) := ⟨rfl, rfl, rfl, by decide +kernel, rfl, by decide +kernel, by decide +kernel⟩
abbrev s_odd_ones : Stmt := topS 12
abbrev N_odd_ones : List Str := ["number", "odd"]
theorem sc_odd_ones : FnScope N_odd_ones ["number"] (defScope s_odd_ones) := ⟨rfl, rfl, rfl, by decide +kernel, rfl, by decide +kernel, by decide +kernel⟩
abbrev s_held_round : Stmt := topS 13
abbrev N_held_round : List Str := ["wide", "taps", "start", "size", "told", "held"]
theorem sc_held_round : FnScope N_held_round ["wide", "taps", "start"] (defScope s_held_round) := ⟨rfl, rfl, rfl, by decide +kernel, rfl, by decide +kernel, by decide +kernel⟩
abbrev s_plain_round : Stmt := topS 14
abbrev N_plain_round : List Str := ["maker", "size", "step", "start", "wide", "taps", "numbers"]
theorem sc_plain_round : FnScope N_plain_round ["maker"] (defScope s_plain_round) := ⟨rfl, rfl, rfl, by decide +kernel, rfl, by decide +kernel, by decide +kernel⟩
abbrev s_round_of : Stmt := topS 15
abbrev N_round_of : List Str := ["maker", "many", "inner", "length", "by"]
theorem sc_round_of : FnScope N_round_of ["maker"] (defScope s_round_of) := ⟨rfl, rfl, rfl, by decide +kernel, rfl, by decide +kernel, by decide +kernel⟩
abbrev s_innermost : Stmt := topS 16
abbrev N_innermost : List Str := ["maker"]
theorem sc_innermost : FnScope N_innermost ["maker"] (defScope s_innermost) := ⟨rfl, rfl, rfl, by decide +kernel, rfl, by decide +kernel, by decide +kernel⟩
abbrev s_top_of : Stmt := topS 17
abbrev N_top_of : List Str := ["maker", "size", "step", "start", "numbers", "wide", "taps"]
theorem sc_top_of : FnScope N_top_of ["maker"] (defScope s_top_of) := ⟨rfl, rfl, rfl, by decide +kernel, rfl, by decide +kernel, by decide +kernel⟩
abbrev s_inner_beat : Stmt := topS 18
abbrev N_inner_beat : List Str := ["maker", "t", "word", "many", "inner"]
theorem sc_inner_beat : FnScope N_inner_beat ["maker", "t"] (defScope s_inner_beat) := ⟨rfl, rfl, rfl, by decide +kernel, rfl, by decide +kernel, by decide +kernel⟩
abbrev s_values_at : Stmt := topS 19
abbrev N_values_at : List Str := ["maker", "beats", "numbers", "t"]
theorem sc_values_at : FnScope N_values_at ["maker", "beats"] (defScope s_values_at) := ⟨rfl, rfl, rfl, by decide +kernel, rfl, by decide +kernel, by decide +kernel⟩
abbrev s_values_of : Stmt := topS 20
abbrev N_values_of : List Str := ["maker", "beats"]
theorem sc_values_of : FnScope N_values_of ["maker", "beats"] (defScope s_values_of) := ⟨rfl, rfl, rfl, by decide +kernel, rfl, by decide +kernel, by decide +kernel⟩
abbrev s_row_below : Stmt := topS 21
abbrev N_row_below : List Str := ["numbers", "k", "number"]
theorem sc_row_below : FnScope N_row_below ["numbers", "k"] (defScope s_row_below) := ⟨rfl, rfl, rfl, by decide +kernel, rfl, by decide +kernel, by decide +kernel⟩
abbrev s_row_of : Stmt := topS 22
abbrev N_row_of : List Str := ["maker", "k", "beats"]
theorem sc_row_of : FnScope N_row_of ["maker", "k", "beats"] (defScope s_row_of) := ⟨rfl, rfl, rfl, by decide +kernel, rfl, by decide +kernel, by decide +kernel⟩
abbrev s_offs_by : Stmt := topS 24
abbrev N_offs_by : List Str := ["row", "many", "length", "offs", "bit"]
theorem sc_offs_by : FnScope N_offs_by ["row", "many", "length"] (defScope s_offs_by) := ⟨rfl, rfl, rfl, by decide +kernel, rfl, by decide +kernel, by decide +kernel⟩
abbrev s_offs_of : Stmt := topS 25
abbrev N_offs_of : List Str := ["row"]
theorem sc_offs_of : FnScope N_offs_of ["row"] (defScope s_offs_of) := ⟨rfl, rfl, rfl, by decide +kernel, rfl, by decide +kernel, by decide +kernel⟩
abbrev s_worst_part : Stmt := topS 26
abbrev N_worst_part : List Str := ["row", "sizes", "worst", "off"]
theorem sc_worst_part : FnScope N_worst_part ["row"] (defScope s_worst_part) := ⟨rfl, rfl, rfl, by decide +kernel, rfl, by decide +kernel, by decide +kernel⟩
abbrev s_worst_stretch : Stmt := topS 27
abbrev N_worst_stretch : List Str := ["row", "offs", "least", "greatest", "begin", "end"]
theorem sc_worst_stretch : FnScope N_worst_stretch ["row"] (defScope s_worst_stretch) := ⟨rfl, rfl, rfl, by decide +kernel, rfl, by decide +kernel, by decide +kernel⟩
abbrev s_worst_of : Stmt := topS 28
abbrev N_worst_of : List Str := ["maker", "numbers", "worst", "k", "off", "n"]
theorem sc_worst_of : FnScope N_worst_of ["maker"] (defScope s_worst_of) := ⟨rfl, rfl, rfl, by decide +kernel, rfl, by decide +kernel, by decide +kernel⟩
abbrev s_last_beyond : Stmt := topS 29
abbrev N_last_beyond : List Str := ["off", "n", "length", "e", "top", "bottom", "last"]
theorem sc_last_beyond : FnScope N_last_beyond ["off", "n", "length", "e"] (defScope s_last_beyond) := ⟨rfl, rfl, rfl, by decide +kernel, rfl, by decide +kernel, by decide +kernel⟩
abbrev s_beats_for : Stmt := topS 30
abbrev N_beats_for : List Str := ["row", "e", "sizes", "off", "n"]
theorem sc_beats_for : FnScope N_beats_for ["row", "e"] (defScope s_beats_for) := ⟨rfl, rfl, rfl, by decide +kernel, rfl, by decide +kernel, by decide +kernel⟩
abbrev s__law_box : Stmt := topS 32
abbrev N__law_box : List Str := ["_law_script", "_law_k", "_law_cell"]
theorem sc__law_box : FnScope N__law_box ["_law_script", "_law_k"] (defScope s__law_box) := ⟨rfl, rfl, rfl, by decide +kernel, rfl, by decide +kernel, by decide +kernel⟩
abbrev s__law_take : Stmt := topS 33
abbrev N__law_take : List Str := ["_law_box_here", "_law_many", "_law_found", "_law_once"]
theorem sc__law_take : FnScope N__law_take ["_law_box_here", "_law_many"] (defScope s__law_take) := ⟨rfl, rfl, rfl, by decide +kernel, rfl, by decide +kernel, by decide +kernel⟩
abbrev s__law_folded : Stmt := topS 34
abbrev N__law_folded : List Str := ["_law_script", "_law_many", "_law_cells", "_law_k", "_law_cell"]
theorem sc__law_folded : FnScope N__law_folded ["_law_script", "_law_many"] (defScope s__law_folded) := ⟨rfl, rfl, rfl, by decide +kernel, rfl, by decide +kernel, by decide +kernel⟩
abbrev s__law_row : Stmt := topS 35
abbrev N__law_row : List Str := ["_law_box_here", "_law_long", "_law_way", "_law_at", "_law_bit", "_law_every", "_law_first", "_law_place"]
theorem sc__law_row : FnScope N__law_row ["_law_box_here", "_law_long"] (defScope s__law_row) := ⟨rfl, rfl, rfl, by decide +kernel, rfl, by decide +kernel, by decide +kernel⟩
abbrev s__law_divisor : Stmt := topS 36
abbrev N__law_divisor : List Str := ["_law_one", "_law_other"]
theorem sc__law_divisor : FnScope N__law_divisor ["_law_one", "_law_other"] (defScope s__law_divisor) := ⟨rfl, rfl, rfl, by decide +kernel, rfl, by decide +kernel, by decide +kernel⟩
abbrev s__law_powers : Stmt := topS 37
abbrev N__law_powers : List Str := []
theorem sc__law_powers : FnScope N__law_powers [] (defScope s__law_powers) := ⟨rfl, rfl, rfl, by decide +kernel, rfl, by decide +kernel, by decide +kernel⟩
abbrev s__law_plain : Stmt := topS 38
abbrev N__law_plain : List Str := ["_law_box_here", "_law_way", "_law_great", "_law_many", "_law_steps", "_law_most", "_law_wide", "_law_step", "_law_place"]
theorem sc__law_plain : FnScope N__law_plain ["_law_box_here"] (defScope s__law_plain) := ⟨rfl, rfl, rfl, by decide +kernel, rfl, by decide +kernel, by decide +kernel⟩
abbrev s__law_base : Stmt := topS 39
abbrev N__law_base : List Str := ["_law_maker_here", "_law_found", "_law_many", "_law_t", "_law_bits", "_law_held", "_law_odd", "_law_power", "_law_bit"]
theorem sc__law_base : FnScope N__law_base ["_law_maker_here"] (defScope s__law_base) := ⟨rfl, rfl, rfl, by decide +kernel, rfl, by decide +kernel, by decide +kernel⟩
abbrev s__law_inner : Stmt := topS 40
abbrev N__law_inner : List Str := ["_law_maker_here"]
theorem sc__law_inner : FnScope N__law_inner ["_law_maker_here"] (defScope s__law_inner) := ⟨rfl, rfl, rfl, by decide +kernel, rfl, by decide +kernel, by decide +kernel⟩
abbrev s__law_round : Stmt := topS 41
abbrev N__law_round : List Str := ["_law_maker_here", "_law_inner_here"]
theorem sc__law_round : FnScope N__law_round ["_law_maker_here"] (defScope s__law_round) := ⟨rfl, rfl, rfl, by decide +kernel, rfl, by decide +kernel, by decide +kernel⟩
abbrev s__law_top : Stmt := topS 42
abbrev N__law_top : List Str := ["_law_maker_here", "_law_inner_here"]
theorem sc__law_top : FnScope N__law_top ["_law_maker_here"] (defScope s__law_top) := ⟨rfl, rfl, rfl, by decide +kernel, rfl, by decide +kernel, by decide +kernel⟩
abbrev s__law_maker : Stmt := topS 43
abbrev N__law_maker : List Str := ["_law_box_here", "_law_most", "_law_maker_here", "_law_turn", "_law_word", "_law_many", "_law_thing"]
theorem sc__law_maker : FnScope N__law_maker ["_law_box_here", "_law_most"] (defScope s__law_maker) := ⟨rfl, rfl, rfl, by decide +kernel, rfl, by decide +kernel, by decide +kernel⟩
abbrev s__law_offs : Stmt := topS 44
abbrev N__law_offs : List Str := ["_law_row_here", "_law_long", "_law_many", "_law_found", "_law_bit"]
theorem sc__law_offs : FnScope N__law_offs ["_law_row_here"] (defScope s__law_offs) := ⟨rfl, rfl, rfl, by decide +kernel, rfl, by decide +kernel, by decide +kernel⟩
abbrev s__law_part_right : Stmt := topS 45
abbrev N__law_part_right : List Str := ["_law_row_here", "_law_offs_here", "_law_off", "_law_n", "_law_sizes", "_law_begin", "_law_end", "_law_one"]
theorem sc__law_part_right : FnScope N__law_part_right ["_law_row_here"] (defScope s__law_part_right) := ⟨rfl, rfl, rfl, by decide +kernel, rfl, by decide +kernel, by decide +kernel⟩
abbrev s__law_beats_right : Stmt := topS 46
abbrev N__law_beats_right : List Str := ["_law_box_here", "_law_row_here", "_law_top_here", "_law_e", "_law_found", "_law_offs_here", "_law_many", "_law_n", "_law_off", "_law_k"]
theorem sc__law_beats_right : FnScope N__law_beats_right ["_law_box_here", "_law_row_here"] (defScope s__law_beats_right) := ⟨rfl, rfl, rfl, by decide +kernel, rfl, by decide +kernel, by decide +kernel⟩
abbrev s_law : Stmt := topS 47
abbrev N_law : List Str := ["_law_script", "_law_cells", "_law_k", "_law_box_here", "_law_maker_here", "_law_long", "_law_best", "_law_many", "_law_told", "_law_off", "_law_n", "_law_bound", "_law_by", "_law_due", "_law_rows", "_law_row_here"]
theorem sc_law : FnScope N_law ["_law_script"] (defScope s_law) := ⟨rfl, rfl, rfl, by decide +kernel, rfl, by decide +kernel, by decide +kernel⟩
/-- the code object of the def at f is the one at c -/
def CodeAt (K : PySem.W.Frag) (f c : Addr) : Prop := ∀ (oc : Value) (od : Option Addr) (fd : FuncData) (osl : Array (Option Value)), K.lookup f = some ⟨oc, od, .func fd, osl⟩ → ∀ b, fd.code = .ref b → b = c
theorem okC {P : Program} {w : World} {K : PySem.W.Frag} {mg : Str → Option Value} {base : Heap} {x : Str} {st : Stmt} {f c : Addr} {fd : FuncData} {N ps : List Str} {k : Nat} {sp : Sp} (F : FnP K x st f fd) (hc : CodeAt K f c) (S : FnScope N ps (defScope st)) (len : ∀ vs H Q E, sp vs H Q E → vs.length = ps.length)
    (hb : ∀ (A : Around) (outer : List Env) (s : Shared) (H : Hp) (vs : List V) (Q : VK) (E : XK), Room k (A.deeper (envOfC x (defScope st) s.heap.objs.size f (.ref c))) → sp vs H Q E →
      ∃ t, PSs (cxOf CX0 P w K mg base N x (defScope st) f (.ref c) A outer s H E) (defBody st) t ∧ t { nx := fun _ H' => Q .non H', rt := Q } (L2.start N vs) H) : FnOk P w K mg base CX0 (k + 1) f fd ps sp := by
  obtain ⟨oc, od, dV, kV, doc, pm, an, cdv, ct, osl, rfl, lk, hcd, _, _⟩ := F.ex
  obtain ⟨b, rfl⟩ := He.codeIn_ref hcd
  have e := hc oc od _ osl lk b rfl
  subst e
  exact fn_of lk hcd S len hb
structure Defs (K : PySem.W.Frag) (mg : Str → Option Value) where
  f_common_divisor : Addr
  fd_common_divisor : FuncData
  F_common_divisor : FnP K "common_divisor" s_common_divisor f_common_divisor fd_common_divisor
  g_common_divisor : mg "common_divisor" = some (.ref f_common_divisor)
  b_common_divisor : Binds K fd_common_divisor ["one", "other"] []
  f_fraction : Addr
  fd_fraction : FuncData
  F_fraction : FnP K "fraction" s_fraction f_fraction fd_fraction
  g_fraction : mg "fraction" = some (.ref f_fraction)
  b_fraction : Binds K fd_fraction ["top", "bottom"] []
  f_before : Addr
  fd_before : FuncData
  F_before : FnP K "before" s_before f_before fd_before
  g_before : mg "before" = some (.ref f_before)
  b_before : Binds K fd_before ["one", "other"] []
  f_ones : Addr
  fd_ones : FuncData
  F_ones : FnP K "ones" s_ones f_ones fd_ones
  g_ones : mg "ones" = some (.ref f_ones)
  b_ones : Binds K fd_ones ["row"] []
  f_again : Addr
  fd_again : FuncData
  F_again : FnP K "again" s_again f_again fd_again
  g_again : mg "again" = some (.ref f_again)
  b_again : Binds K fd_again ["row", "many"] []
  f_counter_round : Addr
  fd_counter_round : FuncData
  F_counter_round : FnP K "counter_round" s_counter_round f_counter_round fd_counter_round
  g_counter_round : mg "counter_round" = some (.ref f_counter_round)
  b_counter_round : Binds K fd_counter_round ["size", "step", "start"] []
  f_last_for_first : Addr
  fd_last_for_first : FuncData
  F_last_for_first : FnP K "last_for_first" s_last_for_first f_last_for_first fd_last_for_first
  g_last_for_first : mg "last_for_first" = some (.ref f_last_for_first)
  b_last_for_first : Binds K fd_last_for_first ["number", "wide"] []
  f_size_of : Addr
  fd_size_of : FuncData
  F_size_of : FnP K "size_of" s_size_of f_size_of fd_size_of
  g_size_of : mg "size_of" = some (.ref f_size_of)
  b_size_of : Binds K fd_size_of ["wide"] []
  f_turned_round : Addr
  fd_turned_round : FuncData
  F_turned_round : FnP K "turned_round" s_turned_round f_turned_round fd_turned_round
  g_turned_round : mg "turned_round" = some (.ref f_turned_round)
  b_turned_round : Binds K fd_turned_round ["wide", "start"] []
  f_odd_ones : Addr
  fd_odd_ones : FuncData
  F_odd_ones : FnP K "odd_ones" s_odd_ones f_odd_ones fd_odd_ones
  g_odd_ones : mg "odd_ones" = some (.ref f_odd_ones)
  b_odd_ones : Binds K fd_odd_ones ["number"] []
  f_held_round : Addr
  fd_held_round : FuncData
  F_held_round : FnP K "held_round" s_held_round f_held_round fd_held_round
  g_held_round : mg "held_round" = some (.ref f_held_round)
  b_held_round : Binds K fd_held_round ["wide", "taps", "start"] []
  f_plain_round : Addr
  fd_plain_round : FuncData
  F_plain_round : FnP K "plain_round" s_plain_round f_plain_round fd_plain_round
  g_plain_round : mg "plain_round" = some (.ref f_plain_round)
  b_plain_round : Binds K fd_plain_round ["maker"] []
  f_round_of : Addr
  fd_round_of : FuncData
  F_round_of : FnP K "round_of" s_round_of f_round_of fd_round_of
  g_round_of : mg "round_of" = some (.ref f_round_of)
  b_round_of : Binds K fd_round_of ["maker"] []
  f_innermost : Addr
  fd_innermost : FuncData
  F_innermost : FnP K "innermost" s_innermost f_innermost fd_innermost
  g_innermost : mg "innermost" = some (.ref f_innermost)
  b_innermost : Binds K fd_innermost ["maker"] []
  f_top_of : Addr
  fd_top_of : FuncData
  F_top_of : FnP K "top_of" s_top_of f_top_of fd_top_of
  g_top_of : mg "top_of" = some (.ref f_top_of)
  b_top_of : Binds K fd_top_of ["maker"] []
  f_inner_beat : Addr
  fd_inner_beat : FuncData
  F_inner_beat : FnP K "inner_beat" s_inner_beat f_inner_beat fd_inner_beat
  g_inner_beat : mg "inner_beat" = some (.ref f_inner_beat)
  b_inner_beat : Binds K fd_inner_beat ["maker", "t"] []
  f_values_at : Addr
  fd_values_at : FuncData
  F_values_at : FnP K "values_at" s_values_at f_values_at fd_values_at
  g_values_at : mg "values_at" = some (.ref f_values_at)
  b_values_at : Binds K fd_values_at ["maker", "beats"] []
  f_values_of : Addr
  fd_values_of : FuncData
  F_values_of : FnP K "values_of" s_values_of f_values_of fd_values_of
  g_values_of : mg "values_of" = some (.ref f_values_of)
  b_values_of : Binds K fd_values_of ["maker", "beats"] []
  f_row_below : Addr
  fd_row_below : FuncData
  F_row_below : FnP K "row_below" s_row_below f_row_below fd_row_below
  g_row_below : mg "row_below" = some (.ref f_row_below)
  b_row_below : Binds K fd_row_below ["numbers", "k"] []
  f_row_of : Addr
  fd_row_of : FuncData
  F_row_of : FnP K "row_of" s_row_of f_row_of fd_row_of
  g_row_of : mg "row_of" = some (.ref f_row_of)
  b_row_of : Binds K fd_row_of ["maker", "k", "beats"] []
  f_offs_by : Addr
  fd_offs_by : FuncData
  F_offs_by : FnP K "offs_by" s_offs_by f_offs_by fd_offs_by
  g_offs_by : mg "offs_by" = some (.ref f_offs_by)
  b_offs_by : Binds K fd_offs_by ["row", "many", "length"] []
  f_offs_of : Addr
  fd_offs_of : FuncData
  F_offs_of : FnP K "offs_of" s_offs_of f_offs_of fd_offs_of
  g_offs_of : mg "offs_of" = some (.ref f_offs_of)
  b_offs_of : Binds K fd_offs_of ["row"] []
  f_worst_part : Addr
  fd_worst_part : FuncData
  F_worst_part : FnP K "worst_part" s_worst_part f_worst_part fd_worst_part
  g_worst_part : mg "worst_part" = some (.ref f_worst_part)
  b_worst_part : Binds K fd_worst_part ["row"] []
  f_worst_stretch : Addr
  fd_worst_stretch : FuncData
  F_worst_stretch : FnP K "worst_stretch" s_worst_stretch f_worst_stretch fd_worst_stretch
  g_worst_stretch : mg "worst_stretch" = some (.ref f_worst_stretch)
  b_worst_stretch : Binds K fd_worst_stretch ["row"] []
  f_worst_of : Addr
  fd_worst_of : FuncData
  F_worst_of : FnP K "worst_of" s_worst_of f_worst_of fd_worst_of
  g_worst_of : mg "worst_of" = some (.ref f_worst_of)
  b_worst_of : Binds K fd_worst_of ["maker"] []
  f_last_beyond : Addr
  fd_last_beyond : FuncData
  F_last_beyond : FnP K "last_beyond" s_last_beyond f_last_beyond fd_last_beyond
  g_last_beyond : mg "last_beyond" = some (.ref f_last_beyond)
  b_last_beyond : Binds K fd_last_beyond ["off", "n", "length", "e"] []
  f_beats_for : Addr
  fd_beats_for : FuncData
  F_beats_for : FnP K "beats_for" s_beats_for f_beats_for fd_beats_for
  g_beats_for : mg "beats_for" = some (.ref f_beats_for)
  b_beats_for : Binds K fd_beats_for ["row", "e"] []
  f__law_box : Addr
  fd__law_box : FuncData
  F__law_box : FnP K "_law_box" s__law_box f__law_box fd__law_box
  g__law_box : mg "_law_box" = some (.ref f__law_box)
  b__law_box : Binds K fd__law_box ["_law_script", "_law_k"] []
  f__law_take : Addr
  fd__law_take : FuncData
  F__law_take : FnP K "_law_take" s__law_take f__law_take fd__law_take
  g__law_take : mg "_law_take" = some (.ref f__law_take)
  b__law_take : Binds K fd__law_take ["_law_box_here", "_law_many"] []
  f__law_folded : Addr
  fd__law_folded : FuncData
  F__law_folded : FnP K "_law_folded" s__law_folded f__law_folded fd__law_folded
  g__law_folded : mg "_law_folded" = some (.ref f__law_folded)
  b__law_folded : Binds K fd__law_folded ["_law_script", "_law_many"] []
  f__law_row : Addr
  fd__law_row : FuncData
  F__law_row : FnP K "_law_row" s__law_row f__law_row fd__law_row
  g__law_row : mg "_law_row" = some (.ref f__law_row)
  b__law_row : Binds K fd__law_row ["_law_box_here", "_law_long"] []
  f__law_divisor : Addr
  fd__law_divisor : FuncData
  F__law_divisor : FnP K "_law_divisor" s__law_divisor f__law_divisor fd__law_divisor
  g__law_divisor : mg "_law_divisor" = some (.ref f__law_divisor)
  b__law_divisor : Binds K fd__law_divisor ["_law_one", "_law_other"] []
  f__law_powers : Addr
  fd__law_powers : FuncData
  F__law_powers : FnP K "_law_powers" s__law_powers f__law_powers fd__law_powers
  g__law_powers : mg "_law_powers" = some (.ref f__law_powers)
  b__law_powers : Binds K fd__law_powers [] []
  f__law_plain : Addr
  fd__law_plain : FuncData
  F__law_plain : FnP K "_law_plain" s__law_plain f__law_plain fd__law_plain
  g__law_plain : mg "_law_plain" = some (.ref f__law_plain)
  b__law_plain : Binds K fd__law_plain ["_law_box_here"] []
  f__law_base : Addr
  fd__law_base : FuncData
  F__law_base : FnP K "_law_base" s__law_base f__law_base fd__law_base
  g__law_base : mg "_law_base" = some (.ref f__law_base)
  b__law_base : Binds K fd__law_base ["_law_maker_here"] []
  f__law_inner : Addr
  fd__law_inner : FuncData
  F__law_inner : FnP K "_law_inner" s__law_inner f__law_inner fd__law_inner
  g__law_inner : mg "_law_inner" = some (.ref f__law_inner)
  b__law_inner : Binds K fd__law_inner ["_law_maker_here"] []
  f__law_round : Addr
  fd__law_round : FuncData
  F__law_round : FnP K "_law_round" s__law_round f__law_round fd__law_round
  g__law_round : mg "_law_round" = some (.ref f__law_round)
  b__law_round : Binds K fd__law_round ["_law_maker_here"] []
  f__law_top : Addr
  fd__law_top : FuncData
  F__law_top : FnP K "_law_top" s__law_top f__law_top fd__law_top
  g__law_top : mg "_law_top" = some (.ref f__law_top)
  b__law_top : Binds K fd__law_top ["_law_maker_here"] []
  f__law_maker : Addr
  fd__law_maker : FuncData
  F__law_maker : FnP K "_law_maker" s__law_maker f__law_maker fd__law_maker
  g__law_maker : mg "_law_maker" = some (.ref f__law_maker)
  b__law_maker : Binds K fd__law_maker ["_law_box_here", "_law_most"] []
  f__law_offs : Addr
  fd__law_offs : FuncData
  F__law_offs : FnP K "_law_offs" s__law_offs f__law_offs fd__law_offs
  g__law_offs : mg "_law_offs" = some (.ref f__law_offs)
  b__law_offs : Binds K fd__law_offs ["_law_row_here"] []
  f__law_part_right : Addr
  fd__law_part_right : FuncData
  F__law_part_right : FnP K "_law_part_right" s__law_part_right f__law_part_right fd__law_part_right
  g__law_part_right : mg "_law_part_right" = some (.ref f__law_part_right)
  b__law_part_right : Binds K fd__law_part_right ["_law_row_here"] []
  f__law_beats_right : Addr
  fd__law_beats_right : FuncData
  F__law_beats_right : FnP K "_law_beats_right" s__law_beats_right f__law_beats_right fd__law_beats_right
  g__law_beats_right : mg "_law_beats_right" = some (.ref f__law_beats_right)
  b__law_beats_right : Binds K fd__law_beats_right ["_law_box_here", "_law_row_here"] []
  f_law : Addr
  fd_law : FuncData
  F_law : FnP K "law" s_law f_law fd_law
  g_law : mg "law" = some (.ref f_law)
  b_law : Binds K fd_law ["_law_script"] []
  c_row_below : Addr
  P_row_below : Addr
  k_row_below : CodeAt K f_row_below c_row_below
  m_abs : mg "abs" = none
  m_divmod : mg "divmod" = none
  m_enumerate : mg "enumerate" = none
  m_int : mg "int" = none
  m_len : mg "len" = none
  m_list : mg "list" = none
  m_max : mg "max" = none
  m_min : mg "min" = none
  m_range : mg "range" = none
  m_sum : mg "sum" = none
  m_tuple : mg "tuple" = none
  m_zip : mg "zip" = none
structure Tabs {K : PySem.W.Frag} {mg : Str → Option Value} (T : Defs K mg) (base : Heap) : Prop where
  t_row_below : GxR.TabB base mg T.c_row_below T.P_row_below
theorem bt_abs : bootBuiltins "abs" = some (.builtin "abs") := by decide +kernel
theorem bt_divmod : bootBuiltins "divmod" = some (.builtin "divmod") := by decide +kernel
theorem bt_enumerate : bootBuiltins "enumerate" = some (.type "enumerate") := by decide +kernel
theorem bt_int : bootBuiltins "int" = some (.type "int") := by decide +kernel
theorem bt_len : bootBuiltins "len" = some (.builtin "len") := by decide +kernel
theorem bt_list : bootBuiltins "list" = some (.type "list") := by decide +kernel
theorem bt_max : bootBuiltins "max" = some (.builtin "max") := by decide +kernel
theorem bt_min : bootBuiltins "min" = some (.builtin "min") := by decide +kernel
theorem bt_range : bootBuiltins "range" = some (.type "range") := by decide +kernel
theorem bt_sum : bootBuiltins "sum" = some (.builtin "sum") := by decide +kernel
theorem bt_tuple : bootBuiltins "tuple" = some (.type "tuple") := by decide +kernel
theorem bt_zip : bootBuiltins "zip" = some (.type "zip") := by decide +kernel
def frT (t b : Int) : Int := (b.sign * t) / (Int.gcd t b : Int)
def frB (t b : Int) : Int := (b.natAbs : Int) / (Int.gcd t b : Int)
theorem fr_ex (t : Int) {b : Int} (hb : b ≠ 0) : ∃ (g : Nat) (x y : Int), 0 < g ∧ Int.gcd t b = g ∧ t = (g : Int) * x ∧ b = (g : Int) * y ∧ y ≠ 0 ∧ Int.gcd x y = 1 := by
  have hg : 0 < Int.gcd t b := Int.gcd_pos_of_ne_zero_right t hb
  obtain ⟨x, hx⟩ := Int.gcd_dvd_left t b
  obtain ⟨y, hy⟩ := Int.gcd_dvd_right t b
  refine ⟨Int.gcd t b, x, y, hg, rfl, hx, hy, fun e => hb (by rw [hy, e, Int.mul_zero]), ?_⟩
  generalize eg : Int.gcd t b = g at hg hx hy
  have e : g = g * Int.gcd x y := by
    rw [← eg]
    conv => lhs; rw [hx, hy, Int.gcd_mul_left]
    rw [Int.natAbs_natCast, eg]
  exact Nat.eq_of_mul_eq_mul_left hg (by rw [← e, Nat.mul_one])
theorem sgn {b : Int} {g : Nat} {y : Int} (hg : 0 < g) (hb : b = (g : Int) * y) : b.sign = y.sign := by
  rw [hb, Int.sign_mul, Int.sign_eq_one_of_pos (by omega), Int.one_mul]
theorem fr_vals {t b : Int} {g : Nat} {x y : Int} (hg : 0 < g) (eg : Int.gcd t b = g) (ht : t = (g : Int) * x) (hb : b = (g : Int) * y) : frT t b = y.sign * x ∧ frB t b = (y.natAbs : Int) := by
  have g0 : (g : Int) ≠ 0 := by omega
  constructor
  · unfold frT
    rw [eg, sgn hg hb, ht, show y.sign * ((g : Int) * x) = (g : Int) * (y.sign * x) by rw [Int.mul_left_comm]]
    exact Int.mul_ediv_cancel_left _ g0
  · unfold frB
    rw [eg, hb, Int.natAbs_mul, Int.natAbs_natCast, Int.natCast_mul]
    exact Int.mul_ediv_cancel_left _ g0
theorem sgn_abs {y : Int} (hy : y ≠ 0) : y.sign.natAbs = 1 := Int.natAbs_sign_of_ne_zero hy
theorem fr_pos (t : Int) {b : Int} (hb : b ≠ 0) : 0 < frB t b := by
  obtain ⟨g, x, y, hg, eg, ht, hy, hy0, h1⟩ := fr_ex t hb
  rw [(fr_vals hg eg ht hy).2]
  omega
theorem fr_gcd (t : Int) {b : Int} (hb : b ≠ 0) : Int.gcd (frT t b) (frB t b) = 1 := by
  obtain ⟨g, x, y, hg, eg, ht, hy, hy0, h1⟩ := fr_ex t hb
  rw [(fr_vals hg eg ht hy).1, (fr_vals hg eg ht hy).2]
  show Nat.gcd (y.sign * x).natAbs ((y.natAbs : Int)).natAbs = 1
  rw [Int.natAbs_mul, sgn_abs hy0, Nat.one_mul, Int.natAbs_natCast]
  exact h1
theorem fr_eq (t : Int) {b : Int} (hb : b ≠ 0) : frT t b * b = t * frB t b := by
  obtain ⟨g, x, y, hg, eg, ht, hy, hy0, h1⟩ := fr_ex t hb
  rw [(fr_vals hg eg ht hy).1, (fr_vals hg eg ht hy).2]
  rw [ht, hy]
  have e : y * y.sign = (y.natAbs : Int) := Int.mul_sign_self y
  rw [← e]
  simp only [Int.mul_comm, Int.mul_left_comm, Int.mul_assoc]
theorem fr_absT (t : Int) {b : Int} (hb : b ≠ 0) : (frT t b).natAbs ≤ t.natAbs := by
  obtain ⟨g, x, y, hg, eg, ht, hy, hy0, h1⟩ := fr_ex t hb
  rw [(fr_vals hg eg ht hy).1, ht, Int.natAbs_mul, sgn_abs hy0, Nat.one_mul, Int.natAbs_mul, Int.natAbs_natCast]
  exact Nat.le_mul_of_pos_left _ hg
theorem fr_absB (t : Int) {b : Int} (hb : b ≠ 0) : (frB t b).natAbs ≤ b.natAbs := by
  obtain ⟨g, x, y, hg, eg, ht, hy, hy0, h1⟩ := fr_ex t hb
  rw [(fr_vals hg eg ht hy).2, hy, Int.natAbs_mul, Int.natAbs_natCast, Int.natAbs_natCast]
  exact Nat.le_mul_of_pos_left _ hg
theorem fr_negT (t b : Int) : frT (-t) (-b) = frT t b := by
  unfold frT
  rw [Int.sign_neg, Int.neg_mul_neg, Int.gcd_neg, Int.neg_gcd]
theorem fr_negB (t b : Int) : frB (-t) (-b) = frB t b := by
  unfold frB
  rw [Int.natAbs_neg, Int.gcd_neg, Int.neg_gcd]
/-- what the program's two ways reckon -/
theorem fd_pos {g : Nat} {x : Int} (hg : 0 < g) : ((g : Int) * x).fdiv (g : Int) = x := by
  rw [Int.fdiv_eq_ediv_of_nonneg _ (by omega)]
  exact Int.mul_ediv_cancel_left _ (by omega)
theorem fd_neg {g : Nat} {x : Int} (hg : 0 < g) : ((g : Int) * x).fdiv (-(g : Int)) = -x := by
  rw [show (g : Int) * x = -(g : Int) * (-x) by rw [Int.neg_mul_neg]]
  exact Int.mul_fdiv_cancel_left _ (by omega)
theorem fr_lt (t : Int) {b : Int} (hb : b < 0) : t.fdiv (-(Int.gcd t b : Int)) = frT t b ∧ b.fdiv (-(Int.gcd t b : Int)) = frB t b := by
  obtain ⟨g, x, y, hg, eg, ht, hy, hy0, h1⟩ := fr_ex t (show b ≠ 0 by omega)
  rw [(fr_vals hg eg ht hy).1, (fr_vals hg eg ht hy).2, eg]
  have yn : y < 0 := by
    rw [hy] at hb
    exact Int.neg_of_mul_neg_right hb (by omega)
  constructor
  · conv => lhs; rw [ht]
    rw [fd_neg hg, Int.sign_eq_neg_one_of_neg yn]
    omega
  · conv => lhs; rw [hy]
    rw [fd_neg hg]
    omega
theorem fr_ge (t : Int) {b : Int} (hb : 0 < b) : t.fdiv (Int.gcd t b : Int) = frT t b ∧ b.fdiv (Int.gcd t b : Int) = frB t b := by
  obtain ⟨g, x, y, hg, eg, ht, hy, hy0, h1⟩ := fr_ex t (show b ≠ 0 by omega)
  rw [(fr_vals hg eg ht hy).1, (fr_vals hg eg ht hy).2, eg]
  have yn : 0 < y := by
    rw [hy] at hb
    exact Int.pos_of_mul_pos_right hb (by omega)
  constructor
  · conv => lhs; rw [ht]
    rw [fd_pos hg, Int.sign_eq_one_of_pos yn]
    omega
  · conv => lhs; rw [hy]
    rw [fd_pos hg]
    omega
/-! sizes -/
def S (n : Nat) (x : Int) : Prop := x.natAbs < 2 ^ n
theorem S.mono {n m : Nat} {x : Int} (h : S n x) (l : n ≤ m) : S m x := Nat.lt_of_lt_of_le h (Nat.pow_le_pow_right (by decide) l)
theorem S.mul {n m : Nat} {x y : Int} (h : S n x) (k : S m y) : S (n + m) (x * y) := by
  unfold S at *
  rw [Int.natAbs_mul, Nat.pow_add]
  exact Nat.mul_lt_mul'' h k
theorem S.add {n : Nat} {x y : Int} (h : S n x) (k : S n y) : S (n + 1) (x + y) := by
  unfold S at *
  rw [Nat.pow_succ]
  omega
theorem S.sub {n : Nat} {x y : Int} (h : S n x) (k : S n y) : S (n + 1) (x - y) := by
  unfold S at *
  rw [Nat.pow_succ]
  omega
theorem S.frT {n : Nat} {t b : Int} (h : S n t) (hb : b ≠ 0) : S n (frT t b) := Nat.lt_of_le_of_lt (fr_absT t hb) h
theorem S.frB {n : Nat} {t b : Int} (h : S n b) (hb : b ≠ 0) : S n (frB t b) := Nat.lt_of_le_of_lt (fr_absB t hb) h
theorem abs_eq (i : Int) : (if i < 0 then -i else i) = (i.natAbs : Int) := by
  split <;> omega
/-! the same rules with the written part by its name: for the inside of comprehensions -/
theorem pg_tupK {X : Cx} {K : PySem.W.Frag} {es : List Expr} {k n : Nat} {pos : Pos} {t : TGs} (h : X.K = K) (hc : X.calm = true) (hg : PGs X es t) (hn : (assignEach es X.env).length = n := by rfl) (hst : (assignEach es X.env).findIdx? (·.1) = none := by rfl) : PG X (.Tuple es k pos) (gTup K n t) := by
  subst h
  exact pg_tup hc hg hn hst
theorem isiK {X : Cx} {K : PySem.W.Frag} (h : X.K = K) : CallR X (.builtin "isinstance") (rIsi K) := by
  subst h
  exact call_isi
theorem ixlK {X : Cx} {K : PySem.W.Frag} (h : X.K = K) : IxR X (rIxL K) := by
  subst h
  exact ix_list
theorem ixtK {X : Cx} {K : PySem.W.Frag} (h : X.K = K) : IxR X (rIxT K) := by
  subst h
  exact ix_tup
theorem lenK {X : Cx} {K : PySem.W.Frag} (h : X.K = K) : CallR X (.builtin "len") (fun xs H Q => ∃ p ys, xs = [.ref p] ∧ (SqL K H p ys ∨ SqT K H p ys) ∧ Q (.int ys.length) H) := by
  subst h
  exact call_len_seq
theorem sumK {X : Cx} {K : PySem.W.Frag} (h : X.K = K) (hc : X.calm = true) : CallR X (.builtin "sum") (rSum K) := by
  subst h
  exact cr_sum hc
theorem yes_ite {σ : L2.St} {H : Hp} {A B : Hp → Prop} (h : A H) : tYes σ H (fun b H3 => if b = true then A H3 else B H3) := by
  show if true = true then A H else B H
  rw [if_pos rfl]
  exact h
/-! heaps -/
theorem same_upd {H : Hp} {p : Addr} {o : HO} (h : H p = none) : Same H (upd H p o) := fun b x e => by
  rw [upd_ne (ne_of_none e h)]
  exact e
def But (p : Addr) (H H' : Hp) : Prop := ∀ b o, b ≠ p → H b = some o → H' b = some o
theorem But.trans {p : Addr} {H H1 H2 : Hp} (a : But p H H1) (b : But p H1 H2) : But p H H2 := fun c o n e => b c o n (a c o n e)
theorem But.refl (p : Addr) (H : Hp) : But p H H := fun _ _ _ e => e
theorem But.put {p : Addr} {H H' : Hp} {o : HO} (a : But p H H') : But p H (L2.upd H' p o) := fun c x n e => by
  rw [upd_ne n]
  exact a c x n e
theorem same_but {p : Addr} {H H' : Hp} (a : Same H H') : But p H H' := fun c x _ e => a c x e
theorem But.new {p q : Addr} {H H' : Hp} {o : HO} (a : But p H H') (n : H' q = none) : But p H (upd H' q o) := fun c x hn e => by
  have e2 := a c x hn e
  rw [upd_ne (ne_of_none e2 n)]
  exact e2
/-- objects made since H may change: what H has stays -/
theorem same_newer {H H' : Hp} {q : Addr} {o : HO} (a : Same H H') (n : H q = none) : Same H (upd H' q o) := fun c x e => by
  rw [upd_ne (ne_of_none e n)]
  exact a c x e
theorem But.same {p : Addr} {H H1 H2 : Hp} (n : H p = none) (a : Same H H1) (b : But p H1 H2) : Same H H2 := fun c x e =>
  b c x (ne_of_none e n) (a c x e)
/-- the box: a rest, a begin, how often -/
def Bx (H : Hp) (p : Addr) (n : Nat) : Prop := ∃ a b c : Int, H p = some (.lst [.int a, .int b, .int c]) ∧ 0 ≤ a ∧ 0 ≤ b ∧ b < 2147483647 ∧ 0 ≤ c ∧ c ≤ n
theorem Bx.same {H H' : Hp} {p : Addr} {n : Nat} (h : Bx H p n) (s : Same H H') : Bx H' p n := by
  obtain ⟨a, b, c, hp, r⟩ := h
  exact ⟨a, b, c, s _ _ hp, r⟩
theorem Bx.mono {H : Hp} {p : Addr} {n m : Nat} (h : Bx H p n) (l : n ≤ m) : Bx H p m := by
  obtain ⟨a, b, c, hp, h1, h2, h3, h4, h5⟩ := h
  exact ⟨a, b, c, hp, h1, h2, h3, h4, by omega⟩
theorem Bx.new {H : Hp} {p q : Addr} {n : Nat} {o : HO} (h : Bx H p n) (nq : H q = none) : Bx (L2.upd H q o) p n := h.same (same_upd nq)
theorem Bx.ne_tup {H : Hp} {p q : Addr} {n : Nat} {xs : List V} (h : Bx H p n) (e : H q = some (.tup xs)) : q ≠ p := by
  obtain ⟨a, b, c, hp, _⟩ := h
  exact ne_of e hp (fun z => by cases z)
/-- an item of a menu of numbers -/
theorem at_menu {Pr : Int → Prop} {xs : List Int} {r : Int} (h0 : 0 ≤ r) (h1 : r < xs.length) (hx : ∀ x, x ∈ xs → Pr x) : ∃ v, atI (xs.map V.int) r = some (V.int v) ∧ Pr v := by
  obtain ⟨j, rfl⟩ := Int.eq_ofNat_of_zero_le h0
  have hj : j < xs.length := by omega
  refine ⟨xs[j], atI_nat (by rw [List.getElem?_map, List.getElem?_eq_getElem hj]; rfl), hx _ (List.getElem_mem hj)⟩
theorem SqL.mk {K : PySem.W.Frag} {H : Hp} {a : Addr} {xs : List V} (h : H a = some (.lst xs)) : SqL K H a xs := .inl (.inl h)
theorem SqT.mk {K : PySem.W.Frag} {H : Hp} {a : Addr} {xs : List V} (h : H a = some (.tup xs)) : SqT K H a xs := .inl (.inl h)
theorem same_tup {K : PySem.W.Frag} {H H' : Hp} {a : Addr} {xs : List V} (e : Same H H') (h : SqT K H a xs) : SqT K H' a xs := by
  rcases h with (h | ⟨o, h⟩) | h
  · exact .inl (.inl (e _ _ h))
  · exact .inl (.inr ⟨o, e _ _ h⟩)
  · exact .inr h
theorem ixn {n j : Nat} (hj : j < n) : ixN n (j : Int) = some j := by
  unfold ixN
  rw [if_pos (by omega), if_pos (by omega)]
  simp
theorem cdivP {a m : Int} (h0 : 0 < m) (h1 : m < 2 ^ 60) : CDivP a m := ⟨h0, PyProof.noPylong_of_log2 (wide_div (i := a) (b := 60) h0 (by omega) (by decide) (by decide)).2⟩
theorem i01 {c : Prop} [Decidable c] : -(2 ^ 64) < (if c then (1 : Int) else 0) ∧ (if c then (1 : Int) else 0) < 2 ^ 64 := by
  split <;> decide
theorem i01n {c : Prop} [Decidable c] : 0 ≤ (if c then (1 : Int) else 0) := by
  split <;> decide
theorem absn (i : Int) : 0 ≤ (if i < 0 then -i else i) := by
  split <;> omega
/-! the box of a cell -/
def sp__law_box (K : PySem.W.Frag) : Sp := fun vs H Q _ => ∃ (a : Addr) (ns : List Int) (k : Nat), vs = [.ref a, .int (k : Nat)] ∧ SqL K H a (ns.map V.int) ∧ k < 1000 ∧
  ∀ H' p, Same H H' → H p = none → Bx H' p 0 → Q (.ref p) H'
theorem ok__law_box (T : Defs K mg) (TT : Tabs T base) : FnOk P w K mg base CX0 1 T.f__law_box T.fd__law_box ["_law_script", "_law_k"] (sp__law_box K) := by
  refine T.F__law_box.ok sc__law_box (fun vs H Q E h => ?_) (fun cdv A outer s H vs Q E hr h => ?_)
  · obtain ⟨a, ns, k, rfl, hS, hk, q⟩ := h
    rfl
  · obtain ⟨a, ns, k, rfl, hS, hk, q⟩ := h
    refine ⟨_, PSs.nox (pss_cons (ps_set (i := 2) sc__law_box.nd rfl (.inl rfl) pe_int)
    (pss_cons (ps_if (pt_cmpR op_lt (pv 1) (pe_callB call_len_seq (by rfl) T.m_len bt_len (pa_cons (pv 0) pa_nil)) (nomark _)) (pss_one (ps_set (i := 2) sc__law_box.nd rfl (.inl rfl) (pe_ix ix_list (pv 0) (pv 1) (fun _ _ => rfl)))) pss_nil)
    (pss_one (ps_ret (pe_lst (pa_cons (pe_op op_mul (pe_callB call_abs (by rfl) T.m_abs bt_abs (pa_cons (pv 2) pa_nil)) (pe_callTy call_int1 (by rfl) T.m_int bt_int (pa_cons (pe_cmpR op_ge (pe_callB call_abs (by rfl) T.m_abs bt_abs (pa_cons (pv 2) pa_nil)) (pe_op op_pow pe_int pe_int) (nomark _)) pa_nil))) (pa_cons (pe_op op_mod (pe_op op_add (pv 2) (pe_op op_mul (pe_op op_mul pe_int (pv 1)) (pv 1))) pe_int) (pa_cons pe_int pa_nil)))))))), ?_⟩
    refine ⟨.int k, rfl, .ref a, rfl, a, _, rfl, .inl hS, _, _, rfl, rfl, _, rfl, ite2 (fun e => ?_) (fun e => ?_)⟩
    · have hl : (k : Int) < ((ns.map V.int).length : Nat) := of_decide_eq_true e
      rw [List.length_map] at hl
      have hj : k < ns.length := by omega
      refine ⟨.ref a, rfl, .int k, rfl, a, _, _, .int ns[k], rfl, rfl, hS, atI_nat (by rw [List.getElem?_map, List.getElem?_eq_getElem hj]; rfl), ?_⟩
      refine ⟨_, rfl, _, rfl, _, rfl, _, rfl, _, _, rfl, rfl, ⟨by decide, by decide, by decide⟩, _, _, rfl, rfl, .inr ⟨_, rfl, _, _, rfl, rfl, .inr i01, _, rfl, .int k, rfl, _, _, rfl, rfl, .inl ⟨by decide, by decide⟩, .int k, rfl, _, _, rfl, rfl, .inr ⟨by omega, by omega⟩, _, _, rfl, rfl, _, _, rfl, rfl, (show (0 : Int) < 2147483647 by decide), (show 3 ≤ sizeLine by decide), fun p np => ?_⟩⟩
      refine q _ p (same_upd np) np ⟨_, _, _, upd_same, ?_, Int.emod_nonneg _ (by decide), Int.emod_lt_of_pos _ (by decide), Int.le_refl 0, Int.le_refl 0⟩
      exact Int.mul_nonneg (absn _) i01n
    · refine ⟨_, rfl, _, rfl, _, rfl, _, rfl, _, _, rfl, rfl, ⟨by decide, by decide, by decide⟩, _, _, rfl, rfl, .inr ⟨_, rfl, _, _, rfl, rfl, .inr i01, _, rfl, .int k, rfl, _, _, rfl, rfl, .inl ⟨by decide, by decide⟩, .int k, rfl, _, _, rfl, rfl, .inr ⟨by omega, by omega⟩, _, _, rfl, rfl, _, _, rfl, rfl, (show (0 : Int) < 2147483647 by decide), (show 3 ≤ sizeLine by decide), fun p np => ?_⟩⟩
      refine q _ p (same_upd np) np ⟨_, _, _, upd_same, ?_, Int.emod_nonneg _ (by decide), Int.emod_lt_of_pos _ (by decide), Int.le_refl 0, Int.le_refl 0⟩
      exact Int.mul_nonneg (absn _) i01n
/-! one number taken -/
def sp__law_take (K : PySem.W.Frag) : Sp := fun vs H Q _ => ∃ (p : Addr) (m : Int) (n : Nat), vs = [.ref p, .int m] ∧ Bx H p n ∧ 0 < m ∧ m < 2 ^ 60 ∧ n < 1000000000000 ∧
  ∀ H' r, But p H H' → Bx H' p (n + 1) → 0 ≤ r → r < m → Q (.int r) H'
theorem ok__law_take (T : Defs K mg) (TT : Tabs T base) : FnOk P w K mg base CX0 1 T.f__law_take T.fd__law_take ["_law_box_here", "_law_many"] (sp__law_take K) := by
  refine T.F__law_take.ok sc__law_take (fun vs H Q E h => ?_) (fun cdv A outer s H vs Q E hr h => ?_)
  · obtain ⟨p, m, n, rfl, ⟨a, b, c, hp, ha, hb, hb2, hc, hc2⟩, h0, h1, hn, q⟩ := h
    rfl
  · obtain ⟨p, m, n, rfl, ⟨a, b, c, hp, ha, hb, hb2, hc, hc2⟩, h0, h1, hn, q⟩ := h
    refine ⟨_, PSs.nox (pss_cons (ps_if (pt_cmpR op_gt (pe_ix ix_list (pv 0) pe_int (fun _ _ => rfl)) pe_int (nomark _)) (pss_cons (ps_asg (pe_callB call_divmodW (by rfl) T.m_divmod bt_divmod (pa_cons (pe_ix ix_list (pv 0) pe_int (fun _ _ => rfl)) (pa_cons (pv 1) pa_nil))) (pg_tup rfl (pgs_cons (pg_sub (pv 0) pe_int set_list) (pgs_cons (pg_name (i := 2) sc__law_take.nd rfl (.inl rfl)) pgs_nil))))
    (pss_one (ps_ret (pv 2)))) pss_nil)
    (pss_cons (ps_asg (pe_op op_add (pe_ix ix_list (pv 0) pe_int (fun _ _ => rfl)) pe_int) (pg_sub (pv 0) pe_int set_list))
    (pss_cons (ps_set (i := 3) sc__law_take.nd rfl (.inl rfl) (pe_op op_mod (pe_op op_pow (pe_op op_add (pe_ix ix_list (pv 0) pe_int (fun _ _ => rfl)) (pe_op op_mul pe_int (pe_ix ix_list (pv 0) pe_int (fun _ _ => rfl)))) pe_int) pe_int))
    (pss_one (ps_ret (pe_op op_mod (pe_op op_fdiv (pe_op op_mod (pe_op op_add (pe_op op_mul (pv 3) pe_int) (pe_op op_mul (pe_op op_mul (pe_ix ix_list (pv 0) pe_int (fun _ _ => rfl)) (pe_ix ix_list (pv 0) pe_int (fun _ _ => rfl))) pe_int)) pe_int) pe_int) (pv 1))))))), ?_⟩
    have SQ : SqL K H p [.int a, .int b, .int c] := SqL.mk hp
    refine ⟨.ref p, rfl, p, _, 0, _, rfl, rfl, SQ, atI_nat (j := 0) rfl, _, _, rfl, rfl, _, rfl, ite2 (fun e => ?_) (fun e => ?_)⟩
    · refine ⟨.ref p, rfl, p, _, 0, _, rfl, rfl, SQ, atI_nat (j := 0) rfl, .int m, rfl, a, m, rfl, cdivP h0 h1, fun t nt => ?_⟩
      have hp1 : (upd H t (.tup [.int (a / m), .int (a % m)])) p = some (.lst [.int a, .int b, .int c]) := by
        rw [upd_ne (ne_of_none hp nt)]
        exact hp
      refine ⟨t, _, rfl, SqT.mk upd_same, rfl, _, _, rfl, .ref p, rfl, p, _, 0, 0, rfl, rfl, hp1, rfl, _, _, rfl, rfl, _, rfl, ?_⟩
      refine q _ _ ((But.refl p H).new nt).put ⟨_, _, _, upd_same, Int.ediv_nonneg ha (by omega), hb, hb2, hc, by omega⟩ (Int.emod_nonneg _ (by omega)) (Int.emod_lt_of_pos _ h0)
    · refine ⟨.ref p, rfl, p, _, 2, _, rfl, rfl, SQ, atI_nat (j := 2) rfl, _, _, rfl, rfl, .ref p, rfl, p, _, 2, 2, rfl, rfl, hp, rfl, ?_⟩
      have SQ1 : SqL K (upd H p (.lst [.int a, .int b, .int (c + 1)])) p [.int a, .int b, .int (c + 1)] := SqL.mk upd_same
      refine ⟨.ref p, rfl, p, _, 1, _, rfl, rfl, SQ1, atI_nat (j := 1) rfl, .ref p, rfl, p, _, 2, _, rfl, rfl, SQ1, atI_nat (j := 2) rfl, _, _, rfl, rfl, .inl ⟨by decide, by decide⟩, _, _, rfl, rfl, _, _, rfl, rfl, ⟨by decide, by decide, by omega⟩, _, _, rfl, rfl, (show (0 : Int) < 2147483647 by decide), ?_⟩
      refine ⟨_, rfl, _, _, rfl, rfl, .inr ⟨by decide, by decide⟩, .ref p, rfl, p, _, 2, _, rfl, rfl, SQ1, atI_nat (j := 2) rfl, .ref p, rfl, p, _, 2, _, rfl, rfl, SQ1, atI_nat (j := 2) rfl, _, _, rfl, rfl, .inl ⟨by omega, by omega⟩, _, _, rfl, rfl, .inr ⟨by decide, by decide⟩, _, _, rfl, rfl, _, _, rfl, rfl, (show (0 : Int) < 2147483629 by decide), _, _, rfl, rfl, ⟨by decide, by decide⟩, .int m, rfl, _, _, rfl, rfl, h0, ?_⟩
      refine q _ _ (But.refl p H).put ⟨_, _, _, upd_same, ha, hb, hb2, by omega, by omega⟩ (Int.emod_nonneg _ (by omega)) (Int.emod_lt_of_pos _ h0)
/-! the folded cells -/
theorem cut_take (ns : List Int) (m : Nat) : cutV (ns.map V.int) none (some (m : Int)) = (ns.take m).map V.int := by
  unfold cutV
  rw [HT.sIx_none, HT.sIx_nat, List.drop_zero, List.length_map, Nat.sub_zero, ← List.map_take]
  congr 1
  by_cases h : m ≤ ns.length
  · rw [Nat.min_eq_left h]
  · rw [Nat.min_eq_right (by omega), List.take_length, List.take_of_length_le (by omega)]
theorem cut_rest (ns : List Int) (m k : Nat) : ∃ ms : List Int, cutV (ns.map V.int) (some (m : Int)) (some (k : Int)) = ms.map V.int ∧ (0 < ms.length → m < ns.length) ∧ ms.length ≤ ns.length := by
  unfold cutV
  rw [HT.sIx_nat, HT.sIx_nat, List.length_map]
  refine ⟨(ns.drop (min m ns.length)).take (min k ns.length - min m ns.length), ?_, fun h => ?_, ?_⟩
  · rw [List.map_take, List.map_drop]
  · rw [List.length_take, List.length_drop] at h
    omega
  · rw [List.length_take, List.length_drop]
    omega
def sp__law_folded (K : PySem.W.Frag) : Sp := fun vs H Q _ => ∃ (a : Addr) (ns : List Int) (m : Nat), vs = [.ref a, .int (m : Nat)] ∧ SqL K H a (ns.map V.int) ∧ ns.length ≤ 63 ∧ 0 < m ∧ m < 64 ∧
  ∀ H' p (cs : List Int), Same H H' → H p = none → H' p = some (.lst (cs.map V.int)) → cs.length ≤ m → Q (.ref p) H'
theorem ok__law_folded (T : Defs K mg) (TT : Tabs T base) : FnOk P w K mg base CX0 1 T.f__law_folded T.fd__law_folded ["_law_script", "_law_many"] (sp__law_folded K) := by
  refine T.F__law_folded.ok sc__law_folded (fun vs H Q E h => ?_) (fun cdv A outer s H vs Q E hr h => ?_)
  · obtain ⟨a, ns, m, rfl, hS, hlen, hm, hm2, q⟩ := h
    rfl
  · obtain ⟨a, ns, m, rfl, hS, hlen, hm, hm2, q⟩ := h
    refine ⟨_, PSs.nox (pss_cons (ps_set (i := 2) sc__law_folded.nd rfl (.inl rfl) (pe_callTy call_list_of (by rfl) T.m_list bt_list (pa_cons (pe_slice sl_list (pv 0) po_none (po_some (pv 1))) pa_nil)))
    (pss_cons (ps_for PassesOwn.never rfl (pi_enum (by rfl) T.m_enumerate (pa_cons (pe_slice sl_list (pv 0) (po_some (pv 1)) (po_some pe_int)) pa_nil)) (pg_tup rfl (pgs_cons (pg_name (i := 3) sc__law_folded.nd rfl (.inl rfl)) (pgs_cons (pg_name (i := 4) sc__law_folded.nd rfl (.inl rfl)) pgs_nil))) (pss_one (ps_asg (pe_op op_add (pe_ix ix_list (pv 2) (pe_op op_mod (pv 3) (pv 1)) (fun _ _ => rfl)) (pe_op op_mul (pv 4) (pe_op op_add (pv 3) pe_int))) (pg_sub (pv 2) (pe_op op_mod (pv 3) (pv 1)) set_list))))
    (pss_one (ps_ret (pv 2))))), ?_⟩
    refine ⟨.ref a, rfl, .int m, rfl, m, rfl, a, _, rfl, hS, fun c nc => ?_⟩
    rw [cut_take]
    have s1 : Same H (upd H c (.lst ((ns.take m).map V.int))) := same_upd nc
    refine ⟨c, _, rfl, .inl (SqL.mk upd_same), fun l nl => ?_⟩
    have s2 := s1.trans (same_upd nl (o := .lst ((ns.take m).map V.int)))
    refine ⟨.ref a, rfl, .int m, rfl, m, rfl, 63, rfl, a, _, rfl, s2.seq hS, fun d nd => ?_⟩
    obtain ⟨ms, em, hms, hms2⟩ := cut_rest ns m 63
    rw [show (63 : Int) = ((63 : Nat) : Int) from rfl, em]
    have nl0 : H l = none := s1.free nl
    have nd0 : H d = none := s2.free nd
    have ndl : l ≠ d := fun e => by
      rw [← e, upd_same] at nd
      cases nd
    refine ⟨d, _, rfl, SqL.mk upd_same, for_it (walk_enum (xs := ms.map V.int)) (fun i σ H3 => ∃ y3 y4, ∃ cs : List Int, σ = [some (.ref a), some (.int m), some (.ref l), y3, y4] ∧ Same H H3 ∧ H3 l = some (.lst (cs.map V.int)) ∧ cs.length = (ns.take m).length ∧ H3 d = some (.lst (ms.map V.int))) ⟨none, none, ns.take m, rfl, s2.trans (same_upd nd), ?_, rfl, upd_same⟩ ?_ ?_ ?_⟩
    · rw [upd_ne ndl, upd_same]
    · rintro i σ H3 hi ⟨y3, y4, cs, rfl, s3, hl, hc, hd⟩
      exact SqL.mk hd
    · rintro i x σ H3 H4 hi ⟨y3, y4, cs, rfl, s3, hl, hc, hd⟩ ⟨t, x1, x2, rfl, nt, rfl, e1, e2⟩
      rw [List.length_map] at hi
      have lm : m < ns.length := hms (by omega)
      have lc : cs.length = m := by
        rw [hc, List.length_take]
        omega
      have ex1 : x1 = .int (i : Nat) := (Option.some.inj e1).symm
      have ex2 : x2 = .int ms[i] := by
        have e2 : (ms.map V.int)[i]? = some x2 := e2
        rw [List.getElem?_map, List.getElem?_eq_getElem hi] at e2
        exact (Option.some.inj e2).symm
      subst ex1 ex2
      have hl1 : (upd H3 t (.tup [.int (i : Nat), .int ms[i]])) l = some (.lst (cs.map V.int)) := by
        rw [upd_ne (ne_of_none hl nt)]
        exact hl
      have him : i % m < cs.length := by
        rw [lc]
        exact Nat.mod_lt _ hm
      have eim : ((i : Int) % (m : Int)) = ((i % m : Nat) : Int) := by omega
      refine ⟨t, _, rfl, SqT.mk upd_same, rfl, _, _, rfl, _, _, rfl, rfl, ?_⟩
      refine ⟨.ref l, rfl, .int (i : Nat), rfl, .int m, rfl, _, _, rfl, rfl, (show (0 : Int) < (m : Int) by omega), l, _, _, .int cs[i % m], rfl, rfl, SqL.mk hl1, ?_, .int ms[i], rfl, .int (i : Nat), rfl, _, _, rfl, rfl, _, _, rfl, rfl, .inr ⟨by omega, by omega⟩, _, _, rfl, rfl, .ref l, rfl, .int (i : Nat), rfl, .int m, rfl, _, _, rfl, rfl, (show (0 : Int) < (m : Int) by omega), l, _, _, i % m, rfl, rfl, hl1, ?_, ?_⟩
      · rw [eim]
        exact atI_nat (by rw [List.getElem?_map, List.getElem?_eq_getElem him]; rfl)
      · rw [eim]
        exact ixn (by rw [List.length_map]; exact him)
      · refine ⟨_, _, cs.set (i % m) (cs[i % m] + ms[i] * ((i : Int) + 2)), rfl, same_newer (s3.trans (same_upd nt)) nl0, ?_, by rw [List.length_set, hc], ?_⟩
        · rw [upd_same, List.map_set]
        · rw [upd_ne ndl.symm, upd_ne (ne_of_none hd nt)]
          exact hd
    · rintro σ H3 ⟨y3, y4, cs, rfl, s3, hl, hc, hd⟩
      exact ⟨.ref l, rfl, q H3 l cs s3 nl0 hl (by rw [hc, List.length_take]; omega)⟩
/-! the program's own -/
theorem op_fdivNW {X : Cx} : OpR X (binaryOp .FloorDiv) (rI (fun _ j => j ≠ 0 ∧ j.natAbs.log2 < 9000) fun i j => .int (i.fdiv j)) := opI fun _ _ _ _ _ _ _ hc q => floordiv_int hc.1 q (.inl (PyProof.noPylong_of_log2 hc.2))
theorem gcd_step (x y : Nat) : Nat.gcd y (x % y) = Nat.gcd x y := by
  rw [Nat.gcd_comm y, ← Nat.gcd_rec, Nat.gcd_comm]
theorem gcd_small {t b : Int} (hb : b ≠ 0) (h : S 4000 b) : (Int.gcd t b : Int).natAbs.log2 < 9000 := by
  have h1 : Int.gcd t b ≤ b.natAbs := Nat.le_of_dvd (by omega) (Nat.gcd_dvd_right _ _)
  have h2 : 0 < Int.gcd t b := Int.gcd_pos_of_ne_zero_right t hb
  exact (wide_div (i := 0) (j := (Int.gcd t b : Int)) (b := 4000) (by omega) (by rw [Int.natAbs_natCast]; exact Nat.lt_of_le_of_lt h1 h) (by decide) (by decide)).2
def sp_common_divisor (_ : PySem.W.Frag) : Sp := fun vs H Q _ => ∃ a b : Int, vs = [.int a, .int b] ∧ Q (.int (if (1 : Int) > (Int.gcd a b : Int) then 1 else (Int.gcd a b : Int))) H
theorem ok_common_divisor (T : Defs K mg) (TT : Tabs T base) : FnOk P w K mg base CX0 1 T.f_common_divisor T.fd_common_divisor ["one", "other"] (sp_common_divisor K) := by
  refine T.F_common_divisor.ok sc_common_divisor (fun vs H Q E h => ?_) (fun cdv A outer s H vs Q E hr h => ?_)
  · obtain ⟨a, b, rfl, q⟩ := h
    rfl
  · obtain ⟨a, b, rfl, q⟩ := h
    refine ⟨_, PSs.nox (pss_cons (ps_set (i := 0) sc_common_divisor.nd rfl (.inl rfl) (pe_callB call_abs (by rfl) T.m_abs bt_abs (pa_cons (pv 0) pa_nil)))
    (pss_cons (ps_set (i := 1) sc_common_divisor.nd rfl (.inl rfl) (pe_callB call_abs (by rfl) T.m_abs bt_abs (pa_cons (pv 1) pa_nil)))
    (pss_cons (ps_while PassesOwn.never (pt_cmpR op_gt (pv 1) pe_int (nomark _)) (pss_one (ps_par (i := 0) (j := 1) (by rfl) sc_common_divisor.nd rfl rfl (by decide) rfl rfl (pa_cons (pv 1) (pa_cons (pe_op op_mod (pv 0) (pv 1)) pa_nil)) (by rfl))))
    (pss_one (ps_ret (pe_callB (call_max2 rfl) (by rfl) T.m_max bt_max (pa_cons (pv 0) (pa_cons pe_int pa_nil)))))))), ?_⟩
    refine ⟨.int a, rfl, a, rfl, .int b, rfl, b, rfl, ?_⟩
    refine while_by (fun σ H1 => H1 = H ∧ ∃ x y : Nat, σ = [some (.int (x : Nat)), some (.int (y : Nat))] ∧ Nat.gcd x y = Int.gcd a b) (fun σ _ => match σ with | [_, some (.int y)] => y.toNat | _ => 0) ⟨rfl, a.natAbs, b.natAbs, ?_, rfl⟩ ?_ ?_
    · rw [abs_eq, abs_eq]
      rfl
    · rintro σ H1 ⟨rfl, x, y, rfl, hg⟩
      refine ⟨.int (y : Nat), rfl, _, _, rfl, rfl, _, rfl, ite2 (fun e => ?_) (fun e => ?_)⟩
      · have hy : (0 : Int) < (y : Int) := of_decide_eq_true e
        refine ⟨.int (y : Nat), rfl, .int (x : Nat), rfl, .int (y : Nat), rfl, _, _, rfl, rfl, hy, _, _, rfl, ⟨rfl, y, x % y, ?_, ?_⟩, ?_⟩
        · rfl
        · rw [gcd_step, hg]
        · show ((x : Int) % (y : Int)).toNat < ((y : Int)).toNat
          have := Int.emod_lt_of_pos (x : Int) hy
          have := Int.emod_nonneg (x : Int) (show (y : Int) ≠ 0 by omega)
          omega
      · have hy : ¬ (0 : Int) < (y : Int) := fun z => e (decide_eq_true z)
        have y0 : y = 0 := by omega
        subst y0
        rw [Nat.gcd_zero_right] at hg
        refine ⟨.int (x : Nat), rfl, _, _, rfl, ?_⟩
        rw [hg]
        exact q
    · rintro σ H1 Q1 Q2 hQ ⟨v, hv, i, j, e1, e2, k, e3, h3⟩
      exact ⟨v, hv, i, j, e1, e2, k, e3, hQ _ _ h3⟩
def sp_fraction (_ : PySem.W.Frag) : Sp := fun vs H Q _ => ∃ t b : Int, vs = [.int t, .int b] ∧ b ≠ 0 ∧ S 4000 b ∧ ∀ H' p, Same H H' → H p = none → H' p = some (.tup [.int (frT t b), .int (frB t b)]) → Q (.ref p) H'
theorem ok_fraction (T : Defs K mg) (TT : Tabs T base) : FnOk P w K mg base CX0 2 T.f_fraction T.fd_fraction ["top", "bottom"] (sp_fraction K) := by
  have G_common_divisor : FnOk P w K mg base CX0 1 T.f_common_divisor T.fd_common_divisor ["one", "other"] (sp_common_divisor K) := ok_common_divisor T TT
  refine T.F_fraction.ok sc_fraction (fun vs H Q E h => ?_) (fun cdv A outer s H vs Q E hr h => ?_)
  · obtain ⟨t, b, rfl, hb, hs, q⟩ := h
    rfl
  · obtain ⟨t, b, rfl, hb, hs, q⟩ := h
    refine ⟨_, PSs.nox (pss_cons (ps_set (i := 2) sc_fraction.nd rfl (.inl rfl) (pe_call G_common_divisor (hr.mono (by decide)) (by rfl) T.g_common_divisor T.F_common_divisor.kp T.b_common_divisor .nil pass0 (pa_cons (pv 0) (pa_cons (pv 1) pa_nil))))
    (pss_cons (ps_if (pt_cmpR op_lt (pv 1) pe_int (nomark _)) (pss_one (ps_set (i := 2) sc_fraction.nd rfl (.inl rfl) (pe_un un_neg (pv 2)))) pss_nil)
    (pss_one (ps_ret (pe_tup (pa_cons (pe_op op_fdivNW (pv 0) (pv 2)) (pa_cons (pe_op op_fdivNW (pv 1) (pv 2)) pa_nil))))))), ?_⟩
    have hg : 0 < Int.gcd t b := Int.gcd_pos_of_ne_zero_right t hb
    have hd := gcd_small (t := t) hb hs
    refine ⟨.int t, rfl, .int b, rfl, t, b, rfl, ?_⟩
    rw [if_neg (show ¬ (1 : Int) > (Int.gcd t b : Int) by omega)]
    refine ⟨.int b, rfl, _, _, rfl, rfl, _, rfl, ite2 (fun e => ?_) (fun e => ?_)⟩
    · have hb1 : b < 0 := of_decide_eq_true e
      refine ⟨_, rfl, _, rfl, .int t, rfl, _, rfl, _, _, rfl, rfl, ⟨by omega, by rw [Int.natAbs_neg]; exact hd⟩, .int b, rfl, _, rfl, _, _, rfl, rfl, ⟨by omega, by rw [Int.natAbs_neg]; exact hd⟩, (show 2 ≤ sizeLine by decide), fun p np => ?_⟩
      refine q _ p (same_upd np) np ?_
      rw [upd_same]
      exact congrArg some (by rw [← (fr_lt t hb1).1, ← (fr_lt t hb1).2])
    · have hb1 : ¬ b < 0 := fun z => e (decide_eq_true z)
      refine ⟨.int t, rfl, _, rfl, _, _, rfl, rfl, ⟨by omega, hd⟩, .int b, rfl, _, rfl, _, _, rfl, rfl, ⟨by omega, hd⟩, (show 2 ≤ sizeLine by decide), fun p np => ?_⟩
      refine q _ p (same_upd np) np ?_
      rw [upd_same]
      exact congrArg some (by rw [← (fr_ge t (show 0 < b by omega)).1, ← (fr_ge t (show 0 < b by omega)).2])
/-! match x: case (word, names ..) -/
abbrev TCs := Addr → List V → TS
structure PCs (X : Cx) (cs : List MatchCase) (t : TCs) : Prop where
  run : ∀ (pins : List (Addr × Obj)) (s : Shared) (σ : L2.St) (H : Hp) (D : L2.Ends) (a : Addr) (xs : List V) (first : Bool), Inv X pins σ H s → SqT X.K H a xs → t a xs D σ H →
    wpAny (model X.prog X.w) X.A (matchCases cs X.env (.ref a) first) (SP X pins D) X.xe s
def tMatch (K : PySem.W.Frag) (te : TE) (tc : TCs) : TS := fun D σ H => te σ H fun v H1 => ∃ a xs, v = .ref a ∧ SqT K H1 a xs ∧ tc a xs D σ H1
theorem ps_match {X : Cx} {e : Expr} {cs : List MatchCase} {pos : Pos} {te : TE} {tc : TCs} (he : PE X e te) (hc : PCs X cs tc) : PS X (.Match e cs pos) (tMatch X.K te tc) := by
  refine ⟨fun pins s σ H D I h => ?_⟩
  refine wpAny_Match (thn (he.run pins s σ H _ I h) fun v s1 ⟨x, H1, I1, r1, a, xs, e1, hq, q⟩ => ?_)
  subst e1
  cases r1
  exact hc.run pins s1 σ H1 D a xs true I1 hq q
theorem pcs_nil {X : Cx} : PCs X [] (fun _ _ D σ H => D.nx σ H) := ⟨fun _ _ σ H _ _ _ _ I _ h => wpAny_matchCases_nil ⟨σ, H, I, h⟩⟩
theorem pcs_any {X : Cx} {body : List Stmt} {rest : List MatchCase} {pos : Pos} {tb : TS} (hb : PSs X body tb) : PCs X (⟨.MatchAs none none pos, none, body⟩ :: rest) (fun _ _ => tb) := by
  refine ⟨fun pins s σ H D a xs first I hq h => wpAny_matchCases_cons (wpAny_matchPattern_Capture ?_)⟩
  exact wpAny_assignInOrder_none (hb.run pins s σ H D I h)
/-- the slots i .. get the values .. in turn -/
def sets (σ : L2.St) : List Nat → List V → L2.St
  | i :: is, v :: vs => sets (σ.set i (some v)) is vs
  | _, _ => σ
structure PCap (X : Cx) (ps : List Pattern) (ns : List (Nat × Str)) : Prop where
  each : ∀ (s : Shared) (us : List Value) (Q : Option (List (Str × Value)) → Shared → Prop), us.length = ns.length → Q (some (List.zipWith (fun n u => (n.2, u)) ns us)) s → wpAny (model X.prog X.w) X.A (matchEach ps X.env us) Q X.xe s
  slot : ∀ n, n ∈ ns → X.N[n.1]? = some n.2 ∧ Loc X.env.scope n.2 ∧ (X.fn n.2 = true ∨ X.env.scope.names.lookup n.2 = some .local)
  len : ps.length = ns.length
theorem pcap_nil {X : Cx} : PCap X [] [] := ⟨fun s us Q hl h => wpAny_matchEach_nil (by
  rw [show us = [] from List.eq_nil_of_length_eq_zero hl] at h
  exact h), fun n hn => (by cases hn), rfl⟩
theorem pcap_cons {X : Cx} {i : Nat} {x : Str} {pos : Pos} {ps : List Pattern} {ns : List (Nat × Str)} (hi : X.N[i]? = some x) (hx : Loc X.env.scope x) (h : PCap X ps ns) (hf : X.fn x = true ∨ X.env.scope.names.lookup x = some .local := by first | exact .inl rfl | exact .inr rfl | assumption) :
    PCap X (.MatchAs none (some x) pos :: ps) ((i, x) :: ns) := by
  refine ⟨fun s us Q hl hQ => ?_, fun n hn => ?_, ?_⟩
  · match us, hl with
    | u :: us, hl =>
      refine wpAny_matchEach_cons (wpAny_matchPattern_Capture ?_)
      refine h.each s us _ (Nat.succ.inj hl) ?_
      exact hQ
  · rcases List.mem_cons.mp hn with rfl | hn
    · exact ⟨hi, hx, hf⟩
    · exact h.slot n hn
  · rw [List.length_cons, List.length_cons, h.len]
theorem bind_all {X : Cx} {pins : List (Addr × Obj)} {H : Hp} (hN : X.N.Nodup) : ∀ (ns : List (Nat × Str)) (us : List Value) (vs : List V) (σ : L2.St) (s : Shared) (Q : Unit → Shared → Prop),
    (∀ n, n ∈ ns → X.N[n.1]? = some n.2 ∧ Loc X.env.scope n.2 ∧ (X.fn n.2 = true ∨ X.env.scope.names.lookup n.2 = some .local)) → us.length = ns.length → Vals vs us → Inv X pins σ H s → (∀ s', Inv X pins (sets σ (ns.map Prod.fst) vs) H s' → Q () s') →
    wpAny (model X.prog X.w) X.A (assignInOrder ((List.zipWith (fun (n : Nat × Str) u => (n.2, u)) ns us).map fun (n, _) => bindName X.env n) ((List.zipWith (fun (n : Nat × Str) u => (n.2, u)) ns us).map (·.2))) Q X.xe s
  | [], us, vs, σ, s, Q, _, hl, r, I, q => by
    have e : us = [] := List.eq_nil_of_length_eq_zero hl
    subst e
    cases r
    exact wpAny_assignInOrder_none (q s I)
  | n :: ns, us, vs, σ, s, Q, hs, hl, r, I, q => by
    match us, vs, hl, r with
    | u :: us, v :: vs, hl, .cons r1 r2 =>
      obtain ⟨h1, h2, h3⟩ := hs n List.mem_cons_self
      refine wpAny_assignInOrder_more (wpAny_bindName (store_ok I hN h1 h2 r1 (fun s1 I1 => ?_) h3))
      exact bind_all hN ns us vs _ s1 Q (fun m hm => hs m (List.mem_cons_of_mem _ hm)) (Nat.succ.inj hl) r2 I1 q
def tCase (word : Str) (is : List Nat) (tb : TS) (rest : TCs) : TCs := fun a xs D σ H =>
  (xs.length ≠ is.length + 1 ∧ rest a xs D σ H) ∨ ∃ z ys, xs = .str z :: ys ∧ ys.length = is.length ∧ ((z = word ∧ tb D (sets σ is ys) H) ∨ (z ≠ word ∧ rest a xs D σ H))
theorem pcs_seq {X : Cx} {e : Expr} {word : Str} {vp sp : Pos} {ps : List Pattern} {ns : List (Nat × Str)} {body : List Stmt} {rest : List MatchCase} {tb : TS} {tr : TCs} (hc : X.calm = true) (hN : X.N.Nodup) (hw : PE X e (tC (.str word))) (hcap : PCap X ps ns) (hb : PSs X body tb) (hr : PCs X rest tr)
    (hstar : (.MatchValue e vp :: ps).findIdx? (·.isStar) = none := by rfl) (hwild : ((.MatchValue e vp :: ps).all fun p => p.isWildcard || (p.isStar && p.names.isEmpty)) = false := by rfl) :
    PCs X (⟨.MatchSequence (.MatchValue e vp :: ps) sp, none, body⟩ :: rest) (tCase word (ns.map Prod.fst) tb tr) := by
  refine ⟨fun pins s σ H D a xs first I hq h => ?_⟩
  obtain ⟨its, rv, ht, hz⟩ := I.tuple hq
  have hl := rv.length
  have hsl : sizeLine = 16777216 := by decide
  have hfit : ((its.toArray.size : Nat) : Int) < 2 ^ 63 := by
    rw [List.size_toArray]
    omega
  have lp := hcap.len
  have miss : ∀ s', Inv X pins σ H s' → tr a xs D σ H → wpAny (model X.prog X.w) X.A (matchCases rest X.env (.ref a) false) (SP X pins D) X.xe s' := fun s' I' q => hr.run pins s' σ H D a xs false I' hq q
  refine wpAny_matchCases_cons ?_
  rcases h with ⟨hn, h⟩ | ⟨z, ys, rfl, hn, h⟩
  · rw [List.length_map] at hn
    refine matchSeq_tuple_miss ht hfit (by rw [List.size_toArray, List.length_cons]; omega) ?_ hstar hwild
    exact miss _ (I.kept (t' := s.toks + 1 + 1) fun b o q => q) h
  · rw [List.length_map] at hn
    rw [List.length_cons] at hl
    refine matchSeq_tuple_hit ht hfit (by rw [List.size_toArray, List.length_cons]; omega) ?_ hstar hwild
    have e1 : (Pattern.MatchValue e vp :: ps).length = its.toArray.size := by
      rw [List.size_toArray, List.length_cons]
      omega
    have key : ∀ s2 : Shared, Inv X pins σ H s2 → wpAny (model X.prog X.w) X.A (matchEach (.MatchValue e vp :: ps) X.env its) (fun r s₁ => match r with
        | none => wpAny (model X.prog X.w) X.A (matchCases rest X.env (.ref a) false) (SP X pins D) X.xe s₁
        | some bs => wpAny (model X.prog X.w) X.A (assignInOrder (bs.map fun (n, _) => bindName X.env n) (bs.map (·.2))) (fun _ s₂ => wpAny (model X.prog X.w) X.A (execs body X.env) (SP X pins D) X.xe s₂) X.xe s₁) X.xe s2 := fun s2 I1 => by
      clear e1 hfit hz ht
      match its, rv, hl with
      | u :: us, .cons r1 r2, hl =>
        refine wpAny_matchEach_cons (wpAny_matchPattern_Value ?_)
        refine thn (hw.run pins s2 σ H (fun v H' => v = .str word ∧ H' = H) I1 ⟨rfl, rfl⟩) fun c s3 ⟨x, H3, I3, r3, e3, e4⟩ => ?_
        subst e3 e4
        refine thn (op_eq pins s3 σ H3 (.str z) (.str word) u c (fun v H' => v = .bl (decide (V.str z = V.str word)) ∧ H' = H3) I3 r1 r3 ⟨rfl, rfl, rfl⟩) fun d s4 ⟨y, H4, I4, r4, e5, e6⟩ => ?_
        subst e5 e6
        obtain rfl : d = Value.bool (decide (V.str z = V.str word)) := r4
        refine wpAny_truthy_bool ?_
        rcases h with ⟨rfl, h⟩ | ⟨ne, h⟩
        · rw [if_pos (decide_eq_true rfl)]
          have ul : us.length = ns.length := by
            have := r2.length
            omega
          refine hcap.each s4 us _ ul ?_
          show wpAny _ _ (assignInOrder _ _) _ _ s4
          exact bind_all hN ns us ys σ s4 _ hcap.slot ul r2 I4 fun s5 I5 => hb.run pins s5 _ H4 D I5 h
        · rw [if_neg (fun y => ne (V.str.inj (of_decide_eq_true y)))]
          exact miss s4 I4 h
    rw [e1]
    refine unpackItems_tuple (I.ok.hd hc) ht fun h' hx => ?_
    have I1 : Inv X pins σ H { s with heap := h', toks := s.toks + 1 + 1 } := I.kept (t' := s.toks + 1 + 1) fun b o q => hx b o (Nat.ne_of_lt (Heap.lt_size q)) q
    refine key _ ?_
    exact I1
/-! max(tuple), max(tuple, default=d) -/
def rMaxT (K : PySem.W.Frag) : List V → Hp → VK → Prop := fun vs H Q => ∃ (a : Addr) (ns : List Int), vs = [V.ref a] ∧ SqT K H a (ns.map V.int) ∧ 0 < ns.length ∧ ∀ m, m ∈ ns → (∀ y, y ∈ ns → y ≤ m) → Q (.int m) H
theorem best_in {ns : List Int} (h : 0 < ns.length) : ns.getD (argBest (fun i j => decide (ns.getD i 0 > ns.getD j 0)) (ns.length - 1)) 0 ∈ ns ∧ ∀ y, y ∈ ns → y ≤ ns.getD (argBest (fun i j => decide (ns.getD i 0 > ns.getD j 0)) (ns.length - 1)) 0 := by
  obtain ⟨h1, h2⟩ := argBest_gt (fun i => ns.getD i 0) (ns.length - 1)
  refine ⟨?_, fun y hy => ?_⟩
  · generalize argBest (fun i j => decide (ns.getD i 0 > ns.getD j 0)) (ns.length - 1) = k at h1
    have hk : k < ns.length := by omega
    rw [List.getD_eq_getElem?_getD, List.getElem?_eq_getElem hk]
    exact List.getElem_mem hk
  · obtain ⟨j, hj, rfl⟩ := List.getElem_of_mem hy
    have := h2 j (by omega)
    have e : ns.getD j 0 = ns[j] := by
      rw [List.getD_eq_getElem?_getD, List.getElem?_eq_getElem hj]
      rfl
    rw [← e]
    exact this
theorem ints_at {its : List Value} {ns : List Int} (rv : Vals (ns.map V.int) its) : ∀ (i : Nat) (v : Value), its.toArray[i]? = some v → ∃ t, v = Value.int (ns.getD i 0) t := fun i v hv => by
  have hv2 : its[i]? = some v := by simpa using hv
  have hl := rv.length
  rw [List.length_map] at hl
  have hi : i < ns.length := by
    have := (List.getElem?_eq_some_iff.mp hv2).1
    omega
  obtain ⟨u, hu, ru⟩ := rv.get (show (ns.map V.int)[i]? = some (V.int ns[i]) by rw [List.getElem?_map, List.getElem?_eq_getElem hi]; rfl)
  rw [hv2] at hu
  cases hu
  obtain ⟨t, rfl⟩ := (show ∃ t, v = Value.int ns[i] t from ru)
  exact ⟨t, by
    show Value.int ns[i] t = Value.int (ns.getD i 0) t
    rw [List.getD_eq_getElem?_getD, List.getElem?_eq_getElem hi]
    rfl⟩
theorem cr_maxT {X : Cx} (hc : X.calm = true) : CallR X (.builtin "max") (rMaxT X.K) := by
  intro pins s σ H vs us Q I r h
  obtain ⟨a, ns, rfl, hs, hne, q⟩ := h
  obtain ⟨its, rv, ht, _⟩ := I.tuple hs
  rw [Vals.ref1 r]
  have hh := I.ok.hd hc
  have lta : a < s.heap.objs.size := by
    obtain ⟨o, ho, _⟩ := id ht
    exact Heap.lt_size ho
  have hl := rv.length
  rw [List.length_map] at hl
  have hz : its.toArray.size = ns.length := by rw [List.size_toArray, hl]
  refine call_max_walk (wpAny_pyIter_tuple (show s.heap.IsTuple a its.toArray from ht) ⟨s.heap.objs.size, _, _, _, _, _, fun i j => decide (ns.getD i 0 > ns.getD j 0), rfl, Walks.tuple (A := X.A.in1) hh s.heap.objs.size a (Nat.ne_of_lt lta) its.toArray, ⟨⟨_, Heap.get?_push_size _ rfl, rfl, rfl⟩, (show s.heap.IsTuple a its.toArray from ht).at fun o e => Heap.get?_push_of_some _ e⟩, fun b hb => ?_, by rw [hz]; exact hne, CmpOf.ints_gt (fun i => ns.getD i 0) (ints_at rv), fun v h' tk hP hk => ?_⟩)
  · show b < (s.heap.push _).objs.size
    rw [Heap.size_push]
    rcases List.mem_cons.mp hb with z | z
    · rw [z]
      exact Nat.lt_succ_self _
    · rw [List.mem_singleton.mp z]
      exact Nat.lt_succ_of_lt lta
  · obtain ⟨t, rfl⟩ := ints_at rv _ _ hP
    rw [hz]
    obtain ⟨b1, b2⟩ := best_in hne
    refine ⟨.int _, H, I.kept fun b o e => hk b o (fun z => ?_) (Heap.get?_push_of_some _ e), ⟨_, rfl⟩, q _ b1 b2⟩
    rw [List.mem_singleton] at z
    rw [z] at e
    exact Nat.lt_irrefl _ (Heap.lt_size e)
theorem cr_maxTD {X : Cx} (hc : X.calm = true) : CallRK X (.builtin "max") [Str.ofString "default"] (fun vs zs H Q => (∃ z, zs = [z]) ∧ rMaxT X.K vs H Q) := by
  intro pins s σ H vs zs us ws Q I r rz h
  obtain ⟨⟨z, rfl⟩, a, ns, rfl, hs, hne, q⟩ := h
  obtain ⟨its, rv, ht, _⟩ := I.tuple hs
  rw [Vals.ref1 r]
  match ws, rz with
  | [d], .cons rd .nil =>
    have hh := I.ok.hd hc
    have lta : a < s.heap.objs.size := by
      obtain ⟨o, ho, _⟩ := id ht
      exact Heap.lt_size ho
    have hl := rv.length
    rw [List.length_map] at hl
    have hz : its.toArray.size = ns.length := by rw [List.size_toArray, hl]
    have none : ∀ (b : Addr) (o : Obj), ({ s.heap with objs := #[] } : Heap).get? b = some o → False := fun b o e => by
      have := Heap.lt_size e
      exact Nat.not_lt_zero _ this
    refine call_max_walkD (wpAny_pyIter_tuple (show s.heap.IsTuple a its.toArray from ht) ⟨s.heap.objs.size, _, _, _, _, _, _, { s.heap with objs := #[] }, fun i j => decide (ns.getD i 0 > ns.getD j 0), rfl, (Walks.tuple (A := X.A.in1) hh s.heap.objs.size a (Nat.ne_of_lt lta) its.toArray).toS, ⟨⟨_, Heap.get?_push_size _ rfl, rfl, rfl⟩, (show s.heap.IsTuple a its.toArray from ht).at fun o e => Heap.get?_push_of_some _ e⟩, fun b hb => ?_, fun b o e => (none b o e).elim, fun b o e => (none b o e).elim, fun e => by rw [hz] at e; omega, fun _ => ⟨fun i j vi vj s' Q' E' _ hi hj hq => CmpOf.ints_gt (fun i => ns.getD i 0) (ints_at rv) i j vi vj s' Q' E' hi hj hq, fun v s' hP hm => ?_⟩⟩)
    · show b < (s.heap.push _).objs.size
      rw [Heap.size_push]
      rcases List.mem_cons.mp hb with z | z
      · rw [z]
        exact Nat.lt_succ_self _
      · rw [List.mem_singleton.mp z]
        exact Nat.lt_succ_of_lt lta
    · obtain ⟨t, rfl⟩ := ints_at rv _ _ hP
      rw [hz]
      obtain ⟨b1, b2⟩ := best_in hne
      obtain ⟨h', g', d', t', o'⟩ := s'
      have eg : g' = s.gens := hm.gens
      have ed : d' = s.drawn := hm.drawn
      have eo : o' = s.os := hm.os
      subst eg ed eo
      refine ⟨.int _, H, I.kept (h' := h') (t' := t') fun b o e => hm.heap b o (fun z => ?_) (Heap.get?_push_of_some _ e), ⟨_, rfl⟩, q _ b1 b2⟩
      rw [List.mem_singleton] at z
      rw [z] at e
      exact Nat.lt_irrefl _ (Heap.lt_size e)
/-! sum(tuple) -/
theorem preSum_take (ns : List Int) : ∀ k, preSum (fun i => ns.getD i 0) k = (ns.take k).sum
  | 0 => rfl
  | k + 1 => by
    show preSum (fun i => ns.getD i 0) k + ns.getD k 0 = _
    rw [preSum_take ns k, List.take_add_one, List.getD_eq_getElem?_getD]
    cases ns[k]? with
    | none => simp
    | some x => simp
def rSumT (K : PySem.W.Frag) : List V → Hp → VK → Prop := fun vs H Q => ∃ (a : Addr) (ns : List Int), vs = [V.ref a] ∧ SqT K H a (ns.map V.int) ∧ Q (.int ns.sum) H
theorem cr_sumT {X : Cx} (hc : X.calm = true) : CallR X (.builtin "sum") (rSumT X.K) := by
  intro pins s σ H vs us Q I r h
  obtain ⟨a, ns, rfl, hs, q⟩ := h
  obtain ⟨its, rv, ht, _⟩ := I.tuple hs
  rw [Vals.ref1 r]
  have hh := I.ok.hd hc
  have lta : a < s.heap.objs.size := by
    obtain ⟨o, ho, _⟩ := ht
    exact Heap.lt_size ho
  have hl := rv.length
  rw [List.length_map] at hl
  refine call_sum_walkG (wpAny_pyIter_tuple (show s.heap.IsTuple a its.toArray from ht) ⟨s.heap.objs.size, _, _, _, _, _, fun i => ns.getD i 0, rfl, Walks.tuple (A := X.A.in1) hh s.heap.objs.size a (Nat.ne_of_lt lta) its.toArray, ⟨⟨_, Heap.get?_push_size _ rfl, rfl, rfl⟩, (show s.heap.IsTuple a its.toArray from ht).at fun o e => Heap.get?_push_of_some _ e⟩, fun b hb => ?_, fun i v hv => ?_, fun h' tk t' hk => ?_⟩)
  · show b < (s.heap.push _).objs.size
    rw [Heap.size_push]
    rcases List.mem_cons.mp hb with z | z
    · rw [z]
      exact Nat.lt_succ_self _
    · rw [List.mem_singleton.mp z]
      exact Nat.lt_succ_of_lt lta
  · have hv2 : its[i]? = some v := by simpa using hv
    have hi : i < ns.length := by
      have := (List.getElem?_eq_some_iff.mp hv2).1
      omega
    obtain ⟨u, hu, ru⟩ := rv.get (show (ns.map V.int)[i]? = some (V.int ns[i]) by rw [List.getElem?_map, List.getElem?_eq_getElem hi]; rfl)
    rw [hv2] at hu
    cases hu
    obtain ⟨t, rfl⟩ := (show ∃ t, v = Value.int ns[i] t from ru)
    exact ⟨t, by
      show Value.int ns[i] t = Value.int (ns.getD i 0) t
      rw [List.getD_eq_getElem?_getD, List.getElem?_eq_getElem hi]
      rfl⟩
  · rw [preSum_take, List.take_of_length_le (by rw [List.size_toArray]; omega)]
    refine ⟨.int _, H, I.kept fun b o e => hk b o (fun z => ?_) (Heap.get?_push_of_some _ e), ⟨_, rfl⟩, q⟩
    rw [List.mem_singleton] at z
    rw [z] at e
    exact Nat.lt_irrefl _ (Heap.lt_size e)
theorem sumTK {X : Cx} {K : PySem.W.Frag} (h : X.K = K) (hc : X.calm = true) : CallR X (.builtin "sum") (rSumT K) := by
  subst h
  exact cr_sumT hc
/-! the law's lowest terms -/
def sp__law_lowest (_ : PySem.W.Frag) : Sp := fun vs H Q _ => ∃ t b : Int, vs = [.int t, .int b] ∧ 0 ≤ t ∧ 0 < b ∧ S 4000 b ∧ ∀ H' p, Same H H' → H p = none → H' p = some (.tup [.int (frT t b), .int (frB t b)]) → Q (.ref p) H'
/-! what a register holds -/
def parF : Nat → Nat → Nat
  | 0, _ => 0
  | f + 1, n => (n % 2 + parF f (n / 2)) % 2
def par (n : Nat) : Nat := parF 7 n
def regS (w p x : Nat) : Nat := 2 * x % 2 ^ w + par (x &&& p)
def regA (w p s : Nat) : Nat → Nat
  | 0 => s
  | k + 1 => regS w p (regA w p s k)
def regI (w p z : Nat) : Nat := z / 2 + 2 ^ (w - 1) * ((z % 2 + par ((z / 2) &&& p)) % 2)
theorem par_lt (n : Nat) : par n < 2 := Nat.mod_lt _ (by decide)
theorem regS_lt {w p x : Nat} (hw : 1 ≤ w) : regS w p x < 2 ^ w := by
  unfold regS
  have h1 := par_lt (x &&& p)
  have h2 := Nat.mod_lt (2 * x) (Nat.two_pow_pos w)
  obtain ⟨v, rfl⟩ : ∃ v, w = v + 1 := ⟨w - 1, by omega⟩
  rw [Nat.pow_succ] at *
  have : 2 * x % (2 ^ v * 2) % 2 = 0 := by
    rw [Nat.mod_mul_left_mod]
    omega
  omega
theorem reg_back2 : ∀ p, p < 4 → 2 ≤ p → ∀ x, x < 4 → regI 2 p (regS 2 p x) = x := by decide +kernel
theorem reg_back3 : ∀ p, p < 8 → 4 ≤ p → ∀ x, x < 8 → regI 3 p (regS 3 p x) = x := by decide +kernel
theorem reg_back4 : ∀ p, p < 16 → 8 ≤ p → ∀ x, x < 16 → regI 4 p (regS 4 p x) = x := by decide +kernel
theorem reg_back5 : ∀ p, p < 32 → 16 ≤ p → ∀ x, x < 32 → regI 5 p (regS 5 p x) = x := by decide +kernel
theorem reg_back6 : ∀ p, p < 64 → 32 ≤ p → ∀ x, x < 64 → regI 6 p (regS 6 p x) = x := by decide +kernel
structure RgW (w p : Nat) : Prop where
  lo : 2 ≤ w
  hi : w ≤ 6
  pl : 2 ^ (w - 1) ≤ p
  ph : p < 2 ^ w
theorem reg_back {w p x : Nat} (h : RgW w p) (hx : x < 2 ^ w) : regI w p (regS w p x) = x := by
  obtain ⟨h1, h2, h3, h4⟩ := h
  match w, h1, h2 with
  | 2, _, _ => exact reg_back2 p h4 h3 x hx
  | 3, _, _ => exact reg_back3 p h4 h3 x hx
  | 4, _, _ => exact reg_back4 p h4 h3 x hx
  | 5, _, _ => exact reg_back5 p h4 h3 x hx
  | 6, _, _ => exact reg_back6 p h4 h3 x hx
theorem regA_lt {w p s : Nat} (h : RgW w p) (hs : s < 2 ^ w) : ∀ k, regA w p s k < 2 ^ w
  | 0 => hs
  | _ + 1 => regS_lt (by have := h.lo; omega)
theorem reg_inj {w p x y : Nat} (h : RgW w p) (hx : x < 2 ^ w) (hy : y < 2 ^ w) (e : regS w p x = regS w p y) : x = y := by
  rw [← reg_back h hx, e, reg_back h hy]
theorem regA_back {w p s : Nat} (h : RgW w p) (hs : s < 2 ^ w) : ∀ i d, regA w p s (i + d) = regA w p s i → regA w p s d = s
  | 0, d, e => by rw [Nat.zero_add] at e; exact e
  | i + 1, d, e => by
    rw [show i + 1 + d = (i + d) + 1 by omega] at e
    exact regA_back h hs i d (reg_inj h (regA_lt h hs _) (regA_lt h hs _) e)
theorem regA_zero {w p s : Nat} (h : RgW w p) (hs : s < 2 ^ w) (s0 : 0 < s) : ∀ k, 0 < regA w p s k
  | 0 => s0
  | k + 1 => by
    rcases Nat.eq_zero_or_pos (regA w p s (k + 1)) with z | z
    · exfalso
      have ih := regA_zero h hs s0 k
      have e0 : regS w p 0 = 0 := by
        unfold regS
        rw [Nat.mul_zero, Nat.zero_mod, Nat.zero_and]
        rfl
      have : regA w p s k = 0 := reg_inj h (regA_lt h hs k) (Nat.two_pow_pos w) (by rw [e0]; exact z)
      omega
    · exact z
theorem pigeon : ∀ (n : Nat) (l : List Nat), l.Nodup → (∀ x, x ∈ l → x < n) → l.length ≤ n
  | 0, l, _, h => by
    cases l with
    | nil => exact Nat.le_refl 0
    | cons x r => exact absurd (h x List.mem_cons_self) (Nat.not_lt_zero _)
  | n + 1, l, hd, h => by
    by_cases hm : n ∈ l
    · have h1 := pigeon n (l.erase n) (hd.erase n) fun x hx => by
        have h2 := (hd.mem_erase_iff).mp hx
        have := h x h2.2
        omega
      rw [List.length_erase_of_mem hm] at h1
      omega
    · have h1 := pigeon n l hd fun x hx => by
        have := h x hx
        have : x ≠ n := fun e => hm (e ▸ hx)
        omega
      omega
/-- the first k that comes back -/
structure IsPer (w p s k : Nat) : Prop where
  pos : 1 ≤ k
  le : k ≤ 2 ^ w
  back : regA w p s k = s
  first : ∀ j, 0 < j → j < k → regA w p s j ≠ s
theorem reg_nodup {w p s k : Nat} (h : RgW w p) (hs : s < 2 ^ w) (hf : ∀ j, 0 < j → j < k → regA w p s j ≠ s) : ((List.range k).map (regA w p s)).Nodup := by
  rw [List.nodup_iff_pairwise_ne, List.pairwise_map]
  refine List.pairwise_lt_range.imp_of_mem ?_
  intro a b ha hb hab e
  have hb := List.mem_range.mp hb
  refine hf (b - a) (by omega) (by omega) (regA_back h hs a (b - a) ?_)
  rw [show a + (b - a) = b by omega]
  exact e.symm
theorem per_ex {w p s : Nat} (h : RgW w p) (hs : s < 2 ^ w) : ∃ k, IsPer w p s k := by
  have ex : ∃ k, 1 ≤ k ∧ k ≤ 2 ^ w ∧ regA w p s k = s := by
    apply Classical.byContradiction
    intro hn
    have hf : ∀ j, 0 < j → j < 2 ^ w + 1 → regA w p s j ≠ s := fun j h0 h1 e => hn ⟨j, by omega, by omega, e⟩
    have := pigeon (2 ^ w) _ (reg_nodup h hs hf) fun x hx => by
      obtain ⟨j, _, rfl⟩ := List.mem_map.mp hx
      exact regA_lt h hs j
    rw [List.length_map, List.length_range] at this
    omega
  -- the least such
  have least : ∀ n, ∀ k, k ≤ n → 1 ≤ k → k ≤ 2 ^ w → regA w p s k = s → ∃ k, IsPer w p s k := by
    intro n
    induction n with
    | zero => intro k h1 h2; omega
    | succ n ih =>
      intro k h1 h2 h3 h4
      by_cases hj : ∃ j, 0 < j ∧ j < k ∧ regA w p s j = s
      · obtain ⟨j, j0, jk, je⟩ := hj
        exact ih j (by omega) j0 (by omega) je
      · exact ⟨k, h2, h3, h4, fun j j0 jk je => hj ⟨j, j0, jk, je⟩⟩
  obtain ⟨k, h1, h2, h3⟩ := ex
  exact least k k (Nat.le_refl k) h1 h2 h3
theorem IsPer.uniq {w p s k l : Nat} (h : IsPer w p s k) (g : IsPer w p s l) : k = l := by
  rcases Nat.lt_trichotomy k l with z | z | z
  · exact absurd h.back (g.first k h.pos z)
  · exact z
  · exact absurd g.back (h.first l g.pos z)
noncomputable def per (w p s : Nat) : Nat := @dite Nat (∃ k, IsPer w p s k) (Classical.propDecidable _) (fun h => h.choose) (fun _ => 0)
theorem per_is {w p s : Nat} (h : RgW w p) (hs : s < 2 ^ w) : IsPer w p s (per w p s) := by
  unfold per
  rw [dif_pos (per_ex h hs)]
  exact (per_ex h hs).choose_spec
theorem per_eq {w p s k : Nat} (h : RgW w p) (hs : s < 2 ^ w) (g : IsPer w p s k) : per w p s = k := (per_is h hs).uniq g
/-- the law's odd count -/
def oddL (w x p : Nat) : Int := ((List.range w).map fun j => (((x / 2 ^ j % 2 : Nat) : Int) * ((p / 2 ^ j % 2 : Nat) : Int))).sum % 2
theorem odd2 : ∀ p, p < 4 → ∀ x, x < 4 → oddL 2 x p = ((par (x &&& p) : Nat) : Int) := by decide +kernel
theorem odd3 : ∀ p, p < 8 → ∀ x, x < 8 → oddL 3 x p = ((par (x &&& p) : Nat) : Int) := by decide +kernel
theorem odd4 : ∀ p, p < 16 → ∀ x, x < 16 → oddL 4 x p = ((par (x &&& p) : Nat) : Int) := by decide +kernel
theorem odd5 : ∀ p, p < 32 → ∀ x, x < 32 → oddL 5 x p = ((par (x &&& p) : Nat) : Int) := by decide +kernel
theorem odd6 : ∀ p, p < 64 → ∀ x, x < 64 → oddL 6 x p = ((par (x &&& p) : Nat) : Int) := by decide +kernel
theorem odd_eq {w p x : Nat} (h : RgW w p) (hx : x < 2 ^ w) : oddL w x p = ((par (x &&& p) : Nat) : Int) := by
  obtain ⟨h1, h2, h3, h4⟩ := h
  match w, h1, h2 with
  | 2, _, _ => exact odd2 p h4 x hx
  | 3, _, _ => exact odd3 p h4 x hx
  | 4, _, _ => exact odd4 p h4 x hx
  | 5, _, _ => exact odd5 p h4 x hx
  | 6, _, _ => exact odd6 p h4 x hx
/-! makers -/
inductive Mk where
  | counter (r s t : Nat)
  | table (ns : List Int)
  | turned (w s : Nat)
  | register (w p s : Nat)
  | slow (n : Nat) (m : Mk)
  | slip (n : Nat) (m : Mk)
  | late (n : Nat) (m : Mk)
def Mk.inn : Mk → Mk
  | .slow _ m => m.inn
  | .slip _ m => m.inn
  | .late _ m => m.inn
  | m => m
def Mk.dep : Mk → Nat
  | .slow _ m => m.dep + 1
  | .slip _ m => m.dep + 1
  | .late _ m => m.dep + 1
  | _ => 0
def Mk.bt : Mk → Int → Int
  | .slow n m, t => m.bt (t / n)
  | .slip n m, t => m.bt (t + t / n)
  | .late n m, t => m.bt (t - n)
  | _, t => t
def lff (n : Nat) : Nat → Nat
  | 0 => 0
  | w + 1 => 2 * lff n w + n / 2 ^ w % 2
noncomputable def Mk.pl : Mk → List Int
  | .counter r s t => (List.range r).map fun i => (((t + s * i) % r : Nat) : Int)
  | .table ns => ns
  | .turned w s => (List.range (2 ^ w)).map fun i => ((lff ((s + i) % 2 ^ w) w : Nat) : Int)
  | .register w p s => (List.range (per w p s)).map fun k => ((regA w p s k : Nat) : Int)
  | _ => []
noncomputable def Mk.rnd : Mk → Nat
  | .slow n m => n * m.rnd
  | .slip n m => n * m.rnd / Nat.gcd m.rnd (n + 1)
  | .late _ m => m.rnd
  | m => m.pl.length
def Mk.Pl : Mk → Prop
  | .counter r s t => 1 ≤ r ∧ r ≤ 64 ∧ s ≤ 64 ∧ t < r
  | .table ns => 1 ≤ ns.length ∧ ns.length ≤ 64 ∧ ∀ x, x ∈ ns → 0 ≤ x ∧ x ≤ 63
  | .turned w s => 1 ≤ w ∧ w ≤ 6 ∧ s < 2 ^ w
  | .register w p s => RgW w p ∧ 1 ≤ s ∧ s < 2 ^ w
  | _ => False
def Mk.Ok : Mk → Prop
  | .slow n m => 1 ≤ n ∧ n ≤ 64 ∧ m.Ok
  | .slip n m => 1 ≤ n ∧ n ≤ 64 ∧ m.Ok
  | .late n m => n ≤ 64 ∧ m.Ok
  | m => m.Pl
def Mk.Top : Mk → Int → Prop
  | .counter r _ _, v => v = r
  | .table ns, v => ∃ M, M ∈ ns ∧ (∀ y, y ∈ ns → y ≤ M) ∧ v = M + 1
  | .turned w _, v => v = ((2 ^ w : Nat) : Int)
  | .register w _ _, v => v = ((2 ^ w : Nat) : Int)
  | _, _ => False
theorem Mk.Top.uniq {m : Mk} {v u : Int} (h : m.Top v) (k : m.Top u) : v = u := by
  cases m with
  | counter r s t => exact h.trans k.symm
  | table ns =>
    obtain ⟨M, h1, h2, rfl⟩ := h
    obtain ⟨N, k1, k2, rfl⟩ := k
    have := h2 N k1
    have := k2 M h1
    omega
  | turned w s => exact h.trans k.symm
  | register w p s => exact h.trans k.symm
  | _ => exact h.elim
noncomputable def Mk.val (m : Mk) (t : Int) : Int := m.inn.pl.getD ((m.bt t) % (m.inn.pl.length : Int)).toNat 0
theorem Mk.Ok.inn : ∀ {m : Mk}, m.Ok → m.inn.Pl
  | .slow _ m, h => Mk.Ok.inn (m := m) h.2.2
  | .slip _ m, h => Mk.Ok.inn (m := m) h.2.2
  | .late _ m, h => Mk.Ok.inn (m := m) h.2
  | .counter _ _ _, h => h
  | .table _, h => h
  | .turned _ _, h => h
  | .register _ _ _, h => h
theorem Mk.Pl.len {m : Mk} (h : m.Pl) : 1 ≤ m.pl.length ∧ m.pl.length ≤ 64 := by
  cases m with
  | counter r s t =>
    obtain ⟨h1, h2, _⟩ := h
    simp only [Mk.pl, List.length_map, List.length_range]
    omega
  | table ns => exact ⟨h.1, h.2.1⟩
  | turned w s =>
    obtain ⟨h1, h2, _⟩ := h
    simp only [Mk.pl, List.length_map, List.length_range]
    exact ⟨Nat.one_le_two_pow, Nat.le_trans (Nat.pow_le_pow_right (by decide) h2) (by decide)⟩
  | register w p s =>
    obtain ⟨h1, h2, h3⟩ := h
    have ip := per_is h1 h3
    simp only [Mk.pl, List.length_map, List.length_range]
    exact ⟨ip.pos, Nat.le_trans ip.le (Nat.le_trans (Nat.pow_le_pow_right (by decide) h1.hi) (by decide))⟩
  | _ => exact h.elim
theorem Mk.inn_dep : ∀ m : Mk, m.inn.dep = 0
  | .slow _ m => Mk.inn_dep m
  | .slip _ m => Mk.inn_dep m
  | .late _ m => Mk.inn_dep m
  | .counter _ _ _ => rfl
  | .table _ => rfl
  | .turned _ _ => rfl
  | .register _ _ _ => rfl
theorem Mk.inn_self : ∀ {m : Mk}, m.dep = 0 → m.inn = m
  | .counter _ _ _, _ => rfl
  | .table _, _ => rfl
  | .turned _ _, _ => rfl
  | .register _ _ _, _ => rfl
/-! makers as they stand -/
def MkAt (H : Hp) : Mk → V → Prop
  | .counter r s t, v => ∃ a, v = .ref a ∧ H a = some (.tup [.str "counter", .int (r : Nat), .int (s : Nat), .int (t : Nat)])
  | .table ns, v => ∃ a b, v = .ref a ∧ H a = some (.tup [.str "table", .ref b]) ∧ H b = some (.tup (ns.map V.int))
  | .turned w s, v => ∃ a, v = .ref a ∧ H a = some (.tup [.str "turned", .int (w : Nat), .int (s : Nat)])
  | .register w p s, v => ∃ a, v = .ref a ∧ H a = some (.tup [.str "register", .int (w : Nat), .int (p : Nat), .int (s : Nat)])
  | .slow n m, v => ∃ a x, v = .ref a ∧ H a = some (.tup [.str "slow", .int (n : Nat), x]) ∧ MkAt H m x
  | .slip n m, v => ∃ a x, v = .ref a ∧ H a = some (.tup [.str "slip", .int (n : Nat), x]) ∧ MkAt H m x
  | .late n m, v => ∃ a x, v = .ref a ∧ H a = some (.tup [.str "late", .int (n : Nat), x]) ∧ MkAt H m x
theorem MkAt.keep {H H' : Hp} (s : ∀ a xs, H a = some (.tup xs) → H' a = some (.tup xs)) : ∀ {m : Mk} {v : V}, MkAt H m v → MkAt H' m v
  | .counter _ _ _, _, ⟨a, e, h⟩ => ⟨a, e, s _ _ h⟩
  | .table _, _, ⟨a, b, e, h, k⟩ => ⟨a, b, e, s _ _ h, s _ _ k⟩
  | .turned _ _, _, ⟨a, e, h⟩ => ⟨a, e, s _ _ h⟩
  | .register _ _ _, _, ⟨a, e, h⟩ => ⟨a, e, s _ _ h⟩
  | .slow _ m, _, ⟨a, x, e, h, k⟩ => ⟨a, x, e, s _ _ h, MkAt.keep s (m := m) k⟩
  | .slip _ m, _, ⟨a, x, e, h, k⟩ => ⟨a, x, e, s _ _ h, MkAt.keep s (m := m) k⟩
  | .late _ m, _, ⟨a, x, e, h, k⟩ => ⟨a, x, e, s _ _ h, MkAt.keep s (m := m) k⟩
theorem MkAt.same {H H' : Hp} {m : Mk} {v : V} (h : MkAt H m v) (s : Same H H') : MkAt H' m v := h.keep fun _ _ e => s _ _ e
theorem MkAt.but {H H' : Hp} {m : Mk} {v : V} {p : Addr} {n : Nat} (h : MkAt H m v) (B : Bx H p n) (s : But p H H') : MkAt H' m v := h.keep fun _ _ e => s _ _ (B.ne_tup e) e
def inW (z : Str) : Bool := inV (.str z) [.str "slow", .str "slip", .str "late"]
theorem inW_slow : inW "slow" = true := by decide +kernel
theorem inW_slip : inW "slip" = true := by decide +kernel
theorem inW_late : inW "late" = true := by decide +kernel
theorem inW_counter : inW "counter" = false := by decide +kernel
theorem inW_table : inW "table" = false := by decide +kernel
theorem inW_turned : inW "turned" = false := by decide +kernel
theorem inW_register : inW "register" = false := by decide +kernel
/-- what stands around a maker -/
structure Around1 (m : Mk) (z : Str) (n : Nat) (m' : Mk) : Prop where
  word : (z = "slow" ∧ m = .slow n m') ∨ (z = "slip" ∧ m = .slip n m') ∨ (z = "late" ∧ m = .late n m')
theorem MkAt.shape {H : Hp} {m : Mk} {v : V} (h : MkAt H m v) : (∃ z n m' a x, v = .ref a ∧ H a = some (.tup [.str z, .int (n : Nat), x]) ∧ MkAt H m' x ∧ Around1 m z n m' ∧ inW z = true) ∨ (m.dep = 0 ∧ ∃ a z xs, v = .ref a ∧ H a = some (.tup (.str z :: xs)) ∧ inW z = false) := by
  cases m with
  | counter r s t => obtain ⟨a, e, h⟩ := h; exact .inr ⟨rfl, a, _, _, e, h, inW_counter⟩
  | table ns => obtain ⟨a, b, e, h, _⟩ := h; exact .inr ⟨rfl, a, _, _, e, h, inW_table⟩
  | turned w s => obtain ⟨a, e, h⟩ := h; exact .inr ⟨rfl, a, _, _, e, h, inW_turned⟩
  | register w p s => obtain ⟨a, e, h⟩ := h; exact .inr ⟨rfl, a, _, _, e, h, inW_register⟩
  | slow n m => obtain ⟨a, x, e, h, k⟩ := h; exact .inl ⟨_, n, m, a, x, e, h, k, ⟨.inl ⟨rfl, rfl⟩⟩, inW_slow⟩
  | slip n m => obtain ⟨a, x, e, h, k⟩ := h; exact .inl ⟨_, n, m, a, x, e, h, k, ⟨.inr (.inl ⟨rfl, rfl⟩)⟩, inW_slip⟩
  | late n m => obtain ⟨a, x, e, h, k⟩ := h; exact .inl ⟨_, n, m, a, x, e, h, k, ⟨.inr (.inr ⟨rfl, rfl⟩)⟩, inW_late⟩
theorem Around1.dep {m m' : Mk} {z : Str} {n : Nat} (h : Around1 m z n m') : m.dep = m'.dep + 1 ∧ m.inn = m'.inn := by
  rcases h.word with ⟨_, rfl⟩ | ⟨_, rfl⟩ | ⟨_, rfl⟩ <;> exact ⟨rfl, rfl⟩
def sp_innermost (_ : PySem.W.Frag) : Sp := fun vs H Q _ => ∃ m v, vs = [v] ∧ MkAt H m v ∧ ∀ H' u, Same H H' → MkAt H' m.inn u → Q u H'
theorem ok_innermost (T : Defs K mg) (TT : Tabs T base) : FnOk P w K mg base CX0 1 T.f_innermost T.fd_innermost ["maker"] (sp_innermost K) := by
  refine T.F_innermost.ok sc_innermost (fun vs H Q E h => ?_) (fun cdv A outer s H vs Q E hr h => ?_)
  · obtain ⟨m, v, rfl, hm, q⟩ := h
    rfl
  · obtain ⟨m, v, rfl, hm, q⟩ := h
    refine ⟨_, PSs.nox (pss_cons (ps_while PassesOwn.never (pt_cmpR op_in_seq (pe_ix ix_tup (pv 0) pe_int (fun _ _ => rfl)) (pe_tup (pa_cons pe_str (pa_cons pe_str (pa_cons pe_str pa_nil)))) rfl) (pss_one (ps_set (i := 0) sc_innermost.nd rfl (.inl rfl) (pe_ix ix_tup (pv 0) pe_int (fun _ _ => rfl)))))
    (pss_one (ps_ret (pv 0)))), ?_⟩
    refine ⟨fun n σ H1 => ∃ m' u, m'.dep = n ∧ σ = [some u] ∧ Same H H1 ∧ MkAt H1 m' u ∧ m'.inn = m.inn, ⟨_, m, v, rfl, rfl, Same.refl H, hm, rfl⟩, ?_⟩
    rintro n σ H1 ⟨m', u, rfl, rfl, s1, hm', ei⟩
    rcases hm'.shape with ⟨z, n, m2, a, x, rfl, ha, hx, ar, iw⟩ | ⟨d0, a, z, xs, rfl, ha, iw⟩
    · refine ⟨.ref a, rfl, a, _, 0, _, rfl, rfl, SqT.mk ha, atI_nat (j := 0) rfl, (show 3 ≤ sizeLine by decide), fun t nt => ⟨t, _, rfl, .inr (SqT.mk upd_same), rfl, rfl, _, rfl, ?_⟩⟩
      have s2 := s1.trans (same_upd nt (o := .tup [.str "slow", .str "slip", .str "late"]))
      rw [if_neg Bool.false_ne_true, show inV (.str z) [.str "slow", .str "slip", .str "late"] = true from iw]
      refine iteT ⟨_, fun σ' H' h => h, ?_⟩
      refine ⟨.ref a, rfl, a, _, 2, _, rfl, rfl, SqT.mk ((same_upd nt) _ _ ha), atI_nat (j := 2) rfl, ?_⟩
      exact ⟨m2.dep, by have := ar.dep.1; omega, m2, x, rfl, rfl, s2, hx.same (same_upd nt), by rw [← ar.dep.2, ei]⟩
    · refine ⟨.ref a, rfl, a, _, 0, _, rfl, rfl, SqT.mk ha, atI_nat (j := 0) rfl, (show 3 ≤ sizeLine by decide), fun t nt => ⟨t, _, rfl, .inr (SqT.mk upd_same), rfl, rfl, _, rfl, ?_⟩⟩
      rw [if_neg Bool.false_ne_true, show inV (.str z) [.str "slow", .str "slip", .str "late"] = false from iw]
      refine iteF ?_
      refine ⟨.ref a, rfl, q _ _ (s1.trans (same_upd nt)) ?_⟩
      rw [← ei, Mk.inn_self d0]
      exact hm'.same (same_upd nt)
def sp_inner_beat (_ : PySem.W.Frag) : Sp := fun vs H Q _ => ∃ m v t, vs = [v, .int t] ∧ MkAt H m v ∧ m.Ok ∧ ∀ H', Same H H' → Q (.int (m.bt t)) H'
theorem ok_inner_beat (T : Defs K mg) (TT : Tabs T base) : FnOk P w K mg base CX0 1 T.f_inner_beat T.fd_inner_beat ["maker", "t"] (sp_inner_beat K) := by
  refine T.F_inner_beat.ok sc_inner_beat (fun vs H Q E h => ?_) (fun cdv A outer s H vs Q E hr h => ?_)
  · obtain ⟨m, v, t, rfl, hm, ok, q⟩ := h
    rfl
  · obtain ⟨m, v, t, rfl, hm, ok, q⟩ := h
    refine ⟨_, PSs.nox (pss_cons (ps_while PassesOwn.never (pt_cmpR op_in_seq (pe_ix ix_tup (pv 0) pe_int (fun _ _ => rfl)) (pe_tup (pa_cons pe_str (pa_cons pe_str (pa_cons pe_str pa_nil)))) rfl) (pss_cons (ps_asg (pv 0) (pg_tup rfl (pgs_cons (pg_name (i := 2) sc_inner_beat.nd rfl (.inl rfl)) (pgs_cons (pg_name (i := 3) sc_inner_beat.nd rfl (.inl rfl)) (pgs_cons (pg_name (i := 4) sc_inner_beat.nd rfl (.inl rfl)) pgs_nil)))))
    (pss_cons (ps_if (pt_cmpR op_eq (pv 2) pe_str (nomark _)) (pss_one (ps_set (i := 1) sc_inner_beat.nd rfl (.inl rfl) (pe_op op_fdiv (pv 1) (pe_callB (call_max2 rfl) (by rfl) T.m_max bt_max (pa_cons (pv 3) (pa_cons pe_int pa_nil)))))) (pss_one (ps_if (pt_cmpR op_eq (pv 2) pe_str (nomark _)) (pss_one (ps_set (i := 1) sc_inner_beat.nd rfl (.inl rfl) (pe_op op_add (pv 1) (pe_op op_fdiv (pv 1) (pe_callB (call_max2 rfl) (by rfl) T.m_max bt_max (pa_cons (pv 3) (pa_cons pe_int pa_nil))))))) (pss_one (ps_set (i := 1) sc_inner_beat.nd rfl (.inl rfl) (pe_op op_sub (pv 1) (pv 3)))))))
    (pss_one (ps_set (i := 0) sc_inner_beat.nd rfl (.inl rfl) (pv 4))))))
    (pss_one (ps_ret (pv 1)))), ?_⟩
    refine ⟨fun n σ H1 => ∃ m' u t' y2 y3 y4, m'.dep = n ∧ σ = [some u, some (.int t'), y2, y3, y4] ∧ Same H H1 ∧ MkAt H1 m' u ∧ m'.Ok ∧ m'.bt t' = m.bt t, ⟨_, m, v, t, none, none, none, rfl, rfl, Same.refl H, hm, ok, rfl⟩, ?_⟩
    rintro n σ H1 ⟨m', u, t', y2, y3, y4, rfl, rfl, s1, hm', ok', ei⟩
    rcases hm'.shape with ⟨z, n, m2, a, x, rfl, ha, hx, ar, iw⟩ | ⟨d0, a, z, xs, rfl, ha, iw⟩
    · refine ⟨.ref a, rfl, a, _, 0, _, rfl, rfl, SqT.mk ha, atI_nat (j := 0) rfl, (show 3 ≤ sizeLine by decide), fun tp nt => ⟨tp, _, rfl, .inr (SqT.mk upd_same), rfl, rfl, _, rfl, ?_⟩⟩
      have s2 := s1.trans (same_upd nt (o := .tup [.str "slow", .str "slip", .str "late"]))
      have ha2 := (same_upd nt (o := .tup [.str "slow", .str "slip", .str "late"])) _ _ ha
      have hx2 := hx.same (same_upd nt (o := .tup [.str "slow", .str "slip", .str "late"]))
      rw [if_neg Bool.false_ne_true, show inV (.str z) [.str "slow", .str "slip", .str "late"] = true from iw]
      generalize upd H1 tp (.tup [.str "slow", .str "slip", .str "late"]) = H2 at s2 ha2 hx2 ⊢
      refine iteT ⟨_, fun σ' H' h => h, ?_⟩
      refine ⟨.ref a, rfl, a, _, rfl, SqT.mk ha2, rfl, _, _, rfl, _, _, rfl, _, _, rfl, rfl, ?_⟩
      have dp := ar.dep.1
      rcases ar.word with ⟨rfl, rfl⟩ | ⟨rfl, rfl⟩ | ⟨rfl, rfl⟩
      · have em : (if (1 : Int) > (n : Int) then 1 else (n : Int)) = (n : Int) := by
          have := ok'.1
          split <;> omega
        refine ⟨_, rfl, rfl, _, rfl, ?_⟩
        rw [decide_eq_true rfl]
        refine iteT ?_
        refine ⟨.int t', rfl, .int (n : Nat), rfl, _, _, rfl, _, _, rfl, rfl, ?_, ?_⟩
        · rw [em]
          exact ⟨(show (0 : Int) < (n : Int) by have := ok'.1; omega), (show (n : Int) < 1073741824 by have := ok'.2.1; omega)⟩
        rw [em]
        exact ⟨_, rfl, m2.dep, by omega, m2, x, t' / (n : Int), _, _, _, rfl, rfl, s2, hx2, ok'.2.2, ei⟩
      · have em : (if (1 : Int) > (n : Int) then 1 else (n : Int)) = (n : Int) := by
          have := ok'.1
          split <;> omega
        refine ⟨_, rfl, rfl, _, rfl, ?_⟩
        rw [decide_eq_false (show ¬ (V.str "slip" = V.str "slow") by decide +kernel)]
        refine iteF ?_
        refine ⟨_, rfl, rfl, _, rfl, ?_⟩
        rw [decide_eq_true rfl]
        refine iteT ?_
        refine ⟨.int t', rfl, .int t', rfl, .int (n : Nat), rfl, _, _, rfl, _, _, rfl, rfl, ?_, _, _, rfl, rfl, ?_⟩
        · rw [em]
          exact ⟨(show (0 : Int) < (n : Int) by have := ok'.1; omega), (show (n : Int) < 1073741824 by have := ok'.2.1; omega)⟩
        rw [em]
        exact ⟨_, rfl, m2.dep, by omega, m2, x, t' + t' / (n : Int), _, _, _, rfl, rfl, s2, hx2, ok'.2.2, ei⟩
      · refine ⟨_, rfl, rfl, _, rfl, ?_⟩
        rw [decide_eq_false (show ¬ (V.str "late" = V.str "slow") by decide +kernel)]
        refine iteF ?_
        refine ⟨_, rfl, rfl, _, rfl, ?_⟩
        rw [decide_eq_false (show ¬ (V.str "late" = V.str "slip") by decide +kernel)]
        refine iteF ?_
        refine ⟨.int t', rfl, .int (n : Nat), rfl, _, _, rfl, rfl, ?_⟩
        exact ⟨_, rfl, m2.dep, by omega, m2, x, t' - (n : Int), _, _, _, rfl, rfl, s2, hx2, ok'.2, ei⟩
    · refine ⟨.ref a, rfl, a, _, 0, _, rfl, rfl, SqT.mk ha, atI_nat (j := 0) rfl, (show 3 ≤ sizeLine by decide), fun tp nt => ⟨tp, _, rfl, .inr (SqT.mk upd_same), rfl, rfl, _, rfl, ?_⟩⟩
      rw [if_neg Bool.false_ne_true, show inV (.str z) [.str "slow", .str "slip", .str "late"] = false from iw]
      refine iteF ?_
      have eb : m'.bt t' = t' := by
        cases m' with
        | slow n m => cases d0
        | slip n m => cases d0
        | late n m => cases d0
        | _ => rfl
      rw [eb] at ei
      rw [ei]
      exact ⟨.int _, rfl, q _ (s1.trans (same_upd nt))⟩
/-! the program: numbers of plain makers -/
theorem is_pos {n : Nat} (h : 1 ≤ n) : (0 : Int) < (n : Int) := by omega
def sp_counter_round (_ : PySem.W.Frag) : Sp := fun vs H Q _ => ∃ r s t : Nat, vs = [.int (r : Nat), .int (s : Nat), .int (t : Nat)] ∧ 1 ≤ r ∧ r ≤ 64 ∧ s ≤ 64 ∧ t < r ∧
  ∀ H' p, Same H H' → H p = none → H' p = some (.lst ((Mk.counter r s t).pl.map V.int)) → Q (.ref p) H'
theorem ok_counter_round (T : Defs K mg) (TT : Tabs T base) : FnOk P w K mg base CX0 1 T.f_counter_round T.fd_counter_round ["size", "step", "start"] (sp_counter_round K) := by
  refine T.F_counter_round.ok sc_counter_round (fun vs H Q E h => ?_) (fun cdv A outer s H vs Q E hr h => ?_)
  · obtain ⟨r, s', t, rfl, r1, r2, s2, t2, q⟩ := h
    rfl
  · obtain ⟨r, s', t, rfl, r1, r2, s2, t2, q⟩ := h
    refine ⟨_, PSs.nox (pss_one (ps_ret (pe_lc (own := [("t", 3)]) (g := gName 3) (tt := tYes) rfl sc_counter_round.nd (pi_range1 (by rfl) T.m_range (pa_cons (pv 0) pa_nil)) (blkOk_by (N := N_counter_round) (sc := defScope s_counter_round) (by decide +kernel)) (fun _ _ _ _ _ => (pg_name (i := 3) sc_counter_round.nd rfl (.inl rfl))) (fun _ _ _ _ _ => pts_nil) (fun _ _ _ _ _ => (pe_op op_mod (pe_op op_add (pv 2) (pe_op op_mul (pv 1) (pv 3))) (pv 0)))))), ?_⟩
    have hsl : sizeLine = 16777216 := by decide
    refine ⟨.int (r : Nat), rfl, (r : Nat), rfl, by omega, by omega, fun D nD => ?_⟩
    refine lc_range (fun i H1 => Same H H1 ∧ H1 D = some (.lst (((List.range i).map fun i => (((t + s' * i) % r : Nat) : Int)).map V.int))) ⟨same_upd nD, upd_same⟩ (fun i H1 hi h => ?_) (fun H1 h => ?_)
    · obtain ⟨s1, hD⟩ := h
      have hi : i < r := by omega
      refine ⟨rfl, yes_ite ?_⟩
      refine ⟨.int (t : Nat), rfl, .int (s' : Nat), rfl, _, rfl, _, _, rfl, rfl, .inl ⟨by omega, by omega⟩, _, _, rfl, rfl, .int (r : Nat), rfl, _, _, rfl, rfl, is_pos r1, ?_⟩
      refine ⟨_, hD, by rw [List.length_map, List.length_map, List.length_range]; omega, same_newer s1 nD, ?_⟩
      rw [upd_same, List.range_succ, List.map_append, List.map_append]
      have e : ((t : Int) + (s' : Int) * (0 + (i : Int))) % (r : Int) = (((t + s' * i) % r : Nat) : Int) := by
        rw [Int.zero_add, Int.natCast_emod, Int.natCast_add, Int.natCast_mul]
      dsimp only
      rw [e]
      rfl
    · obtain ⟨s1, hD⟩ := h
      rw [Int.toNat_natCast] at hD
      exact q H1 D s1 nD hD
def sp_last_for_first (_ : PySem.W.Frag) : Sp := fun vs H Q _ => ∃ n w : Nat, vs = [.int (n : Nat), .int (w : Nat)] ∧ w ≤ 64 ∧ Q (.int (lff n w : Nat)) H
theorem bit_and (n i : Nat) : Builtin.bitAnd ((n : Int) / 2 ^ ((0 : Int) + (i : Int)).toNat) 1 = ((n / 2 ^ i % 2 : Nat) : Int) := by
  rw [Int.zero_add, Int.toNat_natCast]
  have h := _root_.Bits.bit_at (x := (n : Int)) i
  rw [Int.fdiv_eq_ediv_of_nonneg _ (by exact Int.le_of_lt (Int.pow_pos (by decide)))] at h
  rw [h]
  have e : ((2 : Int) ^ i) = ((2 ^ i : Nat) : Int) := by rw [Int.natCast_pow]; rfl
  rw [e]
  omega
theorem ok_last_for_first (T : Defs K mg) (TT : Tabs T base) : FnOk P w K mg base CX0 1 T.f_last_for_first T.fd_last_for_first ["number", "wide"] (sp_last_for_first K) := by
  refine T.F_last_for_first.ok sc_last_for_first (fun vs H Q E h => ?_) (fun cdv A outer s H vs Q E hr h => ?_)
  · obtain ⟨n, w', rfl, hw, q⟩ := h
    rfl
  · obtain ⟨n, w', rfl, hw, q⟩ := h
    refine ⟨_, PSs.nox (pss_cons (ps_set (i := 2) sc_last_for_first.nd rfl (.inl rfl) pe_int)
    (pss_cons (ps_for PassesOwn.never rfl (pi_range1 (by rfl) T.m_range (pa_cons (pv 1) pa_nil)) (pg_name (i := 3) sc_last_for_first.nd rfl (.inl rfl)) (pss_one (ps_set (i := 2) sc_last_for_first.nd rfl (.inl rfl) (pe_op op_add (pe_op op_mul pe_int (pv 2)) (pe_op op_and (pe_op op_shr (pv 0) (pv 3)) pe_int)))))
    (pss_one (ps_ret (pv 2))))), ?_⟩
    refine ⟨.int (w' : Nat), rfl, (w' : Nat), rfl, by omega, by omega, for_range (fun i σ G => ∃ y3, σ = [some (.int (n : Nat)), some (.int (w' : Nat)), some (.int (lff n i : Nat)), y3] ∧ G = H) ⟨none, rfl, rfl⟩ ?_ ?_⟩
    · rintro i σ G hi ⟨y3, rfl, rfl⟩
      refine ⟨_, rfl, _, _, rfl, rfl, .inl ⟨by decide, by decide⟩, .int (n : Nat), rfl, .int (0 + (i : Int)), rfl, _, _, rfl, rfl, (show (0 : Int) ≤ 0 + (i : Int) by omega), _, _, rfl, rfl, _, _, rfl, rfl, some (.int (0 + (i : Int))), ?_, rfl⟩
      try dsimp only
      rw [bit_and]
      rfl
    · rintro σ G ⟨y3, rfl, rfl⟩
      rw [Int.toNat_natCast]
      exact ⟨_, rfl, q⟩
theorem two_pow6 {w : Nat} (h : w ≤ 6) : 1 ≤ 2 ^ w ∧ 2 ^ w ≤ 64 := ⟨Nat.one_le_two_pow, Nat.le_trans (Nat.pow_le_pow_right (by decide) h) (by decide)⟩
theorem shl_one (w : Nat) : (1 : Int) * 2 ^ ((w : Nat) : Int).toNat = ((2 ^ w : Nat) : Int) := by
  rw [Int.toNat_natCast, Int.one_mul, Int.natCast_pow]
  rfl
def sp_size_of (_ : PySem.W.Frag) : Sp := fun vs H Q _ => ∃ w : Nat, vs = [.int (w : Nat)] ∧ w ≤ 6 ∧ Q (.int ((2 ^ w : Nat) : Int)) H
theorem ok_size_of (T : Defs K mg) (TT : Tabs T base) : FnOk P w K mg base CX0 1 T.f_size_of T.fd_size_of ["wide"] (sp_size_of K) := by
  refine T.F_size_of.ok sc_size_of (fun vs H Q E h => ?_) (fun cdv A outer s H vs Q E hr h => ?_)
  · obtain ⟨w', rfl, hw, q⟩ := h
    rfl
  · obtain ⟨w', rfl, hw, q⟩ := h
    refine ⟨_, PSs.nox (pss_one (ps_ret (pe_op op_shl pe_int (pe_callB (call_max2 rfl) (by rfl) T.m_max bt_max (pa_cons (pv 0) (pa_cons pe_int pa_nil)))))), ?_⟩
    have e0 : (if (0 : Int) > (w' : Int) then (0 : Int) else (w' : Int)) = (w' : Int) := if_neg (by omega)
    refine ⟨.int (w' : Nat), rfl, _, _, rfl, ?_⟩
    try dsimp only
    rw [e0]
    refine ⟨_, _, rfl, rfl, ⟨(show (0 : Int) ≤ (w' : Int) by omega), (show (w' : Int) ≤ 1000000 by omega), by decide⟩, ?_⟩
    try dsimp only
    rw [shl_one]
    exact q
def sp_turned_round (_ : PySem.W.Frag) : Sp := fun vs H Q _ => ∃ w s : Nat, vs = [.int (w : Nat), .int (s : Nat)] ∧ 1 ≤ w ∧ w ≤ 6 ∧ s < 2 ^ w ∧
  ∀ H' p, Same H H' → H p = none → H' p = some (.lst ((Mk.turned w s).pl.map V.int)) → Q (.ref p) H'
theorem ok_turned_round (T : Defs K mg) (TT : Tabs T base) : FnOk P w K mg base CX0 2 T.f_turned_round T.fd_turned_round ["wide", "start"] (sp_turned_round K) := by
  have G_size_of : FnOk P w K mg base CX0 1 T.f_size_of T.fd_size_of ["wide"] (sp_size_of K) := ok_size_of T TT
  have G_last_for_first : FnOk P w K mg base CX0 1 T.f_last_for_first T.fd_last_for_first ["number", "wide"] (sp_last_for_first K) := ok_last_for_first T TT
  refine T.F_turned_round.ok sc_turned_round (fun vs H Q E h => ?_) (fun cdv A outer s H vs Q E hr h => ?_)
  · obtain ⟨w', s', rfl, w1, w2, hs, q⟩ := h
    rfl
  · obtain ⟨w', s', rfl, w1, w2, hs, q⟩ := h
    refine ⟨_, PSs.nox (pss_cons (ps_set (i := 2) sc_turned_round.nd rfl (.inr rfl) (pe_call G_size_of (hr.mono (by decide)) (by rfl) T.g_size_of T.F_size_of.kp T.b_size_of .nil pass0 (pa_cons (pv 0) pa_nil)))
    (pss_one (ps_ret (pe_lc (own := [("t", 3)]) (g := gName 3) (tt := tYes) rfl sc_turned_round.nd (pi_range1 (by rfl) T.m_range (pa_cons (pv 2) pa_nil)) (blkOk_by (N := N_turned_round) (sc := defScope s_turned_round) (by decide +kernel)) (fun _ _ _ _ _ => (pg_name (i := 3) sc_turned_round.nd rfl (.inl rfl))) (fun _ _ _ _ _ => pts_nil) (fun _ _ _ _ _ => (pe_call G_last_for_first (hr.mono (by decide)) (by rfl) T.g_last_for_first T.F_last_for_first.kp T.b_last_for_first .nil pass0 (pa_cons (pe_op op_mod (pe_op op_add (pv 1) (pv 3)) (pv 2)) (pa_cons (pv 0) pa_nil)))))))), ?_⟩
    have hsl : sizeLine = 16777216 := by decide
    have tp := two_pow6 w2
    refine ⟨.int (w' : Nat), rfl, w', rfl, w2, ?_⟩
    refine ⟨.int ((2 ^ w' : Nat) : Int), rfl, _, rfl, by omega, by omega, fun D nD => ?_⟩
    refine lc_range (fun i H1 => Same H H1 ∧ H1 D = some (.lst (((List.range i).map fun i => ((lff ((s' + i) % 2 ^ w') w' : Nat) : Int)).map V.int))) ⟨same_upd nD, upd_same⟩ (fun i H1 hi h => ?_) (fun H1 h => ?_)
    · obtain ⟨s1, hD⟩ := h
      have hi : i < 2 ^ w' := by omega
      refine ⟨rfl, yes_ite ?_⟩
      have e : ((s' : Int) + (0 + (i : Int))) % ((2 ^ w' : Nat) : Int) = (((s' + i) % 2 ^ w' : Nat) : Int) := by
        rw [Int.zero_add, Int.natCast_emod, Int.natCast_add]
      refine ⟨.int (s' : Nat), rfl, _, rfl, _, _, rfl, rfl, .int ((2 ^ w' : Nat) : Int), rfl, _, _, rfl, rfl, is_pos tp.1, .int (w' : Nat), rfl, (s' + i) % 2 ^ w', w', congrArg (fun z => [V.int z, V.int ((w' : Nat) : Int)]) e, by omega, ?_⟩
      refine ⟨_, hD, by rw [List.length_map, List.length_map, List.length_range]; omega, same_newer s1 nD, ?_⟩
      rw [upd_same, List.range_succ, List.map_append, List.map_append]
      rfl
    · obtain ⟨s1, hD⟩ := h
      rw [Int.toNat_natCast] at hD
      exact q H1 D s1 nD hD
theorem xor01 {o b : Nat} (ho : o < 2) (hb : b < 2) : Builtin.bitXor (o : Int) (b : Int) = (((o + b) % 2 : Nat) : Int) := by
  match o, b, ho, hb with
  | 0, 0, _, _ => decide
  | 0, 1, _, _ => decide
  | 1, 0, _, _ => decide
  | 1, 1, _, _ => decide
theorem and_one (x : Nat) : Builtin.bitAnd (x : Int) 1 = ((x % 2 : Nat) : Int) := by
  have h := _root_.Bits.bit_at (x := (x : Int)) 0
  rw [Int.pow_zero, Int.fdiv_one] at h
  rw [h, Int.ediv_one]
  omega
theorem parF_zero : ∀ f, parF f 0 = 0
  | 0 => rfl
  | f + 1 => by
    show (0 % 2 + parF f (0 / 2)) % 2 = 0
    rw [Nat.zero_div, parF_zero f]
def sp_odd_ones (_ : PySem.W.Frag) : Sp := fun vs H Q _ => ∃ n : Nat, vs = [.int (n : Nat)] ∧ n < 2 ^ 7 ∧ Q (.int (par n : Nat)) H
theorem ok_odd_ones (T : Defs K mg) (TT : Tabs T base) : FnOk P w K mg base CX0 1 T.f_odd_ones T.fd_odd_ones ["number"] (sp_odd_ones K) := by
  refine T.F_odd_ones.ok sc_odd_ones (fun vs H Q E h => ?_) (fun cdv A outer s H vs Q E hr h => ?_)
  · obtain ⟨n, rfl, hn, q⟩ := h
    rfl
  · obtain ⟨n, rfl, hn, q⟩ := h
    refine ⟨_, PSs.nox (pss_cons (ps_set (i := 1) sc_odd_ones.nd rfl (.inl rfl) pe_int)
    (pss_cons (ps_while PassesOwn.never (pt_cmpR op_gt (pv 0) pe_int (nomark _)) (pss_cons (ps_set (i := 1) sc_odd_ones.nd rfl (.inl rfl) (pe_op op_xor (pv 1) (pe_op op_and (pv 0) pe_int)))
    (pss_one (ps_set (i := 0) sc_odd_ones.nd rfl (.inl rfl) (pe_op op_shr (pv 0) pe_int)))))
    (pss_one (ps_ret (pv 1))))), ?_⟩
    refine ⟨fun k σ H1 => ∃ x o f : Nat, x = k ∧ σ = [some (.int (x : Nat)), some (.int (o : Nat))] ∧ H1 = H ∧ x < 2 ^ f ∧ o < 2 ∧ (o + parF f x) % 2 = par n, ⟨n, n, 0, 7, rfl, rfl, rfl, hn, by decide, by rw [Nat.zero_add]; exact Nat.mod_eq_of_lt (par_lt n)⟩, ?_⟩
    rintro k σ H1 ⟨x, o, f, rfl, rfl, rfl, hx, ho, he⟩
    refine ⟨.int (x : Nat), rfl, _, _, rfl, rfl, _, rfl, ite2 (fun e => ⟨_, fun σ' H' h => h, ?_⟩) (fun e => ?_)⟩
    · have x0 : (0 : Int) < (x : Int) := of_decide_eq_true e
      match f, hx, he with
      | 0, hx, _ =>
        exfalso
        have : x < 1 := hx
        omega
      | f + 1, hx, he =>
        refine ⟨.int (o : Nat), rfl, .int (x : Nat), rfl, _, _, rfl, rfl, _, _, rfl, rfl, ?_⟩
        refine ⟨.int (x : Nat), rfl, _, _, rfl, rfl, (show (0 : Int) ≤ 1 by decide), ?_⟩
        refine ⟨x / 2, by omega, x / 2, (o + x % 2) % 2, f, rfl, ?_, rfl, by rw [Nat.pow_succ] at hx; omega, Nat.mod_lt _ (by decide), ?_⟩
        · have e1 : (x : Int) / 2 ^ (1 : Int).toNat = ((x / 2 : Nat) : Int) := by
            show (x : Int) / 2 ^ 1 = _
            omega
          try dsimp only
          rw [and_one, xor01 ho (Nat.mod_lt _ (by decide)), e1]
          rfl
        · have : (o + (x % 2 + parF f (x / 2)) % 2) % 2 = par n := he
          omega
    · have x0 : x = 0 := by
        have : ¬ (0 : Int) < (x : Int) := fun z => e (decide_eq_true z)
        omega
      subst x0
      rw [parF_zero, Nat.add_zero, Nat.mod_eq_of_lt ho] at he
      subst he
      exact ⟨_, rfl, q⟩
theorem and_nat (x p : Nat) : Builtin.bitAnd (x : Int) (p : Int) = ((x &&& p : Nat) : Int) := by
  rw [PyProof.Rows.bitAnd_pp (by omega) (by omega), Int.toNat_natCast, Int.toNat_natCast]
def sp_held_round (_ : PySem.W.Frag) : Sp := fun vs H Q _ => ∃ w p s : Nat, vs = [.int (w : Nat), .int (p : Nat), .int (s : Nat)] ∧ (Mk.register w p s).Pl ∧
  ∀ H' a, Same H H' → H a = none → H' a = some (.lst ((Mk.register w p s).pl.map V.int)) → Q (.ref a) H'
theorem step_eq {w x p : Nat} : (2 : Int) * (x : Int) % ((2 ^ w : Nat) : Int) + ((par (x &&& p) : Nat) : Int) = ((regS w p x : Nat) : Int) := by
  unfold regS
  rw [Int.natCast_add, Int.natCast_emod, Int.natCast_mul]
  rfl
theorem ok_held_round (T : Defs K mg) (TT : Tabs T base) : FnOk P w K mg base CX0 2 T.f_held_round T.fd_held_round ["wide", "taps", "start"] (sp_held_round K) := by
  have G_size_of : FnOk P w K mg base CX0 1 T.f_size_of T.fd_size_of ["wide"] (sp_size_of K) := ok_size_of T TT
  have G_odd_ones : FnOk P w K mg base CX0 1 T.f_odd_ones T.fd_odd_ones ["number"] (sp_odd_ones K) := ok_odd_ones T TT
  refine T.F_held_round.ok sc_held_round (fun vs H Q E h => ?_) (fun cdv A outer s H vs Q E hr h => ?_)
  · obtain ⟨w', p', s', rfl, ⟨hw, s1, s2⟩, q⟩ := h
    rfl
  · obtain ⟨w', p', s', rfl, ⟨hw, s1, s2⟩, q⟩ := h
    refine ⟨_, PSs.nox (pss_cons (ps_set (i := 3) sc_held_round.nd rfl (.inl rfl) (pe_call G_size_of (hr.mono (by decide)) (by rfl) T.g_size_of T.F_size_of.kp T.b_size_of .nil pass0 (pa_cons (pv 0) pa_nil)))
    (pss_cons (ps_set (i := 4) sc_held_round.nd rfl (.inl rfl) (pe_lst pa_nil))
    (pss_cons (ps_set (i := 5) sc_held_round.nd rfl (.inl rfl) (pv 2))
    (pss_cons (ps_while PassesOwn.never (PW.pt (pw_and (pt_cmpR op_lt (pe_callB call_len_seq (by rfl) T.m_len bt_len (pa_cons (pv 4) pa_nil)) (pv 3) (nomark _)) (pw_and1 (PW.pt (pw_or (pt_cmpR op_ne (pv 5) (pv 2) (nomark _)) (pw_or1 (pt_not (pt_truth (pv 4) (by intro _; rfl))))))))) (pss_cons (ps_expr (pe_bm PySem.F.plainAttrs_list PySem.F.slot_list_append PySem.F.type_list_append mt_append (pv 4) (pa_cons (pv 5) pa_nil)))
    (pss_one (ps_set (i := 5) sc_held_round.nd rfl (.inl rfl) (pe_op op_add (pe_op op_mod (pe_op op_mul pe_int (pv 5)) (pv 3)) (pe_call G_odd_ones (hr.mono (by decide)) (by rfl) T.g_odd_ones T.F_odd_ones.kp T.b_odd_ones .nil pass0 (pa_cons (pe_op op_and (pv 5) (pv 1)) pa_nil)))))))
    (pss_one (ps_ret (pv 4))))))), ?_⟩
    have hsl : sizeLine = 16777216 := by decide
    have tp := two_pow6 hw.hi
    have ip := per_is hw s2
    refine ⟨.int (w' : Nat), rfl, w', rfl, hw.hi, ?_⟩
    obtain ⟨n, hn⟩ : ∃ n, 2 ^ w' = n := ⟨_, rfl⟩
    rw [hn] at tp ⊢
    refine ⟨Nat.zero_le _, fun l nl => ?_⟩
    refine ⟨.int (s' : Nat), rfl, ?_⟩
    refine ⟨fun m σ H1 => ∃ k : Nat, m = n - k ∧ k ≤ n ∧ σ = [some (.int (w' : Nat)), some (.int (p' : Nat)), some (.int (s' : Nat)), some (.int (n : Nat)), some (.ref l), some (.int (regA w' p' s' k : Nat))] ∧ Same H H1 ∧ H1 l = some (.lst (((List.range k).map fun k => ((regA w' p' s' k : Nat) : Int)).map V.int)) ∧ ∀ j, 0 < j → j < k → regA w' p' s' j ≠ s', ⟨n, 0, by omega, by omega, rfl, same_upd nl, upd_same, fun j h0 h1 => by omega⟩, ?_⟩
    rintro m σ H1 ⟨k, rfl, hk, rfl, sH, hl, hf⟩
    have ll : (((List.range k).map fun k => ((regA w' p' s' k : Nat) : Int)).map V.int).length = k := by rw [List.length_map, List.length_map, List.length_range]
    have done : IsPer w' p' s' k → Q (.ref l) H1 := fun h => q H1 l sH nl (by
      rw [hl]
      show _ = some (HO.lst (((List.range (per w' p' s')).map fun k => ((regA w' p' s' k : Nat) : Int)).map V.int))
      rw [per_eq hw s2 h])
    have alt : regA w' p' s' k < 2 ^ w' := regA_lt hw s2 k
    have go : k < n → ∃ v, some (V.ref l) = some v ∧ True := fun _ => ⟨_, rfl, trivial⟩
    clear go
    refine ⟨.ref l, rfl, l, _, rfl, .inl (SqL.mk hl), .int (n : Nat), rfl, _, _, rfl, rfl, _, rfl, ?_⟩
    rw [ll]
    have body : ∀ (b : Prop), k < n → b → k < n := fun _ h _ => h
    clear body
    by_cases kn : k < n
    · rw [decide_eq_true (show (k : Int) < (n : Int) by omega)]
      refine iteT ?_
      refine ⟨_, rfl, .int (s' : Nat), rfl, rfl, _, rfl, ?_⟩
      by_cases es : regA w' p' s' k = s'
      · rw [show (!decide (V.int ((regA w' p' s' k : Nat) : Int) = V.int ((s' : Nat) : Int))) = false by rw [es, decide_eq_true rfl]; rfl]
        refine iteF ?_
        refine ⟨.ref l, rfl, _, .inl ⟨_, SqL.mk hl, rfl⟩, ?_⟩
        match k, kn, hk, hl, hf, done, alt, es with
        | 0, kn, hk, hl, hf, done, alt, es =>
          refine iteT ⟨_, fun σ' H' h => h, ?_⟩
          refine ⟨.ref l, rfl, .inl ⟨rfl, _, SqL.mk hl⟩, _, rfl, l, _, _, rfl, rfl, hl, (show 0 < sizeLine by decide), ?_⟩
          refine ⟨_, rfl, _, _, rfl, rfl, .inl ⟨by decide, by decide⟩, .int (n : Nat), rfl, _, _, rfl, rfl, is_pos tp.1, _, rfl, .int (p' : Nat), rfl, _, _, rfl, rfl, (regA w' p' s' 0 &&& p'), congrArg (fun z => [V.int z]) (and_nat _ _), Nat.lt_of_le_of_lt Nat.and_le_left (Nat.lt_of_lt_of_le alt (Nat.pow_le_pow_right (by decide) (by have := hw.hi; omega))), _, _, rfl, rfl, ?_⟩
          refine ⟨n - 1, by omega, 1, rfl, by omega, ?_, same_newer sH nl, by rw [upd_same]; rfl, fun j h0 h1 => by omega⟩
          try dsimp only
          rw [← hn, step_eq]
          rfl
        | k + 1, kn, hk, hl, hf, done, alt, es =>
          have nz : (!(((List.range (k + 1)).map fun k => ((regA w' p' s' k : Nat) : Int)).map V.int).isEmpty) = true := by
            rw [List.range_succ_eq_map]
            rfl
          rw [nz]
          refine iteF ?_
          exact ⟨.ref l, rfl, done ⟨by omega, by omega, es, hf⟩⟩
      · rw [show (!decide (V.int ((regA w' p' s' k : Nat) : Int) = V.int ((s' : Nat) : Int))) = true by
          rw [decide_eq_false (fun z => es (by have := V.int.inj z; omega))]
          rfl]
        refine iteT (iteT ⟨_, fun σ' H' h => h, ?_⟩)
        refine ⟨.ref l, rfl, .inl ⟨rfl, _, SqL.mk hl⟩, _, rfl, l, _, _, rfl, rfl, hl, by rw [ll]; omega, ?_⟩
        refine ⟨_, rfl, _, _, rfl, rfl, .inl ⟨by decide, by decide⟩, .int (n : Nat), rfl, _, _, rfl, rfl, is_pos tp.1, _, rfl, .int (p' : Nat), rfl, _, _, rfl, rfl, (regA w' p' s' k &&& p'), congrArg (fun z => [V.int z]) (and_nat _ _), Nat.lt_of_le_of_lt Nat.and_le_left (Nat.lt_of_lt_of_le alt (Nat.pow_le_pow_right (by decide) (by have := hw.hi; omega))), _, _, rfl, rfl, ?_⟩
        refine ⟨n - (k + 1), by omega, k + 1, rfl, by omega, ?_, same_newer sH nl, ?_, fun j h0 h1 => ?_⟩
        · try dsimp only
          rw [← hn, step_eq]
          rfl
        · rw [upd_same, List.range_succ, List.map_append, List.map_append]
          rfl
        · by_cases z : j = k
          · rw [z]
            exact es
          · exact hf j h0 (by omega)
    · rw [decide_eq_false (show ¬ (k : Int) < (n : Int) by omega)]
      refine iteF (iteF ?_)
      have kp : per w' p' s' = k := by
        have h1 := ip.le
        have h2 : ¬ per w' p' s' < k := fun z => hf _ ip.pos z ip.back
        omega
      refine ⟨.ref l, rfl, done ?_⟩
      rw [← kp]
      exact ip
def sp_plain_round (_ : PySem.W.Frag) : Sp := fun vs H Q _ => ∃ m v, vs = [v] ∧ MkAt H m v ∧ m.Pl ∧
  ∀ H' p, Same H H' → H p = none → H' p = some (.lst (m.pl.map V.int)) → Q (.ref p) H'
theorem ok_plain_round (T : Defs K mg) (TT : Tabs T base) : FnOk P w K mg base CX0 3 T.f_plain_round T.fd_plain_round ["maker"] (sp_plain_round K) := by
  have G_counter_round : FnOk P w K mg base CX0 1 T.f_counter_round T.fd_counter_round ["size", "step", "start"] (sp_counter_round K) := ok_counter_round T TT
  have G_turned_round : FnOk P w K mg base CX0 2 T.f_turned_round T.fd_turned_round ["wide", "start"] (sp_turned_round K) := ok_turned_round T TT
  have G_held_round : FnOk P w K mg base CX0 2 T.f_held_round T.fd_held_round ["wide", "taps", "start"] (sp_held_round K) := ok_held_round T TT
  refine T.F_plain_round.ok sc_plain_round (fun vs H Q E h => ?_) (fun cdv A outer s H vs Q E hr h => ?_)
  · obtain ⟨m, v, rfl, hm, pl, q⟩ := h
    rfl
  · obtain ⟨m, v, rfl, hm, pl, q⟩ := h
    refine ⟨_, PSs.nox (pss_one (ps_match (pv 0) (pcs_seq rfl sc_plain_round.nd pe_str (pcap_cons (i := 1) rfl (.inl rfl) (pcap_cons (i := 2) rfl (.inl rfl) (pcap_cons (i := 3) rfl (.inl rfl) pcap_nil))) (pss_one (ps_ret (pe_call G_counter_round (hr.mono (by decide)) (by rfl) T.g_counter_round T.F_counter_round.kp T.b_counter_round .nil pass0 (pa_cons (pv 1) (pa_cons (pv 2) (pa_cons (pv 3) pa_nil))))))
    (pcs_seq rfl sc_plain_round.nd pe_str (pcap_cons (i := 4) rfl (.inl rfl) (pcap_cons (i := 3) rfl (.inl rfl) pcap_nil)) (pss_one (ps_ret (pe_call G_turned_round (hr.mono (by decide)) (by rfl) T.g_turned_round T.F_turned_round.kp T.b_turned_round .nil pass0 (pa_cons (pv 4) (pa_cons (pv 3) pa_nil)))))
    (pcs_seq rfl sc_plain_round.nd pe_str (pcap_cons (i := 4) rfl (.inl rfl) (pcap_cons (i := 5) rfl (.inl rfl) (pcap_cons (i := 3) rfl (.inl rfl) pcap_nil))) (pss_one (ps_ret (pe_call G_held_round (hr.mono (by decide)) (by rfl) T.g_held_round T.F_held_round.kp T.b_held_round .nil pass0 (pa_cons (pv 4) (pa_cons (pv 5) (pa_cons (pv 3) pa_nil))))))
    (pcs_seq rfl sc_plain_round.nd pe_str (pcap_cons (i := 6) rfl (.inl rfl) pcap_nil) (pss_one (ps_ret (pe_callTy call_list_of (by rfl) T.m_list bt_list (pa_cons (pv 6) pa_nil))))
    pcs_nil)))))), ?_⟩
    cases m with
    | counter r s' t =>
      obtain ⟨a, rfl, ha⟩ := hm
      refine ⟨.ref a, rfl, a, _, rfl, SqT.mk ha, .inr ⟨_, _, rfl, rfl, .inl ⟨rfl, ?_⟩⟩⟩
      exact ⟨.int (r : Nat), rfl, .int (s' : Nat), rfl, .int (t : Nat), rfl, r, s', t, rfl, pl.1, pl.2.1, pl.2.2.1, pl.2.2.2, q⟩
    | turned w' s' =>
      obtain ⟨a, rfl, ha⟩ := hm
      refine ⟨.ref a, rfl, a, _, rfl, SqT.mk ha, .inl ⟨by simp, .inr ⟨_, _, rfl, rfl, .inl ⟨rfl, ?_⟩⟩⟩⟩
      exact ⟨.int (w' : Nat), rfl, .int (s' : Nat), rfl, w', s', rfl, pl.1, pl.2.1, pl.2.2, q⟩
    | table ns =>
      obtain ⟨a, b, rfl, ha, hb⟩ := hm
      refine ⟨.ref a, rfl, a, _, rfl, SqT.mk ha, .inl ⟨by simp, .inl ⟨by simp, .inl ⟨by simp, .inr ⟨_, _, rfl, rfl, .inl ⟨rfl, ?_⟩⟩⟩⟩⟩⟩
      exact ⟨.ref b, rfl, b, _, rfl, .inr (SqT.mk hb), fun l nl => q _ l (same_upd nl) nl upd_same⟩
    | register w' p' s' =>
      obtain ⟨a, rfl, ha⟩ := hm
      refine ⟨.ref a, rfl, a, _, rfl, SqT.mk ha, .inr ⟨_, _, rfl, rfl, .inr ⟨by decide +kernel, .inl ⟨by simp, .inr ⟨_, _, rfl, rfl, .inl ⟨rfl, ?_⟩⟩⟩⟩⟩⟩
      exact ⟨.int (w' : Nat), rfl, .int (p' : Nat), rfl, .int (s' : Nat), rfl, w', p', s', rfl, pl, q⟩
    | _ => exact pl.elim
/-! the program: rounds, tops, numbers at beats -/
def spr_round_of (d : Nat) (_ : PySem.W.Frag) : Sp := fun vs H Q _ => ∃ m v, vs = [v] ∧ MkAt H m v ∧ m.Ok ∧ m.dep < d ∧ ∀ H', Same H H' → Q (.int (m.rnd : Nat)) H'
theorem no_round_of {K : PySem.W.Frag} {vs : List V} {H : Hp} {Q : VK} {E : XK} (h : spr_round_of 0 K vs H Q E) : False := by
  obtain ⟨m, v, _, _, _, z, _⟩ := h
  exact Nat.not_lt_zero _ z
theorem gcd_le {a n : Nat} : 1 ≤ Nat.gcd a (n + 1) ∧ Nat.gcd a (n + 1) ≤ n + 1 := ⟨Nat.gcd_pos_of_pos_right _ (by omega), Nat.le_of_dvd (by omega) (Nat.gcd_dvd_right _ _)⟩
theorem okr_round_of (T : Defs K mg) (TT : Tabs T base) : ∀ d : Nat, FnOk P w K mg base CX0 (4 + d) T.f_round_of T.fd_round_of ["maker"] (spr_round_of d K)
  | 0 => ⟨fun _ _ _ _ z => (no_round_of z).elim, fun _ _ _ _ _ _ _ _ _ _ _ _ _ z => (no_round_of z).elim⟩
  | d + 1 => by
    have G_round_of : FnOk P w K mg base CX0 (4 + d) T.f_round_of T.fd_round_of ["maker"] (spr_round_of d K) := okr_round_of T TT d
    have G_common_divisor : FnOk P w K mg base CX0 1 T.f_common_divisor T.fd_common_divisor ["one", "other"] (sp_common_divisor K) := ok_common_divisor T TT
    have G_plain_round : FnOk P w K mg base CX0 3 T.f_plain_round T.fd_plain_round ["maker"] (sp_plain_round K) := ok_plain_round T TT
    show FnOk P w K mg base CX0 ((4 + d) + 1) T.f_round_of T.fd_round_of ["maker"] (spr_round_of (d + 1) K)
    refine T.F_round_of.ok sc_round_of (fun vs H Q E h => ?_) (fun cdv A outer s H vs Q E hr h => ?_)
    · obtain ⟨m, v, rfl, hm, ok, dp, q⟩ := h
      rfl
    · obtain ⟨m, v, rfl, hm, ok, dp, q⟩ := h
      refine ⟨_, PSs.nox (pss_one (ps_match (pv 0) (pcs_seq rfl sc_round_of.nd pe_str (pcap_cons (i := 1) rfl (.inl rfl) (pcap_cons (i := 2) rfl (.inl rfl) pcap_nil)) (pss_one (ps_ret (pe_op op_mul (pv 1) (pe_call G_round_of (hr.mono (by omega)) (by rfl) T.g_round_of T.F_round_of.kp T.b_round_of .nil pass0 (pa_cons (pv 2) pa_nil)))))
    (pcs_seq rfl sc_round_of.nd pe_str (pcap_cons (i := 1) rfl (.inl rfl) (pcap_cons (i := 2) rfl (.inl rfl) pcap_nil)) (pss_cons (ps_set (i := 3) sc_round_of.nd rfl (.inl rfl) (pe_call G_round_of (hr.mono (by omega)) (by rfl) T.g_round_of T.F_round_of.kp T.b_round_of .nil pass0 (pa_cons (pv 2) pa_nil)))
    (pss_one (ps_ret (pe_op op_fdiv (pe_op op_mul (pv 1) (pv 3)) (pe_call G_common_divisor (hr.mono (by omega)) (by rfl) T.g_common_divisor T.F_common_divisor.kp T.b_common_divisor .nil pass0 (pa_cons (pv 3) (pa_cons (pe_op op_add (pv 1) pe_int) pa_nil)))))))
    (pcs_seq rfl sc_round_of.nd pe_str (pcap_cons (i := 4) rfl (.inl rfl) (pcap_cons (i := 2) rfl (.inl rfl) pcap_nil)) (pss_one (ps_ret (pe_call G_round_of (hr.mono (by omega)) (by rfl) T.g_round_of T.F_round_of.kp T.b_round_of .nil pass0 (pa_cons (pv 2) pa_nil))))
    (pcs_any (pss_one (ps_ret (pe_callB call_len_seq (by rfl) T.m_len bt_len (pa_cons (pe_call G_plain_round (hr.mono (by omega)) (by rfl) T.g_plain_round T.F_plain_round.kp T.b_plain_round .nil pass0 (pa_cons (pv 0) pa_nil)) pa_nil)))))))))), ?_⟩
      cases m with
      | slow n m =>
        obtain ⟨a, x, rfl, ha, hx⟩ := hm
        have dp : m.dep + 1 < d + 1 := dp
        refine ⟨.ref a, rfl, a, _, rfl, SqT.mk ha, .inr ⟨_, _, rfl, rfl, .inl ⟨rfl, ?_⟩⟩⟩
        refine ⟨.int (n : Nat), rfl, x, rfl, m, x, rfl, hx, ok.2.2, by omega, fun H1 s1 => ?_⟩
        refine ⟨_, _, rfl, rfl, .inl ⟨(show -(2 ^ 64) < (n : Int) by omega), (show (n : Int) < 2 ^ 64 by have := ok.2.1; omega)⟩, ?_⟩
        have e : (n : Int) * (m.rnd : Int) = (((Mk.slow n m).rnd : Nat) : Int) := (Int.natCast_mul n m.rnd).symm
        try dsimp only
        rw [e]
        exact q H1 s1
      | slip n m =>
        obtain ⟨a, x, rfl, ha, hx⟩ := hm
        have dp : m.dep + 1 < d + 1 := dp
        refine ⟨.ref a, rfl, a, _, rfl, SqT.mk ha, .inr ⟨_, _, rfl, rfl, .inr ⟨by decide +kernel, .inr ⟨_, _, rfl, rfl, .inl ⟨rfl, ?_⟩⟩⟩⟩⟩
        refine ⟨x, rfl, m, x, rfl, hx, ok.2.2, by omega, fun H1 s1 => ?_⟩
        refine ⟨.int (n : Nat), rfl, .int (m.rnd : Nat), rfl, _, _, rfl, rfl, .inl ⟨(show -(2 ^ 64) < (n : Int) by omega), (show (n : Int) < 2 ^ 64 by have := ok.2.1; omega)⟩, .int (m.rnd : Nat), rfl, .int (n : Nat), rfl, _, _, rfl, rfl, _, _, rfl, ?_⟩
        have g := gcd_le (a := m.rnd) (n := n)
        have eg : Int.gcd (m.rnd : Int) ((n : Int) + 1) = Nat.gcd m.rnd (n + 1) := rfl
        have ef : (if (1 : Int) > (Int.gcd (m.rnd : Int) ((n : Int) + 1) : Int) then 1 else (Int.gcd (m.rnd : Int) ((n : Int) + 1) : Int)) = ((Nat.gcd m.rnd (n + 1) : Nat) : Int) := by
          rw [eg]
          split <;> omega
        rw [ef]
        have n2 := ok.2.1
        refine ⟨_, _, rfl, rfl, ⟨(show (0 : Int) < ((Nat.gcd m.rnd (n + 1) : Nat) : Int) by omega), (show ((Nat.gcd m.rnd (n + 1) : Nat) : Int) < 1073741824 by omega)⟩, ?_⟩
        have e : (n : Int) * (m.rnd : Int) / ((Nat.gcd m.rnd (n + 1) : Nat) : Int) = (((Mk.slip n m).rnd : Nat) : Int) := by
          rw [← Int.natCast_mul, ← Int.natCast_ediv]
          rfl
        try dsimp only
        rw [e]
        exact q H1 s1
      | late n m =>
        obtain ⟨a, x, rfl, ha, hx⟩ := hm
        have dp : m.dep + 1 < d + 1 := dp
        refine ⟨.ref a, rfl, a, _, rfl, SqT.mk ha, .inr ⟨_, _, rfl, rfl, .inr ⟨by decide +kernel, .inr ⟨_, _, rfl, rfl, .inr ⟨by decide +kernel, .inr ⟨_, _, rfl, rfl, .inl ⟨rfl, ?_⟩⟩⟩⟩⟩⟩⟩
        exact ⟨x, rfl, m, x, rfl, hx, ok.2, by omega, fun H1 s1 => q H1 s1⟩
      | counter r s' t =>
        obtain ⟨a, rfl, ha⟩ := id hm
        refine ⟨.ref a, rfl, a, _, rfl, SqT.mk ha, .inl ⟨by simp, .inl ⟨by simp, .inl ⟨by simp, ?_⟩⟩⟩⟩
        refine ⟨.ref a, rfl, .counter r s' t, _, rfl, hm, ok, fun H1 p s1 np hp => ⟨p, _, rfl, .inl (SqL.mk hp), ?_⟩⟩
        rw [List.length_map]
        exact q H1 s1
      | turned w' s' =>
        obtain ⟨a, rfl, ha⟩ := id hm
        refine ⟨.ref a, rfl, a, _, rfl, SqT.mk ha, .inr ⟨_, _, rfl, rfl, .inr ⟨by decide +kernel, .inr ⟨_, _, rfl, rfl, .inr ⟨by decide +kernel, .inr ⟨_, _, rfl, rfl, .inr ⟨by decide +kernel, ?_⟩⟩⟩⟩⟩⟩⟩
        refine ⟨.ref a, rfl, .turned w' s', _, rfl, hm, ok, fun H1 p s1 np hp => ⟨p, _, rfl, .inl (SqL.mk hp), ?_⟩⟩
        rw [List.length_map]
        exact q H1 s1
      | table ns =>
        obtain ⟨a, b, rfl, ha, hb⟩ := id hm
        refine ⟨.ref a, rfl, a, _, rfl, SqT.mk ha, .inl ⟨by simp, .inl ⟨by simp, .inl ⟨by simp, ?_⟩⟩⟩⟩
        refine ⟨.ref a, rfl, .table ns, _, rfl, hm, ok, fun H1 p s1 np hp => ⟨p, _, rfl, .inl (SqL.mk hp), ?_⟩⟩
        rw [List.length_map]
        exact q H1 s1
      | register w' p s' =>
        obtain ⟨a, rfl, ha⟩ := id hm
        refine ⟨.ref a, rfl, a, _, rfl, SqT.mk ha, .inl ⟨by simp, .inl ⟨by simp, .inl ⟨by simp, ?_⟩⟩⟩⟩
        refine ⟨.ref a, rfl, .register w' p s', _, rfl, hm, ok, fun H1 p s1 np hp => ⟨p, _, rfl, .inl (SqL.mk hp), ?_⟩⟩
        rw [List.length_map]
        exact q H1 s1
def sp_round_of (K : PySem.W.Frag) : Sp := spr_round_of 5 K
theorem ok_round_of (T : Defs K mg) (TT : Tabs T base) : FnOk P w K mg base CX0 9 T.f_round_of T.fd_round_of ["maker"] (sp_round_of K) := okr_round_of T TT 5
def sp_top_of (_ : PySem.W.Frag) : Sp := fun vs H Q _ => ∃ m v, vs = [v] ∧ MkAt H m v ∧ m.Ok ∧ ∀ H' z, Same H H' → m.inn.Top z → Q (.int z) H'
theorem ok_top_of (T : Defs K mg) (TT : Tabs T base) : FnOk P w K mg base CX0 2 T.f_top_of T.fd_top_of ["maker"] (sp_top_of K) := by
  have G_innermost : FnOk P w K mg base CX0 1 T.f_innermost T.fd_innermost ["maker"] (sp_innermost K) := ok_innermost T TT
  have G_size_of : FnOk P w K mg base CX0 1 T.f_size_of T.fd_size_of ["wide"] (sp_size_of K) := ok_size_of T TT
  refine T.F_top_of.ok sc_top_of (fun vs H Q E h => ?_) (fun cdv A outer s H vs Q E hr h => ?_)
  · obtain ⟨m, v, rfl, hm, ok, q⟩ := h
    rfl
  · obtain ⟨m, v, rfl, hm, ok, q⟩ := h
    refine ⟨_, PSs.nox (pss_one (ps_match (pe_call G_innermost (hr.mono (by decide)) (by rfl) T.g_innermost T.F_innermost.kp T.b_innermost .nil pass0 (pa_cons (pv 0) pa_nil)) (pcs_seq rfl sc_top_of.nd pe_str (pcap_cons (i := 1) rfl (.inl rfl) (pcap_cons (i := 2) rfl (.inl rfl) (pcap_cons (i := 3) rfl (.inl rfl) pcap_nil))) (pss_one (ps_ret (pv 1)))
    (pcs_seq rfl sc_top_of.nd pe_str (pcap_cons (i := 4) rfl (.inl rfl) pcap_nil) (pss_one (ps_ret (pe_op op_add (pe_callBK (cr_maxTD rfl) (by rfl) T.m_max bt_max (pa_cons (pv 4) pa_nil) (pk_cons (pe_un un_neg pe_int) pk_nil)) pe_int)))
    (pcs_seq rfl sc_top_of.nd pe_str (pcap_cons (i := 5) rfl (.inl rfl) (pcap_cons (i := 3) rfl (.inl rfl) pcap_nil)) (pss_one (ps_ret (pe_call G_size_of (hr.mono (by decide)) (by rfl) T.g_size_of T.F_size_of.kp T.b_size_of .nil pass0 (pa_cons (pv 5) pa_nil))))
    (pcs_seq rfl sc_top_of.nd pe_str (pcap_cons (i := 5) rfl (.inl rfl) (pcap_cons (i := 6) rfl (.inl rfl) (pcap_cons (i := 3) rfl (.inl rfl) pcap_nil))) (pss_one (ps_ret (pe_call G_size_of (hr.mono (by decide)) (by rfl) T.g_size_of T.F_size_of.kp T.b_size_of .nil pass0 (pa_cons (pv 5) pa_nil))))
    pcs_nil)))))), ?_⟩
    refine ⟨v, rfl, m, v, rfl, hm, fun H1 u s1 hu => ?_⟩
    have pl := ok.inn
    generalize m.inn = b at hu pl q
    cases b with
    | counter r s' t =>
      obtain ⟨a, rfl, ha⟩ := hu
      refine ⟨a, _, rfl, SqT.mk ha, .inr ⟨_, _, rfl, rfl, .inl ⟨rfl, ?_⟩⟩⟩
      exact ⟨.int (r : Nat), rfl, q H1 _ s1 rfl⟩
    | table ns =>
      obtain ⟨a, b, rfl, ha, hb⟩ := hu
      refine ⟨a, _, rfl, SqT.mk ha, .inl ⟨by simp, .inr ⟨_, _, rfl, rfl, .inl ⟨rfl, ?_⟩⟩⟩⟩
      refine ⟨.ref b, rfl, 1, rfl, ⟨_, rfl⟩, b, ns, rfl, SqT.mk hb, by have := pl.1; omega, fun M hM hle => ⟨_, _, rfl, rfl, ?_⟩⟩
      exact q H1 _ s1 ⟨M, hM, hle, rfl⟩
    | turned w' s' =>
      obtain ⟨a, rfl, ha⟩ := hu
      refine ⟨a, _, rfl, SqT.mk ha, .inl ⟨by simp, .inl ⟨by simp, .inr ⟨_, _, rfl, rfl, .inl ⟨rfl, ?_⟩⟩⟩⟩⟩
      refine ⟨.int (w' : Nat), rfl, w', rfl, pl.2.1, ?_⟩
      exact q H1 _ s1 rfl
    | register w' p' s' =>
      obtain ⟨a, rfl, ha⟩ := hu
      refine ⟨a, _, rfl, SqT.mk ha, .inr ⟨_, _, rfl, rfl, .inr ⟨by decide +kernel, .inl ⟨by simp, .inl ⟨by simp, .inr ⟨_, _, rfl, rfl, .inl ⟨rfl, ?_⟩⟩⟩⟩⟩⟩⟩
      refine ⟨.int (w' : Nat), rfl, w', rfl, pl.1.hi, ?_⟩
      exact q H1 _ s1 rfl
    | _ => exact pl.elim
theorem pl_at {m : Mk} (h : m.Pl) (t : Int) : atI (m.pl.map V.int) (t % (m.pl.length : Int)) = some (.int (m.pl.getD (t % (m.pl.length : Int)).toNat 0)) := by
  have hl := h.len
  have h1 := Int.emod_nonneg t (show (m.pl.length : Int) ≠ 0 by omega)
  have h2 := Int.emod_lt_of_pos t (show (0 : Int) < (m.pl.length : Int) by omega)
  obtain ⟨j, hj⟩ := Int.eq_ofNat_of_zero_le h1
  rw [hj] at h2 ⊢
  have hj2 : j < m.pl.length := by omega
  refine atI_nat ?_
  rw [List.getElem?_map, List.getElem?_eq_getElem hj2, Int.toNat_natCast, List.getD_eq_getElem?_getD, List.getElem?_eq_getElem hj2]
  rfl
def sp_values_at (_ : PySem.W.Frag) : Sp := fun vs H Q _ => ∃ m v b ts, vs = [v, .ref b] ∧ MkAt H m v ∧ m.Ok ∧ H b = some (.lst ((ts : List Int).map V.int)) ∧ ts.length ≤ 100000 ∧
  ∀ H' p, Same H H' → H p = none → H' p = some (.lst ((ts.map m.val).map V.int)) → Q (.ref p) H'
theorem ok_values_at (T : Defs K mg) (TT : Tabs T base) : FnOk P w K mg base CX0 4 T.f_values_at T.fd_values_at ["maker", "beats"] (sp_values_at K) := by
  have G_plain_round : FnOk P w K mg base CX0 3 T.f_plain_round T.fd_plain_round ["maker"] (sp_plain_round K) := ok_plain_round T TT
  have G_innermost : FnOk P w K mg base CX0 1 T.f_innermost T.fd_innermost ["maker"] (sp_innermost K) := ok_innermost T TT
  have G_inner_beat : FnOk P w K mg base CX0 1 T.f_inner_beat T.fd_inner_beat ["maker", "t"] (sp_inner_beat K) := ok_inner_beat T TT
  refine T.F_values_at.ok sc_values_at (fun vs H Q E h => ?_) (fun cdv A outer s H vs Q E hr h => ?_)
  · obtain ⟨m, v, b, ts, rfl, hm, ok, hb, hl, q⟩ := h
    rfl
  · obtain ⟨m, v, b, ts, rfl, hm, ok, hb, hl, q⟩ := h
    refine ⟨_, PSs.nox (pss_cons (ps_set (i := 2) sc_values_at.nd rfl (.inr rfl) (pe_orT (pe_call G_plain_round (hr.mono (by decide)) (by rfl) T.g_plain_round T.F_plain_round.kp T.b_plain_round .nil pass0 (pa_cons (pe_call G_innermost (hr.mono (by decide)) (by rfl) T.g_innermost T.F_innermost.kp T.b_innermost .nil pass0 (pa_cons (pv 0) pa_nil)) pa_nil)) (pe_one (pe_lst (pa_cons pe_int pa_nil)))))
    (pss_one (ps_ret (pe_lc (own := [("t", 3)]) (g := gName 3) (tt := tYes) rfl sc_values_at.nd (pi_list (pv 1)) (blkOk_by (N := N_values_at) (sc := defScope s_values_at) (by decide +kernel)) (fun _ _ _ _ _ => (pg_name (i := 3) sc_values_at.nd rfl (.inl rfl))) (fun _ _ _ _ _ => pts_nil) (fun _ _ _ _ _ => (pe_ix (ixlK (K := K) rfl) (pv 2) (pe_op op_mod (pe_call G_inner_beat (hr.mono (by decide)) (by rfl) T.g_inner_beat T.F_inner_beat.kp T.b_inner_beat .nil pass0 (pa_cons (pv 0) (pa_cons (pv 3) pa_nil))) (pe_callB (lenK (K := K) rfl) (by rfl) T.m_len bt_len (pa_cons (pv 2) pa_nil))) (fun _ _ => rfl))))))), ?_⟩
    have hsl : sizeLine = 16777216 := by decide
    refine ⟨v, rfl, m, v, rfl, hm, fun H1 u s1 hu => ?_⟩
    refine ⟨m.inn, u, rfl, hu, ok.inn, fun H2 p s2 np hp => ?_⟩
    have ll := ok.inn.len
    refine ⟨true, .inl ⟨_, SqL.mk hp, ?_⟩, ?_⟩
    · cases e : m.inn.pl with
      | nil =>
        rw [e] at ll
        exact absurd ll.1 (by decide)
      | cons x r => rfl
    refine iteT ?_
    have s12 := s1.trans s2
    refine ⟨.ref b, rfl, b, rfl, ⟨_, SqL.mk (s12 _ _ hb)⟩, fun D nD => ?_⟩
    refine lc_list (xs := ts.map V.int) (fun i H3 => Same H2 H3 ∧ H3 D = some (.lst (((ts.take i).map m.val).map V.int))) ⟨same_upd nD, upd_same⟩ (fun i H3 _ h => SqL.mk (h.1 _ _ (s12 _ _ hb))) (fun i x H3 hx h => ?_) (fun H3 h => ?_)
    · obtain ⟨s3, hD⟩ := h
      rw [List.getElem?_map] at hx
      obtain ⟨t, ht, rfl⟩ := Option.map_eq_some_iff.mp hx
      have hi := (List.getElem?_eq_some_iff.mp ht).1
      refine ⟨rfl, yes_ite ?_⟩
      refine ⟨.ref p, rfl, v, rfl, _, rfl, m, v, t, rfl, (hm.same s12).same s3, ok, fun H4 s4 => ?_⟩
      have hp4 := s4 _ _ (s3 _ _ hp)
      refine ⟨.ref p, rfl, p, _, rfl, .inl (SqL.mk hp4), _, _, rfl, rfl, by rw [List.length_map]; exact is_pos ll.1, p, _, _, .int (m.val t), rfl, rfl, SqL.mk hp4, ?_, ?_⟩
      · rw [List.length_map]
        exact pl_at ok.inn (m.bt t)
      · refine ⟨_, s4 _ _ hD, by rw [List.length_map, List.length_map, List.length_take]; omega, same_newer (s3.trans s4) nD, ?_⟩
        rw [upd_same, List.take_add_one, ht, List.map_append, List.map_append]
        rfl
    · obtain ⟨s3, hD⟩ := h
      rw [List.length_map, List.take_length] at hD
      exact q H3 D (s12.trans s3) (s12.free nD) hD
def sp_value_at (_ : PySem.W.Frag) : Sp := fun vs H Q _ => ∃ m v t, vs = [v, .int t] ∧ MkAt H m v ∧ m.Ok ∧ ∀ H', Same H H' → Q (.int (m.val t)) H'
def sp_values_of (_ : PySem.W.Frag) : Sp := fun vs H Q _ => ∃ m v, ∃ n : Nat, vs = [v, .int (n : Nat)] ∧ MkAt H m v ∧ m.Ok ∧ n ≤ 100000 ∧
  ∀ H' p, Same H H' → H p = none → H' p = some (.lst (((List.range n).map fun (i : Nat) => m.val i).map V.int)) → Q (.ref p) H'
theorem ok_values_of (T : Defs K mg) (TT : Tabs T base) : FnOk P w K mg base CX0 5 T.f_values_of T.fd_values_of ["maker", "beats"] (sp_values_of K) := by
  have G_values_at : FnOk P w K mg base CX0 4 T.f_values_at T.fd_values_at ["maker", "beats"] (sp_values_at K) := ok_values_at T TT
  refine T.F_values_of.ok sc_values_of (fun vs H Q E h => ?_) (fun cdv A outer s H vs Q E hr h => ?_)
  · obtain ⟨m, v, n, rfl, hm, ok, hn, q⟩ := h
    rfl
  · obtain ⟨m, v, n, rfl, hm, ok, hn, q⟩ := h
    refine ⟨_, PSs.nox (pss_one (ps_ret (pe_call G_values_at (hr.mono (by decide)) (by rfl) T.g_values_at T.F_values_at.kp T.b_values_at .nil pass0 (pa_cons (pv 0) (pa_cons (pe_listRg rfl (by rfl) T.m_list (prg_1 (by rfl) T.m_range (pv 1))) pa_nil))))), ?_⟩
    refine ⟨v, rfl, .int (n : Nat), rfl, (n : Nat), rfl, RgOk.of_le (Int.le_refl 0) (by omega) (by decide) (by omega), fun l nl => ?_⟩
    refine ⟨m, v, l, (List.range n).map fun (i : Nat) => (i : Int), rfl, hm.same (same_upd nl), ok, ?_, by rw [List.length_map, List.length_range]; exact hn, fun H1 p s1 np hp => ?_⟩
    · rw [upd_same]
      unfold rgV
      rw [List.map_map, show ((n : Int) - 0).toNat = n by omega]
      congr 2
      apply List.map_congr_left
      intro i _
      show V.int (0 + (i : Int)) = V.int (i : Int)
      rw [Int.zero_add]
    · refine q H1 p ((same_upd nl).trans s1) ((same_upd nl).free np) ?_
      rw [hp]
      simp only [List.map_map]
      rfl
/-! the law's own divisor -/
def sp__law_divisor (_ : PySem.W.Frag) : Sp := fun vs H Q _ => ∃ a b : Int, vs = [.int a, .int b] ∧ Q (.int (Int.gcd a b : Int)) H
theorem ok__law_divisor (T : Defs K mg) (TT : Tabs T base) : FnOk P w K mg base CX0 1 T.f__law_divisor T.fd__law_divisor ["_law_one", "_law_other"] (sp__law_divisor K) := by
  refine T.F__law_divisor.ok sc__law_divisor (fun vs H Q E h => ?_) (fun cdv A outer s H vs Q E hr h => ?_)
  · obtain ⟨a, b, rfl, q⟩ := h
    rfl
  · obtain ⟨a, b, rfl, q⟩ := h
    refine ⟨_, PSs.nox (pss_cons (ps_par (i := 0) (j := 1) (by rfl) sc__law_divisor.nd rfl rfl (by decide) rfl rfl (pa_cons (pe_callB call_abs (by rfl) T.m_abs bt_abs (pa_cons (pv 0) pa_nil)) (pa_cons (pe_callB call_abs (by rfl) T.m_abs bt_abs (pa_cons (pv 1) pa_nil)) pa_nil)) (by rfl))
    (pss_cons (ps_while PassesOwn.never (PW.pt (pw_and (pt_cmpR op_gt (pv 0) pe_int (nomark _)) (pw_and1 (pt_cmpR op_gt (pv 1) pe_int (nomark _))))) (pss_cons (ps_if (pt_cmpR op_lt (pv 0) (pv 1) (nomark _)) (pss_one (ps_par (i := 0) (j := 1) (by rfl) sc__law_divisor.nd rfl rfl (by decide) rfl rfl (pa_cons (pv 1) (pa_cons (pv 0) pa_nil)) (by rfl))) pss_nil)
    (pss_one (ps_set (i := 0) sc__law_divisor.nd rfl (.inl rfl) (pe_op op_mod (pv 0) (pv 1))))))
    (pss_one (ps_ret (pe_op op_add (pv 0) (pv 1)))))), ?_⟩
    refine ⟨.int a, rfl, a, rfl, .int b, rfl, b, rfl, _, _, rfl, ?_⟩
    refine while_by (fun σ H1 => H1 = H ∧ ∃ x y : Nat, σ = [some (.int (x : Nat)), some (.int (y : Nat))] ∧ Nat.gcd x y = Int.gcd a b) (fun σ _ => match σ with | [some (.int x), some (.int y)] => x.toNat + y.toNat | _ => 0) ⟨rfl, a.natAbs, b.natAbs, ?_, rfl⟩ ?_ ?_
    · rw [abs_eq, abs_eq]
      rfl
    · rintro σ H1 ⟨rfl, x, y, rfl, hg⟩
      have fin : (x = 0 ∨ y = 0) → ((x : Int) + (y : Int)) = (Int.gcd a b : Int) := fun z => by
        rcases z with rfl | rfl
        · rw [Nat.gcd_zero_left] at hg
          omega
        · rw [Nat.gcd_zero_right] at hg
          omega
      refine ⟨.int (x : Nat), rfl, _, _, rfl, rfl, _, rfl, ite2 (fun e1 => ?_) (fun e1 => ?_)⟩
      · have hx : (0 : Int) < (x : Int) := of_decide_eq_true e1
        refine ⟨.int (y : Nat), rfl, _, _, rfl, rfl, _, rfl, ite2 (fun e2 => ?_) (fun e2 => ?_)⟩
        · have hy : (0 : Int) < (y : Int) := of_decide_eq_true e2
          refine ⟨.int (x : Nat), rfl, .int (y : Nat), rfl, _, _, rfl, rfl, _, rfl, ite2 (fun e3 => ?_) (fun e3 => ?_)⟩
          · have hl : (x : Int) < (y : Int) := of_decide_eq_true e3
            refine ⟨.int (y : Nat), rfl, .int (x : Nat), rfl, _, _, rfl, .int (y : Nat), rfl, .int (x : Nat), rfl, _, _, rfl, rfl, hx, ⟨rfl, y % x, x, rfl, ?_⟩, ?_⟩
            · rw [← Nat.gcd_rec]
              exact hg
            · show ((y : Int) % (x : Int)).toNat + ((x : Int)).toNat < ((x : Int)).toNat + ((y : Int)).toNat
              have := Int.emod_lt_of_pos (y : Int) hx
              have := Int.emod_nonneg (y : Int) (show (x : Int) ≠ 0 by omega)
              omega
          · have hl : ¬ (x : Int) < (y : Int) := fun z => e3 (decide_eq_true z)
            refine ⟨.int (x : Nat), rfl, .int (y : Nat), rfl, _, _, rfl, rfl, hy, ⟨rfl, x % y, y, rfl, ?_⟩, ?_⟩
            · rw [← Nat.gcd_rec, Nat.gcd_comm]
              exact hg
            · show ((x : Int) % (y : Int)).toNat + ((y : Int)).toNat < ((x : Int)).toNat + ((y : Int)).toNat
              have := Int.emod_lt_of_pos (x : Int) hy
              have := Int.emod_nonneg (x : Int) (show (y : Int) ≠ 0 by omega)
              omega
        · have hy : ¬ (0 : Int) < (y : Int) := fun z => e2 (decide_eq_true z)
          refine ⟨.int (x : Nat), rfl, .int (y : Nat), rfl, _, _, rfl, rfl, ?_⟩
          show Q (.int ((x : Int) + (y : Int))) H1
          rw [fin (.inr (by omega))]
          exact q
      · have hx : ¬ (0 : Int) < (x : Int) := fun z => e1 (decide_eq_true z)
        refine ⟨.int (x : Nat), rfl, .int (y : Nat), rfl, _, _, rfl, rfl, ?_⟩
        show Q (.int ((x : Int) + (y : Int))) H1
        rw [fin (.inl (by omega))]
        exact q
    · rintro σ H1 Q1 Q2 hQ ⟨v, hv, i, j, e1, e2, k, e3, h3⟩
      refine ⟨v, hv, i, j, e1, e2, k, e3, ?_⟩
      cases k with
      | true =>
        rw [if_pos rfl] at h3 ⊢
        obtain ⟨v, hv, i, j, e1, e2, k, e3, h3⟩ := h3
        exact ⟨v, hv, i, j, e1, e2, k, e3, hQ _ _ h3⟩
      | false =>
        rw [if_neg Bool.false_ne_true] at h3 ⊢
        exact hQ _ _ h3
/-! where a number stands first -/
theorem flat_ints (xs : List Int) : (xs.map V.int).all flatV = true := by
  rw [List.all_eq_true]
  intro x hx
  obtain ⟨i, _, rfl⟩ := List.mem_map.mp hx
  rfl
theorem in_ints (xs : List Int) (k : Int) : inV (.int k) (xs.map V.int) = decide (k ∈ xs) := by
  unfold inV
  rw [Bool.eq_iff_iff, List.any_eq_true, decide_eq_true_iff]
  constructor
  · rintro ⟨y, hy, e⟩
    obtain ⟨i, hi, rfl⟩ := List.mem_map.mp hy
    have : i = k := by
      have e : (i == k) = true := e
      exact eq_of_beq e
    rw [← this]
    exact hi
  · intro h
    exact ⟨_, List.mem_map.mpr ⟨k, h, rfl⟩, show (k == k) = true from beq_self_eq_true k⟩
theorem first_of {xs : List Int} {k : Int} : k ∈ xs → ∃ j : Nat, xs[j]? = some k ∧ ∀ m, m < j → xs[m]? ≠ some k := by
  induction xs with
  | nil => intro h; cases h
  | cons x r ih =>
    intro h
    by_cases e : x = k
    · exact ⟨0, by rw [e]; rfl, fun m hm => by omega⟩
    · rcases List.mem_cons.mp h with h | h
      · exact absurd h.symm e
      · obtain ⟨j, h1, h2⟩ := ih h
        refine ⟨j + 1, h1, fun m hm => ?_⟩
        cases m with
        | zero => exact fun z => e (Option.some.inj z)
        | succ m => exact h2 m (by omega)
/-! counters, tables, turned ones -/
def Mk.Bs : Mk → Prop
  | .counter _ _ _ => True
  | .table _ => True
  | .turned _ _ => True
  | .register _ _ _ => True
  | _ => False
theorem bnd64 {z : Nat} (h : z ≤ 64) : -(2 ^ 64) < (z : Int) ∧ (z : Int) < 2 ^ 64 := by omega
def pows : List Int := [1, 2, 4, 8, 16, 32, 64]
def powP (w : Nat) : List Int := (List.range w).map fun j => ((2 ^ j : Nat) : Int)
def powR (w : Nat) : List Int := (List.range w).map fun j => ((2 ^ (w - 1 - j) : Nat) : Int)
theorem six {P : Nat → Prop} {w : Nat} (h : w ≤ 6) (h0 : P 0) (h1 : P 1) (h2 : P 2) (h3 : P 3) (h4 : P 4) (h5 : P 5) (h6 : P 6) : P w := by
  match w, h with
  | 0, _ => exact h0
  | 1, _ => exact h1
  | 2, _ => exact h2
  | 3, _ => exact h3
  | 4, _ => exact h4
  | 5, _ => exact h5
  | 6, _ => exact h6
theorem pow_take {w : Nat} (h : w ≤ 6) : pows.take w = powP w := six (P := fun w => pows.take w = powP w) h (by decide) (by decide) (by decide) (by decide) (by decide) (by decide) (by decide)
theorem pow_rev {w : Nat} (h : w ≤ 6) : (powP w).reverse = powR w := six (P := fun w => (powP w).reverse = powR w) h (by decide) (by decide) (by decide) (by decide) (by decide) (by decide) (by decide)
theorem pow_at {w : Nat} (h : w ≤ 6) : pows[w]? = some ((2 ^ w : Nat) : Int) := six (P := fun w => pows[w]? = some ((2 ^ w : Nat) : Int)) h (by decide) (by decide) (by decide) (by decide) (by decide) (by decide) (by decide)
theorem at_pow {w : Nat} (h : w ≤ 6) : atI (pows.map V.int) ((w : Nat) : Int) = some (.int ((2 ^ w : Nat) : Int)) := atI_nat (by rw [List.getElem?_map, pow_at h]; rfl)
theorem powP_len (w : Nat) : (powP w).length = w := by
  unfold powP
  rw [List.length_map, List.length_range]
theorem powR_len (w : Nat) : (powR w).length = w := by
  unfold powR
  rw [List.length_map, List.length_range]
theorem powP_at {w k : Nat} {y : V} (h : ((powP w).map V.int)[k]? = some y) : k < w ∧ y = .int ((2 ^ k : Nat) : Int) := by
  have hk := (List.getElem?_eq_some_iff.mp h).1
  rw [List.length_map, powP_len] at hk
  unfold powP at h
  rw [List.getElem?_map, List.getElem?_map, List.getElem?_range hk] at h
  cases h
  exact ⟨hk, rfl⟩
theorem powR_at {w k : Nat} {y : V} (h : ((powR w).map V.int)[k]? = some y) : k < w ∧ y = .int ((2 ^ (w - 1 - k) : Nat) : Int) := by
  have hk := (List.getElem?_eq_some_iff.mp h).1
  rw [List.length_map, powR_len] at hk
  unfold powR at h
  rw [List.getElem?_map, List.getElem?_map, List.getElem?_range hk] at h
  cases h
  exact ⟨hk, rfl⟩
theorem sum_two (f : Nat → Int) : ∀ k : Nat, ((List.range k).map fun j => 2 * f j).sum = 2 * ((List.range k).map f).sum
  | 0 => rfl
  | k + 1 => by
    rw [List.range_succ, List.map_append, List.sum_append, List.map_append, List.sum_append, sum_two f k]
    simp
    omega
theorem lff_sum (x : Nat) : ∀ w : Nat, ((List.range w).map fun j => ((x / 2 ^ j % 2 : Nat) : Int) * ((2 ^ (w - 1 - j) : Nat) : Int)).sum = ((lff x w : Nat) : Int)
  | 0 => rfl
  | w + 1 => by
    rw [List.range_succ, List.map_append, List.sum_append]
    have e : (List.range w).map (fun j => ((x / 2 ^ j % 2 : Nat) : Int) * ((2 ^ (w + 1 - 1 - j) : Nat) : Int)) = (List.range w).map fun j => 2 * (((x / 2 ^ j % 2 : Nat) : Int) * ((2 ^ (w - 1 - j) : Nat) : Int)) := by
      apply List.map_congr_left
      intro j hj
      have hj := List.mem_range.mp hj
      show _ = 2 * (_ * _)
      rw [show w + 1 - 1 - j = (w - 1 - j) + 1 by omega, Nat.pow_succ, Int.natCast_mul, Int.mul_comm ((2 ^ (w - 1 - j) : Nat) : Int), Int.mul_left_comm]
      rfl
    rw [e, sum_two (fun j => ((x / 2 ^ j % 2 : Nat) : Int) * ((2 ^ (w - 1 - j) : Nat) : Int)) w, lff_sum x w]
    show 2 * ((lff x w : Nat) : Int) + (_ * ((2 ^ (w + 1 - 1 - w) : Nat) : Int) + 0) = ((2 * lff x w + x / 2 ^ w % 2 : Nat) : Int)
    rw [show w + 1 - 1 - w = 0 by omega]
    omega
def sp__law_powers (_ : PySem.W.Frag) : Sp := fun vs H Q _ => vs = [] ∧ ∀ H' p, Same H H' → H p = none → H' p = some (.lst (pows.map V.int)) → Q (.ref p) H'
theorem ok__law_powers (T : Defs K mg) (TT : Tabs T base) : FnOk P w K mg base CX0 1 T.f__law_powers T.fd__law_powers [] (sp__law_powers K) := by
  refine T.F__law_powers.ok sc__law_powers (fun vs H Q E h => ?_) (fun cdv A outer s H vs Q E hr h => ?_)
  · obtain ⟨rfl, q⟩ := h
    rfl
  · obtain ⟨rfl, q⟩ := h
    refine ⟨_, PSs.nox (pss_one (ps_ret (pe_lst (pa_cons pe_int (pa_cons pe_int (pa_cons pe_int (pa_cons pe_int (pa_cons pe_int (pa_cons pe_int (pa_cons pe_int pa_nil)))))))))), ?_⟩
    exact ⟨(show 7 ≤ sizeLine by decide), fun l nl => q _ l (same_upd nl) nl upd_same⟩
def sp__law_base (_ : PySem.W.Frag) : Sp := fun vs H Q _ => ∃ m v, vs = [v] ∧ MkAt H m v ∧ m.Pl ∧ m.Bs ∧
  ∀ H' p, Same H H' → H p = none → H' p = some (.lst (m.pl.map V.int)) → Q (.ref p) H'
theorem ne_table_counter : ¬ (V.str "counter" = V.str "table") := by decide +kernel
theorem ok__law_base (T : Defs K mg) (TT : Tabs T base) : FnOk P w K mg base CX0 2 T.f__law_base T.fd__law_base ["_law_maker_here"] (sp__law_base K) := by
  have G__law_powers : FnOk P w K mg base CX0 1 T.f__law_powers T.fd__law_powers [] (sp__law_powers K) := ok__law_powers T TT
  refine T.F__law_base.ok sc__law_base (fun vs H Q E h => ?_) (fun cdv A outer s H vs Q E hr h => ?_)
  · obtain ⟨m, v, rfl, hm, pl, bs, q⟩ := h
    rfl
  · obtain ⟨m, v, rfl, hm, pl, bs, q⟩ := h
    refine ⟨_, PSs.nox (pss_cons (ps_if (pt_cmpR op_eq (pe_ix ix_tup (pv 0) pe_int (fun _ _ => rfl)) pe_str (nomark _)) (pss_one (ps_ret (pe_callTy call_list_of (by rfl) T.m_list bt_list (pa_cons (pe_ix ix_tup (pv 0) pe_int (fun _ _ => rfl)) pa_nil)))) pss_nil)
    (pss_cons (ps_if (pt_cmpR op_eq (pe_ix ix_tup (pv 0) pe_int (fun _ _ => rfl)) pe_str (nomark _)) (pss_cons (ps_set (i := 1) sc__law_base.nd rfl (.inl rfl) (pe_lst (pa_cons (pe_ix ix_tup (pv 0) pe_int (fun _ _ => rfl)) pa_nil)))
    (pss_cons (ps_while PassesOwn.never (pt_cmpR op_lt (pe_callB call_len_seq (by rfl) T.m_len bt_len (pa_cons (pv 1) pa_nil)) (pe_ix ix_tup (pv 0) pe_int (fun _ _ => rfl)) (nomark _)) (pss_one (ps_expr (pe_bm PySem.F.plainAttrs_list PySem.F.slot_list_append PySem.F.type_list_append mt_append (pv 1) (pa_cons (pe_op op_mod (pe_op op_add (pe_ix ix_list (pv 1) (pe_un un_neg pe_int) (fun _ _ => rfl)) (pe_ix ix_tup (pv 0) pe_int (fun _ _ => rfl))) (pe_ix ix_tup (pv 0) pe_int (fun _ _ => rfl))) pa_nil)))))
    (pss_one (ps_ret (pv 1))))) pss_nil)
    (pss_cons (ps_if (pt_cmpR op_eq (pe_ix ix_tup (pv 0) pe_int (fun _ _ => rfl)) pe_str (nomark _)) (pss_cons (ps_asg (pe_tup (pa_cons (pe_ix ix_list (pe_call0 G__law_powers (hr.mono (by decide)) (by rfl) T.g__law_powers T.F__law_powers.kp T.b__law_powers .nil pass0) (pe_ix ix_tup (pv 0) pe_int (fun _ _ => rfl)) (fun _ _ => rfl)) (pa_cons (pe_lst pa_nil) pa_nil))) (pg_tup rfl (pgs_cons (pg_name (i := 2) sc__law_base.nd rfl (.inr rfl)) (pgs_cons (pg_name (i := 1) sc__law_base.nd rfl (.inl rfl)) pgs_nil))))
    (pss_cons (ps_for PassesOwn.never rfl (pi_range1 (by rfl) T.m_range (pa_cons (pv 2) pa_nil)) (pg_name (i := 3) sc__law_base.nd rfl (.inr rfl)) (pss_cons (ps_setLc (i := 4) (own := [("_law_power", 7)]) (g := gName 7) (tt := tYes) rfl sc__law_base.nd rfl rfl (sw_true rfl rfl rfl (by decide +kernel)) (pi_list (pe_slice sl_list (pe_call0 G__law_powers (hr.mono (by decide)) (by rfl) T.g__law_powers T.F__law_powers.kp T.b__law_powers .nil pass0) po_none (po_some (pe_ix ix_tup (pv 0) pe_int (fun _ _ => rfl))))) (blkOk_by (N := N__law_base) (sc := defScope s__law_base) (by decide +kernel)) (fun _ _ _ _ _ => (pg_name (i := 7) sc__law_base.nd rfl (.inl rfl))) (fun _ _ _ _ _ => pts_nil) (fun _ _ _ _ _ => (pe_op op_mod (pe_op op_fdiv (pe_op op_mod (pe_op op_add (pe_ix (ixtK (K := K) rfl) (pv 0) pe_int (fun _ _ => rfl)) (pv 3)) (pv 2)) (pv 7)) pe_int)))
    (pss_one (ps_expr (pe_bm PySem.F.plainAttrs_list PySem.F.slot_list_append PySem.F.type_list_append mt_append (pv 1) (pa_cons (pe_callB (cr_sum rfl) (by rfl) T.m_sum bt_sum (pa_cons (pe_lc (own := [("_law_bit", 8), ("_law_power", 7)]) (g := gTup K 2 (gCons (gName 8) (gCons (gName 7) gNil))) (tt := tYes) rfl sc__law_base.nd (RZ.pi_zipA (by rfl) T.m_zip (pa_cons (pv 4) (pa_cons (pe_revL (pe_slice sl_list (pe_call0 G__law_powers (hr.mono (by decide)) (by rfl) T.g__law_powers T.F__law_powers.kp T.b__law_powers .nil pass0) po_none (po_some (pe_ix ix_tup (pv 0) pe_int (fun _ _ => rfl))))) pa_nil))) (blkOk_by (N := N__law_base) (sc := defScope s__law_base) (by decide +kernel)) (fun _ _ _ _ _ => (pg_tupK (K := K) rfl rfl (pgs_cons (pg_name (i := 8) sc__law_base.nd rfl (.inl rfl)) (pgs_cons (pg_name (i := 7) sc__law_base.nd rfl (.inl rfl)) pgs_nil)))) (fun _ _ _ _ _ => pts_nil) (fun _ _ _ _ _ => (pe_op op_mul (pv 8) (pv 7)))) pa_nil)) pa_nil))))))
    (pss_one (ps_ret (pv 1))))) pss_nil)
    (pss_cons (ps_par (i := 4) (j := 1) (by rfl) sc__law_base.nd rfl rfl (by decide) rfl rfl (pa_cons (pe_slice sl_list (pe_call0 G__law_powers (hr.mono (by decide)) (by rfl) T.g__law_powers T.F__law_powers.kp T.b__law_powers .nil pass0) po_none (po_some (pe_ix ix_tup (pv 0) pe_int (fun _ _ => rfl)))) (pa_cons (pe_lst pa_nil) pa_nil)) (by rfl))
    (pss_cons (ps_set (i := 5) sc__law_base.nd rfl (.inr rfl) (pe_ix ix_tup (pv 0) pe_int (fun _ _ => rfl)))
    (pss_cons (ps_while PassesOwn.never (pt_cmpR op_notIn_seq (pv 5) (pv 1) rfl) (pss_cons (ps_expr (pe_bm PySem.F.plainAttrs_list PySem.F.slot_list_append PySem.F.type_list_append mt_append (pv 1) (pa_cons (pv 5) pa_nil)))
    (pss_cons (ps_set (i := 6) sc__law_base.nd rfl (.inl rfl) (pe_op op_mod (pe_callB (cr_sum rfl) (by rfl) T.m_sum bt_sum (pa_cons (pe_lc (own := [("_law_power", 7)]) (g := gName 7) (tt := tYes) rfl sc__law_base.nd (pi_list (pv 4)) (blkOk_by (N := N__law_base) (sc := defScope s__law_base) (by decide +kernel)) (fun _ _ _ _ _ => (pg_name (i := 7) sc__law_base.nd rfl (.inl rfl))) (fun _ _ _ _ _ => pts_nil) (fun _ _ _ _ _ => (pe_op op_mul (pe_op op_mod (pe_op op_fdiv (pv 5) (pv 7)) pe_int) (pe_op op_mod (pe_op op_fdiv (pe_ix (ixtK (K := K) rfl) (pv 0) pe_int (fun _ _ => rfl)) (pv 7)) pe_int)))) pa_nil)) pe_int))
    (pss_one (ps_set (i := 5) sc__law_base.nd rfl (.inr rfl) (pe_op op_add (pe_op op_mod (pe_op op_mul pe_int (pv 5)) (pe_ix ix_list (pe_call0 G__law_powers (hr.mono (by decide)) (by rfl) T.g__law_powers T.F__law_powers.kp T.b__law_powers .nil pass0) (pe_ix ix_tup (pv 0) pe_int (fun _ _ => rfl)) (fun _ _ => rfl))) (pv 6)))))))
    (pss_one (ps_ret (pv 1))))))))), ?_⟩
    have hsl : sizeLine = 16777216 := by decide
    cases m with
    | table ns =>
      obtain ⟨a, b, rfl, ha, hb⟩ := hm
      refine ⟨.ref a, rfl, a, _, 0, _, rfl, rfl, SqT.mk ha, atI_nat (j := 0) rfl, rfl, _, rfl, ?_⟩
      rw [decide_eq_true rfl]
      refine iteT ?_
      exact ⟨.ref a, rfl, a, _, 1, _, rfl, rfl, SqT.mk ha, atI_nat (j := 1) rfl, b, _, rfl, .inr (SqT.mk hb), fun l nl => q _ l (same_upd nl) nl upd_same⟩
    | counter r s' t =>
      obtain ⟨a, rfl, ha⟩ := hm
      obtain ⟨r1, r2, s2, t2⟩ := pl
      refine ⟨.ref a, rfl, a, _, 0, _, rfl, rfl, SqT.mk ha, atI_nat (j := 0) rfl, rfl, _, rfl, ?_⟩
      rw [decide_eq_false ne_table_counter]
      refine iteF ?_
      refine ⟨.ref a, rfl, a, _, 0, _, rfl, rfl, SqT.mk ha, atI_nat (j := 0) rfl, rfl, _, rfl, ?_⟩
      rw [decide_eq_true rfl]
      refine iteT ?_
      refine ⟨.ref a, rfl, a, _, 3, _, rfl, rfl, SqT.mk ha, atI_nat (j := 3) rfl, (show 1 ≤ sizeLine by decide), fun l nl => ?_⟩
      have s0 : Same H (upd H l (.lst [.int (t : Nat)])) := same_upd nl
      refine ⟨fun n σ H1 => ∃ k : Nat, n = r - k ∧ k + 1 ≤ r ∧ σ = [some (.ref a), some (.ref l), none, none, none, none, none, none, none] ∧ Same H H1 ∧ H1 l = some (.lst (((List.range k).map fun i => (((t + s' * i) % r : Nat) : Int)).map V.int ++ [.int (((t + s' * k) % r : Nat) : Int)])), ⟨r, 0, by omega, by omega, rfl, s0, ?_⟩, ?_⟩
      · rw [upd_same, Nat.mul_zero, Nat.add_zero, Nat.mod_eq_of_lt t2]
        rfl
      rintro n σ H1 ⟨k, rfl, hk, rfl, s1, hl⟩
      have ha1 := s1 _ _ ha
      have ll : (((List.range k).map fun i => (((t + s' * i) % r : Nat) : Int)).map V.int ++ [V.int (((t + s' * k) % r : Nat) : Int)]).length = k + 1 := by
        rw [List.length_append, List.length_map, List.length_map, List.length_range]
        rfl
      refine ⟨.ref l, rfl, l, _, rfl, .inl (SqL.mk hl), .ref a, rfl, a, _, 1, _, rfl, rfl, SqT.mk ha1, atI_nat (j := 1) rfl, _, _, rfl, rfl, _, rfl, ?_⟩
      rw [ll]
      refine ite2 (fun e => ⟨_, fun σ' H' h => h, ?_⟩) (fun e => ?_)
      · have e : ((k + 1 : Nat) : Int) < (r : Int) := of_decide_eq_true e
        refine ⟨.ref l, rfl, .inl ⟨rfl, _, SqL.mk hl⟩, .ref l, rfl, 1, rfl, l, _, _, _, rfl, rfl, SqL.mk hl, atI_last _ _, .ref a, rfl, a, _, 2, _, rfl, rfl, SqT.mk ha1, atI_nat (j := 2) rfl, _, _, rfl, rfl, .ref a, rfl, a, _, 1, _, rfl, rfl, SqT.mk ha1, atI_nat (j := 1) rfl, _, _, rfl, rfl, is_pos r1, ?_⟩
        refine ⟨l, _, _, rfl, rfl, hl, by rw [ll]; omega, ?_⟩
        refine ⟨r - (k + 1), by omega, k + 1, rfl, by omega, rfl, same_newer s1 nl, ?_⟩
        have ev : ((((t + s' * k) % r : Nat) : Int) + (s' : Int)) % (r : Int) = (((t + s' * (k + 1)) % r : Nat) : Int) := by
          rw [← Int.natCast_add, ← Int.natCast_emod, Nat.mod_add_mod, Nat.add_assoc, Nat.mul_succ]
        dsimp only
        rw [upd_same, ev, List.range_succ, List.map_append, List.map_append]
        rfl
      · have e : ¬ ((k + 1 : Nat) : Int) < (r : Int) := fun z => e (decide_eq_true z)
        obtain rfl : r = k + 1 := by omega
        refine ⟨.ref l, rfl, q H1 l s1 nl ?_⟩
        rw [hl]
        show _ = some (HO.lst (((List.range (k + 1)).map fun i => (((t + s' * i) % (k + 1) : Nat) : Int)).map V.int))
        rw [List.range_succ, List.map_append, List.map_append]
        rfl
    | turned w' s' =>
      obtain ⟨a, rfl, ha⟩ := hm
      obtain ⟨w1, w2, sl⟩ := pl
      have tp := two_pow6 w2
      refine ⟨.ref a, rfl, a, _, 0, _, rfl, rfl, SqT.mk ha, atI_nat (j := 0) rfl, rfl, _, rfl, ?_⟩
      rw [decide_eq_false (show ¬ (V.str "turned" = V.str "table") by decide +kernel)]
      refine iteF ?_
      refine ⟨.ref a, rfl, a, _, 0, _, rfl, rfl, SqT.mk ha, atI_nat (j := 0) rfl, rfl, _, rfl, ?_⟩
      rw [decide_eq_false (show ¬ (V.str "turned" = V.str "counter") by decide +kernel)]
      refine iteF ?_
      refine ⟨.ref a, rfl, a, _, 0, _, rfl, rfl, SqT.mk ha, atI_nat (j := 0) rfl, rfl, _, rfl, ?_⟩
      rw [decide_eq_true rfl]
      refine iteT ?_
      refine ⟨rfl, fun H1 l1 s1 nl1 hl1 => ?_⟩
      refine ⟨.ref a, rfl, a, _, 1, _, rfl, rfl, SqT.mk (s1 _ _ ha), atI_nat (j := 1) rfl, l1, _, _, _, rfl, rfl, SqL.mk hl1, at_pow w2, Nat.zero_le _, fun f nf => ⟨(show 2 ≤ sizeLine by decide), fun t nt => ?_⟩⟩
      refine ⟨t, _, rfl, SqT.mk upd_same, rfl, _, _, rfl, _, _, rfl, rfl, ?_⟩
      have S2 : Same H (upd (upd H1 f (.lst [])) t (.tup [.int ((2 ^ w' : Nat) : Int), .ref f])) := (s1.trans (same_upd nf)).trans (same_upd nt)
      have hf2 : (upd (upd H1 f (.lst [])) t (.tup [.int ((2 ^ w' : Nat) : Int), .ref f])) f = some (.lst []) := (same_upd nt) _ _ upd_same
      have nf0 : H f = none := s1.free nf
      generalize upd (upd H1 f (.lst [])) t (.tup [.int ((2 ^ w' : Nat) : Int), .ref f]) = H2 at S2 hf2 ⊢
      refine ⟨.int ((2 ^ w' : Nat) : Int), rfl, _, rfl, by omega, by omega, for_range (fun i σ G => ∃ y3 y4 y7 y8, σ = [some (.ref a), some (.ref f), some (.int ((2 ^ w' : Nat) : Int)), y3, y4, none, none, y7, y8] ∧ Same H G ∧ G f = some (.lst (((List.range i).map fun i => ((lff ((s' + i) % 2 ^ w') w' : Nat) : Int)).map V.int))) ⟨none, none, none, none, rfl, S2, hf2⟩ ?_ ?_⟩
      · rintro i σ G hi ⟨y3, y4, y7, y8, rfl, sG, hG⟩
        have hi : i < 2 ^ w' := by omega
        obtain ⟨x, hx⟩ : ∃ x, (s' + i) % 2 ^ w' = x := ⟨_, rfl⟩
        have ex : ((s' : Int) + (0 + (i : Int))) % ((2 ^ w' : Nat) : Int) = (x : Int) := by
          rw [← hx, Int.zero_add, Int.natCast_emod, Int.natCast_add]
        -- the bits
        refine ⟨rfl, fun G1 l2 g1 nl2 hl2 => ?_⟩
        have ha1 := g1 _ _ (sG _ _ ha)
        refine ⟨.ref a, rfl, a, _, 1, _, rfl, rfl, SqT.mk ha1, atI_nat (j := 1) rfl, _, rfl, l2, _, rfl, SqL.mk hl2, fun sl nsl => ?_⟩
        rw [cut_take, pow_take w2]
        have g2 := same_upd nsl (o := .lst ((powP w').map V.int))
        have hsl2 : (upd G1 sl (.lst ((powP w').map V.int))) sl = some (.lst ((powP w').map V.int)) := upd_same
        generalize upd G1 sl (.lst ((powP w').map V.int)) = G2 at g2 hsl2 ⊢
        have ha2 := g2 _ _ ha1
        refine ⟨sl, rfl, ⟨_, SqL.mk hsl2⟩, fun D nD => ?_⟩
        refine lc_list (xs := (powP w').map V.int) (fun k F => Same G2 F ∧ F D = some (.lst (((List.range k).map fun j => ((x / 2 ^ j % 2 : Nat) : Int)).map V.int))) ⟨same_upd nD, upd_same⟩ (fun k F _ h => SqL.mk (h.1 _ _ hsl2)) (fun k y F hy h => ?_) (fun F h => ?_)
        · obtain ⟨sF, hD⟩ := h
          obtain ⟨hk, rfl⟩ := powP_at hy
          have kp : 1 ≤ 2 ^ k ∧ 2 ^ k ≤ 64 := two_pow6 (by omega)
          refine ⟨rfl, yes_ite ?_⟩
          refine ⟨.ref a, rfl, a, _, 2, _, rfl, rfl, SqT.mk (sF _ _ ha2), atI_nat (j := 2) rfl, .int (0 + (i : Int)), rfl, _, _, rfl, rfl, .int ((2 ^ w' : Nat) : Int), rfl, _, _, rfl, rfl, is_pos tp.1, _, rfl, _, _, rfl, rfl, ⟨is_pos kp.1, (show ((2 ^ k : Nat) : Int) < 1073741824 by omega)⟩, _, _, rfl, rfl, (show (0 : Int) < 2 by decide), ?_⟩
          refine ⟨_, hD, by rw [List.length_map, List.length_map, List.length_range]; omega, same_newer sF nD, ?_⟩
          dsimp only
          rw [upd_same, List.range_succ, List.map_append, List.map_append, ex, ← Int.natCast_ediv]
          rfl
        obtain ⟨sF, hD⟩ := h
        rw [List.length_map, powP_len] at hD
        have g02 := sG.trans (g1.trans (g2.trans sF))
        have hfF := sF _ _ (g2 _ _ (g1 _ _ hG))
        -- their sum
        refine ⟨.ref f, rfl, .inl ⟨rfl, _, SqL.mk hfF⟩, .ref D, rfl, rfl, fun F1 l3 g3 nl3 hl3 => ?_⟩
        have ha3 := g3 _ _ (g02 _ _ ha)
        refine ⟨.ref a, rfl, a, _, 1, _, rfl, rfl, SqT.mk ha3, atI_nat (j := 1) rfl, _, rfl, l3, _, rfl, SqL.mk hl3, fun s3 ns3 => ?_⟩
        rw [cut_take, pow_take w2]
        refine ⟨s3, _, rfl, SqL.mk upd_same, fun rv nrv => ?_⟩
        rw [← List.map_reverse, pow_rev w2]
        have g4 : Same F (upd (upd F1 s3 (.lst ((powP w').map V.int))) rv (.lst ((powR w').map V.int))) := g3.trans ((same_upd ns3).trans (same_upd nrv))
        have hrv : (upd (upd F1 s3 (.lst ((powP w').map V.int))) rv (.lst ((powR w').map V.int))) rv = some (.lst ((powR w').map V.int)) := upd_same
        generalize upd (upd F1 s3 (.lst ((powP w').map V.int))) rv (.lst ((powR w').map V.int)) = F4 at g4 hrv ⊢
        have hD4 := g4 _ _ hD
        refine ⟨D, rv, _, _, rfl, .inl ⟨SqL.mk hD4, SqL.mk hrv, fun D2 nD2 => ?_⟩⟩
        refine lc_it (walk_zip (n := w') (xs := ((List.range w').map fun j => ((x / 2 ^ j % 2 : Nat) : Int)).map V.int) (ys := (powR w').map V.int) (by rw [List.length_map, List.length_map, List.length_map, List.length_range, powR_len, Nat.min_self])) (fun k E5 => Same F4 E5 ∧ E5 D2 = some (.lst (((List.range k).map fun j => ((x / 2 ^ j % 2 : Nat) : Int) * ((2 ^ (w' - 1 - j) : Nat) : Int)).map V.int))) ⟨same_upd nD2, upd_same⟩ (fun k E5 _ h2 => ⟨SqL.mk (h2.1 _ _ hD4), SqL.mk (h2.1 _ _ hrv)⟩) ?_ ?_
        · rintro k z E5 E6 hk ⟨s5, hD5⟩ ⟨t5, x1, x2, rfl, nt5, rfl, e1, e2⟩
          have e1 : (((List.range w').map fun j => ((x / 2 ^ j % 2 : Nat) : Int)).map V.int)[k]? = some x1 := e1
          have e2 : ((powR w').map V.int)[k]? = some x2 := e2
          rw [List.getElem?_map, List.getElem?_map, List.getElem?_range hk] at e1
          cases e1
          obtain ⟨_, rfl⟩ := powR_at e2
          have pk : 2 ^ (w' - 1 - k) ≤ 64 := (two_pow6 (by omega)).2
          refine ⟨t5, _, rfl, SqT.mk upd_same, rfl, _, _, rfl, _, _, rfl, rfl, rfl, yes_ite ?_⟩
          refine ⟨_, rfl, _, rfl, _, _, rfl, rfl, .inr (bnd64 pk), ?_⟩
          refine ⟨_, (same_upd nt5) _ _ hD5, by rw [List.length_map, List.length_map, List.length_range]; omega, same_newer (s5.trans (same_upd nt5)) nD2, ?_⟩
          rw [upd_same, List.range_succ, List.map_append, List.map_append]
          rfl
        rintro E5 ⟨s5, hD5⟩
        have hf5 := s5 _ _ (g4 _ _ hfF)
        refine ⟨D2, _, rfl, SqL.mk hD5, f, _, _, rfl, rfl, hf5, by rw [List.length_map, List.length_map, List.length_range]; omega, ?_⟩
        refine ⟨_, _, _, _, rfl, same_newer (g02.trans (g4.trans s5)) nf0, ?_⟩
        rw [upd_same, lff_sum, List.range_succ, List.map_append, List.map_append, ← hx]
        rfl
      · rintro σ G ⟨y3, y4, y7, y8, rfl, sG, hG⟩
        rw [Int.toNat_natCast] at hG
        exact ⟨.ref f, rfl, q G f sG nf0 hG⟩
    | register w' p' s' =>
      obtain ⟨a, rfl, ha⟩ := hm
      obtain ⟨hw, s1', s2'⟩ := pl
      have w2 := hw.hi
      have tp := two_pow6 w2
      have ip := per_is hw s2'
      refine ⟨.ref a, rfl, a, _, 0, _, rfl, rfl, SqT.mk ha, atI_nat (j := 0) rfl, rfl, _, rfl, ?_⟩
      rw [decide_eq_false (show ¬ (V.str "register" = V.str "table") by decide +kernel)]
      refine iteF ?_
      refine ⟨.ref a, rfl, a, _, 0, _, rfl, rfl, SqT.mk ha, atI_nat (j := 0) rfl, rfl, _, rfl, ?_⟩
      rw [decide_eq_false (show ¬ (V.str "register" = V.str "counter") by decide +kernel)]
      refine iteF ?_
      refine ⟨.ref a, rfl, a, _, 0, _, rfl, rfl, SqT.mk ha, atI_nat (j := 0) rfl, rfl, _, rfl, ?_⟩
      rw [decide_eq_false (show ¬ (V.str "register" = V.str "turned") by decide +kernel)]
      refine iteF ?_
      refine ⟨rfl, fun H1 l1 s1 nl1 hl1 => ?_⟩
      refine ⟨.ref a, rfl, a, _, 1, _, rfl, rfl, SqT.mk (s1 _ _ ha), atI_nat (j := 1) rfl, _, rfl, l1, _, rfl, SqL.mk hl1, fun bl nbl => ⟨Nat.zero_le _, fun f nf => ⟨_, _, rfl, ?_⟩⟩⟩
      have S2 : Same H (upd (upd H1 bl (.lst (cutV (pows.map V.int) none (some (w' : Int))))) f (.lst [])) := (s1.trans (same_upd nbl)).trans (same_upd nf)
      have hbl : (upd (upd H1 bl (.lst (cutV (pows.map V.int) none (some (w' : Int))))) f (.lst [])) bl = some (.lst ((powP w').map V.int)) := (same_upd nf) _ _ (by rw [upd_same, cut_take, pow_take w2])
      have nf0 : H f = none := (s1.trans (same_upd nbl)).free nf
      have nbf : bl ≠ f := fun e => by
        rw [e, upd_same] at nf
        cases nf
      have hf2 : (upd (upd H1 bl (.lst (cutV (pows.map V.int) none (some (w' : Int))))) f (.lst [])) f = some (.lst []) := upd_same
      generalize upd (upd H1 bl (.lst (cutV (pows.map V.int) none (some (w' : Int))))) f (.lst []) = H2 at S2 hbl hf2 ⊢
      refine ⟨.ref a, rfl, a, _, 3, _, rfl, rfl, SqT.mk (S2 _ _ ha), atI_nat (j := 3) rfl, ?_⟩
      refine ⟨fun n σ G => ∃ k y6 y7, n = per w' p' s' - k ∧ k ≤ per w' p' s' ∧ σ = [some (.ref a), some (.ref f), none, none, some (.ref bl), some (.int (regA w' p' s' k : Nat)), y6, y7, none] ∧ Same H G ∧ G bl = some (.lst ((powP w').map V.int)) ∧ G f = some (.lst (((List.range k).map fun k => ((regA w' p' s' k : Nat) : Int)).map V.int)), ⟨per w' p' s', 0, none, none, by omega, by omega, rfl, S2, hbl, hf2⟩, ?_⟩
      rintro n σ G ⟨k, y6, y7, rfl, hk, rfl, sG, hbG, hfG⟩
      have xl : regA w' p' s' k < 2 ^ w' := regA_lt hw s2' k
      obtain ⟨x, hx⟩ : ∃ x, regA w' p' s' k = x := ⟨_, rfl⟩
      rw [hx] at xl
      have haG := sG _ _ ha
      refine ⟨.int (regA w' p' s' k : Nat), rfl, .ref f, rfl, f, _, rfl, .inl (SqL.mk hfG), rfl, flat_ints _, _, rfl, ?_⟩
      rw [if_pos rfl, in_ints]
      by_cases kp : k < per w' p' s'
      · have nin : ((regA w' p' s' k : Nat) : Int) ∉ (List.range k).map fun k => ((regA w' p' s' k : Nat) : Int) := fun z => by
          obtain ⟨j, hj, ej⟩ := List.mem_map.mp z
          have hj := List.mem_range.mp hj
          have ej : regA w' p' s' j = regA w' p' s' k := by omega
          refine ip.first (k - j) (by omega) (by omega) (regA_back hw s2' j (k - j) ?_)
          rw [show j + (k - j) = k by omega]
          exact ej.symm
        rw [decide_eq_false nin]
        refine iteT ⟨_, fun σ' H' h => h, ?_⟩
        refine ⟨.ref f, rfl, .inl ⟨rfl, _, SqL.mk hfG⟩, .int (regA w' p' s' k : Nat), rfl, f, _, _, rfl, rfl, hfG, by rw [List.length_map, List.length_map, List.length_range]; have := ip.le; omega, ?_⟩
        have g1 : Same H (upd G f (.lst (((List.range k).map fun k => ((regA w' p' s' k : Nat) : Int)).map V.int ++ [.int (regA w' p' s' k : Nat)]))) := same_newer sG nf0
        have hb1 : (upd G f (.lst (((List.range k).map fun k => ((regA w' p' s' k : Nat) : Int)).map V.int ++ [.int (regA w' p' s' k : Nat)]))) bl = some (.lst ((powP w').map V.int)) := by
          rw [upd_ne nbf]
          exact hbG
        have hf1 : (upd G f (.lst (((List.range k).map fun k => ((regA w' p' s' k : Nat) : Int)).map V.int ++ [.int (regA w' p' s' k : Nat)]))) f = some (.lst (((List.range (k + 1)).map fun k => ((regA w' p' s' k : Nat) : Int)).map V.int)) := by
          rw [upd_same, List.range_succ, List.map_append, List.map_append]
          rfl
        generalize upd G f (.lst (((List.range k).map fun k => ((regA w' p' s' k : Nat) : Int)).map V.int ++ [.int (regA w' p' s' k : Nat)])) = G1 at g1 hb1 hf1 ⊢
        rw [hx]
        -- the odd count
        refine ⟨.ref bl, rfl, bl, rfl, ⟨_, SqL.mk hb1⟩, fun D nD => ?_⟩
        refine lc_list (xs := (powP w').map V.int) (fun j F => Same G1 F ∧ F D = some (.lst (((List.range j).map fun j => (((x / 2 ^ j % 2 : Nat) : Int) * ((p' / 2 ^ j % 2 : Nat) : Int))).map V.int))) ⟨same_upd nD, upd_same⟩ (fun j F _ h => SqL.mk (h.1 _ _ hb1)) (fun j y F hy h => ?_) (fun F h => ?_)
        · obtain ⟨sF, hD⟩ := h
          obtain ⟨hj, rfl⟩ := powP_at hy
          have jp : 1 ≤ 2 ^ j ∧ 2 ^ j ≤ 64 := two_pow6 (by omega)
          obtain ⟨q2, hq2⟩ : ∃ q2, 2 ^ j = q2 := ⟨_, rfl⟩
          rw [hq2] at jp
          have b1 : x / q2 % 2 ≤ 64 := by omega
          rw [show ((2 ^ j : Nat) : Int) = (q2 : Int) by rw [hq2]]
          refine ⟨rfl, yes_ite ?_⟩
          refine ⟨.int (x : Nat), rfl, _, rfl, _, _, rfl, rfl, ⟨is_pos jp.1, (show (q2 : Int) < 1073741824 by omega)⟩, _, _, rfl, rfl, (show (0 : Int) < 2 by decide), .ref a, rfl, a, _, 2, _, rfl, rfl, SqT.mk (sF _ _ (g1 _ _ ha)), atI_nat (j := 2) rfl, _, rfl, _, _, rfl, rfl, ⟨is_pos jp.1, (show (q2 : Int) < 1073741824 by omega)⟩, _, _, rfl, rfl, (show (0 : Int) < 2 by decide), _, _, rfl, rfl, .inl ⟨by omega, by omega⟩, ?_⟩
          refine ⟨_, hD, by rw [List.length_map, List.length_map, List.length_range]; omega, same_newer sF nD, ?_⟩
          dsimp only
          rw [upd_same, List.range_succ, List.map_append, List.map_append, ← Int.natCast_ediv, ← Int.natCast_ediv, ← hq2]
          rfl
        obtain ⟨sF, hD⟩ := h
        rw [List.length_map, powP_len] at hD
        refine ⟨D, _, rfl, SqL.mk hD, _, _, rfl, rfl, (show (0 : Int) < 2 by decide), ?_⟩
        have eo : ((List.range w').map fun j => (((x / 2 ^ j % 2 : Nat) : Int) * ((p' / 2 ^ j % 2 : Nat) : Int))).sum % 2 = ((par (x &&& p') : Nat) : Int) := odd_eq hw xl
        try dsimp only
        rw [eo]
        refine ⟨.int (x : Nat), rfl, _, _, rfl, rfl, .inl ⟨by decide, by decide⟩, rfl, fun F1 l3 g3 nl3 hl3 => ?_⟩
        refine ⟨.ref a, rfl, a, _, 1, _, rfl, rfl, SqT.mk (g3 _ _ (sF _ _ (g1 _ _ ha))), atI_nat (j := 1) rfl, l3, _, _, _, rfl, rfl, SqL.mk hl3, at_pow w2, _, _, rfl, rfl, is_pos tp.1, _, rfl, _, _, rfl, rfl, ?_⟩
        try dsimp only
        rw [step_eq]
        exact ⟨per w' p' s' - (k + 1), by omega, k + 1, _, _, rfl, by omega, by
          have : regA w' p' s' (k + 1) = regS w' p' x := by rw [← hx]; rfl
          rw [this]
          rfl, g1.trans (sF.trans g3), g3 _ _ (sF _ _ hb1), g3 _ _ (sF _ _ hf1)⟩
      · have ke : k = per w' p' s' := by omega
        have inn : ((regA w' p' s' k : Nat) : Int) ∈ (List.range k).map fun k => ((regA w' p' s' k : Nat) : Int) := by
          refine List.mem_map.mpr ⟨0, List.mem_range.mpr (by have := ip.pos; omega), ?_⟩
          show ((regA w' p' s' 0 : Nat) : Int) = _
          rw [ke, ip.back]
          rfl
        rw [decide_eq_true inn]
        refine iteF ?_
        refine ⟨.ref f, rfl, q G f sG nf0 ?_⟩
        rw [hfG, ke]
        rfl
    | _ => exact bs.elim
/-! the law's own numbers -/
def sp__law_inner (_ : PySem.W.Frag) : Sp := fun vs H Q _ => ∃ m v, vs = [v] ∧ MkAt H m v ∧ ∀ H' u, Same H H' → MkAt H' m.inn u → Q u H'
theorem ok__law_inner (T : Defs K mg) (TT : Tabs T base) : FnOk P w K mg base CX0 1 T.f__law_inner T.fd__law_inner ["_law_maker_here"] (sp__law_inner K) := by
  refine T.F__law_inner.ok sc__law_inner (fun vs H Q E h => ?_) (fun cdv A outer s H vs Q E hr h => ?_)
  · obtain ⟨m, v, rfl, hm, q⟩ := h
    rfl
  · obtain ⟨m, v, rfl, hm, q⟩ := h
    refine ⟨_, PSs.nox (pss_cons (ps_while PassesOwn.never (pt_cmpR op_in_seq (pe_ix ix_tup (pv 0) pe_int (fun _ _ => rfl)) (pe_tup (pa_cons pe_str (pa_cons pe_str (pa_cons pe_str pa_nil)))) rfl) (pss_one (ps_set (i := 0) sc__law_inner.nd rfl (.inl rfl) (pe_ix ix_tup (pv 0) pe_int (fun _ _ => rfl)))))
    (pss_one (ps_ret (pv 0)))), ?_⟩
    refine ⟨fun n σ H1 => ∃ m' u, m'.dep = n ∧ σ = [some u] ∧ Same H H1 ∧ MkAt H1 m' u ∧ m'.inn = m.inn, ⟨_, m, v, rfl, rfl, Same.refl H, hm, rfl⟩, ?_⟩
    rintro n σ H1 ⟨m', u, rfl, rfl, s1, hm', ei⟩
    rcases hm'.shape with ⟨z, n, m2, a, x, rfl, ha, hx, ar, iw⟩ | ⟨d0, a, z, xs, rfl, ha, iw⟩
    · refine ⟨.ref a, rfl, a, _, 0, _, rfl, rfl, SqT.mk ha, atI_nat (j := 0) rfl, (show 3 ≤ sizeLine by decide), fun t nt => ⟨t, _, rfl, .inr (SqT.mk upd_same), rfl, rfl, _, rfl, ?_⟩⟩
      have s2 := s1.trans (same_upd nt (o := .tup [.str "slow", .str "slip", .str "late"]))
      rw [if_neg Bool.false_ne_true, show inV (.str z) [.str "slow", .str "slip", .str "late"] = true from iw]
      refine iteT ⟨_, fun σ' H' h => h, ?_⟩
      refine ⟨.ref a, rfl, a, _, 2, _, rfl, rfl, SqT.mk ((same_upd nt) _ _ ha), atI_nat (j := 2) rfl, ?_⟩
      exact ⟨m2.dep, by have := ar.dep.1; omega, m2, x, rfl, rfl, s2, hx.same (same_upd nt), by rw [← ar.dep.2, ei]⟩
    · refine ⟨.ref a, rfl, a, _, 0, _, rfl, rfl, SqT.mk ha, atI_nat (j := 0) rfl, (show 3 ≤ sizeLine by decide), fun t nt => ⟨t, _, rfl, .inr (SqT.mk upd_same), rfl, rfl, _, rfl, ?_⟩⟩
      rw [if_neg Bool.false_ne_true, show inV (.str z) [.str "slow", .str "slip", .str "late"] = false from iw]
      refine iteF ?_
      refine ⟨.ref a, rfl, q _ _ (s1.trans (same_upd nt)) ?_⟩
      rw [← ei, Mk.inn_self d0]
      exact hm'.same (same_upd nt)
def spr__law_round (d : Nat) (_ : PySem.W.Frag) : Sp := fun vs H Q _ => ∃ m v, vs = [v] ∧ MkAt H m v ∧ m.Ok ∧ m.inn.Bs ∧ m.dep < d ∧ ∀ H', Same H H' → Q (.int (m.rnd : Nat)) H'
theorem no__law_round {K : PySem.W.Frag} {vs : List V} {H : Hp} {Q : VK} {E : XK} (h : spr__law_round 0 K vs H Q E) : False := by
  obtain ⟨m, v, _, _, _, _, z, _⟩ := h
  exact Nat.not_lt_zero _ z
theorem rnd_plain {m : Mk} (h : m.dep = 0) : m.rnd = m.pl.length := by
  cases m with
  | slow n m => cases h
  | slip n m => cases h
  | late n m => cases h
  | _ => rfl
theorem ok_plain {m : Mk} (h : m.dep = 0) (ok : m.Ok) : m.Pl := by
  have := ok.inn
  rw [Mk.inn_self h] at this
  exact this
theorem ne_late_slow : ¬ (V.str "slow" = V.str "late") := by decide +kernel
theorem ne_late_slip : ¬ (V.str "slip" = V.str "late") := by decide +kernel
theorem ne_slip_slow : ¬ (V.str "slow" = V.str "slip") := by decide +kernel
theorem okr__law_round (T : Defs K mg) (TT : Tabs T base) : ∀ d : Nat, FnOk P w K mg base CX0 (4 + d) T.f__law_round T.fd__law_round ["_law_maker_here"] (spr__law_round d K)
  | 0 => ⟨fun _ _ _ _ z => (no__law_round z).elim, fun _ _ _ _ _ _ _ _ _ _ _ _ _ z => (no__law_round z).elim⟩
  | d + 1 => by
    have G__law_round : FnOk P w K mg base CX0 (4 + d) T.f__law_round T.fd__law_round ["_law_maker_here"] (spr__law_round d K) := okr__law_round T TT d
    have G__law_base : FnOk P w K mg base CX0 2 T.f__law_base T.fd__law_base ["_law_maker_here"] (sp__law_base K) := ok__law_base T TT
    have G__law_divisor : FnOk P w K mg base CX0 1 T.f__law_divisor T.fd__law_divisor ["_law_one", "_law_other"] (sp__law_divisor K) := ok__law_divisor T TT
    show FnOk P w K mg base CX0 ((4 + d) + 1) T.f__law_round T.fd__law_round ["_law_maker_here"] (spr__law_round (d + 1) K)
    refine T.F__law_round.ok sc__law_round (fun vs H Q E h => ?_) (fun cdv A outer s H vs Q E hr h => ?_)
    · obtain ⟨m, v, rfl, hm, ok, bs, dp, q⟩ := h
      rfl
    · obtain ⟨m, v, rfl, hm, ok, bs, dp, q⟩ := h
      refine ⟨_, PSs.nox (pss_cons (ps_if (pt_cmpR op_notIn_seq (pe_ix ix_tup (pv 0) pe_int (fun _ _ => rfl)) (pe_tup (pa_cons pe_str (pa_cons pe_str (pa_cons pe_str pa_nil)))) rfl) (pss_one (ps_ret (pe_callB call_len_seq (by rfl) T.m_len bt_len (pa_cons (pe_call G__law_base (hr.mono (by omega)) (by rfl) T.g__law_base T.F__law_base.kp T.b__law_base .nil pass0 (pa_cons (pv 0) pa_nil)) pa_nil)))) pss_nil)
    (pss_cons (ps_set (i := 1) sc__law_round.nd rfl (.inl rfl) (pe_call G__law_round (hr.mono (by omega)) (by rfl) T.g__law_round T.F__law_round.kp T.b__law_round .nil pass0 (pa_cons (pe_ix ix_tup (pv 0) pe_int (fun _ _ => rfl)) pa_nil)))
    (pss_cons (ps_if (pt_cmpR op_eq (pe_ix ix_tup (pv 0) pe_int (fun _ _ => rfl)) pe_str (nomark _)) (pss_one (ps_ret (pv 1))) pss_nil)
    (pss_one (ps_ret (pe_op op_fdiv (pe_op op_mul (pe_ix ix_tup (pv 0) pe_int (fun _ _ => rfl)) (pv 1)) (pe_ifExp (pt_cmpR op_eq (pe_ix ix_tup (pv 0) pe_int (fun _ _ => rfl)) pe_str (nomark _)) (pe_call G__law_divisor (hr.mono (by omega)) (by rfl) T.g__law_divisor T.F__law_divisor.kp T.b__law_divisor .nil pass0 (pa_cons (pv 1) (pa_cons (pe_op op_add (pe_ix ix_tup (pv 0) pe_int (fun _ _ => rfl)) pe_int) pa_nil))) pe_int))))))), ?_⟩
      rcases hm.shape with ⟨z, n, m2, a, x, rfl, ha, hx, ar, iw⟩ | ⟨d0, a, z, xs, rfl, ha, iw⟩
      · refine ⟨.ref a, rfl, a, _, 0, _, rfl, rfl, SqT.mk ha, atI_nat (j := 0) rfl, (show 3 ≤ sizeLine by decide), fun t nt => ⟨t, _, rfl, .inr (SqT.mk upd_same), rfl, rfl, _, rfl, ?_⟩⟩
        have s2 := same_upd nt (o := .tup [.str "slow", .str "slip", .str "late"])
        have ha2 := s2 _ _ ha
        have hx2 := hx.same s2
        rw [if_pos rfl, show inV (.str z) [.str "slow", .str "slip", .str "late"] = true from iw]
        generalize upd H t (.tup [.str "slow", .str "slip", .str "late"]) = H2 at s2 ha2 hx2 ⊢
        refine iteF ?_
        have dd := ar.dep
        have okd : m2.Ok ∧ n ≤ 64 := by
          rcases ar.word with ⟨rfl, rfl⟩ | ⟨rfl, rfl⟩ | ⟨rfl, rfl⟩
          · exact ⟨ok.2.2, ok.2.1⟩
          · exact ⟨ok.2.2, ok.2.1⟩
          · exact ⟨ok.2, ok.1⟩
        refine ⟨.ref a, rfl, a, _, 2, _, rfl, rfl, SqT.mk ha2, atI_nat (j := 2) rfl, m2, x, rfl, hx2, okd.1, by rw [← dd.2]; exact bs, by omega, fun H3 s3 => ?_⟩
        have ha3 := s3 _ _ ha2
        have s23 := s2.trans s3
        refine ⟨.ref a, rfl, a, _, 0, _, rfl, rfl, SqT.mk ha3, atI_nat (j := 0) rfl, rfl, _, rfl, ?_⟩
        have bn : -(2 ^ 64) < (n : Int) ∧ (n : Int) < 2 ^ 64 := ⟨by omega, by omega⟩
        rcases ar.word with ⟨rfl, rfl⟩ | ⟨rfl, rfl⟩ | ⟨rfl, rfl⟩
        · rw [decide_eq_false ne_late_slow]
          refine iteF ?_
          refine ⟨.ref a, rfl, a, _, 1, _, rfl, rfl, SqT.mk ha3, atI_nat (j := 1) rfl, .int (m2.rnd : Nat), rfl, _, _, rfl, rfl, .inl bn, .ref a, rfl, a, _, 0, _, rfl, rfl, SqT.mk ha3, atI_nat (j := 0) rfl, rfl, _, rfl, ?_⟩
          rw [decide_eq_false ne_slip_slow]
          refine iteF ?_
          refine ⟨_, _, rfl, rfl, ⟨by decide, by decide⟩, ?_⟩
          have e : (n : Int) * (m2.rnd : Int) / 1 = (((Mk.slow n m2).rnd : Nat) : Int) := by
            rw [Int.ediv_one, ← Int.natCast_mul]
            rfl
          try dsimp only
          rw [e]
          exact q H3 s23
        · rw [decide_eq_false ne_late_slip]
          refine iteF ?_
          refine ⟨.ref a, rfl, a, _, 1, _, rfl, rfl, SqT.mk ha3, atI_nat (j := 1) rfl, .int (m2.rnd : Nat), rfl, _, _, rfl, rfl, .inl bn, .ref a, rfl, a, _, 0, _, rfl, rfl, SqT.mk ha3, atI_nat (j := 0) rfl, rfl, _, rfl, ?_⟩
          rw [decide_eq_true rfl]
          refine iteT ?_
          refine ⟨.int (m2.rnd : Nat), rfl, .ref a, rfl, a, _, 1, _, rfl, rfl, SqT.mk ha3, atI_nat (j := 1) rfl, _, _, rfl, rfl, _, _, rfl, ?_⟩
          have g := gcd_le (a := m2.rnd) (n := n)
          have eg : (Int.gcd (m2.rnd : Int) ((n : Int) + 1) : Int) = ((Nat.gcd m2.rnd (n + 1) : Nat) : Int) := rfl
          rw [eg]
          refine ⟨_, _, rfl, rfl, ⟨(show (0 : Int) < ((Nat.gcd m2.rnd (n + 1) : Nat) : Int) by omega), (show ((Nat.gcd m2.rnd (n + 1) : Nat) : Int) < 1073741824 by omega)⟩, ?_⟩
          have e : (n : Int) * (m2.rnd : Int) / ((Nat.gcd m2.rnd (n + 1) : Nat) : Int) = (((Mk.slip n m2).rnd : Nat) : Int) := by
            rw [← Int.natCast_mul, ← Int.natCast_ediv]
            rfl
          try dsimp only
          rw [e]
          exact q H3 s23
        · rw [decide_eq_true rfl]
          refine iteT ?_
          exact ⟨.int (m2.rnd : Nat), rfl, q H3 s23⟩
      · refine ⟨.ref a, rfl, a, _, 0, _, rfl, rfl, SqT.mk ha, atI_nat (j := 0) rfl, (show 3 ≤ sizeLine by decide), fun t nt => ⟨t, _, rfl, .inr (SqT.mk upd_same), rfl, rfl, _, rfl, ?_⟩⟩
        have s2 := same_upd nt (o := .tup [.str "slow", .str "slip", .str "late"])
        rw [if_pos rfl, show inV (.str z) [.str "slow", .str "slip", .str "late"] = false from iw]
        refine iteT ?_
        refine ⟨.ref a, rfl, m, _, rfl, hm.same s2, ok_plain d0 ok, by rw [← Mk.inn_self d0]; exact bs, fun H3 p s3 np hp => ⟨p, _, rfl, .inl (SqL.mk hp), ?_⟩⟩
        rw [List.length_map, ← rnd_plain d0]
        exact q H3 (s2.trans s3)
def sp__law_round (K : PySem.W.Frag) : Sp := spr__law_round 5 K
theorem ok__law_round (T : Defs K mg) (TT : Tabs T base) : FnOk P w K mg base CX0 9 T.f__law_round T.fd__law_round ["_law_maker_here"] (sp__law_round K) := okr__law_round T TT 5
def spr__law_beat (d : Nat) (_ : PySem.W.Frag) : Sp := fun vs H Q _ => ∃ m v b t, vs = [v, .ref b, .int t] ∧ MkAt H m v ∧ m.Ok ∧ m.dep < d ∧ ∃ k : Mk, k.Pl ∧ H b = some (.lst (k.pl.map V.int)) ∧ Q (.int (k.pl.getD ((m.bt t) % (k.pl.length : Int)).toNat 0)) H
theorem no__law_beat {K : PySem.W.Frag} {vs : List V} {H : Hp} {Q : VK} {E : XK} (h : spr__law_beat 0 K vs H Q E) : False := by
  obtain ⟨m, v, b, t, _, _, _, z, _⟩ := h
  exact Nat.not_lt_zero _ z
theorem str_ne {z y : Str} (h : inW z = false) (k : inW y = true) : decide (V.str z = V.str y) = false := decide_eq_false fun e => by
  rw [V.str.inj e, k] at h
  cases h
def sp__law_top (_ : PySem.W.Frag) : Sp := fun vs H Q _ => ∃ m v, vs = [v] ∧ MkAt H m v ∧ m.Ok ∧ m.inn.Bs ∧ ∀ H' z, Same H H' → m.inn.Top z → Q (.int z) H'
theorem ok__law_top (T : Defs K mg) (TT : Tabs T base) : FnOk P w K mg base CX0 2 T.f__law_top T.fd__law_top ["_law_maker_here"] (sp__law_top K) := by
  have G__law_inner : FnOk P w K mg base CX0 1 T.f__law_inner T.fd__law_inner ["_law_maker_here"] (sp__law_inner K) := ok__law_inner T TT
  have G__law_powers : FnOk P w K mg base CX0 1 T.f__law_powers T.fd__law_powers [] (sp__law_powers K) := ok__law_powers T TT
  refine T.F__law_top.ok sc__law_top (fun vs H Q E h => ?_) (fun cdv A outer s H vs Q E hr h => ?_)
  · obtain ⟨m, v, rfl, hm, ok, bs, q⟩ := h
    rfl
  · obtain ⟨m, v, rfl, hm, ok, bs, q⟩ := h
    refine ⟨_, PSs.nox (pss_cons (ps_set (i := 1) sc__law_top.nd rfl (.inl rfl) (pe_call G__law_inner (hr.mono (by decide)) (by rfl) T.g__law_inner T.F__law_inner.kp T.b__law_inner .nil pass0 (pa_cons (pv 0) pa_nil)))
    (pss_cons (ps_if (pt_cmpR op_eq (pe_ix ix_tup (pv 1) pe_int (fun _ _ => rfl)) pe_str (nomark _)) (pss_one (ps_ret (pe_ix ix_tup (pv 1) pe_int (fun _ _ => rfl)))) pss_nil)
    (pss_one (ps_ret (pe_ifExp (pt_cmpR op_eq (pe_ix ix_tup (pv 1) pe_int (fun _ _ => rfl)) pe_str (nomark _)) (pe_op op_add (pe_callB (cr_maxT rfl) (by rfl) T.m_max bt_max (pa_cons (pe_ix ix_tup (pv 1) pe_int (fun _ _ => rfl)) pa_nil)) pe_int) (pe_ix ix_list (pe_call0 G__law_powers (hr.mono (by decide)) (by rfl) T.g__law_powers T.F__law_powers.kp T.b__law_powers .nil pass0) (pe_ix ix_tup (pv 1) pe_int (fun _ _ => rfl)) (fun _ _ => rfl))))))), ?_⟩
    refine ⟨v, rfl, m, v, rfl, hm, fun H1 u s1 hu => ?_⟩
    have pl := ok.inn
    generalize m.inn = b at hu pl q bs
    cases b with
    | counter r s' t =>
      obtain ⟨a, rfl, ha⟩ := hu
      refine ⟨.ref a, rfl, a, _, 0, _, rfl, rfl, SqT.mk ha, atI_nat (j := 0) rfl, rfl, _, rfl, ?_⟩
      rw [decide_eq_true rfl]
      refine iteT ?_
      exact ⟨.ref a, rfl, a, _, 1, _, rfl, rfl, SqT.mk ha, atI_nat (j := 1) rfl, q H1 _ s1 rfl⟩
    | table ns =>
      obtain ⟨a, b, rfl, ha, hb⟩ := hu
      refine ⟨.ref a, rfl, a, _, 0, _, rfl, rfl, SqT.mk ha, atI_nat (j := 0) rfl, rfl, _, rfl, ?_⟩
      rw [decide_eq_false (show ¬ (V.str "table" = V.str "counter") by decide +kernel)]
      refine iteF ?_
      refine ⟨.ref a, rfl, a, _, 0, _, rfl, rfl, SqT.mk ha, atI_nat (j := 0) rfl, rfl, _, rfl, ?_⟩
      rw [decide_eq_true rfl]
      refine iteT ?_
      refine ⟨.ref a, rfl, a, _, 1, _, rfl, rfl, SqT.mk ha, atI_nat (j := 1) rfl, b, ns, rfl, SqT.mk hb, by have := pl.1; omega, fun M hM hle => ⟨_, _, rfl, rfl, ?_⟩⟩
      exact q H1 _ s1 ⟨M, hM, hle, rfl⟩
    | turned w' s' =>
      obtain ⟨a, rfl, ha⟩ := hu
      refine ⟨.ref a, rfl, a, _, 0, _, rfl, rfl, SqT.mk ha, atI_nat (j := 0) rfl, rfl, _, rfl, ?_⟩
      rw [decide_eq_false (show ¬ (V.str "turned" = V.str "counter") by decide +kernel)]
      refine iteF ?_
      refine ⟨.ref a, rfl, a, _, 0, _, rfl, rfl, SqT.mk ha, atI_nat (j := 0) rfl, rfl, _, rfl, ?_⟩
      rw [decide_eq_false (show ¬ (V.str "turned" = V.str "table") by decide +kernel)]
      refine iteF ?_
      refine ⟨rfl, fun H2 l s2 nl hl => ?_⟩
      exact ⟨.ref a, rfl, a, _, 1, _, rfl, rfl, SqT.mk (s2 _ _ ha), atI_nat (j := 1) rfl, l, _, _, _, rfl, rfl, SqL.mk hl, at_pow pl.2.1, q H2 _ (s1.trans s2) rfl⟩
    | register w' p' s' =>
      obtain ⟨a, rfl, ha⟩ := hu
      refine ⟨.ref a, rfl, a, _, 0, _, rfl, rfl, SqT.mk ha, atI_nat (j := 0) rfl, rfl, _, rfl, ?_⟩
      rw [decide_eq_false (show ¬ (V.str "register" = V.str "counter") by decide +kernel)]
      refine iteF ?_
      refine ⟨.ref a, rfl, a, _, 0, _, rfl, rfl, SqT.mk ha, atI_nat (j := 0) rfl, rfl, _, rfl, ?_⟩
      rw [decide_eq_false (show ¬ (V.str "register" = V.str "table") by decide +kernel)]
      refine iteF ?_
      refine ⟨rfl, fun H2 l s2 nl hl => ?_⟩
      exact ⟨.ref a, rfl, a, _, 1, _, rfl, rfl, SqT.mk (s2 _ _ ha), atI_nat (j := 1) rfl, l, _, _, _, rfl, rfl, SqL.mk hl, at_pow pl.1.hi, q H2 _ (s1.trans s2) rfl⟩
    | _ => exact bs.elim
/-! heaps with tables -/
theorem trip0 : TriplesOk (#[] : Array Value).toList := trivial
structure Sam (H H' : Hp) : Prop where
  obj : ∀ b o, (∀ ps, o ≠ .tbl ps) → H b = some o → H' b = some o
  tab : ∀ b ps, H b = some (.tbl ps) → ∃ ps', H' b = some (.tbl ps') ∧ (TriplesOk ps.toList → TriplesOk ps'.toList)
theorem Sam.of {H H' : Hp} (s : Same H H') : Sam H H' := ⟨fun b o _ e => s b o e, fun b ps e => ⟨ps, s b _ e, fun z => z⟩⟩
theorem Sam.refl (H : Hp) : Sam H H := .of (Same.refl H)
theorem Sam.trans {H H1 H2 : Hp} (a : Sam H H1) (b : Sam H1 H2) : Sam H H2 := ⟨fun c o n e => b.obj c o n (a.obj c o n e), fun c ps e => by
  obtain ⟨p1, e1, t1⟩ := a.tab c ps e
  obtain ⟨p2, e2, t2⟩ := b.tab c p1 e1
  exact ⟨p2, e2, fun z => t2 (t1 z)⟩⟩
theorem Sam.tabG {H H' : Hp} {P : Addr} (a : Sam H H') (t : GxR.TabG H P) : GxR.TabG H' P := by
  obtain ⟨ps, e, z⟩ := t
  obtain ⟨p1, e1, t1⟩ := a.tab P ps e
  exact ⟨p1, e1, t1 z⟩
theorem Sam.tup {H H' : Hp} {a : Addr} {xs : List V} (s : Sam H H') (h : H a = some (.tup xs)) : H' a = some (.tup xs) := s.obj _ _ (fun _ z => by cases z) h
theorem Sam.lst {H H' : Hp} {a : Addr} {xs : List V} (s : Sam H H') (h : H a = some (.lst xs)) : H' a = some (.lst xs) := s.obj _ _ (fun _ z => by cases z) h
theorem Sam.free {H H' : Hp} (s : Sam H H') {l : Addr} (h : H' l = none) : H l = none := by
  cases q : H l with
  | none => rfl
  | some o =>
    cases o with
    | tbl ps =>
      obtain ⟨p1, e1, _⟩ := s.tab l ps q
      rw [e1] at h
      cases h
    | _ =>
      rw [s.obj l _ (fun _ z => by cases z) q] at h
      cases h
theorem Sam.tabbed {P : Addr} {H H' : Hp} (g : GxR.TabG H P) (t : GxR.Tabbed P H H') : Sam H H' := by
  obtain ⟨⟨p1, e1, z1⟩, k⟩ := t
  obtain ⟨p0, e0, _⟩ := g
  refine ⟨fun b o n e => ?_, fun b ps e => ?_⟩
  · by_cases hb : b = P
    · rw [hb, e0] at e
      exact absurd (Option.some.inj e).symm (n p0)
    · rw [k b hb]
      exact e
  · by_cases hb : b = P
    · rw [hb]
      exact ⟨p1, e1, fun _ => z1⟩
    · exact ⟨ps, by rw [k b hb]; exact e, fun z => z⟩
theorem sam_newer {H H' : Hp} {q : Addr} {o : HO} (a : Sam H H') (n : H q = none) : Sam H (upd H' q o) := ⟨fun c x hx e => by
    rw [upd_ne (ne_of_none e n)]
    exact a.obj c x hx e, fun c ps e => by
    obtain ⟨p1, e1, t1⟩ := a.tab c ps e
    exact ⟨p1, by rw [upd_ne (ne_of_none e n)]; exact e1, t1⟩⟩
/-- all but the box stays, tables grow -/
structure Bus (p : Addr) (H H' : Hp) : Prop where
  obj : ∀ b o, b ≠ p → (∀ ps, o ≠ .tbl ps) → H b = some o → H' b = some o
  tab : ∀ b ps, b ≠ p → H b = some (.tbl ps) → ∃ ps', H' b = some (.tbl ps') ∧ (TriplesOk ps.toList → TriplesOk ps'.toList)
theorem Bus.of {p : Addr} {H H' : Hp} (s : But p H H') : Bus p H H' := ⟨fun b o n _ e => s b o n e, fun b ps n e => ⟨ps, s b _ n e, fun z => z⟩⟩
theorem Bus.sam {p : Addr} {H H' : Hp} (s : Sam H H') : Bus p H H' := ⟨fun b o _ n e => s.obj b o n e, fun b ps _ e => s.tab b ps e⟩
theorem Bus.refl (p : Addr) (H : Hp) : Bus p H H := .of (But.refl p H)
theorem Bus.trans {p : Addr} {H H1 H2 : Hp} (a : Bus p H H1) (b : Bus p H1 H2) : Bus p H H2 := ⟨fun c o h n e => b.obj c o h n (a.obj c o h n e), fun c ps h e => by
  obtain ⟨p1, e1, t1⟩ := a.tab c ps h e
  obtain ⟨p2, e2, t2⟩ := b.tab c p1 h e1
  exact ⟨p2, e2, fun z => t2 (t1 z)⟩⟩
theorem Bus.tup {p : Addr} {H H' : Hp} {n : Nat} {a : Addr} {xs : List V} (s : Bus p H H') (B : Bx H p n) (h : H a = some (.tup xs)) : H' a = some (.tup xs) := s.obj _ _ (B.ne_tup h) (fun _ z => by cases z) h
theorem Bus.lst {p : Addr} {H H' : Hp} {a : Addr} {xs : List V} (s : Bus p H H') (ne : a ≠ p) (h : H a = some (.lst xs)) : H' a = some (.lst xs) := s.obj _ _ ne (fun _ z => by cases z) h
theorem Bus.tabG {p : Addr} {H H' : Hp} {n : Nat} {P : Addr} (s : Bus p H H') (B : Bx H p n) (t : GxR.TabG H P) : GxR.TabG H' P := by
  obtain ⟨ps, e, z⟩ := t
  obtain ⟨a, b, c, hp, _⟩ := B
  obtain ⟨p1, e1, t1⟩ := s.tab P ps (ne_of e hp (fun z => by cases z)) e
  exact ⟨p1, e1, t1 z⟩
theorem Bus.new {p q : Addr} {H H' : Hp} {o : HO} (a : Bus p H H') (n : H' q = none) : Bus p H (upd H' q o) := a.trans (.of ((But.refl p H').new n))
/-- a thing made since H may change -/
theorem bus_newer {p q : Addr} {H H' : Hp} {o : HO} (a : Bus p H H') (n : H q = none) : Bus p H (upd H' q o) := ⟨fun c x h hx e => by
    rw [upd_ne (ne_of_none e n)]
    exact a.obj c x h hx e, fun c ps h e => by
    obtain ⟨p1, e1, t1⟩ := a.tab c ps h e
    exact ⟨p1, by rw [upd_ne (ne_of_none e n)]; exact e1, t1⟩⟩
theorem Bus.free {p : Addr} {H H' : Hp} {n : Nat} (s : Bus p H H') (B : Bx H p n) (B' : ∃ m, Bx H' p m) {l : Addr} (h : H' l = none) : H l = none := by
  cases q : H l with
  | none => rfl
  | some o =>
    have nl : l ≠ p := fun z => by
      obtain ⟨m, _, _, _, hp, _⟩ := B'
      rw [z, hp] at h
      cases h
    cases o with
    | tbl ps =>
      obtain ⟨p1, e1, _⟩ := s.tab l ps nl q
      rw [e1] at h
      cases h
    | _ =>
      rw [s.obj l _ nl (fun _ z => by cases z) q] at h
      cases h
theorem Bx.sam {H H' : Hp} {p : Addr} {n : Nat} (h : Bx H p n) (s : Sam H H') : Bx H' p n := by
  obtain ⟨a, b, c, hp, r⟩ := h
  exact ⟨a, b, c, s.lst hp, r⟩
theorem bus_same {p : Addr} {H H1 H2 : Hp} (n : H p = none) (a : Sam H H1) (b : Bus p H1 H2) : Sam H H2 := ⟨fun c x h e => b.obj c x (ne_of_none e n) h (a.obj c x h e), fun c ps e => by
  obtain ⟨p1, e1, t1⟩ := a.tab c ps e
  obtain ⟨p2, e2, t2⟩ := b.tab c p1 (ne_of_none e n) e1
  exact ⟨p2, e2, fun z => t2 (t1 z)⟩⟩
theorem ne_new {H : Hp} {p q : Addr} {n : Nat} (B : Bx H p n) (nq : H q = none) : q ≠ p := fun e => by
  obtain ⟨_, _, _, hp, _⟩ := B
  rw [e, hp] at nq
  cases nq
/-! a tuple so many times -/
theorem tuple_once (l : Addr) (items : Array Value) (n : Nat) (dd : Option Addr) (sl : Array (Option Value)) (u : Tok) :
    Meets (Builtin.«tuple.__mul__» ⟨[.ref l, .int 1 u], []⟩) (fun _ R s => s.heap.get? l = some { cls := .type "tuple", dict := dd, data := .seq items n, slots := sl } ∧ R (.ok (.ret (Value.ref l))) { s with toks := s.toks }) :=
  .of_wp fun prog w A R s h => by
    obtain ⟨hp, g, d, tk, os⟩ := s
    obtain ⟨hl, h⟩ := h
    have f1 := AutoSeq1.idx_int
    have c1 : (items.isEmpty || (1 : Int) == 1) = true := by simp
    wp_walk using wpAny_loadPart' hl
    repeat (first
      | (refine wpAny_ite_true (decide_eq_true c1) ?_; wp_walk using wpAny_loadPart' hl)
      | (refine wpAny_ite_false (decide_eq_false (by decide)) ?_; wp_walk using wpAny_loadPart' hl))
    exact ⟨_, rfl, h⟩
def rRepA (K : PySem.W.Frag) : R2 := fun x y H Q => ∃ (l : Addr) (k : Nat) (xs : List V), x = .ref l ∧ y = .int (k : Nat) ∧ SqT K H l xs ∧ xs ≠ [] ∧ 1 ≤ k ∧ xs.length * k ≤ 1000000 ∧ (k = 1 → Q (.ref l) H) ∧
  (2 ≤ k → ∀ p, H p = none → Q (.ref p) (upd H p (.tup (List.replicate k xs).flatten)))
theorem op_repA {X : Cx} : OpR X (binaryOp .Mult) (rRepA X.K) := by
  intro pins s σ H x y v u Q I rx ry h
  obtain ⟨l, k, xs, rfl, rfl, hT, hne, h1, hz, q1, q2⟩ := h
  cases rx
  obtain ⟨t, rfl⟩ := ry
  obtain ⟨its, r, ⟨⟨cls, dd, data, sl⟩, ho, hc, n, hd⟩, hs⟩ := I.tuple hT
  simp only at hc hd
  subst hc hd
  have lx : 0 < xs.length := List.length_pos_iff.mpr hne
  have le : its.length = xs.length := r.length.symm
  have ke : k * xs.length ≤ 1000000 := by
    rw [Nat.mul_comm]
    exact hz
  have kl : k ≤ 1000000 := Nat.le_trans (Nat.le_mul_of_pos_right k lx) ke
  have ne : its.toArray.isEmpty = false := by
    cases its with
    | nil =>
      rw [← le] at lx
      cases lx
    | cons a b => rfl
  by_cases k1 : k = 1
  · subst k1
    refine wpAny_binaryOp_repeat_ref (T := "tuple") (U := "int") (by decide) ⟨_, ho, rfl⟩ (fun s' => typeIs_int s' _ t) noFill_tuple_mul F.fills_int_mul F.slot_int_rmul repeat_tuple F.slot_int_index.lookup
      (call_meets F.slot_int_rmul (typeIs_int s _ t) F.entry_int_rmul (F.args_int_rmul_2 _ _) (int_rmul_tuple _ t l its.toArray n dd sl)
        ⟨ho, rfl, ⟨_, ho, rfl⟩, call_meets F.slot_tuple_mul ⟨_, ho, rfl⟩ F.entry_tuple_mul (F.args_tuple_mul_2 _ _) (tuple_once l its.toArray n dd sl t) ⟨ho, ?_⟩⟩)
    exact ⟨.ref l, H, I, rfl, q1 rfl⟩
  · have k2 : 2 ≤ k := by omega
    have sz : its.toArray.size = xs.length := by rw [List.size_toArray, le]
    have pr : ((its.toArray.size : Nat) : Int) * (k : Int) ≤ 1000000 := by
      rw [sz, ← Int.natCast_mul]
      omega
    have fl : (List.replicate k its).flatten.length ≤ sizeLine := by
      rw [PyProof.Rows.lm_len_rep_flat, le, sizeLine_eq]
      omega
    have d0 : (decide ((k : Int) < -(2 ^ 63)) || decide ((k : Int) ≥ 2 ^ 63)) = false := by
      rw [decide_eq_false (show ¬ (k : Int) < -(2 ^ 63) by omega), decide_eq_false (show ¬ (k : Int) ≥ 2 ^ 63 by omega)] <;> rfl
    have d1 : (its.toArray.isEmpty || (k : Int) == 1) = false := by
      rw [ne, Bool.false_or]
      exact beq_eq_false_iff_ne.mpr (by omega)
    have d2 : (decide ((k : Int) ≤ 0) || its.toArray.isEmpty) = false := by
      rw [ne, Bool.or_false]
      exact decide_eq_false (by omega)
    have d4 : Builtin.Tuple.tupleTooMany (((its.toArray.size : Nat) : Int) * (k : Int)) = false := by
      unfold Builtin.Tuple.tupleTooMany
      rw [sizeLine_eq]
      exact decide_eq_false (by omega)
    refine wpAny_binaryOp_repeat_ref (T := "tuple") (U := "int") (by decide) ⟨_, ho, rfl⟩ (fun s' => typeIs_int s' _ t) noFill_tuple_mul F.fills_int_mul F.slot_int_rmul repeat_tuple F.slot_int_index.lookup
      (call_meets F.slot_int_rmul (typeIs_int s _ t) F.entry_int_rmul (F.args_int_rmul_2 _ _) (int_rmul_tuple _ t l its.toArray n dd sl)
        ⟨ho, rfl, ⟨_, ho, rfl⟩, call_meets F.slot_tuple_mul ⟨_, ho, rfl⟩ F.entry_tuple_mul (F.args_tuple_mul_2 _ _) (tuple_mulW l its.toArray n dd sl (k : Int) t d0 d1 d2 (by omega) d4 (by rw [Int.toNat_natCast, size_rep, List.size_toArray]; exact fl)) ⟨ho, ?_⟩⟩)
    rw [Int.toNat_natCast, size_rep]
    refine ⟨.ref s.heap.objs.size, _, I.laid (t' := s.toks) (o := .tup (List.replicate k xs).flatten) (fun b ob q => Heap.get?_push_of_some _ q) (Nat.le_refl _) ⟨?_, _, r.rep k, IsTup.new _ _⟩, rfl, q2 k2 _ (I.hok.fresh (Nat.le_refl _))⟩
    rw [PyProof.Rows.lm_len_rep_flat, sizeLine_eq]
    omega
/-! the law's own rows -/
def Bits (rs : List Int) : Prop := ∀ x, x ∈ rs → x = 0 ∨ x = 1
theorem Bits.snoc {rs : List Int} {x : Int} (h : Bits rs) (hx : x = 0 ∨ x = 1) : Bits (rs ++ [x]) := fun y hy => by
  rcases List.mem_append.mp hy with hy | hy
  · exact h y hy
  · rw [List.mem_singleton] at hy
    rw [hy]
    exact hx
theorem but_newer {p q : Addr} {H H' : Hp} {o : HO} (a : But p H H') (n : H q = none) : But p H (upd H' q o) := fun c x hn e => by
  rw [upd_ne (ne_of_none e n)]
  exact a c x hn e
theorem Bx.other {H : Hp} {p q : Addr} {n : Nat} {o : HO} (h : Bx H p n) (nq : q ≠ p) : Bx (L2.upd H q o) p n := by
  obtain ⟨a, b, c, hp, r⟩ := h
  exact ⟨a, b, c, by rw [upd_ne (Ne.symm nq)]; exact hp, r⟩
def PV (p D : Addr) (HX : Hp) (k i : Nat) (H1 : Hp) : Prop := ∃ rs : List Int, rs.length = i ∧ Bits rs ∧ But p HX H1 ∧ Bx H1 p (k + i) ∧ H1 D = some (.lst (rs.map V.int))
theorem pv_start {p D : Addr} {HX : Hp} {k : Nat} (nD : HX D = none) (B : Bx HX p k) : PV p D HX k 0 (upd HX D (.lst [])) := ⟨[], rfl, fun _ h => (by cases h), (But.refl p HX).new nD, B.new nD, upd_same⟩
theorem pv_step {p D : Addr} {HX H1 H4 : Hp} {k i : Nat} {x : Int} (nD : HX D = none) (Dp : D ≠ p) (h : PV p D HX k i H1) (b : But p H1 H4) (B : Bx H4 p (k + (i + 1))) (hi : i < 100000) (hx : x = 0 ∨ x = 1) :
    ∃ acc, H4 D = some (.lst acc) ∧ acc.length < sizeLine ∧ PV p D HX k (i + 1) (upd H4 D (.lst (acc ++ [.int x]))) := by
  obtain ⟨rs, hl, hb, b1, _, hD⟩ := h
  have hsl : sizeLine = 16777216 := by decide
  refine ⟨_, b _ _ Dp hD, by rw [List.length_map]; omega, rs ++ [x], by rw [List.length_append, hl]; rfl, hb.snoc hx, but_newer (b1.trans b) nD, B.other Dp, ?_⟩
  rw [upd_same, List.map_append]
  rfl
theorem rep_one (m : Nat) (x : Int) : (List.replicate m [V.int x]).flatten = (List.replicate m x).map V.int := by
  rw [List.map_replicate]
  induction m with
  | zero => rfl
  | succ m ih => rw [List.replicate_succ, List.flatten_cons, ih, List.replicate_succ]; rfl
def sp__law_row (_ : PySem.W.Frag) : Sp := fun vs H Q _ => ∃ (p : Addr) (m n : Nat), vs = [.ref p, .int (m : Nat)] ∧ Bx H p n ∧ 1 ≤ m ∧ m ≤ 4096 ∧ n < 1000000000 ∧
  ∀ H' a (rs : List Int), But p H H' → Bx H' p (n + 5000) → H' a = some (.tup (rs.map V.int)) → rs.length = m → Bits rs → Q (.ref a) H'
theorem ok__law_row (T : Defs K mg) (TT : Tabs T base) : FnOk P w K mg base CX0 2 T.f__law_row T.fd__law_row ["_law_box_here", "_law_long"] (sp__law_row K) := by
  have G__law_take : FnOk P w K mg base CX0 1 T.f__law_take T.fd__law_take ["_law_box_here", "_law_many"] (sp__law_take K) := ok__law_take T TT
  refine T.F__law_row.ok sc__law_row (fun vs H Q E h => ?_) (fun cdv A outer s H vs Q E hr h => ?_)
  · obtain ⟨p, m, n, rfl, hB, hm, hm2, hn, q⟩ := h
    rfl
  · obtain ⟨p, m, n, rfl, hB, hm, hm2, hn, q⟩ := h
    refine ⟨_, PSs.nox (pss_cons (ps_set (i := 2) sc__law_row.nd rfl (.inl rfl) (pe_call G__law_take (hr.mono (by decide)) (by rfl) T.g__law_take T.F__law_take.kp T.b__law_take .nil pass0 (pa_cons (pv 0) (pa_cons pe_int pa_nil))))
    (pss_cons (ps_if (pt_cmpR op_eq (pv 2) pe_int (nomark _)) (pss_one (ps_ret (pe_op op_repA (pe_tup (pa_cons (pe_call G__law_take (hr.mono (by decide)) (by rfl) T.g__law_take T.F__law_take.kp T.b__law_take .nil pass0 (pa_cons (pv 0) (pa_cons pe_int pa_nil))) pa_nil)) (pv 1)))) pss_nil)
    (pss_cons (ps_if (pt_cmpR op_eq (pv 2) pe_int (nomark _)) (pss_cons (ps_asg (pe_tup (pa_cons (pe_call G__law_take (hr.mono (by decide)) (by rfl) T.g__law_take T.F__law_take.kp T.b__law_take .nil pass0 (pa_cons (pv 0) (pa_cons (pv 1) pa_nil))) (pa_cons (pe_call G__law_take (hr.mono (by decide)) (by rfl) T.g__law_take T.F__law_take.kp T.b__law_take .nil pass0 (pa_cons (pv 0) (pa_cons pe_int pa_nil))) pa_nil))) (pg_tup rfl (pgs_cons (pg_name (i := 3) sc__law_row.nd rfl (.inr rfl)) (pgs_cons (pg_name (i := 4) sc__law_row.nd rfl (.inr rfl)) pgs_nil))))
    (pss_one (ps_ret (pe_callTy call_tuple_of (by rfl) T.m_tuple bt_tuple (pa_cons (pe_lc (own := [("_law_place", 7)]) (g := gName 7) (tt := tYes) rfl sc__law_row.nd (pi_range1 (by rfl) T.m_range (pa_cons (pv 1) pa_nil)) (blkOk_by (N := N__law_row) (sc := defScope s__law_row) (by decide +kernel)) (fun _ _ _ _ _ => (pg_name (i := 7) sc__law_row.nd rfl (.inl rfl))) (fun _ _ _ _ _ => pts_nil) (fun _ _ _ _ _ => (pe_ifExp (pt_cmpR op_eq (pv 7) (pv 3) (nomark _)) (pv 4) (pe_op op_sub pe_int (pv 4))))) pa_nil))))) pss_nil)
    (pss_cons (ps_if (pt_cmpR op_eq (pv 2) pe_int (nomark _)) (pss_cons (ps_asg (pe_tup (pa_cons (pe_op op_add pe_int (pe_call G__law_take (hr.mono (by decide)) (by rfl) T.g__law_take T.F__law_take.kp T.b__law_take .nil pass0 (pa_cons (pv 0) (pa_cons pe_int pa_nil)))) (pa_cons (pe_call G__law_take (hr.mono (by decide)) (by rfl) T.g__law_take T.F__law_take.kp T.b__law_take .nil pass0 (pa_cons (pv 0) (pa_cons pe_int pa_nil))) pa_nil))) (pg_tup rfl (pgs_cons (pg_name (i := 5) sc__law_row.nd rfl (.inr rfl)) (pgs_cons (pg_name (i := 6) sc__law_row.nd rfl (.inr rfl)) pgs_nil))))
    (pss_one (ps_ret (pe_callTy call_tuple_of (by rfl) T.m_tuple bt_tuple (pa_cons (pe_lc (own := [("_law_place", 7)]) (g := gName 7) (tt := tYes) rfl sc__law_row.nd (pi_range1 (by rfl) T.m_range (pa_cons (pv 1) pa_nil)) (blkOk_by (N := N__law_row) (sc := defScope s__law_row) (by decide +kernel)) (fun _ _ _ _ _ => (pg_name (i := 7) sc__law_row.nd rfl (.inl rfl))) (fun _ _ _ _ _ => pts_nil) (fun _ _ _ _ _ => (pe_callTy call_int1 (by rfl) T.m_int bt_int (pa_cons (pe_cmpR op_eq (pe_op op_mod (pe_op op_add (pv 7) (pv 6)) (pv 5)) pe_int (nomark _)) pa_nil)))) pa_nil))))) pss_nil)
    (pss_one (ps_ret (pe_callTy call_tuple_of (by rfl) T.m_tuple bt_tuple (pa_cons (pe_lc (own := [("_law_place", 7)]) (g := gName 7) (tt := tYes) rfl sc__law_row.nd (pi_range1 (by rfl) T.m_range (pa_cons (pv 1) pa_nil)) (blkOk_by (N := N__law_row) (sc := defScope s__law_row) (by decide +kernel)) (fun _ _ _ _ _ => (pg_name (i := 7) sc__law_row.nd rfl (.inl rfl))) (fun _ _ _ _ _ => pts_nil) (fun _ _ _ _ _ => (pe_call G__law_take (hr.mono (by decide)) (by rfl) T.g__law_take T.F__law_take.kp T.b__law_take .nil pass0 (pa_cons (pv 0) (pa_cons pe_int pa_nil))))) pa_nil)))))))), ?_⟩
    refine ⟨.ref p, rfl, p, 5, n, rfl, hB, by decide, by decide, by omega, fun H1 r1 b1 B1 l1 u1 => ?_⟩
    refine ⟨.int r1, rfl, rfl, _, rfl, ite2 (fun _ => ?_) (fun _ => ?_)⟩
    · refine ⟨.ref p, rfl, p, 2, n + 1, rfl, B1, by decide, by decide, by omega, fun H2 r2 b2 B2 l2 u2 => ?_⟩
      have hbit : r2 = 0 ∨ r2 = 1 := by omega
      refine ⟨(show 1 ≤ sizeLine by decide), fun t nt => ?_⟩
      refine ⟨.int (m : Nat), rfl, t, m, _, rfl, rfl, SqT.mk upd_same, by simp, hm, (show 1 * m ≤ 1000000 by omega), fun z => ?_, fun z a na => ?_⟩
      · exact q _ t [r2] ((b1.trans b2).new nt) ((B2.new nt).mono (by omega)) upd_same z.symm (fun x hx => by
          rw [List.mem_singleton] at hx
          rw [hx]
          exact hbit)
      · refine q _ a (List.replicate m r2) (((b1.trans b2).new nt).new na) (((B2.new nt).new na).mono (by omega)) ?_ List.length_replicate (fun x hx => ?_)
        · rw [upd_same, rep_one]
        · rw [List.eq_of_mem_replicate hx]
          exact hbit
    refine ⟨.int r1, rfl, rfl, _, rfl, ite2 (fun _ => ?_) (fun _ => ?_)⟩
    · refine ⟨.ref p, rfl, .int (m : Nat), rfl, p, m, n + 1, rfl, B1, by omega, by omega, by omega, fun H2 r2 b2 B2 l2 u2 => ?_⟩
      refine ⟨.ref p, rfl, p, 2, n + 2, rfl, B2, by decide, by decide, by omega, fun H3 r3 b3 B3 l3 u3 => ?_⟩
      refine ⟨(show 2 ≤ sizeLine by decide), fun t nt => ?_⟩
      refine ⟨t, _, rfl, SqT.mk upd_same, rfl, _, _, rfl, _, _, rfl, rfl, ?_⟩
      have B4 := B3.new (o := .tup [.int r2, .int r3]) nt
      have b4 := ((b1.trans b2).trans b3).new (o := .tup [.int r2, .int r3]) nt
      generalize upd H3 t (.tup [.int r2, .int r3]) = H4 at *
      refine ⟨.int (m : Nat), rfl, m, rfl, by omega, by omega, fun D nD => ?_⟩
      refine lc_range (PV p D H4 (n + 3)) (pv_start nD B4) (fun i H5 hi h5 => ?_) (fun H5 h5 => ?_)
      · refine ⟨rfl, yes_ite ?_⟩
        have h5' := h5
        obtain ⟨_, _, _, _, B5, _⟩ := h5'
        have st : ∀ x : Int, (x = 0 ∨ x = 1) → _ := fun x hx => pv_step (H4 := H5) nD (ne_new B4 nD) h5 (But.refl p H5) (B5.mono (by omega)) (by omega) hx
        refine ⟨_, rfl, .int r2, rfl, rfl, _, rfl, ite2 (fun _ => ?_) (fun _ => ?_)⟩
        · exact ⟨.int r3, rfl, st r3 (by omega)⟩
        · exact ⟨.int r3, rfl, _, _, rfl, rfl, st (1 - r3) (by omega)⟩
      · obtain ⟨rs, hl, hb, b5, B5, hD⟩ := h5
        refine ⟨D, _, rfl, .inl ⟨SqL.mk hD, fun l nl => ?_⟩⟩
        exact q _ l rs ((b4.trans b5).new nl) ((B5.new nl).mono (by omega)) upd_same (by omega) hb
    refine ⟨.int r1, rfl, rfl, _, rfl, ite2 (fun _ => ?_) (fun _ => ?_)⟩
    · refine ⟨.ref p, rfl, p, 5, n + 1, rfl, B1, by omega, by omega, by omega, fun H2 r2 b2 B2 l2 u2 => ⟨_, _, rfl, rfl, ?_⟩⟩
      refine ⟨.ref p, rfl, p, 2, n + 2, rfl, B2, by decide, by decide, by omega, fun H3 r3 b3 B3 l3 u3 => ?_⟩
      refine ⟨(show 2 ≤ sizeLine by decide), fun t nt => ?_⟩
      refine ⟨t, _, rfl, SqT.mk upd_same, rfl, _, _, rfl, _, _, rfl, rfl, ?_⟩
      have B4 := B3.new (o := .tup [.int (2 + r2), .int r3]) nt
      have b4 := ((b1.trans b2).trans b3).new (o := .tup [.int (2 + r2), .int r3]) nt
      generalize upd H3 t (.tup [.int (2 + r2), .int r3]) = H4 at *
      refine ⟨.int (m : Nat), rfl, m, rfl, by omega, by omega, fun D nD => ?_⟩
      refine lc_range (PV p D H4 (n + 3)) (pv_start nD B4) (fun i H5 hi h5 => ?_) (fun H5 h5 => ?_)
      · refine ⟨rfl, yes_ite ?_⟩
        have h5' := h5
        obtain ⟨_, _, _, _, B5, _⟩ := h5'
        have st : ∀ x : Int, (x = 0 ∨ x = 1) → _ := fun x hx => pv_step (H4 := H5) nD (ne_new B4 nD) h5 (But.refl p H5) (B5.mono (by omega)) (by omega) hx
        refine ⟨_, rfl, .int r3, rfl, _, _, rfl, rfl, .int (2 + r2), rfl, _, _, rfl, rfl, (show (0 : Int) < 2 + r2 by omega), rfl, .inr ⟨_, rfl, st _ ?_⟩⟩
        split
        · exact .inr rfl
        · exact .inl rfl
      · obtain ⟨rs, hl, hb, b5, B5, hD⟩ := h5
        refine ⟨D, _, rfl, .inl ⟨SqL.mk hD, fun l nl => ?_⟩⟩
        exact q _ l rs ((b4.trans b5).new nl) ((B5.new nl).mono (by omega)) upd_same (by omega) hb
    · refine ⟨.int (m : Nat), rfl, m, rfl, by omega, by omega, fun D nD => ?_⟩
      refine lc_range (PV p D H1 (n + 1)) (pv_start nD B1) (fun i H5 hi h5 => ?_) (fun H5 h5 => ?_)
      · refine ⟨rfl, yes_ite ?_⟩
        have h5' := h5
        obtain ⟨_, _, _, _, B5, _⟩ := h5'
        refine ⟨.ref p, rfl, p, 2, n + 1 + i, rfl, B5, by decide, by decide, by omega, fun H6 r6 b6 B6 l6 u6 => ?_⟩
        exact pv_step nD (ne_new B1 nD) h5 b6 B6 (by omega) (by omega)
      · obtain ⟨rs, hl, hb, b5, B5, hD⟩ := h5
        refine ⟨D, _, rfl, .inl ⟨SqL.mk hD, fun l nl => ?_⟩⟩
        exact q _ l rs ((b1.trans b5).new nl) ((B5.new nl).mono (by omega)) upd_same (by omega) hb
def sp__law_long (_ : PySem.W.Frag) : Sp := fun vs H Q _ => ∃ (p : Addr) (n : Nat), vs = [.ref p] ∧ Bx H p n ∧ n < 1000000000 ∧
  ∀ H' (m : Nat), But p H H' → Bx H' p (n + 4) → 1 ≤ m → m ≤ 400 → Q (.int (m : Nat)) H'
theorem nat_of {x : Int} (h : 0 ≤ x) : ∃ m : Nat, x = (m : Nat) := Int.eq_ofNat_of_zero_le h
def PN (p D : Addr) (HX : Hp) (m : Int) (k i : Nat) (H1 : Hp) : Prop := ∃ rs : List Int, rs.length = i ∧ (∀ x, x ∈ rs → 0 ≤ x ∧ x < m) ∧ But p HX H1 ∧ Bx H1 p (k + i) ∧ H1 D = some (.lst (rs.map V.int))
theorem pn_start {p D : Addr} {HX : Hp} {m : Int} {k : Nat} (nD : HX D = none) (B : Bx HX p k) : PN p D HX m k 0 (upd HX D (.lst [])) := ⟨[], rfl, fun _ h => (by cases h), (But.refl p HX).new nD, B.new nD, upd_same⟩
theorem pn_step {p D : Addr} {HX H1 H4 : Hp} {m : Int} {k i : Nat} {x : Int} (nD : HX D = none) (Dp : D ≠ p) (h : PN p D HX m k i H1) (b : But p H1 H4) (B : Bx H4 p (k + (i + 1))) (hi : i < 100000) (hx : 0 ≤ x ∧ x < m) :
    ∃ acc, H4 D = some (.lst acc) ∧ acc.length < sizeLine ∧ PN p D HX m k (i + 1) (upd H4 D (.lst (acc ++ [.int x]))) := by
  obtain ⟨rs, hl, hb, b1, _, hD⟩ := h
  have hsl : sizeLine = 16777216 := by decide
  refine ⟨_, b _ _ Dp hD, by rw [List.length_map]; omega, rs ++ [x], by rw [List.length_append, hl]; rfl, fun y hy => ?_, but_newer (b1.trans b) nD, B.other Dp, ?_⟩
  · rcases List.mem_append.mp hy with hy | hy
    · exact hb y hy
    · rw [List.mem_singleton.mp hy]
      exact hx
  · rw [upd_same, List.map_append]
    rfl
theorem nx_via {t u : TS} {D : Ends} {r : VK} {k c : L2.St → Hp → Prop} {σ : L2.St} {H : Hp} (R : L2.St → Hp → Prop) (h1 : ∀ N : L2.St → Hp → Prop, (∀ σ H, R σ H → N σ H) → t { D with nx := N } σ H) (h2 : ∀ σ H, R σ H → u D σ H) : Ends.nx { nx := tSeq t u D, rt := r, bk := k, ct := c } σ H := h1 _ h2
theorem seq_via {t u : TS} {D : Ends} {σ : L2.St} {H : Hp} (R : L2.St → Hp → Prop) (h1 : ∀ N : L2.St → Hp → Prop, (∀ σ H, R σ H → N σ H) → t { D with nx := N } σ H) (h2 : ∀ σ H, R σ H → u D σ H) : tSeq t u D σ H := h1 _ h2
/-! two lists of the same numbers -/
theorem dp_ints {K : PySem.W.Frag} {H : Hp} : ∀ ns : List Int, DpAll K H (ns.map V.int) (ns.map PyData.int)
  | [] => .nil
  | x :: r => .cons (.int x) (dp_ints r)
theorem sh_ints (ns : List Int) : SeqAt.shaped (.list (ns.map PyData.int)) = true := by
  have h1 : PyData.canLayAll0 (ns.map PyData.int) = true := by
    induction ns with
    | nil => rfl
    | cons x r ih =>
      show (PyData.canLay0 (.int x) && PyData.canLayAll0 (r.map PyData.int)) = true
      rw [ih]
      rfl
  have h2 : PyData.depthAll (ns.map PyData.int) = 0 := by
    induction ns with
    | nil => rfl
    | cons x r ih =>
      show max (PyData.depth (.int x)) (PyData.depthAll (r.map PyData.int)) = 0
      rw [ih (by
        have : (PyData.canLay0 (.int x) && PyData.canLayAll0 (r.map PyData.int)) = true := h1
        exact (Bool.and_eq_true_iff.mp this).2)]
      rfl
  show (PyData.canLayAll0 (ns.map PyData.int) && decide (PyData.depthAll (ns.map PyData.int) + 1 ≤ 64)) = true
  rw [h1, h2]
  rfl
theorem eqv_ints (ns : List Int) : PyData.eqv (.list (ns.map PyData.int)) (.list (ns.map PyData.int)) = true := by
  have : PyData.eqvAll (ns.map PyData.int) (ns.map PyData.int) = true := by
    induction ns with
    | nil => rfl
    | cons x r ih =>
      show (PyData.eqv (.int x) (.int x) && PyData.eqvAll (r.map PyData.int) (r.map PyData.int)) = true
      rw [ih]
      show ((x == x) && true) = true
      simp
  exact this
theorem neL {K : PySem.W.Frag} {H : Hp} {a b : Addr} {ns ms : List Int} (ha : H a = some (.lst (ns.map V.int))) (hb : H b = some (.lst (ms.map V.int))) (e : ns = ms) {Q : VK} (q : Q (.bl false) H) : rNeD K (.ref a) (.ref b) H Q := by
  subst e
  refine ⟨_, _, .lst (SqL.mk ha) (dp_ints ns), .lst (SqL.mk hb) (dp_ints ns), sh_ints ns, sh_ints ns, ?_⟩
  rw [eqv_ints]
  exact q
theorem cut_from (ns : List Int) (m : Nat) : cutV (ns.map V.int) (some (m : Int)) none = (ns.drop m).map V.int := by
  unfold cutV
  rw [HT.sIx_nat, HT.sIx_none, List.length_map]
  by_cases h : m ≤ ns.length
  · rw [Nat.min_eq_left h, ← List.map_drop, List.take_of_length_le (by rw [List.length_map, List.length_drop]; omega)]
  · rw [Nat.min_eq_right (by omega), Nat.sub_self, List.take_zero, List.drop_of_length_le (by omega)]
    rfl
/-! makers drawn -/
theorem rnd_pos : ∀ {m : Mk}, m.Ok → 1 ≤ m.rnd
  | .slow n m, h => Nat.mul_pos h.1 (rnd_pos (m := m) h.2.2)
  | .slip n m, h => by
    have r := rnd_pos (m := m) h.2.2
    obtain ⟨c, hc⟩ := Nat.gcd_dvd_left m.rnd (n + 1)
    have g := gcd_le (a := m.rnd) (n := n)
    show 1 ≤ n * m.rnd / Nat.gcd m.rnd (n + 1)
    generalize Nat.gcd m.rnd (n + 1) = d at hc g
    rw [hc, Nat.mul_left_comm, Nat.mul_div_cancel_left _ (by omega)]
    have c1 : 1 ≤ c := by
      rcases Nat.eq_zero_or_pos c with z | z
      · rw [z, Nat.mul_zero] at hc
        omega
      · exact z
    exact Nat.mul_pos h.1 c1
  | .late _ m, h => rnd_pos (m := m) h.2
  | .counter _ _ _, h => (Mk.Pl.len (m := .counter _ _ _) h).1
  | .table _, h => (Mk.Pl.len (m := .table _) h).1
  | .turned _ _, h => (Mk.Pl.len (m := .turned _ _) h).1
  | .register _ _ _, h => (Mk.Pl.len (m := .register _ _ _) h).1
theorem bt_round : ∀ {m : Mk}, m.Ok → ∀ (c : Nat) (t : Int), ∃ z : Int, m.bt (t + (c : Int) * (m.rnd : Int)) = m.bt t + z * (m.inn.pl.length : Int)
  | .slow n m, h, c, t => by
    have n0 : (n : Int) ≠ 0 := by have := h.1; omega
    obtain ⟨z, hz⟩ := bt_round (m := m) h.2.2 c (t / n)
    refine ⟨z, ?_⟩
    show m.bt ((t + (c : Int) * ((n * m.rnd : Nat) : Int)) / n) = _
    rw [show (c : Int) * ((n * m.rnd : Nat) : Int) = (n : Int) * ((c : Int) * (m.rnd : Int)) by rw [Int.natCast_mul, Int.mul_left_comm], Int.add_mul_ediv_left _ _ n0]
    exact hz
  | .slip n m, h, c, t => by
    have n0 : (n : Int) ≠ 0 := by have := h.1; omega
    obtain ⟨r', hr⟩ := Nat.gcd_dvd_left m.rnd (n + 1)
    obtain ⟨e, he⟩ := Nat.gcd_dvd_right m.rnd (n + 1)
    have g := gcd_le (a := m.rnd) (n := n)
    obtain ⟨z, hz⟩ := bt_round (m := m) h.2.2 (c * e) (t + t / n)
    refine ⟨z, ?_⟩
    have eR : n * m.rnd / Nat.gcd m.rnd (n + 1) = n * r' := by
      generalize Nat.gcd m.rnd (n + 1) = d at hr g
      rw [hr, Nat.mul_left_comm, Nat.mul_div_cancel_left _ (by omega)]
    have key : (n + 1) * r' = e * m.rnd := by
      generalize Nat.gcd m.rnd (n + 1) = d at hr he
      rw [he, hr, Nat.mul_comm d e, Nat.mul_assoc]
    show m.bt ((t + (c : Int) * ((n * m.rnd / Nat.gcd m.rnd (n + 1) : Nat) : Int)) + (t + (c : Int) * ((n * m.rnd / Nat.gcd m.rnd (n + 1) : Nat) : Int)) / n) = _
    rw [eR, show (c : Int) * ((n * r' : Nat) : Int) = (n : Int) * ((c : Int) * (r' : Int)) by rw [Int.natCast_mul, Int.mul_left_comm], Int.add_mul_ediv_left _ _ n0]
    have e2 : t + (n : Int) * ((c : Int) * (r' : Int)) + (t / (n : Int) + (c : Int) * (r' : Int)) = t + t / (n : Int) + ((c * e : Nat) : Int) * (m.rnd : Int) := by
      have k1 : ((c * e : Nat) : Int) * (m.rnd : Int) = (c : Int) * (((n + 1) * r' : Nat) : Int) := by
        rw [key, Int.natCast_mul, Int.natCast_mul, Int.mul_assoc]
      have k2 : (c : Int) * (((n + 1) * r' : Nat) : Int) = (n : Int) * ((c : Int) * (r' : Int)) + (c : Int) * (r' : Int) := by
        rw [Int.natCast_mul, Int.natCast_add, Int.add_mul, Int.mul_add, Int.mul_left_comm]
        congr 1
        rw [show ((1 : Nat) : Int) * (r' : Int) = (r' : Int) by omega]
      omega
    rw [e2]
    exact hz
  | .late n m, h, c, t => by
    obtain ⟨z, hz⟩ := bt_round (m := m) h.2 c (t - n)
    refine ⟨z, ?_⟩
    show m.bt (t + (c : Int) * (m.rnd : Int) - n) = _
    rw [show t + (c : Int) * (m.rnd : Int) - (n : Int) = t - (n : Int) + (c : Int) * (m.rnd : Int) by omega]
    exact hz
  | .counter _ _ _, _, c, _ => ⟨c, rfl⟩
  | .table _, _, c, _ => ⟨c, rfl⟩
  | .turned _ _, _, c, _ => ⟨c, rfl⟩
  | .register _ _ _, _, c, _ => ⟨c, rfl⟩
theorem val_round {m : Mk} (h : m.Ok) (t : Int) : m.val (t + (m.rnd : Int)) = m.val t := by
  obtain ⟨z, hz⟩ := bt_round h 1 t
  rw [show (((1 : Nat) : Int)) * (m.rnd : Int) = (m.rnd : Int) by omega] at hz
  unfold Mk.val
  rw [hz, Int.add_mul_emod_self_right]
def SV (D : Addr) (HX : Hp) (m i : Nat) (H1 : Hp) : Prop := ∃ ss : List Int, ss.length ≤ i ∧ (i = 0 ∨ 1 ≤ ss.length) ∧ (∀ x, x ∈ ss → 1 ≤ x ∧ x ≤ m) ∧ Same HX H1 ∧ H1 D = some (.lst (ss.map V.int))
theorem i01b {c : Bool} : 0 ≤ (if c = true then (1 : Int) else 0) ∧ (if c = true then (1 : Int) else 0) < ((2 : Nat) : Int) := by
  cases c <;> decide
def sp__law_plain (_ : PySem.W.Frag) : Sp := fun vs H Q _ => ∃ (p : Addr) (n : Nat), vs = [.ref p] ∧ Bx H p n ∧ n < 1000000000 ∧
  ∀ H' v m, But p H H' → Bx H' p (n + 200) → MkAt H' m v → m.dep = 0 → m.Pl → Q v H'
theorem ok__law_plain (T : Defs K mg) (TT : Tabs T base) : FnOk P w K mg base CX0 2 T.f__law_plain T.fd__law_plain ["_law_box_here"] (sp__law_plain K) := by
  have G__law_take : FnOk P w K mg base CX0 1 T.f__law_take T.fd__law_take ["_law_box_here", "_law_many"] (sp__law_take K) := ok__law_take T TT
  have G__law_powers : FnOk P w K mg base CX0 1 T.f__law_powers T.fd__law_powers [] (sp__law_powers K) := ok__law_powers T TT
  have G__law_divisor : FnOk P w K mg base CX0 1 T.f__law_divisor T.fd__law_divisor ["_law_one", "_law_other"] (sp__law_divisor K) := ok__law_divisor T TT
  refine T.F__law_plain.ok sc__law_plain (fun vs H Q E h => ?_) (fun cdv A outer s H vs Q E hr h => ?_)
  · obtain ⟨p, n, rfl, hB, hn, q⟩ := h
    rfl
  · obtain ⟨p, n, rfl, hB, hn, q⟩ := h
    refine ⟨_, PSs.nox (pss_cons (ps_par (i := 1) (j := 2) (by rfl) sc__law_plain.nd rfl rfl (by decide) rfl rfl (pa_cons (pe_call G__law_take (hr.mono (by decide)) (by rfl) T.g__law_take T.F__law_take.kp T.b__law_take .nil pass0 (pa_cons (pv 0) (pa_cons pe_int pa_nil))) (pa_cons (pe_cmpR op_eq (pe_call G__law_take (hr.mono (by decide)) (by rfl) T.g__law_take T.F__law_take.kp T.b__law_take .nil pass0 (pa_cons (pv 0) (pa_cons pe_int pa_nil))) pe_int (nomark _)) pa_nil)) (by rfl))
    (pss_cons (ps_if (pt_cmpR op_eq (pv 1) pe_int (nomark _)) (pss_cons (ps_set (i := 3) sc__law_plain.nd rfl (.inr rfl) (pe_ix ix_list (pe_lst (pa_cons (pe_op op_add pe_int (pe_call G__law_take (hr.mono (by decide)) (by rfl) T.g__law_take T.F__law_take.kp T.b__law_take .nil pass0 (pa_cons (pv 0) (pa_cons pe_int pa_nil)))) (pa_cons (pe_op op_add pe_int (pe_call G__law_take (hr.mono (by decide)) (by rfl) T.g__law_take T.F__law_take.kp T.b__law_take .nil pass0 (pa_cons (pv 0) (pa_cons pe_int pa_nil)))) pa_nil))) (pe_callTy call_int1 (by rfl) T.m_int bt_int (pa_cons (pv 2) pa_nil)) (fun _ _ => rfl)))
    (pss_cons (ps_setLc (i := 4) (own := [("_law_step", 7)]) (g := gName 7) rfl sc__law_plain.nd rfl rfl (sw_true rfl rfl rfl (by decide +kernel)) (pi_range2 (by rfl) T.m_range (pa_cons pe_int (pa_cons (pe_op op_add (pv 3) pe_int) pa_nil))) (blkOk_by (N := N__law_plain) (sc := defScope s__law_plain) (by decide +kernel)) (fun _ _ _ _ _ => (pg_name (i := 7) sc__law_plain.nd rfl (.inl rfl))) (fun _ _ _ _ _ => pts_one (pt_cmpR op_eq (pe_call G__law_divisor (hr.mono (by decide)) (by rfl) T.g__law_divisor T.F__law_divisor.kp T.b__law_divisor .nil pass0 (pa_cons (pv 7) (pa_cons (pv 3) pa_nil))) pe_int (nomark _))) (fun _ _ _ _ _ => (pv 7)))
    (pss_one (ps_ret (pe_tup (pa_cons pe_str (pa_cons (pv 3) (pa_cons (pe_ix ix_list (pv 4) (pe_call G__law_take (hr.mono (by decide)) (by rfl) T.g__law_take T.F__law_take.kp T.b__law_take .nil pass0 (pa_cons (pv 0) (pa_cons (pe_callB call_len_seq (by rfl) T.m_len bt_len (pa_cons (pv 4) pa_nil)) pa_nil))) (fun _ _ => rfl)) (pa_cons (pe_call G__law_take (hr.mono (by decide)) (by rfl) T.g__law_take T.F__law_take.kp T.b__law_take .nil pass0 (pa_cons (pv 0) (pa_cons (pv 3) pa_nil))) pa_nil))))))))) pss_nil)
    (pss_cons (ps_if (pt_cmpR op_eq (pv 1) pe_int (nomark _)) (pss_cons (ps_set (i := 3) sc__law_plain.nd rfl (.inr rfl) (pe_ix ix_list (pe_lst (pa_cons (pe_op op_add pe_int (pe_call G__law_take (hr.mono (by decide)) (by rfl) T.g__law_take T.F__law_take.kp T.b__law_take .nil pass0 (pa_cons (pv 0) (pa_cons pe_int pa_nil)))) (pa_cons (pe_op op_add pe_int (pe_call G__law_take (hr.mono (by decide)) (by rfl) T.g__law_take T.F__law_take.kp T.b__law_take .nil pass0 (pa_cons (pv 0) (pa_cons pe_int pa_nil)))) pa_nil))) (pe_callTy call_int1 (by rfl) T.m_int bt_int (pa_cons (pv 2) pa_nil)) (fun _ _ => rfl)))
    (pss_cons (ps_set (i := 5) sc__law_plain.nd rfl (.inr rfl) (pe_ix ix_list (pe_lst (pa_cons pe_int (pa_cons pe_int (pa_cons pe_int pa_nil)))) (pe_call G__law_take (hr.mono (by decide)) (by rfl) T.g__law_take T.F__law_take.kp T.b__law_take .nil pass0 (pa_cons (pv 0) (pa_cons pe_int pa_nil))) (fun _ _ => rfl)))
    (pss_one (ps_ret (pe_tup (pa_cons pe_str (pa_cons (pe_callTy call_tuple_of (by rfl) T.m_tuple bt_tuple (pa_cons (pe_lc (own := [("_law_place", 8)]) (g := gName 8) (tt := tYes) rfl sc__law_plain.nd (pi_range1 (by rfl) T.m_range (pa_cons (pv 3) pa_nil)) (blkOk_by (N := N__law_plain) (sc := defScope s__law_plain) (by decide +kernel)) (fun _ _ _ _ _ => (pg_name (i := 8) sc__law_plain.nd rfl (.inl rfl))) (fun _ _ _ _ _ => pts_nil) (fun _ _ _ _ _ => (pe_call G__law_take (hr.mono (by decide)) (by rfl) T.g__law_take T.F__law_take.kp T.b__law_take .nil pass0 (pa_cons (pv 0) (pa_cons (pv 5) pa_nil))))) pa_nil)) pa_nil))))))) pss_nil)
    (pss_cons (ps_set (i := 6) sc__law_plain.nd rfl (.inl rfl) (pe_op op_add pe_int (pe_call G__law_take (hr.mono (by decide)) (by rfl) T.g__law_take T.F__law_take.kp T.b__law_take .nil pass0 (pa_cons (pv 0) (pa_cons (pe_ix ix_list (pe_lst (pa_cons pe_int (pa_cons pe_int pa_nil))) (pe_callTy call_int1 (by rfl) T.m_int bt_int (pa_cons (pv 2) pa_nil)) (fun _ _ => rfl)) pa_nil)))))
    (pss_cons (ps_set (i := 3) sc__law_plain.nd rfl (.inr rfl) (pe_ix ix_list (pe_call0 G__law_powers (hr.mono (by decide)) (by rfl) T.g__law_powers T.F__law_powers.kp T.b__law_powers .nil pass0) (pv 6) (fun _ _ => rfl)))
    (pss_cons (ps_if (pt_cmpR op_eq (pv 1) pe_int (nomark _)) (pss_cons (ps_set (i := 6) sc__law_plain.nd rfl (.inl rfl) (pe_op op_sub (pv 6) (pe_call G__law_take (hr.mono (by decide)) (by rfl) T.g__law_take T.F__law_take.kp T.b__law_take .nil pass0 (pa_cons (pv 0) (pa_cons pe_int pa_nil)))))
    (pss_one (ps_ret (pe_tup (pa_cons pe_str (pa_cons (pv 6) (pa_cons (pe_call G__law_take (hr.mono (by decide)) (by rfl) T.g__law_take T.F__law_take.kp T.b__law_take .nil pass0 (pa_cons (pv 0) (pa_cons (pe_ix ix_list (pe_call0 G__law_powers (hr.mono (by decide)) (by rfl) T.g__law_powers T.F__law_powers.kp T.b__law_powers .nil pass0) (pv 6) (fun _ _ => rfl)) pa_nil))) pa_nil))))))) pss_nil)
    (pss_one (ps_ret (pe_tup (pa_cons pe_str (pa_cons (pv 6) (pa_cons (pe_op op_add (pe_op op_fdiv (pv 3) pe_int) (pe_call G__law_take (hr.mono (by decide)) (by rfl) T.g__law_take T.F__law_take.kp T.b__law_take .nil pass0 (pa_cons (pv 0) (pa_cons (pe_op op_fdiv (pv 3) pe_int) pa_nil)))) (pa_cons (pe_op op_add pe_int (pe_call G__law_take (hr.mono (by decide)) (by rfl) T.g__law_take T.F__law_take.kp T.b__law_take .nil pass0 (pa_cons (pv 0) (pa_cons (pe_op op_sub (pv 3) pe_int) pa_nil)))) pa_nil))))))))))))), ?_⟩
    have hsl : sizeLine = 16777216 := by decide
    refine ⟨.ref p, rfl, p, 4, n, rfl, hB, by decide, by decide, by omega, fun H1 way c1 B1 l1 u1 => ?_⟩
    refine ⟨.ref p, rfl, p, 8, n + 1, rfl, B1, by decide, by decide, by omega, fun H2 r2 c2 B2 l2 u2 => ⟨rfl, _, _, rfl, ?_⟩⟩
    obtain ⟨gr, hgr⟩ : ∃ gr, decide (V.int r2 = V.int 0) = gr := ⟨_, rfl⟩
    rw [hgr]
    have b2 := c1.trans c2
    clear c1 c2 B1 hgr l2 u2
    refine ⟨.int way, rfl, rfl, _, rfl, ite2 (fun _ => ?_) (fun _ => ?_)⟩
    · -- a counter
      refine ⟨.ref p, rfl, p, 16, _, rfl, B2, by decide, by decide, by omega, fun H3 r3 c3 B3 l3 u3 => ⟨_, _, rfl, rfl, ?_⟩⟩
      refine ⟨.ref p, rfl, p, 64, _, rfl, B3, by decide, by decide, by omega, fun H4 r4 c4 B4 l4 u4 => ⟨_, _, rfl, rfl, ?_⟩⟩
      refine ⟨(show 2 ≤ sizeLine by decide), fun l nl => ?_⟩
      obtain ⟨v, ev, hv⟩ := at_menu (Pr := fun v => 1 ≤ v ∧ v ≤ 64) (xs := [1 + r3, 1 + r4]) (r := if gr = true then (1 : Int) else 0) i01b.1 i01b.2 (fun x hx => by
        simp only [List.mem_cons, List.not_mem_nil, or_false] at hx
        omega)
      refine ⟨.bl gr, rfl, .inr ⟨_, rfl, l, _, _, _, rfl, rfl, SqL.mk upd_same, ev, ?_⟩⟩
      obtain ⟨m, rfl⟩ := nat_of (show 0 ≤ v by omega)
      have b4 := (b2.trans (c3.trans c4)).new (o := .lst [.int (1 + r3), .int (1 + r4)]) nl
      have B5 := B4.new (o := .lst [.int (1 + r3), .int (1 + r4)]) nl
      generalize upd H4 l (.lst [.int (1 + r3), .int (1 + r4)]) = G2 at b4 B5 ⊢
      clear ev l3 u3 l4 u4 c3 c4 B3 B4 nl
      refine ⟨.int (m : Nat), rfl, _, _, rfl, rfl, _, _, rfl, ⟨by decide, by decide, by omega, by omega⟩, fun D nD => ?_⟩
      refine lc_range (SV D G2 m) ⟨[], Nat.le_refl 0, .inl rfl, fun _ h => (by cases h), same_upd nD, upd_same⟩ (fun i F hi h => ?_) (fun F h => ?_)
      · obtain ⟨ss, e1, e2, e3, sF, hD⟩ := h
        have hi : i < m := by omega
        refine ⟨rfl, _, rfl, .int (m : Nat), rfl, _, _, rfl, rfl, _, rfl, ?_⟩
        refine ite2 (fun e => ?_) (fun e => ?_)
        · refine ⟨_, rfl, _, hD, by rw [List.length_map]; omega, ss ++ [1 + (i : Int)], by rw [List.length_append]; exact Nat.add_le_add_right e1 1, .inr (by rw [List.length_append]; exact Nat.le_add_left _ _), fun x hx => ?_, same_newer sF nD, by rw [upd_same, List.map_append]; rfl⟩
          rcases List.mem_append.mp hx with hx | hx
          · exact e3 x hx
          · rw [List.mem_singleton.mp hx]
            omega
        · refine ⟨ss, by omega, .inr ?_, e3, sF, hD⟩
          rcases e2 with rfl | e2
          · exfalso
            refine e (decide_eq_true ?_)
            show V.int ((Int.gcd (1 + ((0 : Nat) : Int)) (m : Int) : Nat) : Int) = V.int 1
            have : Int.gcd (1 + ((0 : Nat) : Int)) (m : Int) = 1 := by
              show Nat.gcd 1 m = 1
              exact Nat.gcd_one_left m
            rw [this]
            rfl
          · exact e2
      obtain ⟨ss, e1, e2, e3, sF, hD⟩ := h
      have e2 : 1 ≤ ss.length := by omega
      have e1 : ss.length ≤ 64 := by omega
      have bF := b4.trans (same_but (p := p) sF)
      have BF := B5.same sF
      have Db : D ≠ p := ne_new B5 nD
      refine ⟨.int (m : Nat), rfl, .ref D, rfl, .ref p, rfl, .ref D, rfl, D, _, rfl, .inl (SqL.mk hD), p, ss.length, _, by rw [List.length_map]; rfl, BF, by omega, by omega, by omega, fun F3 r5 c5 B6 l5 u5 => ?_⟩
      obtain ⟨sp, ev2, hv2⟩ := at_menu (Pr := fun v => 1 ≤ v ∧ v ≤ (m : Int)) (xs := ss) l5 u5 e3
      refine ⟨D, _, _, _, rfl, rfl, SqL.mk (c5 _ _ Db hD), ev2, .ref p, rfl, .int (m : Nat), rfl, p, m, _, rfl, B6, by omega, by omega, by omega, fun F4 r6 c6 B7 l6 u6 => ⟨(show 4 ≤ sizeLine by decide), fun mk nmk => ?_⟩⟩
      obtain ⟨sp, rfl⟩ := nat_of (show 0 ≤ sp by omega)
      obtain ⟨t, rfl⟩ := nat_of l6
      exact q _ (.ref mk) (.counter m sp t) ((bF.trans (c5.trans c6)).new nmk) ((B7.new nmk).mono (by omega)) ⟨mk, rfl, upd_same⟩ rfl ⟨by omega, by omega, by omega, by omega⟩
    refine ⟨.int way, rfl, rfl, _, rfl, ite2 (fun _ => ?_) (fun _ => ?_)⟩
    · -- a table
      refine ⟨.ref p, rfl, p, 8, _, rfl, B2, by decide, by decide, by omega, fun H3 r3 c3 B3 l3 u3 => ⟨_, _, rfl, rfl, ?_⟩⟩
      refine ⟨.ref p, rfl, p, 64, _, rfl, B3, by decide, by decide, by omega, fun H4 r4 c4 B4 l4 u4 => ⟨_, _, rfl, rfl, ?_⟩⟩
      refine ⟨(show 2 ≤ sizeLine by decide), fun l nl => ?_⟩
      obtain ⟨v, ev, hv⟩ := at_menu (Pr := fun v => 1 ≤ v ∧ v ≤ 64) (xs := [1 + r3, 1 + r4]) (r := if gr = true then (1 : Int) else 0) i01b.1 i01b.2 (fun x hx => by
        simp only [List.mem_cons, List.not_mem_nil, or_false] at hx
        omega)
      refine ⟨.bl gr, rfl, .inr ⟨_, rfl, l, _, _, _, rfl, rfl, SqL.mk upd_same, ev, ?_⟩⟩
      obtain ⟨k, rfl⟩ := nat_of (show 0 ≤ v by omega)
      have b4 := (b2.trans (c3.trans c4)).new (o := .lst [.int (1 + r3), .int (1 + r4)]) nl
      have B5 := B4.new (o := .lst [.int (1 + r3), .int (1 + r4)]) nl
      generalize upd H4 l (.lst [.int (1 + r3), .int (1 + r4)]) = G2 at b4 B5 ⊢
      clear ev l3 u3 l4 u4 c3 c4 B3 B4 nl
      refine ⟨(show 3 ≤ sizeLine by decide), fun l nl => ?_⟩
      refine ⟨.ref p, rfl, p, 3, _, rfl, B5.new nl, by decide, by decide, by omega, fun F5 r6 c7 B7 l6 u6 => ?_⟩
      obtain ⟨ms, ev, hv2⟩ := at_menu (Pr := fun v => 1 ≤ v ∧ v ≤ 64) (xs := [2, 6, 64]) l6 u6 (fun x hx => by
        simp only [List.mem_cons, List.not_mem_nil, or_false] at hx
        omega)
      refine ⟨l, _, _, _, rfl, rfl, SqL.mk (c7 _ _ (ne_new B5 nl) upd_same), ev, ?_⟩
      have b7 := (b4.new nl).trans c7
      refine ⟨.int (k : Nat), rfl, _, rfl, by omega, by omega, fun D nD => ?_⟩
      refine lc_range (PN p D F5 ms (n + 50)) (pn_start nD (B7.mono (by omega))) (fun i E5 hi h5 => ?_) (fun E5 h5 => ?_)
      · refine ⟨rfl, yes_ite ?_⟩
        have h5' := h5
        obtain ⟨_, _, _, _, B8, _⟩ := h5'
        refine ⟨.ref p, rfl, .int ms, rfl, p, ms, _, rfl, B8, by omega, by omega, by omega, fun H6 r6 b6 B6 l6 u6 => ?_⟩
        exact pn_step nD (ne_new B7 nD) h5 b6 B6 (by omega) ⟨l6, u6⟩
      obtain ⟨rs, hl, hb, b8, B8, hD⟩ := h5
      refine ⟨D, _, rfl, .inl ⟨SqL.mk hD, fun tb ntb => ⟨(show 2 ≤ sizeLine by decide), fun mk nmk => ?_⟩⟩⟩
      exact q _ (.ref mk) (.table rs) ((b7.trans ((b8.new ntb).new nmk))) (((B8.new ntb).new nmk).mono (by omega)) ⟨mk, tb, rfl, upd_same, (same_upd nmk) _ _ upd_same⟩ rfl ⟨by omega, by omega, fun x hx => by have := hb x hx; omega⟩
    -- turned ones and registers
    refine ⟨.ref p, rfl, (show 2 ≤ sizeLine by decide), fun l nl => ?_⟩
    obtain ⟨v, ev, hv⟩ := at_menu (Pr := fun v => 3 ≤ v ∧ v ≤ 5) (xs := [3, 5]) (r := if gr = true then (1 : Int) else 0) i01b.1 i01b.2 (fun x hx => by
      simp only [List.mem_cons, List.not_mem_nil, or_false] at hx
      omega)
    refine ⟨.bl gr, rfl, .inr ⟨_, rfl, l, _, _, _, rfl, rfl, SqL.mk upd_same, ev, p, v, _, rfl, B2.new nl, by omega, by omega, by omega, fun H3 r3 c3 B3 l3 u3 => ⟨_, _, rfl, rfl, ?_⟩⟩⟩
    have b3 := (b2.new nl).trans c3
    obtain ⟨w', hw⟩ : ∃ w' : Nat, 2 + r3 = w' := ⟨(2 + r3).toNat, by omega⟩
    have w1 : 2 ≤ w' := by omega
    have w2 : w' ≤ 6 := by omega
    try dsimp only
    rw [hw]
    clear ev hv l3 u3 c3 B2 nl hw b2
    refine ⟨rfl, fun H4 lp g4 nlp hlp => ?_⟩
    refine ⟨.int (w' : Nat), rfl, lp, _, _, _, rfl, rfl, SqL.mk hlp, at_pow w2, ?_⟩
    have tp := two_pow6 w2
    obtain ⟨h2, hh2⟩ : ∃ h2, 2 ^ (w' - 1) = h2 := ⟨_, rfl⟩
    have en : 2 ^ w' = 2 * h2 := by
      rw [← hh2, show w' = (w' - 1) + 1 by omega, Nat.pow_succ, Nat.add_sub_cancel]
      omega
    obtain ⟨nn, hn2⟩ : ∃ nn : Nat, 2 ^ w' = nn := ⟨_, rfl⟩
    rw [hn2] at tp en ⊢
    have h21 : 2 ≤ h2 := by
      rw [← hh2]
      exact Nat.le_trans (by decide : 2 ≤ 2 ^ 1) (Nat.pow_le_pow_right (by decide) (by omega))
    have B4 := B3.same g4
    have b4 := b3.trans (same_but (p := p) g4)
    refine ⟨.int way, rfl, rfl, _, rfl, ite2 (fun _ => ?_) (fun _ => ?_)⟩
    · refine ⟨.int (w' : Nat), rfl, .ref p, rfl, p, 2, _, rfl, B4, by decide, by decide, by omega, fun H5 r5 c5 B5 l5 u5 => ⟨_, _, rfl, rfl, ?_⟩⟩
      obtain ⟨v', hv'⟩ : ∃ v' : Nat, (w' : Int) - r5 = v' := ⟨((w' : Int) - r5).toNat, by omega⟩
      have v1 : 1 ≤ v' := by omega
      have v2 : v' ≤ 6 := by omega
      try dsimp only
      rw [hv']
      have vp := two_pow6 v2
      obtain ⟨mm, hmm⟩ : ∃ mm : Nat, 2 ^ v' = mm := ⟨_, rfl⟩
      refine ⟨.int (v' : Nat), rfl, .ref p, rfl, rfl, fun H6 lq g6 nlq hlq => ?_⟩
      refine ⟨.int (v' : Nat), rfl, lq, _, _, _, rfl, rfl, SqL.mk hlq, at_pow v2, ?_⟩
      rw [hmm] at vp ⊢
      refine ⟨p, mm, _, rfl, B5.same g6, by omega, by omega, by omega, fun H7 r7 c7 B7 l7 u7 => ⟨(show 3 ≤ sizeLine by decide), fun mk nmk => ?_⟩⟩
      obtain ⟨t, rfl⟩ := nat_of l7
      exact q _ (.ref mk) (.turned v' t) (((b4.trans c5).trans ((same_but g6).trans c7)).new nmk) ((B7.new nmk).mono (by omega)) ⟨mk, rfl, upd_same⟩ rfl ⟨v1, v2, by rw [hmm]; omega⟩
    · have ed : (nn : Int) / 2 = (h2 : Int) := by omega
      refine ⟨.int (w' : Nat), rfl, .int (nn : Nat), rfl, _, _, rfl, rfl, ⟨by decide, by decide⟩, .ref p, rfl, .int (nn : Nat), rfl, _, _, rfl, rfl, ⟨by decide, by decide⟩, p, (h2 : Int), _, congrArg (fun z => [V.ref p, V.int z]) ed, B4, by omega, by omega, by omega, fun H5 r5 c5 B5 l5 u5 => ⟨_, _, rfl, rfl, ?_⟩⟩
      obtain ⟨p', hp'⟩ : ∃ p' : Nat, (nn : Int) / 2 + r5 = p' := ⟨((nn : Int) / 2 + r5).toNat, by omega⟩
      refine ⟨.ref p, rfl, .int (nn : Nat), rfl, _, _, rfl, rfl, p, (nn : Int) - 1, _, rfl, B5, by omega, by omega, by omega, fun H6 r6 c6 B6 l6 u6 => ⟨_, _, rfl, rfl, (show 4 ≤ sizeLine by decide), fun mk nmk => ?_⟩⟩
      obtain ⟨t, ht⟩ : ∃ t : Nat, 1 + r6 = t := ⟨(1 + r6).toNat, by omega⟩
      refine q _ (.ref mk) (.register w' p' t) ((b4.trans (c5.trans c6)).new nmk) ((B6.new nmk).mono (by omega)) ⟨mk, rfl, ?_⟩ rfl ⟨⟨w1, w2, by rw [hh2]; omega, by rw [hn2]; omega⟩, by omega, by rw [hn2]; omega⟩
      rw [upd_same, ← hp', ← ht]
theorem at_menuV {Pr : V → Prop} {xs : List V} {r : Int} (h0 : 0 ≤ r) (h1 : r < xs.length) (hx : ∀ x, x ∈ xs → Pr x) : ∃ v, atI xs r = some v ∧ Pr v := by
  obtain ⟨j, rfl⟩ := Int.eq_ofNat_of_zero_le h0
  have hj : j < xs.length := by omega
  exact ⟨xs[j], atI_nat (List.getElem?_eq_getElem hj), hx _ (List.getElem_mem hj)⟩
/-- a word and a number around a maker -/
theorem around_ok {H : Hp} {m : Mk} {x : V} {a : Addr} {z : Str} {n : Nat} (ha : H a = some (.tup [.str z, .int (n : Nat), x])) (hx : MkAt H m x) (ok : m.Ok) (hz : z = "slow" ∨ z = "slip" ∨ z = "late") (n2 : n ≤ 64) (n1 : z = "late" ∨ 1 ≤ n) :
    ∃ m', MkAt H m' (.ref a) ∧ m'.Ok ∧ m'.dep = m.dep + 1 ∧ m'.inn = m.inn ∧ m'.rnd ≤ 64 * m.rnd := by
  rcases hz with rfl | rfl | rfl
  · have n1 : 1 ≤ n := n1.resolve_left (by decide +kernel)
    exact ⟨.slow n m, ⟨a, x, rfl, ha, hx⟩, ⟨n1, n2, ok⟩, rfl, rfl, Nat.mul_le_mul_right _ n2⟩
  · have n1 : 1 ≤ n := n1.resolve_left (by decide +kernel)
    exact ⟨.slip n m, ⟨a, x, rfl, ha, hx⟩, ⟨n1, n2, ok⟩, rfl, rfl, Nat.le_trans (Nat.div_le_self _ _) (Nat.mul_le_mul_right _ n2)⟩
  · exact ⟨.late n m, ⟨a, x, rfl, ha, hx⟩, ⟨n2, ok⟩, rfl, rfl, Nat.le_mul_of_pos_left _ (by decide)⟩
theorem word_menu {x : V} (hx : x ∈ [V.str "slow", .str "slip", .str "late"]) : ∃ z : Str, x = .str z ∧ (z = "slow" ∨ z = "slip" ∨ z = "late") := by
  rcases List.mem_cons.mp hx with rfl | hx
  · exact ⟨_, rfl, .inl rfl⟩
  rcases List.mem_cons.mp hx with rfl | hx
  · exact ⟨_, rfl, .inr (.inl rfl)⟩
  rcases List.mem_cons.mp hx with rfl | hx
  · exact ⟨_, rfl, .inr (.inr rfl)⟩
  · cases hx
theorem bs_of {m : Mk} (ok : m.Ok) : m.inn.Bs := by
  have := ok.inn
  have d := Mk.inn_dep m
  cases e : m.inn with
  | slow n k => rw [e] at d; cases d
  | slip n k => rw [e] at d; cases d
  | late n k => rw [e] at d; cases d
  | _ => trivial
def sp__law_maker (_ : PySem.W.Frag) : Sp := fun vs H Q _ => ∃ (p : Addr) (M : Int) (n : Nat), vs = [.ref p, .int M] ∧ Bx H p n ∧ n < 1000000000 ∧ 64 ≤ M ∧
  ∀ H' v m, But p H H' → Bx H' p (n + 300) → MkAt H' m v → m.Ok → m.dep ≤ 3 → (m.rnd : Int) ≤ M → Q v H'
theorem ok__law_maker (T : Defs K mg) (TT : Tabs T base) : FnOk P w K mg base CX0 10 T.f__law_maker T.fd__law_maker ["_law_box_here", "_law_most"] (sp__law_maker K) := by
  have G__law_plain : FnOk P w K mg base CX0 2 T.f__law_plain T.fd__law_plain ["_law_box_here"] (sp__law_plain K) := ok__law_plain T TT
  have G__law_take : FnOk P w K mg base CX0 1 T.f__law_take T.fd__law_take ["_law_box_here", "_law_many"] (sp__law_take K) := ok__law_take T TT
  have G__law_round : FnOk P w K mg base CX0 9 T.f__law_round T.fd__law_round ["_law_maker_here"] (sp__law_round K) := ok__law_round T TT
  refine T.F__law_maker.ok sc__law_maker (fun vs H Q E h => ?_) (fun cdv A outer s H vs Q E hr h => ?_)
  · obtain ⟨p, M, n, rfl, hB, hn, hM, q⟩ := h
    rfl
  · obtain ⟨p, M, n, rfl, hB, hn, hM, q⟩ := h
    refine ⟨_, PSs.nox (pss_cons (ps_set (i := 2) sc__law_maker.nd rfl (.inl rfl) (pe_call G__law_plain (hr.mono (by decide)) (by rfl) T.g__law_plain T.F__law_plain.kp T.b__law_plain .nil pass0 (pa_cons (pv 0) pa_nil)))
    (pss_cons (ps_for PassesOwn.never rfl (pi_range1 (by rfl) T.m_range (pa_cons (pe_ix ix_list (pe_lst (pa_cons pe_int (pa_cons pe_int (pa_cons pe_int (pa_cons pe_int pa_nil))))) (pe_call G__law_take (hr.mono (by decide)) (by rfl) T.g__law_take T.F__law_take.kp T.b__law_take .nil pass0 (pa_cons (pv 0) (pa_cons pe_int pa_nil))) (fun _ _ => rfl)) pa_nil)) (pg_name (i := 3) sc__law_maker.nd rfl (.inl rfl)) (pss_cons (ps_set (i := 4) sc__law_maker.nd rfl (.inl rfl) (pe_ix ix_list (pe_lst (pa_cons pe_str (pa_cons pe_str (pa_cons pe_str pa_nil)))) (pe_call G__law_take (hr.mono (by decide)) (by rfl) T.g__law_take T.F__law_take.kp T.b__law_take .nil pass0 (pa_cons (pv 0) (pa_cons pe_int pa_nil))) (fun _ _ => rfl)))
    (pss_cons (ps_set (i := 5) sc__law_maker.nd rfl (.inl rfl) (pe_op op_add pe_int (pe_call G__law_take (hr.mono (by decide)) (by rfl) T.g__law_take T.F__law_take.kp T.b__law_take .nil pass0 (pa_cons (pv 0) (pa_cons (pe_ix ix_list (pe_lst (pa_cons pe_int (pa_cons pe_int (pa_cons pe_int pa_nil)))) (pe_call G__law_take (hr.mono (by decide)) (by rfl) T.g__law_take T.F__law_take.kp T.b__law_take .nil pass0 (pa_cons (pv 0) (pa_cons pe_int pa_nil))) (fun _ _ => rfl)) pa_nil)))))
    (pss_cons (ps_set (i := 6) sc__law_maker.nd rfl (.inl rfl) (pe_tup (pa_cons (pv 4) (pa_cons (pe_op op_sub (pv 5) (pe_op op_mul (pe_callTy call_int1 (by rfl) T.m_int bt_int (pa_cons (pe_cmpR op_eq (pv 4) pe_str (nomark _)) pa_nil)) (pe_call G__law_take (hr.mono (by decide)) (by rfl) T.g__law_take T.F__law_take.kp T.b__law_take .nil pass0 (pa_cons (pv 0) (pa_cons pe_int pa_nil))))) (pa_cons (pv 2) pa_nil)))))
    (pss_one (ps_if (pt_cmpR op_le (pe_call G__law_round (hr.mono (by decide)) (by rfl) T.g__law_round T.F__law_round.kp T.b__law_round .nil pass0 (pa_cons (pv 6) pa_nil)) (pv 1) (nomark _)) (pss_one (ps_set (i := 2) sc__law_maker.nd rfl (.inl rfl) (pv 6))) pss_nil))))))
    (pss_one (ps_ret (pv 2))))), ?_⟩
    have hsl : sizeLine = 16777216 := by decide
    refine ⟨.ref p, rfl, p, n, rfl, hB, by omega, fun H1 v m b1 B1 hm d0 pl => ?_⟩
    have ok0 : m.Ok := by
      cases m with
      | slow n k => cases d0
      | slip n k => cases d0
      | late n k => cases d0
      | _ => exact pl
    have r0 : (m.rnd : Int) ≤ M := by
      rw [rnd_plain d0]
      have := pl.len
      omega
    refine ⟨(show 4 ≤ sizeLine by decide), fun l nl => ?_⟩
    refine ⟨.ref p, rfl, p, 4, _, rfl, B1.new nl, by decide, by decide, by omega, fun H2 r2 c2 B2 l2 u2 => ?_⟩
    obtain ⟨k, ek, hk⟩ := at_menu (Pr := fun v => 0 ≤ v ∧ v ≤ 3) (xs := [0, 1, 2, 3]) l2 u2 (fun x hx => by
      simp only [List.mem_cons, List.not_mem_nil, or_false] at hx
      omega)
    refine ⟨l, _, _, _, rfl, rfl, SqL.mk (c2 _ _ (ne_new B1 nl) upd_same), ek, _, rfl, by omega, by omega, ?_⟩
    have c12 : But p H1 H2 := ((But.refl p H1).new nl).trans c2
    have b2 := b1.trans c12
    have hm2 : MkAt H2 m v := hm.but B1 c12
    refine for_range (fun i σ G => ∃ v y3 y4 y5 y6, ∃ m : Mk, σ = [some (.ref p), some (.int M), some v, y3, y4, y5, y6] ∧ But p H G ∧ Bx G p (n + 210 + 10 * i) ∧ MkAt G m v ∧ m.Ok ∧ m.dep ≤ i ∧ (m.rnd : Int) ≤ M) ⟨v, none, none, none, none, m, rfl, b2, B2.mono (by omega), hm2, ok0, by omega, r0⟩ ?_ ?_
    rotate_left
    · rintro σ G ⟨v, y3, y4, y5, y6, m, rfl, bG, BG, hm, ok, dp, rm⟩
      exact ⟨v, rfl, q G v m bG (BG.mono (by omega)) hm ok (by omega) rm⟩
    clear hm2 hm ok0 r0 d0 pl m v b1 B1 c12 b2 B2
    rintro i σ G hi ⟨v, y3, y4, y5, y6, m, rfl, bG, BG, hm, ok, dp, rm⟩
    -- the word
    refine ⟨(show 3 ≤ sizeLine by decide), fun l nl => ?_⟩
    refine ⟨.ref p, rfl, p, 3, _, rfl, BG.new nl, by decide, by decide, by omega, fun G1 r1 c1 B1 l1 u1 => ?_⟩
    obtain ⟨wd, ew, z, rfl, hz⟩ := at_menuV (Pr := fun x => ∃ z : Str, x = .str z ∧ (z = "slow" ∨ z = "slip" ∨ z = "late")) (xs := [.str "slow", .str "slip", .str "late"]) l1 u1 (fun x hx => word_menu hx)
    refine ⟨l, _, _, _, rfl, rfl, SqL.mk (c1 _ _ (ne_new BG nl) upd_same), ew, ?_⟩
    -- how many
    refine ⟨.ref p, rfl, (show 3 ≤ sizeLine by decide), fun l' nl' => ?_⟩
    refine ⟨.ref p, rfl, p, 3, _, rfl, B1.new nl', by decide, by decide, by omega, fun G2 r2 c2 B2 l2 u2 => ?_⟩
    obtain ⟨mx, em, hmx⟩ := at_menu (Pr := fun v => 4 ≤ v ∧ v ≤ 64) (xs := [4, 9, 64]) l2 u2 (fun x hx => by
      simp only [List.mem_cons, List.not_mem_nil, or_false] at hx
      omega)
    refine ⟨l', _, _, _, rfl, rfl, SqL.mk (c2 _ _ (ne_new B1 nl') upd_same), em, p, mx, _, rfl, B2, by omega, by omega, by omega, fun G3 r3 c3 B3 l3 u3 => ⟨_, _, rfl, rfl, ?_⟩⟩
    have cG3 : But p G G3 := ((((But.refl p G).new nl).trans c1).new nl').trans (c2.trans c3)
    refine ⟨.str z, rfl, .int (1 + r3), rfl, .str z, rfl, rfl, .inr ⟨_, rfl, .ref p, rfl, p, 2, _, rfl, B3, by decide, by decide, by omega, fun G4 r4 c4 B4 l4 u4 => ⟨_, _, rfl, rfl, .inl i01, _, _, rfl, rfl, v, rfl, (show 3 ≤ sizeLine by decide), fun tg ntg => ?_⟩⟩⟩
    obtain ⟨N, hN, N1, N2⟩ : ∃ N : Nat, 1 + r3 - (if decide (V.str z = V.str "late") = true then (1 : Int) else 0) * r4 = (N : Int) ∧ (z = "late" ∨ 1 ≤ N) ∧ N ≤ 64 := by
      by_cases e : V.str z = V.str "late"
      · rw [decide_eq_true e, if_pos rfl, Int.one_mul]
        exact ⟨(1 + r3 - r4).toNat, by omega, .inl (V.str.inj e), by omega⟩
      · rw [decide_eq_false e, if_neg Bool.false_ne_true, Int.zero_mul]
        exact ⟨(1 + r3).toNat, by omega, .inr (by omega), by omega⟩
    have cG4 : But p G (upd G4 tg (.tup [.str z, .int (1 + r3 - (if decide (V.str z = V.str "late") = true then (1 : Int) else 0) * r4), v])) := (cG3.trans c4).new ntg
    have htg : (upd G4 tg (.tup [.str z, .int (1 + r3 - (if decide (V.str z = V.str "late") = true then (1 : Int) else 0) * r4), v])) tg = some (.tup [.str z, .int (N : Nat), v]) := by
      rw [upd_same, hN]
    have B5 := B4.new (o := .tup [.str z, .int (1 + r3 - (if decide (V.str z = V.str "late") = true then (1 : Int) else 0) * r4), v]) ntg
    generalize upd G4 tg (.tup [.str z, .int (1 + r3 - (if decide (V.str z = V.str "late") = true then (1 : Int) else 0) * r4), v]) = G5 at cG4 htg B5 ⊢
    have hm5 : MkAt G5 m v := hm.but BG cG4
    obtain ⟨m', hm', ok', dp', in', rd'⟩ := around_ok htg hm5 ok hz N2 N1
    refine ⟨.ref tg, rfl, m', .ref tg, rfl, hm', ok', bs_of ok', by omega, fun G6 s6 => ?_⟩
    refine ⟨.int M, rfl, _, _, rfl, rfl, _, rfl, ite2 (fun e => ?_) (fun e => ?_)⟩
    · have rm' : ((m'.rnd : Nat) : Int) ≤ M := of_decide_eq_true e
      refine ⟨.ref tg, rfl, .ref tg, _, _, _, _, m', rfl, bG.trans (cG4.trans (same_but s6)), (B5.same s6).mono (by omega), hm'.same s6, ok', by omega, rm'⟩
    · exact ⟨v, _, _, _, _, m, rfl, bG.trans (cG4.trans (same_but s6)), (B5.same s6).mono (by omega), hm5.same s6, ok, by omega, rm⟩
/-! generator expressions: the walked thing, the element, the generator at hand -/
def SrcOk (X : Cx) (P : Addr) (s1 : Shared) (xv : Value) (n : Nat) (Pf : Nat → Value → Prop) : Prop :=
  ∃ (o : Obj) (aux : List Addr) (Z : Nat → Heap → Prop),
    (∀ Q : Value → Shared → Prop, Q (.ref s1.heap.objs.size) { s1 with heap := s1.heap.push o } → wpAny (model X.prog X.w) X.A (pyIter xv) Q X.xe s1) ∧
    (∀ b ∈ aux, b < s1.heap.objs.size ∧ b ≠ P) ∧
    (∀ B : Around, B.handled = none → Walks X.prog X.w B s1.heap.objs.size (s1.heap.objs.size :: aux) [s1.heap.objs.size] n Pf Z) ∧ Z 0 (s1.heap.push o)
def EltOk (X : Cx) (P : Addr) (scope : Scope) (x : Str) (elt : Expr) (s1 : Shared) (Pf F : Nat → Value → Prop) : Prop :=
  ∀ (cenv : Env) (B : Around) (E2 : Value → Shared → Prop) (i : Nat) (v : Value) (s2 : Shared) (m2 : Str → Option Value), cenv.scope = scope → cenv.cells = cloFrom X.env.cells scope.names [] → cenv.globals = X.env.globals → cenv.builtins = builtinsNs →
    B.handled = none → Pf i v → s2.heap.Ns cenv.locals m2 → m2 x = some v → (∀ b o, b ≠ P → s1.heap.get? b = some o → s2.heap.get? b = some o) →
    wpAny (model X.prog X.w) B (eval elt cenv) (fun y s3 => F i y ∧ Keeps s2 s3) E2 s2
def AtHand (X : Cx) (pins : List (Addr × Obj)) (σ : L2.St) (H1 : Hp) (P : Addr) (n : Nat) (F : Nat → Value → Prop) (g : Addr) (s5 : Shared) : Prop :=
  ∃ (fp wr : List Addr) (G : Array GenState → Array GenState → Prop) (F' : Nat → Value → Prop) (Z : Nat → Shared → Prop),
    WalksS X.prog X.w X.A.in4 g fp wr G n F' Z ∧ (∀ j v, F' j v → F j v) ∧ Z 0 s5 ∧ (∀ b ∈ fp, b < s5.heap.objs.size) ∧ g ∈ fp ∧ (∀ i s9, Z i s9 → s9.TypeIs (.ref g) "generator") ∧
    ∀ s', Moved wr G s5 s' → ∃ H2, GxR.Tabbed P H1 H2 ∧ Inv X pins σ H2 s'
theorem gen_one {X : Cx} {pins : List (Addr × Obj)} {σ : L2.St} {s : Shared} {c P : Addr} {elt iter : Expr} {x : Str} {px gpos : Pos} {scope : Scope} {k : Nat} {W : Value → Shared → Prop}
    (hr : Room k X.A) (TB : GxR.TabB X.base X.mg c P) (hcode : X.env.code = .ref c) (S : GxR.GenS X.env scope x) (hs : ∀ v, genFold iter X.env v = pure v)
    (h : wpAny (model X.prog X.w) X.A (eval iter X.env) (fun xv s1 => ∃ (H1 : Hp) (ps : Array Value) (n : Nat) (Pf F : Nat → Value → Prop), Inv X pins σ H1 s1 ∧ H1 P = some (.tbl ps) ∧ TriplesOk ps.toList ∧ SrcOk X P s1 xv n Pf ∧
      EltOk X P scope x elt s1 Pf F ∧ ∀ g s5, AtHand X pins σ H1 P n F g s5 → W (.ref g) s5) X.xe s) :
    wpAny (model X.prog X.w) X.A (eval (.GeneratorExp elt [⟨.Name x px, iter, [], 0⟩] scope gpos) X.env) W X.xe s := by
  have deep := hr.dp
  refine wpAny_GeneratorExp_walksQ hr.hd S.co (closure_ok S.free) S.cell S.dot S.loc S.kind (by omega) (wpAny_mono h (fun xv s1 z => ?_) fun _ _ e => e) hs
  obtain ⟨H1, ps, n, Pf, F, J1, hP, trip, ⟨o, aux, Z, go, hau, wk, z0⟩, hel, fin⟩ := z
  refine go _ ?_
  have hPs : s1.heap.get? P = some { cls := .none, data := .fields ps } := J1.hok P _ hP
  have ltP : P < s1.heap.objs.size := Heap.lt_size hPs
  have hP2 : (s1.heap.push o).get? P = some { cls := .none, data := .fields ps } := Heap.get?_push_of_some _ hPs
  have cd : PySem.W.CodeHd (s1.heap.push o) c P := TB.code.keeps fun b u e => Heap.get?_push_of_some _ (J1.bk b u e)
  have lim : (s1.heap.push o).NoLimit := J1.nolimit.push o
  have szp : (s1.heap.push o).objs.size = s1.heap.objs.size + 1 := Heap.size_push ..
  have go2 : ∀ (code : Value) (h3 : Heap) (tk : Nat) (more : Array Value), Heap.ExtBut P (s1.heap.push o) h3 → (s1.heap.push o).objs.size ≤ h3.objs.size → h3.get? P = some { cls := .none, data := .fields (ps ++ more) } → TriplesOk (ps ++ more).toList →
      wpAny (model X.prog X.w) X.A (builtinsFor X.env.globals X.env.builtins) (fun bi s4 =>
        ∃ I0 fp wr n0 Pf0 Z0 pz F0, Value.ref s1.heap.objs.size = .ref I0 ∧ (∀ B : Around, B.handled = none → Walks X.prog X.w B I0 fp wr n0 Pf0 Z0) ∧ Z0 0 s4.heap ∧ (∀ b ∈ fp, b < s4.heap.objs.size) ∧ s4.heap.NoLimit ∧ cStatics ∉ wr ∧
          (∀ hq : Heap, (∀ b o, s4.heap.get? b = some o → hq.get? b = some o) →
            QuietGen X.prog X.w (genEnv scope (cloFrom X.env.cells scope.names []) s4.heap.objs.size code bi X.env) x [] elt (List.range s4.heap.objs.size) wr Pf0 pz F0 hq) ∧
          (∀ g h5 tk5 gs, gs.bare = true → s4.heap.objs.size < g → h5.objs.size = g + 1 → (∀ b o, s4.heap.get? b = some o → h5.get? b = some o) →
            WalksS X.prog X.w X.A.in4 g (g :: s4.heap.objs.size :: List.range s4.heap.objs.size) (s4.heap.objs.size :: wr) (GenOnlyQ s4.gens.size) (passing pz n0 0).length
              (fun j y => ∃ i, (passing pz n0 0)[j]? = some i ∧ F0 i y) (GenAt X.prog X.w X.A.in4 g s4.gens.size s4.heap.objs.size (List.range s4.heap.objs.size) wr pz n0 F0) →
            GenAt X.prog X.w X.A.in4 g s4.gens.size s4.heap.objs.size (List.range s4.heap.objs.size) wr pz n0 F0 0 { s4 with gens := s4.gens.push gs, toks := tk5, heap := h5 } →
            W (.ref g) { s4 with gens := s4.gens.push gs, toks := tk5, heap := h5 })) X.xe { s1 with heap := h3, toks := tk } := by
    intro code h3 tk more hx hsz hP3 trip3
    obtain ⟨bm, ob, e1, e2, e3, e4, e5, e6, e7, e8⟩ := TB.bm
    have keep3 : ∀ b u, b ≠ P → s1.heap.get? b = some u → h3.get? b = some u := fun b u hb e => hx b u hb (Heap.get?_push_of_some _ e)
    have stP : cStatics ≠ P := fun z => by
      obtain ⟨_, ⟨o1, es, ep, ho, hd, _⟩, _⟩ := J1.nolimit
      rw [z, hPs] at ho
      cases ho
      cases hd
    have stL : cStatics < s1.heap.objs.size := by
      obtain ⟨_, hns, _⟩ := J1.nolimit
      exact hns.lt
    have newP : s1.heap.objs.size ≠ P := Nat.ne_of_gt ltP
    refine wpAny_builtinsFor (m := X.mg) (by rw [J1.ok.glob]; exact ((J1.mod.glob.keeps J1.bk).push o).extBut hx TB.gP) e1 e2 (keep3 _ _ e4 (J1.bk _ _ e5)) e6 e7 e8 ?_
    refine ⟨s1.heap.objs.size, s1.heap.objs.size :: aux, [s1.heap.objs.size], n, Pf, Z, fun _ => true, F, rfl, wk, ?_, ?_, lim.extBut hx stP, ?_, ?_, ?_⟩
    · refine (wk X.A hr.hd).frame _ _ _ z0 fun b hb u e => hx b u (fun z => ?_) e
      rcases List.mem_cons.mp hb with z2 | z2
      · exact newP (z2.symm.trans z)
      · exact (hau b z2).2 z
    · intro b hb
      show b < h3.objs.size
      have up : s1.heap.objs.size < h3.objs.size := by omega
      rcases List.mem_cons.mp hb with z2 | z2
      · rw [z2]
        exact up
      · exact Nat.lt_trans (hau b z2).1 up
    · intro z
      rcases List.mem_cons.mp z with z2 | z2
      · exact Nat.ne_of_lt stL z2
      · cases z2
    · intro hq keepq
      refine ⟨fun B E2 i v s2 m2 hB hv hn hm hk => ?_, fun B E2 i v s2 m2 hB hv _ hn hm hk => ?_⟩
      · simp only [List.forIn_nil]
        exact wpAny_pure ⟨rfl, GxR.keeps_refl _⟩
      · refine hel _ B E2 i v s2 m2 rfl rfl rfl rfl hB hv hn hm fun b u hb e => ?_
        have lb := Heap.lt_size e
        have up : s1.heap.objs.size < h3.objs.size := by omega
        refine hk b (List.mem_range.mpr (Nat.lt_trans lb up)) (fun z => ?_) u (keepq b u (keep3 b u hb e))
        rcases List.mem_cons.mp z with z2 | z2
        · exact Nat.ne_of_lt lb z2
        · cases z2
    · intro g h5 tk5 gs hgb hag hsz5 hk5 W5 gat
      simp only [GxR.passing_true, List.length_range] at W5
      refine fin g _ ⟨_, _, _, _, _, W5, fun j v hv => ?_, gat, fun b hb => ?_, List.mem_cons_self, fun i s9 h9 => h9.1.typeIs, fun s' hm => ?_⟩
      · obtain ⟨i, hij, e⟩ := hv
        obtain ⟨_, ej⟩ := List.getElem?_eq_some_iff.mp hij
        rw [List.getElem_range] at ej
        subst ej
        exact e
      · show b < h5.objs.size
        have h8 : h3.objs.size < g := hag
        have h9 : h5.objs.size = g + 1 := hsz5
        have u1 : g < h5.objs.size := by
          rw [h9]
          exact Nat.lt_succ_self g
        have u2 : h3.objs.size < h5.objs.size := Nat.lt_trans h8 u1
        rcases List.mem_cons.mp hb with z | z
        · rw [z]
          exact u1
        · rcases List.mem_cons.mp z with z | z
          · rw [z]
            exact u2
          · exact Nat.lt_trans (show b < h3.objs.size from List.mem_range.mp z) u2
      · have old : ∀ b u, s1.heap.get? b = some u → b ∉ h3.objs.size :: [s1.heap.objs.size] := fun b u e hb => by
          have lb := Heap.lt_size e
          have up : s1.heap.objs.size < h3.objs.size := by omega
          rcases List.mem_cons.mp hb with z | z
          · exact Nat.ne_of_lt (Nat.lt_trans lb up) z
          · rcases List.mem_cons.mp z with z | z
            · exact Nat.ne_of_lt lb z
            · cases z
        have R := GxR.inv_tab (more := more) (h' := s'.heap) (g' := s'.gens) (d' := s'.drawn) (t' := s'.toks) J1 hP (fun b u hb e => hm.heap b u (old b u e) (hk5 b u (keep3 b u hb e)))
          (hm.heap P _ (old P _ hPs) (hk5 P _ hP3)) (AllBare.movedS (J1.bare.push hgb) hm)
        rw [GxR.sh_eta s1 s' hm.os] at R
        exact ⟨_, ⟨⟨ps ++ more, upd_same, trip3⟩, fun b hb => upd_ne hb⟩, R⟩
  refine ⟨lim, ?_⟩
  cases hf : codeAmong gpos ps.toList with
  | none =>
    refine wpAny_genexprCodeX hcode (cd.code hP2 trip) (cd.tab hP2) hf fun c' h' tk hx hge hlt hco' _ htab' _ => ?_
    obtain ⟨o1, vs, f1, tf, fl, tg, inF, tx, tt, op, _, _, _, _, _, _, _, _, _, htr, _⟩ := hco'
    exact go2 _ h' tk _ hx (Nat.le_trans hge (Nat.le_of_lt hlt)) htab'.2 htr
  | some cv =>
    refine wpAny_genexprCode_hit hcode (cd.code hP2 trip) hf ?_
    exact go2 cv (s1.heap.push o) s1.toks #[] (Heap.ExtBut.refl _ _) (Nat.le_refl _) (by rw [Array.append_empty]; exact hP2) (by rw [Array.append_empty]; exact trip)
/-! tuple(element for x in walked) -/
structure PSrc (X : Cx) (P : Addr) (iter : Expr) (ti : L2.St → Hp → (List V → Hp → Prop) → Prop) : Prop where
  run : ∀ (pins : List (Addr × Obj)) (s : Shared) (σ : L2.St) (H : Hp) (R : List V → Hp → Prop), Inv X pins σ H s → ti σ H (fun xs H1 => GxR.TabG H1 P ∧ R xs H1) →
    wpAny (model X.prog X.w) X.A (eval iter X.env) (fun xv s1 => ∃ (H1 : Hp) (xs : List V), Inv X pins σ H1 s1 ∧ GxR.TabG H1 P ∧ R xs H1 ∧ SrcOk X P s1 xv xs.length (fun i u => ∃ y, xs[i]? = some y ∧ RelV y u)) X.xe s
/-- where the element is reckoned: the generator's own frame -/
structure InGen (X : Cx) (P : Addr) (scope : Scope) (s1 : Shared) (cenv : Env) (B : Around) (s2 : Shared) (m2 : Str → Option Value) : Prop where
  sc : cenv.scope = scope
  cells : cenv.cells = cloFrom X.env.cells scope.names []
  glob : cenv.globals = X.env.globals
  blt : cenv.builtins = builtinsNs
  hd : B.handled = none
  ns : s2.heap.Ns cenv.locals m2
  keep : ∀ b o, b ≠ P → s1.heap.get? b = some o → s2.heap.get? b = some o
structure PElt (X : Cx) (P : Addr) (scope : Scope) (x : Str) (elt : Expr) (te : L2.St → Hp → V → V → Prop) : Prop where
  run : ∀ (pins : List (Addr × Obj)) (s1 : Shared) (σ : L2.St) (H : Hp), Inv X pins σ H s1 → GxR.TabG H P → ∀ (cenv : Env) (B : Around) (E2 : Value → Shared → Prop) (s2 : Shared) (m2 : Str → Option Value) (v y : V) (u : Value),
    InGen X P scope s1 cenv B s2 m2 → RelV v u → te σ H v y → m2 x = some u → wpAny (model X.prog X.w) B (eval elt cenv) (fun z s3 => RelV y z ∧ Keeps s2 s3) E2 s2
def tTupG (P : Addr) (ti : L2.St → Hp → (List V → Hp → Prop) → Prop) (te : L2.St → Hp → V → V → Prop) : TE := fun σ H Q => ti σ H fun xs H1 => GxR.TabG H1 P ∧ xs.length ≤ sizeLine ∧ ∃ ys : List V, ys.length = xs.length ∧
  (∀ (i : Nat) (x : V), xs[i]? = some x → ∃ y, ys[i]? = some y ∧ te σ H1 x y) ∧ ∀ H2 p, GxR.Tabbed P H1 H2 → H2 p = none → Q (.ref p) (upd H2 p (.tup ys))
theorem vals_of : ∀ (ys : List V) (us : List Value), us.length = ys.length → (∀ (j : Nat) (u : Value), us[j]? = some u → ∃ y, ys[j]? = some y ∧ RelV y u) → Vals ys us
  | [], [], _, _ => .nil
  | y :: ys, u :: us, hl, h => by
    obtain ⟨y1, e1, r1⟩ := h 0 u rfl
    cases e1
    exact .cons r1 (vals_of ys us (by simpa using hl) fun j v hj => h (j + 1) v hj)
theorem pe_tupG {X : Cx} {c P : Addr} {elt iter : Expr} {x : Str} {px p pos gpos : Pos} {scope : Scope} {ti : L2.St → Hp → (List V → Hp → Prop) → Prop} {te : L2.St → Hp → V → V → Prop} {k : Nat}
    (hr : Room k X.A) (hg : Gl X "tuple") (hm : X.mg "tuple" = none) (hb : bootBuiltins "tuple" = some (.type "tuple")) (TB : GxR.TabB X.base X.mg c P) (hcode : X.env.code = .ref c) (S : GxR.GenS X.env scope x)
    (hi : PSrc X P iter ti) (hel : PElt X P scope x elt te) (hs : ∀ v, genFold iter X.env v = pure v)
    (he : starEach [.GeneratorExp elt [⟨.Name x px, iter, [], 0⟩] scope gpos] X.env = (false, eval (.GeneratorExp elt [⟨.Name x px, iter, [], 0⟩] scope gpos) X.env) :: starEach [] X.env := by rfl) :
    PE X (.Call (.Name "tuple" p) [.GeneratorExp elt [⟨.Name x px, iter, [], 0⟩] scope gpos] [] pos) (tTupG P ti te) := by
  refine ⟨fun pins s σ H Q I h => ?_⟩
  refine wpAny_Call_Name_kw (ld_blt I hg hm hb ?_)
  refine PyProof.Rows.callWith_type1 ?_ he (by rfl)
  rw [he]
  show wpAny _ _ (spliced ((false, eval (.GeneratorExp elt [⟨.Name x px, iter, [], 0⟩] scope gpos) X.env) :: backTo pos (starEach [] X.env))) _ _ s
  have h2 : ti σ H fun xs H1 => GxR.TabG H1 P ∧ (xs.length ≤ sizeLine ∧ ∃ ys : List V, ys.length = xs.length ∧ (∀ (i : Nat) (x : V), xs[i]? = some x → ∃ y, ys[i]? = some y ∧ te σ H1 x y) ∧ ∀ H2 p, GxR.Tabbed P H1 H2 → H2 p = none → Q (.ref p) (upd H2 p (.tup ys))) := h
  refine Calls.spliced_cons (gen_one (pins := pins) (σ := σ) hr TB hcode S hs (wpAny_mono (hi.run pins s σ H _ I h2) (fun xv s1 z => ?_) fun _ _ e => e))
  obtain ⟨H1, xs, J, ⟨ps, hP, trip⟩, ⟨lx, ys, ly, hys, q⟩, src⟩ := z
  refine ⟨H1, ps, xs.length, _, fun i u => ∃ y, ys[i]? = some y ∧ RelV y u, J, hP, trip, src, ?_, fun g s5 at5 => ?_⟩
  · intro cenv B E2 i v s2 m2 h1 h3 h4 h5 h6 hv h7 h8 h9
    obtain ⟨w1, ew, rw1⟩ := hv
    obtain ⟨y, ey, ty⟩ := hys i w1 ew
    exact wpAny_mono (hel.run pins s1 σ H1 J ⟨ps, hP, trip⟩ cenv B E2 s2 m2 w1 y v ⟨h1, h3, h4, h5, h6, h7, h9⟩ rw1 ty h8) (fun z s3 r => ⟨⟨y, ey, r.1⟩, r.2⟩) fun _ _ e => e
  · refine Calls.spliced_nil ?_
    obtain ⟨fp, wr, G, F', Z, W5, im, z0, hfp, hgf, hT, hinv⟩ := at5
    refine PySem.call_tuple_gen (n := xs.length) W5.in4_3 hT z0 hfp hgf (fun s' acc mv it => ?_) lx
    obtain ⟨H2, tb, J2⟩ := hinv s' mv
    have vs : Vals ys acc.toList := vals_of ys acc.toList (by rw [Array.length_toList, it.1, ly]) fun j u hj => im j u (it.2 j u (by simpa using hj))
    refine ⟨.ref s'.heap.objs.size, _, J2.laid (t' := s'.toks) (o := .tup ys) (fun b ob e => Heap.get?_push_of_some _ e) (Nat.le_refl _) ⟨by omega, acc.toList, vs, ?_⟩, rfl, q H2 _ tb (J2.hok.fresh (Nat.le_refl _))⟩
    have ea : acc.toList.toArray = acc := by simp
    rw [ea]
    exact IsTup.new _ _
/-- range(e) -/
theorem src_range {X : Cx} {P : Addr} {a : Expr} {ta : TA} {p pos : Pos} (hg : Gl X "range") (hm : X.mg "range" = none) (ha : PA X [a] ta) (hs : starEach [a] X.env = [(false, eval a X.env)] := by rfl) :
    PSrc X P (.Call (.Name "range" p) [a] [] pos) (fun σ H R => ta σ H fun vs H1 => ∃ n : Nat, vs = [.int (n : Nat)] ∧ n ≤ sizeLine ∧ R ((List.range n).map fun i => V.int (i : Nat)) H1) := by
  refine ⟨fun pins s σ H R I h => ?_⟩
  refine Call_ (ld_blt I hg hm boot_range (PyProof.Rows.callWith_type1 (thn (ha.run pos pins s σ H _ I h) fun us s1 ⟨vs, H1, J, r1, q1⟩ => ?_) hs rfl))
  obtain ⟨n, rfl, hn, tg, q⟩ := q1
  cases r1 with
  | cons r rr =>
    cases rr
    obtain ⟨t, rfl⟩ := r
    have hsl : sizeLine = 16777216 := by decide
    refine call_range_1 ⟨H1, _, J.kept fun b o e => Heap.get?_push_of_some _ e, tg, q, ?_⟩
    refine ⟨_, [], fun i h => IsRangeIter h (s1.heap.push { cls := .type "range", data := .fields #[.int 0 s1.toks, .int (n : Nat) t, .int 1 (s1.toks + 1)] }).objs.size ((0 : Int) + (i : Nat) * 1) ((n : Int) - (i : Nat)) 1, fun Q hQ => wpAny_pyIter_range (IsRange.new ..) (small_one (by omega) (by omega) (by omega) (by omega)) hQ, fun b hb => (by cases hb), fun B hB => ?_, ?_⟩
    · rw [List.length_map, List.length_range]
      have W0 := Walks.range (prog := X.prog) (w := X.w) (A := B) hB (s1.heap.push { cls := .type "range", data := .fields #[.int 0 s1.toks, .int (n : Nat) t, .int 1 (s1.toks + 1)] }).objs.size 0 1 n
      exact W0.mono_item fun i v hi hv => by
        obtain ⟨t2, rfl⟩ := hv
        refine ⟨.int (i : Nat), ?_, t2, by rw [Int.zero_add, Int.mul_one]⟩
        rw [List.getElem?_map, List.getElem?_range hi]
        rfl
    · show IsRangeIter _ _ ((0 : Int) + ((0 : Nat) : Int) * 1) ((n : Int) - ((0 : Nat) : Int)) 1
      have e2 : (n : Int) - ((0 : Nat) : Int) = Builtin.Range.rangeSize 0 (n : Int) 1 := by
        rw [rangeSize_one]
        split <;> omega
      rw [e2]
      exact Heap.get?_push_size _ rfl
theorem gs_free {cells : List (Str × Addr)} {names : List (Str × NameKind)} (h : (names.all fun y => y.2 != .free || (cells.lookup y.1).isSome) = true) : ∀ y ∈ names, y.2 = .free → ∃ c, cells.lookup y.1 = some c := fun y hy e => by
  have q := List.all_eq_true.mp h y hy
  rw [e] at q
  exact Option.isSome_iff_exists.mp (by simpa using q)
/-! elements -/
section
variable {X : Cx} {pins : List (Addr × Obj)} {σ : L2.St} {H : Hp} {s1 s2 : Shared} {P c : Addr} {scope : Scope} {cenv : Env} {B : Around} {m2 : Str → Option Value} {E2 : Value → Shared → Prop}
theorem ig_local {x : Str} {u : Value} {p : Pos} {W : Value → Shared → Prop} (g : InGen X P scope s1 cenv B s2 m2) (hk : scope.kind = .function) (hl : scope.names.lookup x = some .local) (hm : m2 x = some u) {s3 : Shared} (k3 : Keeps s2 s3) (h : W u s3)
    (hd : (x == ("__debug__" : Str)) = false := by decide) : wpAny (model X.prog X.w) B (eval (.Name x p) cenv) W E2 s3 := by
  obtain ⟨h3, tk, rfl, kp⟩ := k3
  exact wpAny_Name (wpAny_loadName_local (by rw [g.sc]; exact hk) (show cenv.scope.names.lookup x = some .local by rw [g.sc]; exact hl) (g.ns.keeps kp) hm h) hd
theorem ig_free {x : Str} {i : Nat} {v : V} {p : Pos} {W : Value → Shared → Prop} (I : Inv X pins σ H s1) (tg : GxR.TabG H P) (g : InGen X P scope s1 cenv B s2 m2) (hk : scope.kind = .function) (hl : scope.names.lookup x = some .free)
    (hN : X.N[i]? = some x) (hσ : σ[i]? = some (some v)) (hX : X.env.scope.names.lookup x = some .cell) (hcl : ∀ cells : List (Str × Addr), (cloFrom cells scope.names []).lookup x = some ((cells.lookup x).getD 0)) {s3 : Shared} (k3 : Keeps s2 s3)
    (h : ∀ u, RelV v u → W u s3) (hn : (x == ("__classdict__" : Str)) = false := by decide) (hd : (x == ("__debug__" : Str)) = false := by decide) : wpAny (model X.prog X.w) B (eval (.Name x p) cenv) W E2 s3 := by
  obtain ⟨h3, tk, rfl, kp⟩ := k3
  obtain ⟨m, _, hloc⟩ := I.loc
  obtain ⟨u, ru, lk⟩ := hloc i x v hN hσ (.inr (.inl hX))
  rcases lk with ⟨h1, _⟩ | ⟨_, cc, h2, ic⟩
  · have h1 : X.env.scope.names.lookup x = some .local := h1
    rw [hX] at h1
    cases h1
  · obtain ⟨ps, hP, _⟩ := tg
    have ncP : cc ≠ P := fun z => by
      have q := I.freeC x cc h2
      rw [z, hP] at q
      cases q
    obtain ⟨o, ho, hd2⟩ := ic
    have lk2 : cenv.cells.lookup x = some cc := by
      rw [g.cells, hcl, h2]
      rfl
    exact wpAny_Name (wpAny_loadName_free (by rw [g.sc]; exact hk) (show cenv.scope.names.lookup x = some .free by rw [g.sc]; exact hl) lk2 ⟨o, kp _ _ (g.keep _ _ ncP ho), hd2⟩ (h u ru) hn) hd
theorem ig_blt {x : Str} {u : Value} {p : Pos} {W : Value → Shared → Prop} (I : Inv X pins σ H s1) (tg : GxR.TabG H P) (TB : GxR.TabB X.base X.mg c P) (g : InGen X P scope s1 cenv B s2 m2) (hk : scope.kind = .function) (hl : scope.names.lookup x = some .globalImplicit)
    (hm : X.mg x = none) (hv : bootBuiltins x = some u) {s3 : Shared} (k3 : Keeps s2 s3) (h : W u s3) (hn : x ≠ "__name__" := by decide) (hd : (x == ("__debug__" : Str)) = false := by decide) : wpAny (model X.prog X.w) B (eval (.Name x p) cenv) W E2 s3 := by
  obtain ⟨h3, tk, rfl, kp⟩ := k3
  obtain ⟨mb, h1, h2⟩ := I.mod.blt
  obtain ⟨ps, hP, _⟩ := tg
  have hPs : s1.heap.get? P = some { cls := .none, data := .fields ps } := I.hok P _ hP
  have n1 : s1.heap.Ns mainGlobals X.mg := I.mod.glob.keeps I.bk
  have n2 : s1.heap.Ns builtinsNs mb := h1.keeps I.bk
  have up : ∀ {a : Addr} {m : Str → Option Value}, s1.heap.Ns a m → h3.Ns a m := fun {a m} ⟨o, es, ep, ho, hd1, r⟩ => by
    have na : a ≠ P := fun z => by
      rw [z, hPs] at ho
      cases ho
      cases hd1
    exact ⟨o, es, ep, kp _ _ (g.keep _ _ na ho), hd1, r⟩
  exact Calls.Name_function_global (by rw [g.sc]; exact hk) (show cenv.scope.names.lookup x = some .globalImplicit by rw [g.sc]; exact hl) (Calls.loadGlobal_builtin (by rw [g.glob, I.ok.glob]; exact up n1) hm (by rw [g.blt]; exact up n2) ((h2 x hn).trans hv) h) hd
theorem kp_tok {s3 : Shared} (k : Keeps s2 s3) (n : Nat) : Keeps s2 { s3 with toks := n } := by
  obtain ⟨h', tk, rfl, kp⟩ := k
  exact ⟨h', n, rfl, kp⟩
/-- a tracked tuple, read in the generator's frame -/
theorem ig_tup {a : Addr} {xs : List V} (I : Inv X pins σ H s1) (tg : GxR.TabG H P) (g : InGen X P scope s1 cenv B s2 m2) (ha : H a = some (.tup xs)) {s3 : Shared} (k3 : Keeps s2 s3) : ∃ its : List Value, Vals xs its ∧ IsTup s3.heap a its.toArray ∧ xs.length ≤ sizeLine := by
  obtain ⟨h3, tk, rfl, kp⟩ := k3
  obtain ⟨ps, hP, _⟩ := tg
  obtain ⟨hz, its, r, ⟨o, ho, rest⟩⟩ := I.hok a _ ha
  have naP : a ≠ P := ne_of ha hP (fun z => by cases z)
  exact ⟨its, r, ⟨o, kp _ _ (g.keep _ _ naP ho), rest⟩, hz⟩
end
/-- row[(at - by) % len(row)] -/
theorem elt_late {X : Cx} {P c : Addr} {scope : Scope} {i j : Nat} {xr xa xb : Str} {p1 p2 p3 p4 p5 p6 p7 p8 p9 : Pos} (TB : GxR.TabB X.base X.mg c P) (hk : scope.kind = .function) (l1 : scope.names.lookup xa = some .local) (l2 : scope.names.lookup xr = some .free) (l3 : scope.names.lookup xb = some .free)
    (l4 : scope.names.lookup ("len" : Str) = some .globalImplicit) (hm : X.mg "len" = none) (hNi : X.N[i]? = some xr) (hNj : X.N[j]? = some xb) (hXi : X.env.scope.names.lookup xr = some .cell) (hXj : X.env.scope.names.lookup xb = some .cell)
    (c1 : ∀ cells : List (Str × Addr), (cloFrom cells scope.names []).lookup xr = some ((cells.lookup xr).getD 0)) (c2 : ∀ cells : List (Str × Addr), (cloFrom cells scope.names []).lookup xb = some ((cells.lookup xb).getD 0))
    (n1 : (xr == ("__classdict__" : Str)) = false := by decide) (n2 : (xr == ("__debug__" : Str)) = false := by decide) (n3 : (xb == ("__classdict__" : Str)) = false := by decide) (n4 : (xb == ("__debug__" : Str)) = false := by decide) (n5 : (xa == ("__debug__" : Str)) = false := by decide) :
    PElt X P scope xa (.Subscript (.Name xr p1) (.BinOp (.BinOp (.Name xa p2) .Sub (.Name xb p3) p4) .Mod (.Call (.Name "len" p5) [.Name xr p6] [] p7) p8) p9)
      (fun σ H v y => ∃ (a : Addr) (xs : List V) (by_ : Int) (t : Nat), σ[i]? = some (some (.ref a)) ∧ H a = some (.tup xs) ∧ σ[j]? = some (some (.int by_)) ∧ v = .int (t : Nat) ∧ 0 < xs.length ∧ xs[(((t : Int) - by_) % (xs.length : Int)).toNat]? = some y) := by
  refine ⟨fun pins s1 σ H I tg cenv B E2 s2 m2 v y u g rv te hm2 => ?_⟩
  obtain ⟨a, xs, by_, t, h1, h2, h3, rfl, h4, h5⟩ := te
  obtain ⟨tk, rfl⟩ := (show ∃ tk, u = Value.int (t : Nat) tk from rv)
  refine Subscript_ (ig_free I tg g hk l2 hNi h1 hXi c1 (GxR.keeps_refl s2) (fun u1 r1 => ?_) n1 n2)
  obtain rfl : u1 = Value.ref a := r1
  refine wpAny_BinOp (wpAny_BinOp (ig_local g hk l1 hm2 (GxR.keeps_refl s2) ?_ n5))
  refine ig_free I tg g hk l3 hNj h3 hXj c2 (GxR.keeps_refl s2) (fun u2 r2 => ?_) n3 n4
  obtain ⟨tb, rfl⟩ := (show ∃ tb, u2 = Value.int by_ tb from r2)
  refine sub_int ?_
  refine wpAny_Call_Name_kw (ig_blt I tg TB g hk l4 hm PySem.boot_len (GxR.keeps_tok s2 _) ?_)
  refine PyProof.Rows.callWith_builtin1 ?_ rfl rfl
  refine Calls.spliced_cons (ig_free I tg g hk l2 hNi h1 hXi c1 (GxR.keeps_tok s2 _) (fun u3 r3 => ?_) n1 n2)
  obtain rfl : u3 = Value.ref a := r3
  refine Calls.spliced_nil ?_
  obtain ⟨its, rvs, it, hz⟩ := ig_tup I tg g h2 (GxR.keeps_tok s2 (s2.toks + 1))
  have hlen := rvs.length
  have hsl : sizeLine = 16777216 := by decide
  have hj : (((t : Int) - by_) % (xs.length : Int)).toNat < xs.length := (List.getElem?_eq_some_iff.mp h5).1
  refine len_tuple it (by simp only [List.size_toArray] <;> omega) ?_
  refine mod_int' (by rw [List.size_toArray, ← hlen]; omega) ?_
  rw [List.size_toArray, ← hlen, Int.fmod_eq_emod_of_nonneg _ (by omega)]
  have m0 := Int.emod_nonneg ((t : Int) - by_) (show (xs.length : Int) ≠ 0 by omega)
  obtain ⟨w1, ew, rw1⟩ := rvs.get h5
  have fin := GxR.keeps_tok s2 (s2.toks + 1 + 1 + 1 + 1)
  refine subscriptTail_builtinR (x := w1) it.typeIs slot_tuple_getitem.lookup (getItem_tuple (j := (((t : Int) - by_) % (xs.length : Int)).toNat) it (by omega) (by omega) ?_ (by simpa using ew) ⟨rfl, rw1, fin⟩)
  rw [List.size_toArray, ← hlen]


  exact seqIndex_of m0 (Int.emod_lt_of_pos _ (by omega))
/-- a list at hand -/
theorem src_list {X : Cx} {P : Addr} {e : Expr} {te : TE} (he : PE X e te) :
    PSrc X P e (fun σ H R => te σ H fun v H1 => ∃ (a : Addr) (xs : List V), v = .ref a ∧ H1 a = some (.lst xs) ∧ R xs H1) := by
  refine ⟨fun pins s σ H R I h => ?_⟩
  refine wpAny_mono (he.run pins s σ H _ I h) (fun u s1 z => ?_) fun _ _ e => e
  obtain ⟨v, H1, J, r1, a, xs, rfl, ha, tg, q⟩ := z
  obtain rfl : u = Value.ref a := r1
  obtain ⟨ps, hP, trip⟩ := tg
  have naP : a ≠ P := ne_of ha hP (fun z => by cases z)
  obtain ⟨hz, its, n, rv, hl, ho⟩ := J.lstM ha
  have isl : s1.heap.IsList a its.toArray := ⟨_, ho, rfl, n, rfl⟩
  have lta : a < s1.heap.objs.size := Heap.lt_size ho
  refine ⟨H1, xs, J, ⟨ps, hP, trip⟩, q, ?_⟩
  refine ⟨{ cls := .type "list_iterator", data := .fields #[.ref a, .int 0 0] }, [a], fun i h => h.IsListIter s1.heap.objs.size a i ∧ h.IsList a its.toArray, fun Q hQ => wpAny_pyIter_list isl hQ, fun b hb => ?_, fun B hB => ?_, ?_⟩
  · rw [List.mem_singleton.mp hb]
    exact ⟨lta, naP⟩
  · have W0 := Walks.list (prog := X.prog) (w := X.w) (A := B) hB s1.heap.objs.size a (Nat.ne_of_lt lta) its.toArray
    have en : its.toArray.size = xs.length := by rw [List.size_toArray, ← hl]
    rw [en] at W0
    exact W0.mono_item fun i v hi hv => by
      have gx : xs[i]? = some xs[i] := List.getElem?_eq_getElem hi
      obtain ⟨w1, ew, rw1⟩ := rv.get gx
      have z : its[i]? = some v := by simpa using hv
      rw [z] at ew
      cases ew
      exact ⟨_, gx, rw1⟩
  · exact ⟨⟨_, Heap.get?_push_size _ rfl, rfl, rfl⟩, isl.push _⟩
/-- 1 if number < k else 0 -/
theorem elt_below {X : Cx} {P : Addr} {scope : Scope} {j : Nat} {xa xb : Str} {p1 p2 p3 p4 p5 p6 : Pos} {k1 k2 : Nat} (hk : scope.kind = .function) (l1 : scope.names.lookup xa = some .local) (l3 : scope.names.lookup xb = some .free)
    (hNj : X.N[j]? = some xb) (hXj : X.env.scope.names.lookup xb = some .cell) (c2 : ∀ cells : List (Str × Addr), (cloFrom cells scope.names []).lookup xb = some ((cells.lookup xb).getD 0))
    (n3 : (xb == ("__classdict__" : Str)) = false := by decide) (n4 : (xb == ("__debug__" : Str)) = false := by decide) (n5 : (xa == ("__debug__" : Str)) = false := by decide) :
    PElt X P scope xa (.IfExp (.Compare (.Name xa p1) [.Lt] [.Name xb p2] p3) (.Constant (.int 1) k1 p4) (.Constant (.int 0) k2 p5) p6)
      (fun σ _ v y => ∃ b t : Int, σ[j]? = some (some (.int b)) ∧ v = .int t ∧ y = .int (if t < b then 1 else 0)) := by
  refine ⟨fun pins s1 σ H I tg cenv B E2 s2 m2 v y u g rv te hm2 => ?_⟩
  obtain ⟨b, t, h3, rfl, rfl⟩ := te
  obtain ⟨tk, rfl⟩ := (show ∃ tk, u = Value.int t tk from rv)
  refine wpAny_IfExp (wpAny_isTrue_Compare1 (ig_local g hk l1 hm2 (GxR.keeps_refl s2) ?_ n5) rfl)
  refine ig_free I tg g hk l3 hNj h3 hXj c2 (GxR.keeps_refl s2) (fun u2 r2 => ?_) n3 n4
  obtain ⟨tb, rfl⟩ := (show ∃ tb, u2 = Value.int b tb from r2)
  refine wpAny_lt_int (wpAny_truthy_bool ?_)
  by_cases e : t < b
  · rw [decide_eq_true e, if_pos rfl, if_pos e]
    exact wpAny_Constant_int ⟨⟨_, rfl⟩, GxR.keeps_tok s2 _⟩
  · rw [decide_eq_false e, if_neg Bool.false_ne_true, if_neg e]
    exact wpAny_Constant_int ⟨⟨_, rfl⟩, GxR.keeps_tok s2 _⟩
/-! the ones of a row told again and again -/
def cn (rs : List Int) : Nat → Int
  | 0 => 0
  | k + 1 => cn rs k + rs.getD (k % rs.length) 0
/-- what the first k bits are off, times the length -/
def Df (rs : List Int) (k : Nat) : Int := cn rs k * rs.length - k * rs.sum
theorem cn_take (rs : List Int) : ∀ k, k ≤ rs.length → cn rs k = (rs.take k).sum
  | 0, _ => rfl
  | k + 1, h => by
    show cn rs k + rs.getD (k % rs.length) 0 = _
    rw [cn_take rs k (by omega), Nat.mod_eq_of_lt (by omega), List.take_add_one, List.getD_eq_getElem?_getD, List.getElem?_eq_getElem (show k < rs.length by omega), List.sum_append]
    simp
theorem cn_all (rs : List Int) : cn rs rs.length = rs.sum := by
  rw [cn_take rs _ (Nat.le_refl _), List.take_length]
theorem cn_again (rs : List Int) : ∀ k, cn rs (k + rs.length) = cn rs k + rs.sum
  | 0 => by rw [Nat.zero_add, cn_all]; show _ = 0 + _; omega
  | k + 1 => by
    rw [show k + 1 + rs.length = (k + rs.length) + 1 by omega]
    show cn rs (k + rs.length) + rs.getD ((k + rs.length) % rs.length) 0 = (cn rs k + rs.getD (k % rs.length) 0) + _
    rw [cn_again rs k, Nat.add_mod_right]
    omega
theorem Df_again (rs : List Int) (k : Nat) : Df rs (k + rs.length) = Df rs k := by
  unfold Df
  rw [cn_again, Int.add_mul, Int.natCast_add, Int.add_mul, Int.mul_comm rs.sum]
  omega
theorem Df_zero (rs : List Int) : Df rs 0 = 0 := by
  unfold Df
  show 0 * _ - ((0 : Nat) : Int) * _ = (0 : Int)
  simp
theorem Df_step (rs : List Int) (k : Nat) : Df rs (k + 1) = Df rs k + rs.length * rs.getD (k % rs.length) 0 - rs.sum := by
  unfold Df
  show (cn rs k + rs.getD (k % rs.length) 0) * _ - _ = _
  rw [Int.add_mul, Int.natCast_add, Int.add_mul, Int.mul_comm (rs.getD (k % rs.length) 0)]
  omega
/-- the greatest off up to k, and the first place that has it -/
structure Best (D : Nat → Int) (k : Nat) (w : Int) (j : Nat) : Prop where
  le : j ≤ k
  eq : ((D j).natAbs : Int) = w
  most : ∀ i, i ≤ k → ((D i).natAbs : Int) ≤ w
  first : ∀ i, i < j → ((D i).natAbs : Int) < w
theorem Best.zero {D : Nat → Int} (h : D 0 = 0) : Best D 0 0 0 := ⟨Nat.le_refl 0, by rw [h]; rfl, fun i hi => by rw [show i = 0 by omega, h]; exact Int.le_refl 0, fun i hi => by omega⟩
theorem Best.more {D : Nat → Int} {k j : Nat} {w : Int} (h : Best D k w j) (l : w < ((D (k + 1)).natAbs : Int)) : Best D (k + 1) ((D (k + 1)).natAbs : Int) (k + 1) :=
  ⟨Nat.le_refl _, rfl, fun i hi => by
    by_cases e : i = k + 1
    · rw [e]; exact Int.le_refl _
    · exact Int.le_of_lt (Int.lt_of_le_of_lt (h.most i (by omega)) l), fun i hi => Int.lt_of_le_of_lt (h.most i (by omega)) l⟩
theorem Best.less {D : Nat → Int} {k j : Nat} {w : Int} (h : Best D k w j) (l : ((D (k + 1)).natAbs : Int) ≤ w) : Best D (k + 1) w j :=
  ⟨Nat.le_succ_of_le h.le, h.eq, fun i hi => by
    by_cases e : i = k + 1
    · rw [e]; exact l
    · exact h.most i (by omega), h.first⟩
theorem Best.uniq {D : Nat → Int} {k j j' : Nat} {w w' : Int} (h : Best D k w j) (h' : Best D k w' j') : w = w' ∧ j = j' := by
  have e : w = w' := by
    have a := h.most j' h'.le
    have b := h'.most j h.le
    rw [h'.eq] at a
    rw [h.eq] at b
    omega
  subst e
  refine ⟨rfl, ?_⟩
  rcases Nat.lt_trichotomy j j' with z | z | z
  · have := h'.first j z
    rw [h.eq] at this
    omega
  · exact z
  · have := h.first j' z
    rw [h'.eq] at this
    omega
/-- by the list's greatest one and where it comes first -/
theorem Best.of_list {D : Nat → Int} {k j : Nat} {w : Int} (hm : ∀ y, y ∈ (List.range (k + 1)).map (fun i => ((D i).natAbs : Int)) → y ≤ w) (h1 : ((List.range (k + 1)).map (fun i => ((D i).natAbs : Int)))[j]? = some w)
    (h2 : ∀ m, m < j → ((List.range (k + 1)).map (fun i => ((D i).natAbs : Int)))[m]? ≠ some w) : Best D k w j := by
  have at_ : ∀ i, i ≤ k → ((List.range (k + 1)).map (fun i => ((D i).natAbs : Int)))[i]? = some ((D i).natAbs : Int) := fun i hi => by
    rw [List.getElem?_map, List.getElem?_range (by omega)]
    rfl
  have hj : j ≤ k := by
    have := (List.getElem?_eq_some_iff.mp h1).1
    rw [List.length_map, List.length_range] at this
    omega
  have mo : ∀ i, i ≤ k → ((D i).natAbs : Int) ≤ w := fun i hi => hm _ (List.mem_of_getElem? (at_ i hi))
  refine ⟨hj, ?_, mo, fun i hi => ?_⟩
  · rw [at_ j hj] at h1
    exact Option.some.inj h1
  · have := mo i (by omega)
    have n := h2 i hi
    rw [at_ i (by omega)] at n
    have : ((D i).natAbs : Int) ≠ w := fun z => n (by rw [z])
    omega
/-! from how many bits on -/
theorem Df_mod (rs : List Int) : ∀ n, Df rs n = Df rs (n % rs.length) := fun n => by
  by_cases h0 : rs.length = 0
  · rw [h0, Nat.mod_zero]
  · induction n using Nat.strongRecOn with
    | ind n ih =>
      by_cases hn : n < rs.length
      · rw [Nat.mod_eq_of_lt hn]
      · obtain ⟨y, rfl⟩ : ∃ y, n = y + rs.length := ⟨n - rs.length, by omega⟩
        rw [Df_again, Nat.add_mod_right, ih y (by omega)]
theorem Df_plus (rs : List Int) (n : Nat) : ∀ k, Df rs (n + k * rs.length) = Df rs n
  | 0 => by rw [Nat.zero_mul, Nat.add_zero]
  | k + 1 => by rw [Nat.succ_mul, ← Nat.add_assoc, Df_again, Df_plus rs n k]
/-- the first N bits are more off than t by b -/
def Vi (rs : List Int) (t b : Int) (N : Nat) : Prop := t * N * rs.length < ((Df rs N).natAbs : Int) * b
structure IsLast (V : Nat → Prop) (L : Nat) : Prop where
  at_ : L = 0 ∨ V L
  no : ∀ N, L < N → ¬ V N
theorem IsLast.uniq {V : Nat → Prop} {L M : Nat} (h : IsLast V L) (k : IsLast V M) : L = M := by
  rcases Nat.lt_trichotomy L M with z | z | z
  · rcases k.at_ with e | e
    · omega
    · exact absurd e (h.no M z)
  · exact z
  · rcases h.at_ with e | e
    · omega
    · exact absurd e (k.no L z)
theorem Vi_iff {rs : List Int} {t b : Int} {N : Nat} (h1 : 1 ≤ rs.length) (ht : 0 < t) : Vi rs t b N ↔ (N : Int) ≤ (((Df rs N).natAbs : Int) * b - 1) / (t * rs.length) := by
  rw [Int.le_ediv_iff_mul_le (Int.mul_pos ht (by omega))]
  unfold Vi
  rw [show t * N * rs.length = N * (t * rs.length) by rw [Int.mul_comm t N, Int.mul_assoc]]
  omega
theorem Vi_zero {rs : List Int} {t b : Int} {N : Nat} (ht : 0 ≤ t) (hz : Df rs N = 0) : ¬ Vi rs t b N := by
  unfold Vi
  rw [hz]
  have : 0 ≤ t * N * rs.length := Int.mul_nonneg (Int.mul_nonneg ht (by omega)) (by omega)
  simp
  exact this
/-- the last one among n and whole rounds -/
def lb (l : Int) (n m : Nat) : Int := if l < n then 0 else l - (l - n) % m
theorem lb_nat {l : Int} {n m : Nat} (hm : 0 < m) : 0 ≤ lb l n m := by
  unfold lb
  split
  · exact Int.le_refl 0
  · have := Int.emod_nonneg (l - n) (show (m : Int) ≠ 0 by omega)
    have h3 := Int.mul_ediv_add_emod (l - n) m
    have h6 : 0 ≤ (m : Int) * ((l - n) / m) := Int.mul_nonneg (by omega) (Int.ediv_nonneg (by omega) (by omega))
    omega
theorem lb_form {l : Int} {n m : Nat} (hm : 0 < m) (h : ¬ l < n) : ∃ k : Nat, lb l n m = ((n + k * m : Nat) : Int) ∧ lb l n m ≤ l ∧ ∀ j : Nat, ((n + j * m : Nat) : Int) ≤ l → j ≤ k := by
  have h3 := Int.mul_ediv_add_emod (l - n) m
  have h4 := Int.emod_nonneg (l - n) (show (m : Int) ≠ 0 by omega)
  have h5 := Int.emod_lt_of_pos (l - n) (show (0 : Int) < m by omega)
  have h6 : 0 ≤ (l - n) / m := Int.ediv_nonneg (by omega) (by omega)
  obtain ⟨k, hk⟩ := Int.eq_ofNat_of_zero_le h6
  have e : lb l n m = ((n + k * m : Nat) : Int) := by
    unfold lb
    rw [if_neg h, Int.natCast_add, Int.natCast_mul, ← hk, Int.mul_comm]
    omega
  refine ⟨k, e, ?_, fun j hj => ?_⟩
  · unfold lb
    rw [if_neg h]
    omega
  · rw [Int.natCast_add, Int.natCast_mul] at hj
    have : (j : Int) ≤ (l - n) / m := (Int.le_ediv_iff_mul_le (by omega)).mpr (by omega)
    omega
abbrev Lb (rs : List Int) (t b : Int) (n : Nat) : Int := lb ((((Df rs n).natAbs : Int) * b - 1) / (t * rs.length)) n rs.length
theorem Lb_at {rs : List Int} {t b : Int} {n : Nat} (h1 : 1 ≤ rs.length) (ht : 0 < t) : Lb rs t b n = 0 ∨ ∃ N : Nat, Lb rs t b n = (N : Int) ∧ Vi rs t b N := by
  by_cases h : (((Df rs n).natAbs : Int) * b - 1) / (t * rs.length) < n
  · left
    show lb _ _ _ = 0
    unfold lb
    rw [if_pos h]
  · right
    obtain ⟨k, e, le, _⟩ := lb_form (m := rs.length) (by omega) h
    refine ⟨_, e, (Vi_iff h1 ht).mpr ?_⟩
    rw [Df_plus, ← e]
    exact le
theorem Lb_most {rs : List Int} {t b : Int} {n k : Nat} (h1 : 1 ≤ rs.length) (ht : 0 < t) (hv : Vi rs t b (n + k * rs.length)) : ((n + k * rs.length : Nat) : Int) ≤ Lb rs t b n := by
  have hv := (Vi_iff h1 ht).mp hv
  rw [Df_plus] at hv
  by_cases h : (((Df rs n).natAbs : Int) * b - 1) / (t * rs.length) < n
  · have : 0 ≤ k * rs.length := Nat.zero_le _
    omega
  · obtain ⟨k', e, _, hk⟩ := lb_form (m := rs.length) (by omega) h
    have hkk := hk k hv
    show _ ≤ lb _ _ _
    rw [e]
    have : k * rs.length ≤ k' * rs.length := Nat.mul_le_mul_right _ hkk
    omega
/-- the greatest of them is the last one of all -/
theorem last_of {rs : List Int} {t b : Int} {M : Nat} (h1 : 1 ≤ rs.length) (ht : 0 < t) (at_ : M = 0 ∨ ∃ n, Lb rs t b n = (M : Int)) (all : ∀ n, n < rs.length → n ≠ 0 → Lb rs t b n ≤ M) : IsLast (Vi rs t b) M := by
  refine ⟨?_, fun N hN hv => ?_⟩
  · rcases at_ with e | ⟨n, e⟩
    · exact .inl e
    · rcases Lb_at (n := n) (b := b) h1 ht with z | ⟨N, z, hv⟩
      · left
        rw [z] at e
        omega
      · right
        rw [z] at e
        rw [show M = N by omega]
        exact hv
  · have e := Nat.mod_add_div N rs.length
    by_cases z : N % rs.length = 0
    · refine absurd hv (Vi_zero (by omega) ?_)
      rw [Df_mod, z, Df_zero]
    · have l1 := Nat.mod_lt N (show 0 < rs.length by omega)
      have l2 := all _ l1 z
      have hv2 : Vi rs t b (N % rs.length + (N / rs.length) * rs.length) := by
        rw [Nat.mul_comm, e]
        exact hv
      have l3 := Lb_most h1 ht hv2
      rw [Nat.mul_comm, e] at l3
      omega
/-! how far off at most -/
theorem cn_bits {rs : List Int} (hb : Bits rs) : ∀ n, n ≤ rs.length → 0 ≤ cn rs n ∧ cn rs n ≤ n ∧ cn rs n ≤ rs.sum ∧ (n : Int) - cn rs n ≤ rs.length - rs.sum := fun n hn => by
  have up : ∀ k, ∀ n, 0 ≤ cn rs n ∧ cn rs n ≤ n ∧ cn rs n ≤ cn rs (n + k) ∧ cn rs (n + k) ≤ cn rs n + k := by
    have g : ∀ i, 0 ≤ rs.getD i 0 ∧ rs.getD i 0 ≤ 1 := fun i => by
      rw [List.getD_eq_getElem?_getD]
      cases e : rs[i]? with
      | none => exact ⟨Int.le_refl 0, by decide⟩
      | some x =>
        have := hb x (List.mem_of_getElem? e)
        show 0 ≤ x ∧ x ≤ 1
        omega
    have a : ∀ n, 0 ≤ cn rs n ∧ cn rs n ≤ n := fun n => by
      induction n with
      | zero => exact ⟨Int.le_refl 0, Int.le_refl 0⟩
      | succ n ih =>
        have := g (n % rs.length)
        show 0 ≤ cn rs n + _ ∧ cn rs n + _ ≤ _
        omega
    intro k
    induction k with
    | zero => intro n; exact ⟨(a n).1, (a n).2, Int.le_refl _, by rw [Nat.add_zero]; omega⟩
    | succ k ih =>
      intro n
      have h1 := ih n
      have := g ((n + k) % rs.length)
      have e : cn rs (n + (k + 1)) = cn rs (n + k) + rs.getD ((n + k) % rs.length) 0 := rfl
      omega
  have h := up (rs.length - n) n
  rw [Nat.add_sub_cancel' hn, cn_all] at h
  omega
theorem Df_less {rs : List Int} (hb : Bits rs) (n : Nat) (hn : n ≤ rs.length) : ((Df rs n).natAbs : Int) ≤ rs.sum * (rs.length - rs.sum) := by
  obtain ⟨h1, h2, h3, h4⟩ := cn_bits hb n hn
  have h5 := (cn_bits hb rs.length (Nat.le_refl _))
  rw [cn_all] at h5
  have s0 : 0 ≤ rs.sum := h5.1
  have s1 : rs.sum ≤ rs.length := h5.2.1
  unfold Df
  generalize cn rs n = c at *
  generalize rs.sum = a at *
  generalize (rs.length : Int) = m at *
  generalize (n : Int) = x at *
  have u1 : c * a ≤ x * a := Int.mul_le_mul_of_nonneg_right h2 s0
  have u2 : c * (m - a) ≤ a * (m - a) := Int.mul_le_mul_of_nonneg_right h3 (by omega)
  have u3 : (x - c) * a ≤ (m - a) * a := Int.mul_le_mul_of_nonneg_right h4 s0
  have u4 : 0 ≤ c * (m - a) := Int.mul_nonneg h1 (by omega)
  rw [Int.mul_sub] at u2 u4 ⊢
  rw [Int.mul_sub] at u2
  rw [Int.sub_mul, Int.sub_mul] at u3
  have e1 : m * a = a * m := Int.mul_comm ..
  omega
theorem quarter (a m : Int) : 4 * (a * (m - a)) ≤ m * m := by
  have h : 0 ≤ (2 * a - m) * (2 * a - m) := by
    rcases Int.le_total 0 (2 * a - m) with z | z
    · exact Int.mul_nonneg z z
    · exact Int.mul_nonneg_of_nonpos_of_nonpos z z
  rw [Int.mul_sub] at h ⊢
  rw [Int.sub_mul, Int.sub_mul] at h
  have e1 : 2 * a * (2 * a) = 4 * (a * a) := by
    rw [Int.mul_assoc, Int.mul_left_comm a, ← Int.mul_assoc]
    rfl
  have e2 : 2 * a * m = 2 * (a * m) := Int.mul_assoc ..
  have e3 : m * (2 * a) = 2 * (a * m) := by rw [Int.mul_left_comm, Int.mul_comm m a]
  omega
theorem Vi_bound {rs : List Int} {t b : Int} {N : Nat} (hb : Bits rs) (h1 : 1 ≤ rs.length) (ht : 0 < t) (hb0 : 0 < b) (hv : Vi rs t b N) : (N : Int) ≤ (((rs.length : Int) / 4 + 2) * b) / t + rs.length := by
  have l1 := Nat.mod_lt N (show 0 < rs.length by omega)
  have d := Df_less hb (N % rs.length) (by omega)
  rw [← Df_mod] at d
  have q4 := quarter rs.sum rs.length
  unfold Vi at hv
  generalize ((Df rs N).natAbs : Int) = D at *
  have m0 : (0 : Int) < rs.length := by omega
  generalize (rs.length : Int) = m at *
  generalize (N : Int) = x at *
  -- 4 t x m < m m b
  have c1 : 4 * D * b ≤ m * m * b := Int.mul_le_mul_of_nonneg_right (by omega) (by omega)
  have c2 : 4 * (t * x) * m < (m * b) * m := by
    have : 4 * (t * x * m) < 4 * (D * b) := by omega
    rw [Int.mul_assoc, Int.mul_assoc m b m, Int.mul_comm b m, ← Int.mul_assoc m m b]
    rw [Int.mul_assoc] at c1
    omega
  have c3 : 4 * (t * x) < m * b := Int.lt_of_mul_lt_mul_right c2 (by omega)
  have c4 : m ≤ 4 * (m / 4 + 2) := by omega
  have c5 : m * b ≤ 4 * (m / 4 + 2) * b := Int.mul_le_mul_of_nonneg_right c4 (by omega)
  have c6 : x * t ≤ (m / 4 + 2) * b := by
    rw [Int.mul_comm x t]
    rw [Int.mul_assoc] at c5
    omega
  have c7 : x ≤ (m / 4 + 2) * b / t := (Int.le_ediv_iff_mul_le ht).mpr c6
  omega
/-! the worst stretch -/
structure Ends (D : Nat → Int) (m : Nat) (L G : Int) (iL iG : Nat) : Prop where
  lL : iL ≤ m
  eL : D iL = L
  mL : ∀ i, i ≤ m → L ≤ D i
  fL : ∀ i, i < iL → D i ≠ L
  lG : iG ≤ m
  eG : D iG = G
  mG : ∀ i, i ≤ m → D i ≤ G
  fG : ∀ i, i < iG → D i ≠ G
theorem ends_at (D : Nat → Int) (k : Nat) {i : Nat} (hi : i ≤ k) : ((List.range (k + 1)).map D)[i]? = some (D i) := by
  rw [List.getElem?_map, List.getElem?_range (by omega)]
  rfl
theorem ends_le {D : Nat → Int} {k j : Nat} {w : Int} (h : ((List.range (k + 1)).map D)[j]? = some w) : j ≤ k ∧ D j = w := by
  have hj := (List.getElem?_eq_some_iff.mp h).1
  rw [List.length_map, List.length_range] at hj
  rw [ends_at D k (by omega)] at h
  exact ⟨by omega, Option.some.inj h⟩
theorem Ends.of_list {D : Nat → Int} {k iL iG : Nat} {L G : Int} (hL : ∀ y, y ∈ (List.range (k + 1)).map D → L ≤ y) (h1 : ((List.range (k + 1)).map D)[iL]? = some L) (h2 : ∀ m, m < iL → ((List.range (k + 1)).map D)[m]? ≠ some L)
    (hG : ∀ y, y ∈ (List.range (k + 1)).map D → y ≤ G) (h3 : ((List.range (k + 1)).map D)[iG]? = some G) (h4 : ∀ m, m < iG → ((List.range (k + 1)).map D)[m]? ≠ some G) : Ends D k L G iL iG := by
  obtain ⟨a1, a2⟩ := ends_le h1
  obtain ⟨b1, b2⟩ := ends_le h3
  exact ⟨a1, a2, fun i hi => hL _ (List.mem_of_getElem? (ends_at D k hi)), fun i hi z => h2 i hi (by rw [ends_at D k (by omega), z]), b1, b2, fun i hi => hG _ (List.mem_of_getElem? (ends_at D k hi)), fun i hi z => h4 i hi (by rw [ends_at D k (by omega), z])⟩
theorem Ends.uniq {D : Nat → Int} {m iL iG jL jG : Nat} {L G L' G' : Int} (h : Ends D m L G iL iG) (k : Ends D m L' G' jL jG) : L = L' ∧ G = G' := by
  have a := h.mL jL k.lL
  have b := k.mL iL h.lL
  have c := h.mG jG k.lG
  have d := k.mG iG h.lG
  rw [k.eL] at a
  rw [h.eL] at b
  rw [k.eG] at c
  rw [h.eG] at d
  omega
abbrev Dab (D : Nat → Int) (b e : Nat) : Int := ((D e - D b).natAbs : Int)
def vis (m B E b e : Nat) : Prop := b ≤ e ∧ e ≤ m ∧ e < b + m ∧ (b < B ∨ (b = B ∧ e < E))
structure Bp (D : Nat → Int) (m B E : Nat) (w : Int) (b0 e0 : Nat) : Prop where
  eq : Dab D b0 e0 = w
  le : b0 ≤ e0
  lm : e0 ≤ m
  most : ∀ b e, vis m B E b e → Dab D b e ≤ w
  first : ∀ b e, vis m B E b e → (b < b0 ∨ (b = b0 ∧ e < e0)) → Dab D b e < w
  low : b0 < B ∨ (b0 = B ∧ e0 < E) ∨ (b0 = 0 ∧ e0 = 0)
theorem Bp.start (D : Nat → Int) (m : Nat) : Bp D m 0 0 0 0 0 := ⟨by
  show ((D 0 - D 0).natAbs : Int) = 0
  omega, Nat.le_refl _, Nat.zero_le _, fun b e h => by
  obtain ⟨_, _, _, h⟩ := h
  omega, fun b e h => by
  obtain ⟨_, _, _, h⟩ := h
  omega, .inr (.inr ⟨rfl, rfl⟩)⟩
theorem Bp.more {D : Nat → Int} {m B E b0 e0 : Nat} {w : Int} (h : Bp D m B E w b0 e0) (hE : B ≤ E) (hm : E ≤ m) (l : w < Dab D B E) : Bp D m B (E + 1) (Dab D B E) B E := by
  have key : ∀ b e, vis m B (E + 1) b e → ¬ (b = B ∧ e = E) → Dab D b e ≤ w := fun b e hv hn => by
    obtain ⟨h1, h2, h3, h4⟩ := hv
    exact h.most b e ⟨h1, h2, h3, by omega⟩
  refine ⟨rfl, hE, hm, fun b e hv => ?_, fun b e hv hl => ?_, .inr (.inl ⟨rfl, Nat.lt_succ_self _⟩)⟩
  · by_cases z : b = B ∧ e = E
    · rw [z.1, z.2]
      exact Int.le_refl _
    · exact Int.le_of_lt (Int.lt_of_le_of_lt (key b e hv z) l)
  · exact Int.lt_of_le_of_lt (key b e hv (by omega)) l
theorem Bp.less {D : Nat → Int} {m B E b0 e0 : Nat} {w : Int} (h : Bp D m B E w b0 e0) (l : E ≤ m → Dab D B E ≤ w) : Bp D m B (E + 1) w b0 e0 := by
  refine ⟨h.eq, h.le, h.lm, fun b e hv => ?_, fun b e hv hl => ?_, ?_⟩
  · obtain ⟨h1, h2, h3, h4⟩ := hv
    by_cases z : b = B ∧ e = E
    · rw [z.1, z.2]
      exact l (by omega)
    · exact h.most b e ⟨h1, h2, h3, by omega⟩
  · obtain ⟨h1, h2, h3, h4⟩ := hv
    have := h.low
    exact h.first b e ⟨h1, h2, h3, by omega⟩ hl
  · have := h.low
    omega
theorem Bp.next {D : Nat → Int} {m B b0 e0 : Nat} {w : Int} (h : Bp D m B (B + m) w b0 e0) : Bp D m (B + 1) (B + 1) w b0 e0 := by
  have e : ∀ b e, vis m (B + 1) (B + 1) b e → vis m B (B + m) b e := fun b e hv => by
    obtain ⟨h1, h2, h3, h4⟩ := hv
    exact ⟨h1, h2, h3, by omega⟩
  refine ⟨h.eq, h.le, h.lm, fun b e' hv => h.most b e' (e b e' hv), fun b e' hv => h.first b e' (e b e' hv), ?_⟩
  have := h.low
  omega
theorem Bp.fin {D : Nat → Int} {m b0 e0 iL iG : Nat} {w L G : Int} (h : Bp D m (m + 1) (m + 1) w b0 e0) (k : Ends D m L G iL iG) (hm : 1 ≤ m) (hD : D m = D 0) : w = G - L ∧ b0 = min iL iG ∧ e0 = max iL iG := by
  have mb := k.mL b0 (by have := h.le; have := h.lm; omega)
  have me := k.mL e0 h.lm
  have gb := k.mG b0 (by have := h.le; have := h.lm; omega)
  have ge := k.mG e0 h.lm
  have hw := h.eq
  have hGL : L ≤ G := by
    have := k.mL iG k.lG
    rw [k.eG] at this
    exact this
  have dS : Dab D (min iL iG) (max iL iG) = G - L := by
    show ((D (max iL iG) - D (min iL iG)).natAbs : Int) = _
    rcases Nat.le_total iL iG with z | z
    · rw [Nat.max_eq_right z, Nat.min_eq_left z, k.eL, k.eG]
      omega
    · rw [Nat.max_eq_left z, Nat.min_eq_right z, k.eL, k.eG]
      omega
  have dw : Dab D b0 e0 ≤ G - L := by
    show ((D e0 - D b0).natAbs : Int) ≤ _
    omega
  have lL := k.lL
  have lG := k.lG
  -- where the two ends are alike
  have zero : G = L → iL = 0 ∧ iG = 0 := fun z => by
    have a := k.mL 0 (Nat.zero_le _)
    have b := k.mG 0 (Nat.zero_le _)
    constructor
    · rcases Nat.eq_zero_or_pos iL with y | y
      · exact y
      · exact absurd (by omega) (k.fL 0 y)
    · rcases Nat.eq_zero_or_pos iG with y | y
      · exact y
      · exact absurd (by omega) (k.fG 0 y)
  have seen : vis m (m + 1) (m + 1) (min iL iG) (max iL iG) := by
    refine ⟨by omega, by omega, ?_, .inl (by omega)⟩
    by_cases z : min iL iG = 0 ∧ max iL iG = m
    · exfalso
      have d0 : Dab D 0 m = G - L := by
        rw [← dS, z.1, z.2]
      have d1 : Dab D 0 m = 0 := by
        show ((D m - D 0).natAbs : Int) = 0
        omega
      have := zero (by omega)
      omega
    · omega
  have up := h.most _ _ seen
  rw [dS] at up
  have ew : w = G - L := by omega
  have nb : ¬ (min iL iG < b0 ∨ (min iL iG = b0 ∧ max iL iG < e0)) := fun z => by
    have := h.first _ _ seen z
    omega
  have two : (D b0 = L ∧ D e0 = G) ∨ (D b0 = G ∧ D e0 = L) := by
    have : ((D e0 - D b0).natAbs : Int) = G - L := by
      rw [← ew]
      exact hw
    omega
  refine ⟨ew, ?_⟩
  rcases two with ⟨y1, y2⟩ | ⟨y1, y2⟩
  · have b1 : iL ≤ b0 := by
      rcases Nat.lt_or_ge b0 iL with z | z
      · exact absurd y1 (k.fL b0 z)
      · exact z
    have e1 : iG ≤ e0 := by
      rcases Nat.lt_or_ge e0 iG with z | z
      · exact absurd y2 (k.fG e0 z)
      · exact z
    have := h.le
    omega
  · have b1 : iG ≤ b0 := by
      rcases Nat.lt_or_ge b0 iG with z | z
      · exact absurd y1 (k.fG b0 z)
      · exact z
    have e1 : iL ≤ e0 := by
      rcases Nat.lt_or_ge e0 iL with z | z
      · exact absurd y2 (k.fL e0 z)
      · exact z
    have := h.le
    omega
/-! the program: ones, offs, the worst part -/
def sp_ones (_ : PySem.W.Frag) : Sp := fun vs H Q _ => ∃ (a : Addr) (rs : List Int), vs = [.ref a] ∧ H a = some (.tup (rs.map V.int)) ∧ Q (.int rs.sum) H
theorem ok_ones (T : Defs K mg) (TT : Tabs T base) : FnOk P w K mg base CX0 1 T.f_ones T.fd_ones ["row"] (sp_ones K) := by
  refine T.F_ones.ok sc_ones (fun vs H Q E h => ?_) (fun cdv A outer s H vs Q E hr h => ?_)
  · obtain ⟨a, rs, rfl, ha, q⟩ := h
    rfl
  · obtain ⟨a, rs, rfl, ha, q⟩ := h
    refine ⟨_, PSs.nox (pss_one (ps_ret (pe_callB (cr_sumT rfl) (by rfl) T.m_sum bt_sum (pa_cons (pv 0) pa_nil)))), ?_⟩
    exact ⟨.ref a, rfl, a, rs, rfl, SqT.mk ha, q⟩
def OL (rs : List Int) (i : Nat) : List V := ((List.range i).map (Df rs)).map V.int
theorem OL_succ (rs : List Int) (i : Nat) : OL rs (i + 1) = OL rs i ++ [.int (Df rs i)] := by
  unfold OL
  rw [List.range_succ, List.map_append, List.map_append]
  rfl
theorem OL_len (rs : List Int) (i : Nat) : (OL rs i).length = i := by
  unfold OL
  rw [List.length_map, List.length_map, List.length_range]
def sp_offs_by (_ : PySem.W.Frag) : Sp := fun vs H Q _ => ∃ (a : Addr) (rs : List Int), vs = [.ref a, .int rs.sum, .int (rs.length : Nat)] ∧ H a = some (.tup (rs.map V.int)) ∧ rs.length ≤ 100000 ∧
  ∀ H' p, Same H H' → H p = none → H' p = some (.lst (OL rs (rs.length + 1))) → Q (.ref p) H'
theorem ok_offs_by (T : Defs K mg) (TT : Tabs T base) : FnOk P w K mg base CX0 1 T.f_offs_by T.fd_offs_by ["row", "many", "length"] (sp_offs_by K) := by
  refine T.F_offs_by.ok sc_offs_by (fun vs H Q E h => ?_) (fun cdv A outer s H vs Q E hr h => ?_)
  · obtain ⟨a, rs, rfl, ha, hl, q⟩ := h
    rfl
  · obtain ⟨a, rs, rfl, ha, hl, q⟩ := h
    refine ⟨_, PSs.nox (pss_cons (ps_set (i := 3) sc_offs_by.nd rfl (.inl rfl) (pe_lst (pa_cons pe_int pa_nil)))
    (pss_cons (ps_for PassesOwn.never rfl (pi_tup (pv 0)) (pg_name (i := 4) sc_offs_by.nd rfl (.inl rfl)) (pss_one (ps_expr (pe_bm PySem.F.plainAttrs_list PySem.F.slot_list_append PySem.F.type_list_append mt_append (pv 3) (pa_cons (pe_op op_sub (pe_op op_add (pe_ix ix_list (pv 3) (pe_un un_neg pe_int) (fun _ _ => rfl)) (pe_op op_mul (pv 2) (pv 4))) (pv 1)) pa_nil)))))
    (pss_one (ps_ret (pv 3))))), ?_⟩
    have hsl : sizeLine = 16777216 := by decide
    refine ⟨(show 1 ≤ sizeLine by decide), fun p np => ?_⟩
    have s0 : Same H (upd H p (.lst [.int 0])) := same_upd np
    refine ⟨.ref a, rfl, a, rfl, ⟨_, SqT.mk (s0 _ _ ha)⟩, for_tup (xs := rs.map V.int) (fun i σ H1 => ∃ y3, σ = [some (.ref a), some (.int rs.sum), some (.int (rs.length : Nat)), some (.ref p), y3] ∧ Same H H1 ∧ H1 p = some (.lst (OL rs i ++ [.int (Df rs i)]))) ⟨none, rfl, s0, ?_⟩ ?_ ?_ ?_⟩
    · rw [upd_same, Df_zero]
      rfl
    · rintro i σ H1 hi ⟨y3, rfl, s1, hp⟩
      exact SqT.mk (s1 _ _ ha)
    · rintro i x σ H1 hx ⟨y3, rfl, s1, hp⟩
      rw [List.getElem?_map] at hx
      obtain ⟨b, hb, rfl⟩ := Option.map_eq_some_iff.mp hx
      have hi : i < rs.length := (List.getElem?_eq_some_iff.mp hb).1
      have eb : rs.getD (i % rs.length) 0 = b := by
        rw [Nat.mod_eq_of_lt hi, List.getD_eq_getElem?_getD, hb]
        rfl
      refine ⟨.ref p, rfl, .inl ⟨rfl, _, SqL.mk hp⟩, .ref p, rfl, 1, rfl, p, _, _, _, rfl, rfl, SqL.mk hp, atI_last _ _, ?_⟩
      refine ⟨.int (rs.length : Nat), rfl, .int b, rfl, _, _, rfl, rfl, .inl ⟨by omega, by omega⟩, _, _, rfl, rfl, .int rs.sum, rfl, _, _, rfl, rfl, ?_⟩
      have ll : (OL rs i ++ [V.int (Df rs i)]).length = i + 1 := by
        rw [List.length_append, OL_len]
        rfl
      refine ⟨p, _, _, rfl, rfl, hp, by rw [ll]; omega, ?_⟩
      refine ⟨_, rfl, same_newer s1 np, ?_⟩
      rw [upd_same, OL_succ, Df_step, eb]
    · rintro σ H1 ⟨y3, rfl, s1, hp⟩
      rw [List.length_map, ← OL_succ] at hp
      exact ⟨.ref p, rfl, q H1 p s1 np hp⟩
def sp_offs_of (_ : PySem.W.Frag) : Sp := fun vs H Q _ => ∃ (a : Addr) (rs : List Int), vs = [.ref a] ∧ H a = some (.tup (rs.map V.int)) ∧ rs.length ≤ 100000 ∧
  ∀ H' p, Same H H' → H p = none → H' p = some (.lst (OL rs (rs.length + 1))) → Q (.ref p) H'
theorem ok_offs_of (T : Defs K mg) (TT : Tabs T base) : FnOk P w K mg base CX0 2 T.f_offs_of T.fd_offs_of ["row"] (sp_offs_of K) := by
  have G_offs_by : FnOk P w K mg base CX0 1 T.f_offs_by T.fd_offs_by ["row", "many", "length"] (sp_offs_by K) := ok_offs_by T TT
  have G_ones : FnOk P w K mg base CX0 1 T.f_ones T.fd_ones ["row"] (sp_ones K) := ok_ones T TT
  refine T.F_offs_of.ok sc_offs_of (fun vs H Q E h => ?_) (fun cdv A outer s H vs Q E hr h => ?_)
  · obtain ⟨a, rs, rfl, ha, hl, q⟩ := h
    rfl
  · obtain ⟨a, rs, rfl, ha, hl, q⟩ := h
    refine ⟨_, PSs.nox (pss_one (ps_ret (pe_call G_offs_by (hr.mono (by decide)) (by rfl) T.g_offs_by T.F_offs_by.kp T.b_offs_by .nil pass0 (pa_cons (pv 0) (pa_cons (pe_call G_ones (hr.mono (by decide)) (by rfl) T.g_ones T.F_ones.kp T.b_ones .nil pass0 (pa_cons (pv 0) pa_nil)) (pa_cons (pe_callB call_len_seq (by rfl) T.m_len bt_len (pa_cons (pv 0) pa_nil)) pa_nil)))))), ?_⟩
    refine ⟨.ref a, rfl, .ref a, rfl, a, rs, rfl, ha, .ref a, rfl, a, _, rfl, .inr (SqT.mk ha), a, rs, by rw [List.length_map]; rfl, ha, hl, q⟩
theorem s_len {n : Nat} (h : n ≤ 100000) : S 4000 (n : Int) := S.mono (n := 20) (show ((n : Int)).natAbs < 2 ^ 20 by omega) (by decide)
def sp_worst_part (_ : PySem.W.Frag) : Sp := fun vs H Q _ => ∃ (a : Addr) (rs : List Int), vs = [.ref a] ∧ H a = some (.tup (rs.map V.int)) ∧ 1 ≤ rs.length ∧ rs.length ≤ 100000 ∧
  ∀ H' t p w j, Same H H' → H t = none → H' t = some (.tup [.ref p, .int (j : Nat)]) → H' p = some (.tup [.int (frT w rs.length), .int (frB w rs.length)]) → Best (Df rs) rs.length w j → Q (.ref t) H'
theorem ok_worst_part (T : Defs K mg) (TT : Tabs T base) : FnOk P w K mg base CX0 3 T.f_worst_part T.fd_worst_part ["row"] (sp_worst_part K) := by
  have G_fraction : FnOk P w K mg base CX0 2 T.f_fraction T.fd_fraction ["top", "bottom"] (sp_fraction K) := ok_fraction T TT
  have G_offs_of : FnOk P w K mg base CX0 2 T.f_offs_of T.fd_offs_of ["row"] (sp_offs_of K) := ok_offs_of T TT
  refine T.F_worst_part.ok sc_worst_part (fun vs H Q E h => ?_) (fun cdv A outer s H vs Q E hr h => ?_)
  · obtain ⟨a, rs, rfl, ha, h1, hl, q⟩ := h
    rfl
  · obtain ⟨a, rs, rfl, ha, h1, hl, q⟩ := h
    refine ⟨_, PSs.nox (pss_cons (ps_setLc (i := 1) (own := [("off", 3)]) (g := gName 3) (tt := tYes) rfl sc_worst_part.nd rfl rfl (sw_true rfl rfl rfl (by decide +kernel)) (pi_list (pe_call G_offs_of (hr.mono (by decide)) (by rfl) T.g_offs_of T.F_offs_of.kp T.b_offs_of .nil pass0 (pa_cons (pv 0) pa_nil))) (blkOk_by (N := N_worst_part) (sc := defScope s_worst_part) (by decide +kernel)) (fun _ _ _ _ _ => (pg_name (i := 3) sc_worst_part.nd rfl (.inl rfl))) (fun _ _ _ _ _ => pts_nil) (fun _ _ _ _ _ => (pe_callB call_abs (by rfl) T.m_abs bt_abs (pa_cons (pv 3) pa_nil))))
    (pss_cons (ps_set (i := 2) sc_worst_part.nd rfl (.inl rfl) (pe_callB (cr_max rfl) (by rfl) T.m_max bt_max (pa_cons (pv 1) pa_nil)))
    (pss_one (ps_ret (pe_tup (pa_cons (pe_call G_fraction (hr.mono (by decide)) (by rfl) T.g_fraction T.F_fraction.kp T.b_fraction .nil pass0 (pa_cons (pv 2) (pa_cons (pe_callB call_len_seq (by rfl) T.m_len bt_len (pa_cons (pv 0) pa_nil)) pa_nil))) (pa_cons (pe_bm PySem.F.plainAttrs_list PySem.F.slot_list_index PySem.F.type_list_index mt_index (pv 1) (pa_cons (pv 2) pa_nil)) pa_nil))))))), ?_⟩
    have hsl : sizeLine = 16777216 := by decide
    refine ⟨.ref a, rfl, a, rs, rfl, ha, hl, fun H1 p s1 np hp => ?_⟩
    refine ⟨p, rfl, ⟨_, SqL.mk hp⟩, fun D nD => ?_⟩
    refine lc_list (xs := OL rs (rs.length + 1)) (fun i H2 => Same H1 H2 ∧ H2 D = some (.lst (((List.range i).map fun i => ((Df rs i).natAbs : Int)).map V.int))) ⟨same_upd nD, upd_same⟩ (fun i H2 _ h2 => SqL.mk (h2.1 _ _ hp)) (fun i x H2 hx h2 => ?_) (fun H2 h2 => ?_)
    · obtain ⟨s2, hD⟩ := h2
      unfold OL at hx
      have hi := (List.getElem?_eq_some_iff.mp hx).1
      rw [List.length_map, List.length_map, List.length_range] at hi
      rw [List.getElem?_map, List.getElem?_map, List.getElem?_range hi] at hx
      cases hx
      refine ⟨rfl, yes_ite ?_⟩
      refine ⟨_, rfl, _, rfl, _, hD, by rw [List.length_map, List.length_map, List.length_range]; omega, same_newer s2 nD, ?_⟩
      rw [upd_same, List.range_succ, List.map_append, List.map_append, abs_eq]
      rfl
    · obtain ⟨s2, hD⟩ := h2
      rw [OL_len] at hD
      have s02 := s1.trans s2
      refine ⟨.ref D, rfl, D, _, rfl, SqL.mk hD, by rw [List.length_map, List.length_range]; omega, fun w hw hm => ?_⟩
      obtain ⟨j, h3, h4⟩ := first_of hw
      have hbest := Best.of_list hm h3 h4
      refine ⟨.int w, rfl, .ref a, rfl, a, _, rfl, .inr (SqT.mk (s02 _ _ ha)), w, rs.length, by rw [List.length_map]; rfl, by omega, s_len hl, fun H3 f s3 nf hf => ?_⟩
      refine ⟨.ref D, rfl, .inl ⟨rfl, _, SqL.mk (s3 _ _ hD)⟩, .int w, rfl, D, _, .int w, j, .int w, rfl, rfl, SqL.mk (s3 _ _ hD), rfl, flat_ints _, by rw [List.getElem?_map, h3]; rfl, beq_self_eq_true w, fun m z' hm e => ?_, ?_⟩
      · rw [List.getElem?_map] at e
        obtain ⟨x, hx, rfl⟩ := Option.map_eq_some_iff.mp e
        have hx0 : x ≠ w := fun y => h4 m hm (by rw [hx, y])
        show (x == w) = false
        exact beq_eq_false_iff_ne.mpr hx0
      · refine ⟨(show 2 ≤ sizeLine by decide), fun t nt => ?_⟩
        exact q _ t f w j ((s02.trans s3).trans (same_upd nt)) (s02.free (s3.free nt)) upd_same ((same_upd nt) _ _ hf) hbest
/-! the program: the worst stretch -/
theorem ix_at {xs : List Int} {w : Int} {j : Nat} (h3 : xs[j]? = some w) : (xs.map V.int)[j]? = some (.int w) := by
  rw [List.getElem?_map, h3]
  rfl
theorem ix_no {xs : List Int} {w : Int} {j : Nat} (h4 : ∀ m, m < j → xs[m]? ≠ some w) : ∀ (m : Nat) (z' : V), m < j → (xs.map V.int)[m]? = some z' → eqV z' (.int w) = false := fun m z' hm e => by
  rw [List.getElem?_map] at e
  obtain ⟨x, hx, rfl⟩ := Option.map_eq_some_iff.mp e
  have hx0 : x ≠ w := fun y => h4 m hm (by rw [hx, y])
  show (x == w) = false
  exact beq_eq_false_iff_ne.mpr hx0
def sp_worst_stretch (_ : PySem.W.Frag) : Sp := fun vs H Q _ => ∃ (a : Addr) (rs : List Int), vs = [.ref a] ∧ H a = some (.tup (rs.map V.int)) ∧ 1 ≤ rs.length ∧ rs.length ≤ 100000 ∧
  ∀ H' t p L G iL iG, Same H H' → H t = none → H' t = some (.tup [.ref p, .int ((min iL iG : Nat) : Int), .int ((max iL iG : Nat) : Int)]) → H' p = some (.tup [.int (frT (G - L) rs.length), .int (frB (G - L) rs.length)]) → Ends (Df rs) rs.length L G iL iG → Q (.ref t) H'
theorem ok_worst_stretch (T : Defs K mg) (TT : Tabs T base) : FnOk P w K mg base CX0 3 T.f_worst_stretch T.fd_worst_stretch ["row"] (sp_worst_stretch K) := by
  have G_offs_of : FnOk P w K mg base CX0 2 T.f_offs_of T.fd_offs_of ["row"] (sp_offs_of K) := ok_offs_of T TT
  have G_fraction : FnOk P w K mg base CX0 2 T.f_fraction T.fd_fraction ["top", "bottom"] (sp_fraction K) := ok_fraction T TT
  refine T.F_worst_stretch.ok sc_worst_stretch (fun vs H Q E h => ?_) (fun cdv A outer s H vs Q E hr h => ?_)
  · obtain ⟨a, rs, rfl, ha, h1, hl, q⟩ := h
    rfl
  · obtain ⟨a, rs, rfl, ha, h1, hl, q⟩ := h
    refine ⟨_, PSs.nox (pss_cons (ps_set (i := 1) sc_worst_stretch.nd rfl (.inl rfl) (pe_call G_offs_of (hr.mono (by decide)) (by rfl) T.g_offs_of T.F_offs_of.kp T.b_offs_of .nil pass0 (pa_cons (pv 0) pa_nil)))
    (pss_cons (ps_set (i := 2) sc_worst_stretch.nd rfl (.inl rfl) (pe_callB (cr_min rfl) (by rfl) T.m_min bt_min (pa_cons (pv 1) pa_nil)))
    (pss_cons (ps_set (i := 3) sc_worst_stretch.nd rfl (.inl rfl) (pe_callB (cr_max rfl) (by rfl) T.m_max bt_max (pa_cons (pv 1) pa_nil)))
    (pss_cons (ps_set (i := 4) sc_worst_stretch.nd rfl (.inl rfl) (pe_callB (call_min2 rfl) (by rfl) T.m_min bt_min (pa_cons (pe_bm PySem.F.plainAttrs_list PySem.F.slot_list_index PySem.F.type_list_index mt_index (pv 1) (pa_cons (pv 2) pa_nil)) (pa_cons (pe_bm PySem.F.plainAttrs_list PySem.F.slot_list_index PySem.F.type_list_index mt_index (pv 1) (pa_cons (pv 3) pa_nil)) pa_nil))))
    (pss_cons (ps_set (i := 5) sc_worst_stretch.nd rfl (.inl rfl) (pe_callB (call_max2 rfl) (by rfl) T.m_max bt_max (pa_cons (pe_bm PySem.F.plainAttrs_list PySem.F.slot_list_index PySem.F.type_list_index mt_index (pv 1) (pa_cons (pv 2) pa_nil)) (pa_cons (pe_bm PySem.F.plainAttrs_list PySem.F.slot_list_index PySem.F.type_list_index mt_index (pv 1) (pa_cons (pv 3) pa_nil)) pa_nil))))
    (pss_one (ps_ret (pe_tup (pa_cons (pe_call G_fraction (hr.mono (by decide)) (by rfl) T.g_fraction T.F_fraction.kp T.b_fraction .nil pass0 (pa_cons (pe_op op_sub (pv 3) (pv 2)) (pa_cons (pe_callB call_len_seq (by rfl) T.m_len bt_len (pa_cons (pv 0) pa_nil)) pa_nil))) (pa_cons (pv 4) (pa_cons (pv 5) pa_nil))))))))))), ?_⟩
    refine ⟨.ref a, rfl, a, rs, rfl, ha, hl, fun H1 p s1 np hp => ?_⟩
    have hp' : H1 p = some (.lst (((List.range (rs.length + 1)).map (Df rs)).map V.int)) := hp
    have pos : 0 < ((List.range (rs.length + 1)).map (Df rs)).length := by
      rw [List.length_map, List.length_range]
      omega
    refine ⟨.ref p, rfl, p, _, rfl, SqL.mk hp', pos, fun L hL mL => ?_⟩
    refine ⟨.ref p, rfl, p, _, rfl, SqL.mk hp', pos, fun G hG mG => ?_⟩
    obtain ⟨iL, l1, l2⟩ := first_of hL
    obtain ⟨iG, g1, g2⟩ := first_of hG
    have ends := Ends.of_list mL l1 l2 mG g1 g2
    refine ⟨.ref p, rfl, .inl ⟨rfl, _, SqL.mk hp'⟩, .int L, rfl, p, _, .int L, iL, .int L, rfl, rfl, SqL.mk hp', rfl, flat_ints _, ix_at l1, beq_self_eq_true L, ix_no l2, ?_⟩
    refine ⟨.ref p, rfl, .inl ⟨rfl, _, SqL.mk hp'⟩, .int G, rfl, p, _, .int G, iG, .int G, rfl, rfl, SqL.mk hp', rfl, flat_ints _, ix_at g1, beq_self_eq_true G, ix_no g2, _, _, rfl, ?_⟩
    refine ⟨.ref p, rfl, .inl ⟨rfl, _, SqL.mk hp'⟩, .int L, rfl, p, _, .int L, iL, .int L, rfl, rfl, SqL.mk hp', rfl, flat_ints _, ix_at l1, beq_self_eq_true L, ix_no l2, ?_⟩
    refine ⟨.ref p, rfl, .inl ⟨rfl, _, SqL.mk hp'⟩, .int G, rfl, p, _, .int G, iG, .int G, rfl, rfl, SqL.mk hp', rfl, flat_ints _, ix_at g1, beq_self_eq_true G, ix_no g2, _, _, rfl, ?_⟩
    have e1 : (if (iG : Int) < (iL : Int) then (iG : Int) else (iL : Int)) = ((min iL iG : Nat) : Int) := by
      split <;> omega
    have e2 : (if (iG : Int) > (iL : Int) then (iG : Int) else (iL : Int)) = ((max iL iG : Nat) : Int) := by
      split <;> omega
    refine ⟨.int G, rfl, .int L, rfl, _, _, rfl, rfl, .ref a, rfl, a, _, rfl, .inr (SqT.mk (s1 _ _ ha)), G - L, rs.length, by rw [List.length_map]; rfl, by omega, s_len hl, fun H3 f s3 nf hf => ?_⟩
    refine ⟨_, rfl, _, rfl, (show 3 ≤ sizeLine by decide), fun t nt => ?_⟩
    rw [e1, e2]
    exact q _ t f L G iL iG ((s1.trans s3).trans (same_upd nt)) (s1.free (s3.free nt)) upd_same ((same_upd nt) _ _ hf) ends
/-! the program: from how many bits on -/
theorem lg60 {j : Int} (h0 : 0 < j) (h1 : j < 2 ^ 60) : j ≠ 0 ∧ j.natAbs.log2 < 9000 := ⟨by omega, (wide_div (i := 0) (j := j) (b := 60) h0 (by omega) (by decide) (by decide)).2⟩
theorem fdv {a j : Int} (h0 : 0 < j) : a.fdiv j = a / j := Int.fdiv_eq_ediv_of_nonneg _ (by omega)
theorem mul_lt {a b c d : Int} (a0 : 0 ≤ a) (h1 : a ≤ c) (b0 : 0 ≤ b) (h2 : b ≤ d) : 0 ≤ a * b ∧ a * b ≤ c * d := ⟨Int.mul_nonneg a0 b0, Int.mul_le_mul h1 h2 b0 (by omega)⟩
def sp_last_beyond (_ : PySem.W.Frag) : Sp := fun vs H Q _ => ∃ (ea : Addr) (o t b : Int) (n m : Nat), vs = [.int o, .int (n : Nat), .int (m : Nat), .ref ea] ∧ H ea = some (.tup [.int t, .int b]) ∧ 0 < t ∧ t < 1073741824 ∧ 0 < b ∧ b < 1073741824 ∧ 1 ≤ m ∧ m ≤ 100000 ∧ Q (.int (lb ((o * b - 1) / (t * m)) n m)) H
theorem ok_last_beyond (T : Defs K mg) (TT : Tabs T base) : FnOk P w K mg base CX0 1 T.f_last_beyond T.fd_last_beyond ["off", "n", "length", "e"] (sp_last_beyond K) := by
  refine T.F_last_beyond.ok sc_last_beyond (fun vs H Q E h => ?_) (fun cdv A outer s H vs Q E hr h => ?_)
  · obtain ⟨ea, o, t, b, n, m, rfl, he, t0, t1, b0, b1, m0, m1, q⟩ := h
    rfl
  · obtain ⟨ea, o, t, b, n, m, rfl, he, t0, t1, b0, b1, m0, m1, q⟩ := h
    refine ⟨_, PSs.nox (pss_cons (ps_asg (pv 3) (pg_tup rfl (pgs_cons (pg_name (i := 4) sc_last_beyond.nd rfl (.inl rfl)) (pgs_cons (pg_name (i := 5) sc_last_beyond.nd rfl (.inl rfl)) pgs_nil))))
    (pss_cons (ps_set (i := 6) sc_last_beyond.nd rfl (.inl rfl) (pe_op op_fdivNW (pe_op op_sub (pe_op op_mul (pv 0) (pv 5)) pe_int) (pe_op op_mul (pv 4) (pv 2))))
    (pss_cons (ps_if (pt_cmpR op_lt (pv 6) (pv 1) (nomark _)) (pss_one (ps_ret pe_int)) pss_nil)
    (pss_one (ps_ret (pe_op op_sub (pv 6) (pe_op op_mod (pe_op op_sub (pv 6) (pv 1)) (pv 2)))))))), ?_⟩
    have tm := mul_lt (show 0 ≤ t by omega) (show t ≤ 1073741824 by omega) (show 0 ≤ (m : Int) by omega) (show (m : Int) ≤ 100000 by omega)
    have tmp : 0 < t * (m : Int) := Int.mul_pos t0 (by omega)
    refine ⟨.ref ea, rfl, ea, _, rfl, SqT.mk he, rfl, _, _, rfl, _, _, rfl, rfl, ?_⟩
    refine ⟨.int o, rfl, .int b, rfl, _, _, rfl, rfl, .inr ⟨by omega, by omega⟩, _, _, rfl, rfl, .int t, rfl, .int (m : Nat), rfl, _, _, rfl, rfl, .inl ⟨by omega, by omega⟩, _, _, rfl, rfl, lg60 tmp (by omega), ?_⟩
    try dsimp only
    rw [fdv tmp]
    refine ⟨_, rfl, .int (n : Nat), rfl, _, _, rfl, rfl, _, rfl, ite2 (fun e => ?_) (fun e => ?_)⟩
    · have e : (o * b - 1) / (t * (m : Int)) < (n : Int) := of_decide_eq_true e
      unfold lb at q
      rw [if_pos e] at q
      exact q
    · have e : ¬ (o * b - 1) / (t * (m : Int)) < (n : Int) := fun z => e (decide_eq_true z)
      unfold lb at q
      rw [if_neg e] at q
      exact ⟨_, rfl, _, rfl, .int (n : Nat), rfl, _, _, rfl, rfl, .int (m : Nat), rfl, _, _, rfl, rfl, (show (0 : Int) < (m : Int) by omega), _, _, rfl, rfl, q⟩
theorem all_zero {rs : List Int} {t b : Int} (ht : 0 < t) (h1 : 1 ≤ rs.length) (h : ∀ i, i ≤ rs.length → Df rs i = 0) : IsLast (Vi rs t b) 0 := ⟨.inl rfl, fun N _ => Vi_zero (by omega) (by
  have l := Nat.mod_lt N (show 0 < rs.length by omega)
  rw [Df_mod]
  exact h _ (by omega))⟩
def sp_beats_for (_ : PySem.W.Frag) : Sp := fun vs H Q _ => ∃ (a ea : Addr) (rs : List Int) (t b : Int), vs = [.ref a, .ref ea] ∧ H a = some (.tup (rs.map V.int)) ∧ H ea = some (.tup [.int t, .int b]) ∧ 1 ≤ rs.length ∧ rs.length ≤ 100000 ∧ 0 < t ∧ t < 1073741824 ∧ 0 < b ∧ b < 1073741824 ∧
  ∀ H' (L : Nat), Same H H' → IsLast (Vi rs t b) L → Q (.int (1 + (L : Int))) H'
theorem ok_beats_for (T : Defs K mg) (TT : Tabs T base) : FnOk P w K mg base CX0 3 T.f_beats_for T.fd_beats_for ["row", "e"] (sp_beats_for K) := by
  have G_offs_of : FnOk P w K mg base CX0 2 T.f_offs_of T.fd_offs_of ["row"] (sp_offs_of K) := ok_offs_of T TT
  have G_last_beyond : FnOk P w K mg base CX0 1 T.f_last_beyond T.fd_last_beyond ["off", "n", "length", "e"] (sp_last_beyond K) := ok_last_beyond T TT
  refine T.F_beats_for.ok sc_beats_for (fun vs H Q E h => ?_) (fun cdv A outer s H vs Q E hr h => ?_)
  · obtain ⟨a, ea, rs, t, b, rfl, ha, he, h1, hl, t0, t1, b0, b1, q⟩ := h
    rfl
  · obtain ⟨a, ea, rs, t, b, rfl, ha, he, h1, hl, t0, t1, b0, b1, q⟩ := h
    refine ⟨_, PSs.nox (pss_cons (ps_set (i := 2) sc_beats_for.nd rfl (.inr rfl) (pe_lc (own := [("off", 3)]) (g := gName 3) (tt := tYes) rfl sc_beats_for.nd (pi_list (pe_call G_offs_of (hr.mono (by decide)) (by rfl) T.g_offs_of T.F_offs_of.kp T.b_offs_of .nil pass0 (pa_cons (pv 0) pa_nil))) (blkOk_by (N := N_beats_for) (sc := defScope s_beats_for) (by decide +kernel)) (fun _ _ _ _ _ => (pg_name (i := 3) sc_beats_for.nd rfl (.inl rfl))) (fun _ _ _ _ _ => pts_nil) (fun _ _ _ _ _ => (pe_callB call_abs (by rfl) T.m_abs bt_abs (pa_cons (pv 3) pa_nil)))))
    (pss_cons (ps_if (pt_cmpR op_eq (pe_callB (cr_max rfl) (by rfl) T.m_max bt_max (pa_cons (pv 2) pa_nil)) pe_int (nomark _)) (pss_one (ps_ret pe_int)) pss_nil)
    (pss_cons (ps_if (pt_cmpR op_eq (pe_ix ix_tup (pv 1) pe_int (fun _ _ => rfl)) pe_int (nomark _)) (pss_one (ps_ret pe_non)) pss_nil)
    (pss_one (ps_ret (pe_op op_add pe_int (pe_callB (cr_max rfl) (by rfl) T.m_max bt_max (pa_cons (pe_lc (own := [("n", 4)]) (g := gName 4) (tt := tYes) rfl sc_beats_for.nd (pi_range1 (by rfl) T.m_range (pa_cons (pe_callB call_len_seq (by rfl) T.m_len bt_len (pa_cons (pv 0) pa_nil)) pa_nil)) (blkOk_by (N := N_beats_for) (sc := defScope s_beats_for) (by decide +kernel)) (fun _ _ _ _ _ => (pg_name (i := 4) sc_beats_for.nd rfl (.inl rfl))) (fun _ _ _ _ _ => pts_nil) (fun _ _ _ _ _ => (pe_call G_last_beyond (hr.mono (by decide)) (by rfl) T.g_last_beyond T.F_last_beyond.kp T.b_last_beyond .nil pass0 (pa_cons (pe_ix (ixlK (K := K) rfl) (pv 2) (pv 4) (fun _ _ => rfl)) (pa_cons (pv 4) (pa_cons (pe_callB (lenK (K := K) rfl) (by rfl) T.m_len bt_len (pa_cons (pv 0) pa_nil)) (pa_cons (pv 1) pa_nil))))))) pa_nil)))))))), ?_⟩
    have hsl : sizeLine = 16777216 := by decide
    refine ⟨.ref a, rfl, a, rs, rfl, ha, hl, fun H1 p s1 np hp => ?_⟩
    refine ⟨p, rfl, ⟨_, SqL.mk hp⟩, fun D nD => ?_⟩
    refine lc_list (xs := OL rs (rs.length + 1)) (fun i H2 => Same H1 H2 ∧ H2 D = some (.lst (((List.range i).map fun i => ((Df rs i).natAbs : Int)).map V.int))) ⟨same_upd nD, upd_same⟩ (fun i H2 _ h2 => SqL.mk (h2.1 _ _ hp)) (fun i x H2 hx h2 => ?_) (fun H2 h2 => ?_)
    · obtain ⟨s2, hD⟩ := h2
      unfold OL at hx
      have hi := (List.getElem?_eq_some_iff.mp hx).1
      rw [List.length_map, List.length_map, List.length_range] at hi
      rw [List.getElem?_map, List.getElem?_map, List.getElem?_range hi] at hx
      cases hx
      refine ⟨rfl, yes_ite ?_⟩
      refine ⟨_, rfl, _, rfl, _, hD, by rw [List.length_map, List.length_map, List.length_range]; omega, same_newer s2 nD, ?_⟩
      rw [upd_same, List.range_succ, List.map_append, List.map_append, abs_eq]
      rfl
    obtain ⟨s2, hD⟩ := h2
    rw [OL_len] at hD
    have s02 := s1.trans s2
    have at_ : ∀ i, i ≤ rs.length → ((List.range (rs.length + 1)).map (fun i => ((Df rs i).natAbs : Int)))[i]? = some ((Df rs i).natAbs : Int) := fun i hi => by
      rw [List.getElem?_map, List.getElem?_range (by omega)]
      rfl
    refine ⟨.ref D, rfl, D, _, rfl, SqL.mk hD, by rw [List.length_map, List.length_range]; omega, fun w hw hm => ⟨rfl, _, rfl, ite2 (fun e => ?_) (fun e => ?_)⟩⟩
    · have w0 : w = 0 := by
        have := of_decide_eq_true e
        exact V.int.inj this
      refine q H2 0 s02 (all_zero t0 h1 fun i hi => ?_)
      have := hm _ (List.mem_of_getElem? (at_ i hi))
      omega
    refine ⟨.ref ea, rfl, ea, _, 0, _, rfl, rfl, SqT.mk (s02 _ _ he), atI_nat (j := 0) rfl, rfl, _, rfl, ite2 (fun e2 => ?_) (fun _ => ?_)⟩
    · exfalso
      have := V.int.inj (of_decide_eq_true e2)
      omega
    refine ⟨.ref a, rfl, a, _, rfl, .inr (SqT.mk (s02 _ _ ha)), _, rfl, by rw [List.length_map]; omega, by rw [List.length_map]; omega, fun D' nD' => ?_⟩
    refine lc_range (fun i H3 => Same H2 H3 ∧ H3 D' = some (.lst (((List.range i).map fun i => Lb rs t b i).map V.int))) ⟨same_upd nD', upd_same⟩ (fun i H3 hi h3 => ?_) (fun H3 h3 => ?_)
    · obtain ⟨s3, hD3⟩ := h3
      rw [Int.toNat_natCast, List.length_map] at hi
      have s03 := s02.trans s3
      refine ⟨rfl, yes_ite ?_⟩
      refine ⟨.ref D, rfl, .int (0 + (i : Int)), rfl, D, _, _, .int ((Df rs i).natAbs : Int), rfl, rfl, SqL.mk (s3 _ _ hD), ?_, .int (0 + (i : Int)), rfl, .ref a, rfl, a, _, rfl, .inr (SqT.mk (s03 _ _ ha)), .ref ea, rfl, ?_⟩
      · rw [Int.zero_add]
        exact atI_nat (by rw [List.getElem?_map, at_ i (by omega)]; rfl)
      · refine ⟨ea, _, t, b, i, rs.length, by rw [Int.zero_add, List.length_map]; rfl, s03 _ _ he, t0, t1, b0, b1, h1, hl, ?_⟩
        refine ⟨_, hD3, by rw [List.length_map, List.length_map, List.length_range]; omega, same_newer s3 nD', ?_⟩
        rw [upd_same, List.range_succ, List.map_append, List.map_append]
        rfl
    · obtain ⟨s3, hD3⟩ := h3
      rw [Int.toNat_natCast, List.length_map] at hD3
      refine ⟨D', _, rfl, SqL.mk hD3, by rw [List.length_map, List.length_range]; omega, fun M hM hle => ⟨_, _, rfl, rfl, ?_⟩⟩
      obtain ⟨n, hn, eM⟩ := List.mem_map.mp hM
      have M0 : 0 ≤ M := by
        rw [← eM]
        exact lb_nat (by omega)
      obtain ⟨L, rfl⟩ := Int.eq_ofNat_of_zero_le M0
      exact q H3 L (s02.trans s3) (last_of h1 t0 (.inr ⟨n, eM⟩) fun k hk _ => hle _ (List.mem_map.mpr ⟨k, List.mem_range.mpr hk, rfl⟩))
/-! rows of makers -/
def blw (k t : Int) : Int := if t < k then 1 else 0
theorem blw_bit (k t : Int) : blw k t = 0 ∨ blw k t = 1 := by
  unfold blw
  split
  · exact .inr rfl
  · exact .inl rfl
noncomputable def rowM (m : Mk) (k : Int) (n : Nat) : List Int := (List.range n).map fun (i : Nat) => blw k (m.val i)
theorem rowM_len (m : Mk) (k : Int) (n : Nat) : (rowM m k n).length = n := by
  unfold rowM
  rw [List.length_map, List.length_range]
theorem rowM_take (m : Mk) (k : Int) {n b : Nat} (h : b ≤ n) : (rowM m k n).take b = rowM m k b := by
  unfold rowM
  rw [← List.map_take, List.take_range, Nat.min_eq_left h]
theorem rowM_two {m : Mk} (ok : m.Ok) (k : Int) : (rowM m k (2 * m.rnd)).sum = 2 * (rowM m k m.rnd).sum := by
  have e : rowM m k (2 * m.rnd) = rowM m k m.rnd ++ rowM m k m.rnd := by
    unfold rowM
    rw [show 2 * m.rnd = m.rnd + m.rnd by omega, List.range_add, List.map_append, List.map_map]
    congr 1
    apply List.map_congr_left
    intro i _
    show blw k (m.val ((m.rnd + i : Nat) : Int)) = blw k (m.val (i : Nat))
    have := val_round ok (i : Int)
    rw [Int.natCast_add, Int.add_comm, this]
  rw [e, List.sum_append]
  omega
theorem fr_two (t : Int) {b : Int} (hb : 0 < b) : frT (2 * t) (2 * b) = frT t b ∧ frB (2 * t) (2 * b) = frB t b := by
  have hg : 0 < Int.gcd t b := Int.gcd_pos_of_ne_zero_right t (by omega)
  obtain ⟨x, hx⟩ := Int.gcd_dvd_left (a := t) (b := b)
  obtain ⟨y, hy⟩ := Int.gcd_dvd_right (a := t) (b := b)
  have e1 := fr_vals hg rfl hx hy
  have e2 := fr_vals (t := 2 * t) (b := 2 * b) (g := 2 * Int.gcd t b) (x := x) (y := y) (by omega) (by rw [Int.gcd_mul_left]; rfl) (by
    rw [Int.natCast_mul, Int.mul_assoc, ← hx]
    rfl) (by
    rw [Int.natCast_mul, Int.mul_assoc, ← hy]
    rfl)
  exact ⟨e2.1.trans e1.1.symm, e2.2.trans e1.2.symm⟩
theorem MkAt.sam {H H' : Hp} {m : Mk} {v : V} (h : MkAt H m v) (s : Sam H H') : MkAt H' m v := h.keep fun _ _ e => s.tup e
theorem MkAt.bus {H H' : Hp} {m : Mk} {v : V} {p : Addr} {n : Nat} (h : MkAt H m v) (B : Bx H p n) (s : Bus p H H') : MkAt H' m v := h.keep fun _ _ e => s.tup B e
def sp_row_below {K : PySem.W.Frag} {mg : Str → Option Value} (T : Defs K mg) : Sp := fun vs H Q _ => ∃ (a : Addr) (ns : List Int) (k : Int), vs = [.ref a, .int k] ∧ H a = some (.lst (ns.map V.int)) ∧ ns.length ≤ 100000 ∧ GxR.TabG H T.P_row_below ∧
  ∀ H' p, Sam H H' → H p = none → H' p = some (.tup ((ns.map (blw k)).map V.int)) → Q (.ref p) H'
theorem ok_row_below (T : Defs K mg) (TT : Tabs T base) : FnOk P w K mg base CX0 1 T.f_row_below T.fd_row_below ["numbers", "k"] (sp_row_below T) := by
  refine okC T.F_row_below T.k_row_below sc_row_below (fun vs H Q E h => ?_) (fun A outer s H vs Q E hr h => ?_)
  · obtain ⟨a, ns, k, rfl, ha, hl, tg, q⟩ := h
    rfl
  · obtain ⟨a, ns, k, rfl, ha, hl, tg, q⟩ := h
    refine ⟨_, PSs.nox (pss_one (ps_ret (pe_tupG hr (by rfl) T.m_tuple bt_tuple TT.t_row_below rfl ⟨rfl, rfl, by decide +kernel, rfl, rfl, gs_free rfl⟩ (src_list (pv 0)) (elt_below (j := 1) rfl rfl rfl rfl rfl (fun _ => rfl)) (fun _ => rfl)))), ?_⟩
    have hsl : sizeLine = 16777216 := by decide
    refine ⟨.ref a, rfl, a, _, rfl, ha, tg, by rw [List.length_map]; omega, (ns.map (blw k)).map V.int, ?_, ?_, ?_⟩
    · rw [List.length_map, List.length_map, List.length_map]
    · intro i x hx
      rw [List.getElem?_map] at hx
      obtain ⟨t, ht, rfl⟩ := Option.map_eq_some_iff.mp hx
      refine ⟨.int (blw k t), ?_, k, t, rfl, rfl, rfl⟩
      rw [List.getElem?_map, List.getElem?_map, ht]
      rfl
    · intro H2 p tb np
      have s2 := Sam.tabbed tg tb
      exact q _ p (sam_newer s2 (s2.free np)) (s2.free np) upd_same
def sp_row_of {K : PySem.W.Frag} {mg : Str → Option Value} (T : Defs K mg) : Sp := fun vs H Q _ => ∃ m v, ∃ (k : Int) (n : Nat), vs = [v, .int k, .int (n : Nat)] ∧ MkAt H m v ∧ m.Ok ∧ n ≤ 100000 ∧ GxR.TabG H T.P_row_below ∧
  ∀ H' p, Sam H H' → H p = none → H' p = some (.tup ((rowM m k n).map V.int)) → Q (.ref p) H'
theorem ok_row_of (T : Defs K mg) (TT : Tabs T base) : FnOk P w K mg base CX0 6 T.f_row_of T.fd_row_of ["maker", "k", "beats"] (sp_row_of T) := by
  have G_row_below : FnOk P w K mg base CX0 1 T.f_row_below T.fd_row_below ["numbers", "k"] (sp_row_below T) := ok_row_below T TT
  have G_values_of : FnOk P w K mg base CX0 5 T.f_values_of T.fd_values_of ["maker", "beats"] (sp_values_of K) := ok_values_of T TT
  refine T.F_row_of.ok sc_row_of (fun vs H Q E h => ?_) (fun cdv A outer s H vs Q E hr h => ?_)
  · obtain ⟨m, v, k, n, rfl, hm, ok, hn, tg, q⟩ := h
    rfl
  · obtain ⟨m, v, k, n, rfl, hm, ok, hn, tg, q⟩ := h
    refine ⟨_, PSs.nox (pss_one (ps_ret (pe_call G_row_below (hr.mono (by decide)) (by rfl) T.g_row_below T.F_row_below.kp T.b_row_below .nil pass0 (pa_cons (pe_call G_values_of (hr.mono (by decide)) (by rfl) T.g_values_of T.F_values_of.kp T.b_values_of .nil pass0 (pa_cons (pv 0) (pa_cons (pv 2) pa_nil))) (pa_cons (pv 1) pa_nil))))), ?_⟩
    refine ⟨v, rfl, .int (n : Nat), rfl, m, v, n, rfl, hm, ok, hn, fun H1 p1 s1 n1 h1 => ?_⟩
    refine ⟨.int k, rfl, p1, _, k, rfl, h1, by rw [List.length_map, List.length_range]; exact hn, (Sam.of s1).tabG tg, fun H2 p2 s2 n2 h2 => ?_⟩
    refine q H2 p2 ((Sam.of s1).trans s2) (s1.free n2) ?_
    have e : (List.map (blw k) (List.map (fun i : Nat => m.val i) (List.range n))) = rowM m k n := by
      unfold rowM
      rw [List.map_map]
      rfl
    rw [h2, e]
def sp_share_of (_ : PySem.W.Frag) : Sp := fun vs H Q _ => ∃ (a : Addr) (rs : List Int), vs = [.ref a] ∧ H a = some (.tup (rs.map V.int)) ∧ 1 ≤ rs.length ∧ rs.length ≤ 100000 ∧
  ∀ H' p, Same H H' → H p = none → H' p = some (.tup [.int (frT rs.sum rs.length), .int (frB rs.sum rs.length)]) → Q (.ref p) H'
def sp_share_told {K : PySem.W.Frag} {mg : Str → Option Value} (T : Defs K mg) : Sp := fun vs H Q _ => ∃ m v, ∃ k : Int, vs = [v, .int k] ∧ MkAt H m v ∧ m.Ok ∧ m.dep < 5 ∧ m.rnd ≤ 100000 ∧ GxR.TabG H T.P_row_below ∧
  ∀ H' p, Sam H H' → H p = none → H' p = some (.tup [.int (frT (rowM m k m.rnd).sum m.rnd), .int (frB (rowM m k m.rnd).sum m.rnd)]) → Q (.ref p) H'
theorem best_ex {D : Nat → Int} (h : D 0 = 0) : ∀ n, ∃ w j, Best D n w j
  | 0 => ⟨0, 0, Best.zero h⟩
  | n + 1 => by
    obtain ⟨w, j, b⟩ := best_ex h n
    by_cases l : w < ((D (n + 1)).natAbs : Int)
    · exact ⟨_, _, b.more l⟩
    · exact ⟨_, _, b.less (by omega)⟩
/-- the worst of the first i rows -/
structure Wst (R : Nat → List Int) (i : Nat) (W : Int) (K N : Nat) : Prop where
  at_ : (W = 0 ∧ K = 0 ∧ N = 0) ∨ (0 < W ∧ K < i ∧ Best (Df (R K)) (R K).length W N ∧ ∀ k, k < K → ∀ w j, Best (Df (R k)) (R k).length w j → w < W)
  all : ∀ k, k < i → ∀ w j, Best (Df (R k)) (R k).length w j → w ≤ W
theorem Wst.nn {R : Nat → List Int} {i K N : Nat} {W : Int} (h : Wst R i W K N) : 0 ≤ W := by
  rcases h.at_ with ⟨e, _⟩ | ⟨e, _⟩ <;> omega
theorem Wst.zero (R : Nat → List Int) : Wst R 0 0 0 0 := ⟨.inl ⟨rfl, rfl, rfl⟩, fun k h => by omega⟩
theorem Wst.more {R : Nat → List Int} {i K N j : Nat} {W w : Int} (h : Wst R i W K N) (b : Best (Df (R i)) (R i).length w j) (l : W < w) : Wst R (i + 1) w i j :=
  ⟨.inr ⟨by have := h.nn; omega, by omega, b, fun k hk w' j' b' => by have := h.all k hk w' j' b'; omega⟩, fun k hk w' j' b' => by
    by_cases e : k = i
    · subst e
      have := (b'.uniq b).1
      omega
    · have := h.all k (by omega) w' j' b'
      omega⟩
theorem Wst.less {R : Nat → List Int} {i K N j : Nat} {W w : Int} (h : Wst R i W K N) (b : Best (Df (R i)) (R i).length w j) (l : ¬ W < w) : Wst R (i + 1) W K N :=
  ⟨h.at_.elim .inl fun ⟨a, k, c, d⟩ => .inr ⟨a, by omega, c, d⟩, fun k hk w' j' b' => by
    by_cases e : k = i
    · subst e
      have := (b'.uniq b).1
      omega
    · exact h.all k (by omega) w' j' b'⟩
theorem Wst.uniq {R : Nat → List Int} {i K N K' N' : Nat} {W W' : Int} (h : Wst R i W K N) (h' : Wst R i W' K' N') : W = W' ∧ K = K' ∧ N = N' := by
  rcases h.at_ with ⟨a1, a2, a3⟩ | ⟨a1, a2, a3, a4⟩
  · rcases h'.at_ with ⟨b1, b2, b3⟩ | ⟨b1, b2, b3, b4⟩
    · exact ⟨by omega, by omega, by omega⟩
    · have := h.all K' b2 _ _ b3
      omega
  · rcases h'.at_ with ⟨b1, b2, b3⟩ | ⟨b1, b2, b3, b4⟩
    · have := h'.all K a2 _ _ a3
      omega
    · have c1 := h.all K' b2 _ _ b3
      have c2 := h'.all K a2 _ _ a3
      have e : K = K' := by
        rcases Nat.lt_trichotomy K K' with z | z | z
        · have := b4 K z _ _ a3
          omega
        · exact z
        · have := a4 K' z _ _ b3
          omega
      subst e
      exact ⟨by omega, rfl, (a3.uniq b3).2⟩
/-- each bit so often -/
structure SlowRow (q : Nat) (rs rs' : List Int) : Prop where
  q0 : 0 < q
  len : rs'.length = q * rs.length
  at_ : ∀ a r, r < q → a < rs.length → rs'.getD (q * a + r) 0 = rs.getD a 0
theorem SlowRow.get {q : Nat} {rs rs' : List Int} (h : SlowRow q rs rs') (h0 : 0 < rs.length) (a r : Nat) (hr : r < q) : rs'.getD ((q * a + r) % rs'.length) 0 = rs.getD (a % rs.length) 0 := by
  rw [h.len]
  have e : (q * a + r) % (q * rs.length) = q * (a % rs.length) + r := by
    rw [Nat.mod_mul, Nat.mul_add_mod, Nat.mod_eq_of_lt hr, Nat.mul_add_div h.q0, Nat.div_eq_of_lt hr, Nat.add_zero, Nat.add_comm]
  rw [e]
  exact h.at_ _ _ hr (Nat.mod_lt _ h0)
theorem SlowRow.cn1 {q : Nat} {rs rs' : List Int} (h : SlowRow q rs rs') (h0 : 0 < rs.length) (a : Nat) (e : cn rs' (q * a) = q * cn rs a) : ∀ r, r ≤ q → cn rs' (q * a + r) = q * cn rs a + r * rs.getD (a % rs.length) 0
  | 0, _ => by rw [Nat.add_zero, e]; simp
  | r + 1, hr => by
    show cn rs' (q * a + r) + rs'.getD ((q * a + r) % rs'.length) 0 = _
    rw [h.get h0 a r (by omega), h.cn1 h0 a e r (by omega), Int.natCast_add, Int.add_mul]
    omega
theorem SlowRow.cn0 {q : Nat} {rs rs' : List Int} (h : SlowRow q rs rs') (h0 : 0 < rs.length) : ∀ a, cn rs' (q * a) = q * cn rs a
  | 0 => by
    rw [Nat.mul_zero]
    show (0 : Int) = q * 0
    simp
  | a + 1 => by
    rw [Nat.mul_add, Nat.mul_one, h.cn1 h0 a (h.cn0 h0 a) q (Nat.le_refl _)]
    show _ = (q : Int) * (cn rs a + rs.getD (a % rs.length) 0)
    rw [Int.mul_add]
theorem SlowRow.sum {q : Nat} {rs rs' : List Int} (h : SlowRow q rs rs') (h0 : 0 < rs.length) : rs'.sum = q * rs.sum := by
  rw [← cn_all, h.len, h.cn0 h0, cn_all]
theorem SlowRow.df {q : Nat} {rs rs' : List Int} (h : SlowRow q rs rs') (h0 : 0 < rs.length) (a r : Nat) (hr : r ≤ q) : Df rs' (q * a + r) = q * ((q - r) * Df rs a + r * Df rs (a + 1)) := by
  rw [Df_step]
  unfold Df
  rw [h.cn1 h0 a (h.cn0 h0 a) r hr, h.sum h0, h.len]
  generalize cn rs a = c
  generalize rs.getD (a % rs.length) 0 = g
  generalize rs.sum = s
  generalize rs.length = l
  simp only [Int.natCast_add, Int.natCast_mul]
  generalize (q : Int) = q
  generalize (r : Int) = r
  generalize (a : Int) = a
  generalize (l : Int) = l
  simp only [Int.mul_add, Int.add_mul, Int.mul_sub, Int.sub_mul]
  simp only [Int.mul_assoc, Int.mul_comm, Int.mul_left_comm]
  omega
theorem conv {q r w x y : Int} (r0 : 0 ≤ r) (rq : r ≤ q) (hx : -w ≤ x ∧ x ≤ w) (hy : -w ≤ y ∧ y ≤ w) : -(q * w) ≤ (q - r) * x + r * y ∧ (q - r) * x + r * y ≤ q * w := by
  have a1 := Int.mul_le_mul_of_nonneg_left hx.1 (show 0 ≤ q - r by omega)
  have a2 := Int.mul_le_mul_of_nonneg_left hx.2 (show 0 ≤ q - r by omega)
  have b1 := Int.mul_le_mul_of_nonneg_left hy.1 r0
  have b2 := Int.mul_le_mul_of_nonneg_left hy.2 r0
  have e : (q - r) * w + r * w = q * w := by rw [← Int.add_mul]; congr 1; omega
  rw [Int.mul_neg] at a1 b1
  omega
theorem convS {q r w x y : Int} (r0 : 0 ≤ r) (rq : r < q) (hx : -w < x ∧ x < w) (hy : -w ≤ y ∧ y ≤ w) : -(q * w) < (q - r) * x + r * y ∧ (q - r) * x + r * y < q * w := by
  have a1 := Int.mul_lt_mul_of_pos_left hx.1 (show 0 < q - r by omega)
  have a2 := Int.mul_lt_mul_of_pos_left hx.2 (show 0 < q - r by omega)
  have b1 := Int.mul_le_mul_of_nonneg_left hy.1 r0
  have b2 := Int.mul_le_mul_of_nonneg_left hy.2 r0
  have e : (q - r) * w + r * w = q * w := by rw [← Int.add_mul]; congr 1; omega
  rw [Int.mul_neg] at a1 b1
  omega
theorem SlowRow.best {q : Nat} {rs rs' : List Int} {w : Int} {j : Nat} (h : SlowRow q rs rs') (h0 : 0 < rs.length) (b : Best (Df rs) rs.length w j) : Best (Df rs') rs'.length (q * (q * w)) (q * j) := by
  have q0 := h.q0
  have q1 : (0 : Int) < (q : Int) := by omega
  have df0 : ∀ a, Df rs' (q * a) = q * (q * Df rs a) := fun a => by
    have := h.df h0 a 0 (Nat.zero_le _)
    rw [Nat.add_zero] at this
    rw [this]
    simp
  have av : ∀ x : Int, (((q : Int) * x).natAbs : Int) = q * (x.natAbs : Int) := fun x => by
    rw [Int.natAbs_mul, Int.natAbs_natCast, Int.natCast_mul]
  refine ⟨?_, ?_, fun i hi => ?_, fun i hi => ?_⟩
  · rw [h.len]
    exact Nat.mul_le_mul_left _ b.le
  · rw [df0, av, av, b.eq]
  · have e := Nat.div_add_mod i q
    have m := Nat.mod_lt i q0
    rw [h.len] at hi
    rw [← e, h.df h0 _ _ (Nat.le_of_lt m), av]
    refine Int.mul_le_mul_of_nonneg_left ?_ (by omega)
    have x1 : i / q ≤ rs.length := Nat.div_le_of_le_mul hi
    have b1 := b.most _ x1
    have b2 : ((Df rs (i / q + 1)).natAbs : Int) ≤ w := by
      by_cases z : i / q = rs.length
      · rw [z, Nat.add_comm, Df_again]
        exact b.most 1 (by omega)
      · exact b.most _ (by omega)
    have := conv (q := q) (r := ((i % q : Nat) : Int)) (w := w) (x := Df rs (i / q)) (y := Df rs (i / q + 1)) (by omega) (by omega) (by omega) (by omega)
    omega
  · have e := Nat.div_add_mod i q
    have m := Nat.mod_lt i q0
    have jl := b.le
    have x1 : i / q < j := (Nat.div_lt_iff_lt_mul q0).mpr (by rw [Nat.mul_comm]; exact hi)
    rw [← e, h.df h0 _ _ (Nat.le_of_lt m), av]
    refine Int.mul_lt_mul_of_pos_left ?_ q1
    have b1 := b.first _ x1
    have b2 := b.most (i / q + 1) (by omega)
    have := convS (q := q) (r := ((i % q : Nat) : Int)) (w := w) (x := Df rs (i / q)) (y := Df rs (i / q + 1)) (by omega) (by omega) (by omega) (by omega)
    omega
theorem Wst.slow {R R' : Nat → List Int} {q i K N : Nat} {W : Int} (h : Wst R i W K N) (s : ∀ k, SlowRow q (R k) (R' k)) (h0 : ∀ k, 0 < (R k).length) : Wst R' i (q * (q * W)) K (q * N) := by
  have q0 := (s 0).q0
  have q1 : (0 : Int) < (q : Int) := by omega
  have tr : ∀ k w j, Best (Df (R' k)) (R' k).length w j → ∃ w0 j0, Best (Df (R k)) (R k).length w0 j0 ∧ w = q * (q * w0) := fun k w j b => by
    obtain ⟨w0, j0, b0⟩ := best_ex (Df_zero (R k)) (R k).length
    exact ⟨w0, j0, b0, (b.uniq ((s k).best (h0 k) b0)).1⟩
  refine ⟨?_, fun k hk w j b => ?_⟩
  · rcases h.at_ with ⟨rfl, rfl, rfl⟩ | ⟨a1, a2, a3, a4⟩
    · exact .inl ⟨by simp, rfl, by simp⟩
    · refine .inr ⟨Int.mul_pos q1 (Int.mul_pos q1 a1), a2, (s K).best (h0 K) a3, fun k hk w j b => ?_⟩
      obtain ⟨w0, j0, b0, rfl⟩ := tr k w j b
      exact Int.mul_lt_mul_of_pos_left (Int.mul_lt_mul_of_pos_left (a4 k hk _ _ b0) q1) q1
  · obtain ⟨w0, j0, b0, rfl⟩ := tr k w j b
    exact Int.mul_le_mul_of_nonneg_left (Int.mul_le_mul_of_nonneg_left (h.all k hk _ _ b0) (by omega)) (by omega)
/-- so many ones, and then none -/
theorem ones_first {rs : List Int} {k : Nat} (hk : k ≤ rs.length) (h : ∀ i, i < rs.length → rs.getD i 0 = if i < k then 1 else 0) : ∀ i, i ≤ rs.length → cn rs i = ((min i k : Nat) : Int)
  | 0, _ => by rw [Nat.zero_min]; rfl
  | i + 1, hi => by
    show cn rs i + rs.getD (i % rs.length) 0 = _
    rw [ones_first hk h i (by omega), Nat.mod_eq_of_lt (by omega), h i (by omega)]
    split <;> omega
theorem best_first {rs : List Int} {k : Nat} (k0 : 0 < k) (hk : k < rs.length) (h : ∀ i, i < rs.length → rs.getD i 0 = if i < k then 1 else 0) : Best (Df rs) rs.length ((k : Int) * ((rs.length : Int) - k)) k := by
  have c := ones_first (Nat.le_of_lt hk) h
  have sm : rs.sum = (k : Int) := by
    rw [← cn_all, c _ (Nat.le_refl _), Nat.min_eq_right (Nat.le_of_lt hk)]
  have d1 : ∀ i, i ≤ k → Df rs i = (i : Int) * ((rs.length : Int) - k) := fun i hi => by
    unfold Df
    rw [c i (by omega), sm, Nat.min_eq_left hi, Int.mul_sub]
  have d2 : ∀ i, k ≤ i → i ≤ rs.length → Df rs i = (k : Int) * ((rs.length : Int) - i) := fun i hi hl => by
    unfold Df
    rw [c i hl, sm, Nat.min_eq_right hi, Int.mul_sub, Int.mul_comm (i : Int)]
  have lk : (0 : Int) < (rs.length : Int) - k := by omega
  have ab : ∀ {x : Int}, 0 ≤ x → (x.natAbs : Int) = x := fun h => Int.natAbs_of_nonneg h
  refine ⟨Nat.le_of_lt hk, ?_, fun i hi => ?_, fun i hi => ?_⟩
  · rw [d1 k (Nat.le_refl _), ab (Int.mul_nonneg (by omega) (by omega))]
  · by_cases z : i ≤ k
    · rw [d1 i z, ab (Int.mul_nonneg (by omega) (by omega))]
      exact Int.mul_le_mul_of_nonneg_right (by omega) (by omega)
    · rw [d2 i (by omega) hi, ab (Int.mul_nonneg (by omega) (by omega))]
      exact Int.mul_le_mul_of_nonneg_left (by omega) (by omega)
  · rw [d1 i (by omega), ab (Int.mul_nonneg (by omega) (by omega))]
    exact Int.mul_lt_mul_of_pos_right (by omega) lk
theorem fr_mul {q b : Int} (t : Int) (hq : 0 < q) (hb : 0 < b) : frT (q * t) (q * b) = frT t b ∧ frB (q * t) (q * b) = frB t b := by
  have qb : 0 < q * b := Int.mul_pos hq hb
  have eg : ((Int.gcd (q * t) (q * b) : Nat) : Int) = q * (Int.gcd t b : Int) := by
    rw [Int.gcd_mul_left, Int.natCast_mul, Int.natAbs_of_nonneg (Int.le_of_lt hq)]
  unfold frT frB
  rw [eg, Int.sign_eq_one_of_pos qb, Int.sign_eq_one_of_pos hb, Int.one_mul, Int.one_mul, Int.natAbs_of_nonneg (Int.le_of_lt qb), Int.natAbs_of_nonneg (Int.le_of_lt hb)]
  exact ⟨Int.mul_ediv_mul_of_pos _ _ hq, Int.mul_ediv_mul_of_pos _ _ hq⟩
theorem fr_zero {b : Int} (hb : 0 < b) : frT 0 b = 0 ∧ frB 0 b = 1 := by
  unfold frT frB
  rw [Int.mul_zero, Int.zero_ediv, Int.gcd_zero_left]
  exact ⟨rfl, Int.ediv_self (by omega)⟩
def sp_before (_ : PySem.W.Frag) : Sp := fun vs H Q _ => ∃ (p r : Addr) (a b c d : Int), vs = [.ref p, .ref r] ∧ H p = some (.tup [.int a, .int b]) ∧ H r = some (.tup [.int c, .int d]) ∧ (-(2 ^ 64) < b ∧ b < 2 ^ 64) ∧ (-(2 ^ 64) < d ∧ d < 2 ^ 64) ∧ Q (.bl (decide (a * d < c * b))) H
theorem ok_before (T : Defs K mg) (TT : Tabs T base) : FnOk P w K mg base CX0 1 T.f_before T.fd_before ["one", "other"] (sp_before K) := by
  refine T.F_before.ok sc_before (fun vs H Q E h => ?_) (fun cdv A outer s H vs Q E hr h => ?_)
  · obtain ⟨p, r, a, b, c, d, rfl, hp, hq, h1, h2, q⟩ := h
    rfl
  · obtain ⟨p, r, a, b, c, d, rfl, hp, hq, h1, h2, q⟩ := h
    refine ⟨_, PSs.nox (pss_one (ps_ret (pe_cmpR op_lt (pe_op op_mul (pe_ix ix_tup (pv 0) pe_int (fun _ _ => rfl)) (pe_ix ix_tup (pv 1) pe_int (fun _ _ => rfl))) (pe_op op_mul (pe_ix ix_tup (pv 1) pe_int (fun _ _ => rfl)) (pe_ix ix_tup (pv 0) pe_int (fun _ _ => rfl))) (nomark _)))), ?_⟩
    have SP : SqT K H p [.int a, .int b] := SqT.mk hp
    have SR : SqT K H r [.int c, .int d] := SqT.mk hq
    exact ⟨.ref p, rfl, p, _, 0, _, rfl, rfl, SP, atI_nat (j := 0) rfl, .ref r, rfl, r, _, 1, _, rfl, rfl, SR, atI_nat (j := 1) rfl, _, _, rfl, rfl, .inr h2, .ref r, rfl, r, _, 0, _, rfl, rfl, SR, atI_nat (j := 0) rfl, .ref p, rfl, p, _, 1, _, rfl, rfl, SP, atI_nat (j := 1) rfl, _, _, rfl, rfl, .inr h1, _, _, rfl, rfl, q⟩
theorem frB_leM {t b : Int} (hb : 0 < b) : 0 < frB t b ∧ frB t b ≤ b := by
  refine ⟨fr_pos t (by omega), ?_⟩
  rw [← (fr_ge t hb).2, Int.fdiv_eq_ediv_of_nonneg _ (by omega)]
  exact Int.ediv_le_self _ (by omega)
theorem top_smallM {m : Mk} {z : Int} (pl : m.Pl) (h : m.Top z) : 1 ≤ z ∧ z ≤ 64 := by
  cases m with
  | counter r s t =>
    obtain ⟨h1, h2, _⟩ := pl
    have h : z = (r : Int) := h
    omega
  | table ns =>
    obtain ⟨h1, h2, h3⟩ := pl
    obtain ⟨M, hM, _, rfl⟩ := h
    have := h3 M hM
    omega
  | turned w s =>
    have h : z = ((2 ^ w : Nat) : Int) := h
    have := two_pow6 pl.2.1
    omega
  | register w p s =>
    have h : z = ((2 ^ w : Nat) : Int) := h
    have := two_pow6 pl.1.hi
    omega
  | _ => exact pl.elim
theorem fr_ltW {n W w : Int} (hn : 0 < n) : (frT W n * frB w n < frT w n * frB W n ↔ W < w) := by
  have e1 := fr_eq W (show n ≠ 0 by omega)
  have e2 := fr_eq w (show n ≠ 0 by omega)
  have p1 := fr_pos W (show n ≠ 0 by omega)
  have p2 := fr_pos w (show n ≠ 0 by omega)
  have k1 : frT W n * frB w n * n = W * (frB W n * frB w n) := by
    rw [Int.mul_right_comm, e1, Int.mul_assoc]
  have k2 : frT w n * frB W n * n = w * (frB W n * frB w n) := by
    rw [Int.mul_right_comm, e2, Int.mul_assoc, Int.mul_comm (frB w n)]
  have pp : 0 < frB W n * frB w n := Int.mul_pos p1 p2
  constructor
  · intro h
    have := Int.mul_lt_mul_of_pos_right h hn
    rw [k1, k2] at this
    exact Int.lt_of_mul_lt_mul_right this (Int.le_of_lt pp)
  · intro h
    have := Int.mul_lt_mul_of_pos_right h pp
    rw [← k1, ← k2] at this
    exact Int.lt_of_mul_lt_mul_right this (Int.le_of_lt hn)
/-- the worst row of a round of a maker -/
def MW (m : Mk) (z W : Int) (K N : Nat) : Prop := Wst (fun k => rowM m (k : Int) m.rnd) (z + 1).toNat W K N
def sp_worst_of {K : PySem.W.Frag} {mg : Str → Option Value} (T : Defs K mg) : Sp := fun vs H Q _ => ∃ m v, vs = [v] ∧ MkAt H m v ∧ m.Ok ∧ m.dep < 5 ∧ m.rnd ≤ 4096 ∧ GxR.TabG H T.P_row_below ∧
  ∀ H' t p (W z : Int) (k j : Nat), Sam H H' → H' t = some (.tup [.ref p, .int (k : Nat), .int (j : Nat)]) → H' p = some (.tup [.int (frT W m.rnd), .int (frB W m.rnd)]) → m.inn.Top z → MW m z W k j → Q (.ref t) H'
theorem ok_worst_of (T : Defs K mg) (TT : Tabs T base) : FnOk P w K mg base CX0 10 T.f_worst_of T.fd_worst_of ["maker"] (sp_worst_of T) := by
  have G_values_of : FnOk P w K mg base CX0 5 T.f_values_of T.fd_values_of ["maker", "beats"] (sp_values_of K) := ok_values_of T TT
  have G_round_of : FnOk P w K mg base CX0 9 T.f_round_of T.fd_round_of ["maker"] (sp_round_of K) := ok_round_of T TT
  have G_worst_part : FnOk P w K mg base CX0 3 T.f_worst_part T.fd_worst_part ["row"] (sp_worst_part K) := ok_worst_part T TT
  have G_before : FnOk P w K mg base CX0 1 T.f_before T.fd_before ["one", "other"] (sp_before K) := ok_before T TT
  have G_top_of : FnOk P w K mg base CX0 2 T.f_top_of T.fd_top_of ["maker"] (sp_top_of K) := ok_top_of T TT
  have G_row_below : FnOk P w K mg base CX0 1 T.f_row_below T.fd_row_below ["numbers", "k"] (sp_row_below T) := ok_row_below T TT
  refine T.F_worst_of.ok sc_worst_of (fun vs H Q E h => ?_) (fun cdv A outer s H vs Q E hr h => ?_)
  · obtain ⟨m, v, rfl, hm, ok, dp, rm, tg, q⟩ := h
    rfl
  · obtain ⟨m, v, rfl, hm, ok, dp, rm, tg, q⟩ := h
    refine ⟨_, PSs.nox (pss_cons (ps_set (i := 1) sc_worst_of.nd rfl (.inl rfl) (pe_call G_values_of (hr.mono (by decide)) (by rfl) T.g_values_of T.F_values_of.kp T.b_values_of .nil pass0 (pa_cons (pv 0) (pa_cons (pe_call G_round_of (hr.mono (by decide)) (by rfl) T.g_round_of T.F_round_of.kp T.b_round_of .nil pass0 (pa_cons (pv 0) pa_nil)) pa_nil))))
    (pss_cons (ps_set (i := 2) sc_worst_of.nd rfl (.inl rfl) (pe_tup (pa_cons (pe_tup (pa_cons pe_int (pa_cons pe_int pa_nil))) (pa_cons pe_int (pa_cons pe_int pa_nil)))))
    (pss_cons (ps_for PassesOwn.never rfl (pi_range1 (by rfl) T.m_range (pa_cons (pe_op op_add (pe_call G_top_of (hr.mono (by decide)) (by rfl) T.g_top_of T.F_top_of.kp T.b_top_of .nil pass0 (pa_cons (pv 0) pa_nil)) pe_int) pa_nil)) (pg_name (i := 3) sc_worst_of.nd rfl (.inl rfl)) (pss_cons (ps_asg (pe_call G_worst_part (hr.mono (by decide)) (by rfl) T.g_worst_part T.F_worst_part.kp T.b_worst_part .nil pass0 (pa_cons (pe_call G_row_below (hr.mono (by decide)) (by rfl) T.g_row_below T.F_row_below.kp T.b_row_below .nil pass0 (pa_cons (pv 1) (pa_cons (pv 3) pa_nil))) pa_nil)) (pg_tup rfl (pgs_cons (pg_name (i := 4) sc_worst_of.nd rfl (.inl rfl)) (pgs_cons (pg_name (i := 5) sc_worst_of.nd rfl (.inl rfl)) pgs_nil))))
    (pss_one (ps_if (pt_val (pe_call G_before (hr.mono (by decide)) (by rfl) T.g_before T.F_before.kp T.b_before .nil pass0 (pa_cons (pe_ix ix_tup (pv 2) pe_int (fun _ _ => rfl)) (pa_cons (pv 4) pa_nil)))) (pss_one (ps_set (i := 2) sc_worst_of.nd rfl (.inl rfl) (pe_tup (pa_cons (pv 4) (pa_cons (pv 3) (pa_cons (pv 5) pa_nil)))))) pss_nil))))
    (pss_one (ps_ret (pv 2)))))), ?_⟩
    have hsl : sizeLine = 16777216 := by decide
    have r1 := rnd_pos ok
    have ri : (0 : Int) < (m.rnd : Int) := by omega
    refine ⟨v, rfl, v, rfl, m, v, rfl, hm, ok, dp, fun H1 s1 => ?_⟩
    refine ⟨m, v, m.rnd, rfl, hm.same s1, ok, by omega, fun H2 l s2 nl hl => ?_⟩
    refine ⟨(show 2 ≤ sizeLine by decide), fun p0 n0 => ⟨(show 3 ≤ sizeLine by decide), fun t0 nt0 => ?_⟩⟩
    have s3 : Same H (upd (upd H2 p0 (.tup [.int 0, .int 1])) t0 (.tup [.ref p0, .int 0, .int 0])) := (s1.trans s2).trans ((same_upd n0).trans (same_upd nt0))
    have hl3 := (same_upd nt0 (o := .tup [.ref p0, .int 0, .int 0])) _ _ ((same_upd n0 (o := .tup [.int 0, .int 1])) _ _ hl)
    have hp3 : (upd (upd H2 p0 (.tup [.int 0, .int 1])) t0 (.tup [.ref p0, .int 0, .int 0])) p0 = some (.tup [.int 0, .int 1]) := (same_upd nt0) _ _ upd_same
    have ht3 : (upd (upd H2 p0 (.tup [.int 0, .int 1])) t0 (.tup [.ref p0, .int 0, .int 0])) t0 = some (.tup [.ref p0, .int 0, .int 0]) := upd_same
    generalize upd (upd H2 p0 (.tup [.int 0, .int 1])) t0 (.tup [.ref p0, .int 0, .int 0]) = H3 at s3 hl3 hp3 ht3 ⊢
    refine ⟨v, rfl, m, v, rfl, hm.same s3, ok, fun H4 z s4 hz => ⟨_, _, rfl, rfl, ?_⟩⟩
    have zs := top_smallM ok.inn hz
    obtain ⟨zn, hzn⟩ := nat_of (show 0 ≤ z + 1 by omega)
    have S4 := Sam.of (s3.trans s4)
    have fz := fr_zero ri
    refine ⟨((zn : Nat) : Int), by rw [← hzn], by omega, by omega, for_range (n := zn) (fun i σ G => ∃ y3 y4 y5 t p, ∃ (W : Int) (k j : Nat), σ = [some v, some (.ref l), some (.ref t), y3, y4, y5] ∧ Sam H4 G ∧ G t = some (.tup [.ref p, .int (k : Nat), .int (j : Nat)]) ∧ G p = some (.tup [.int (frT W m.rnd), .int (frB W m.rnd)]) ∧ Wst (fun k => rowM m (k : Int) m.rnd) i W k j) ⟨none, none, none, t0, p0, 0, 0, 0, rfl, Sam.refl H4, s4 _ _ ht3, by rw [fz.1, fz.2]; exact s4 _ _ hp3, Wst.zero _⟩ ?_ ?_⟩
    rotate_left
    · rintro σ G ⟨y3, y4, y5, t, p, W, k, j, rfl, sG, ht, hp, ws⟩
      refine ⟨.ref t, rfl, q _ t p W z k j (S4.trans sG) ht hp hz ?_⟩
      unfold MW
      rw [hzn, Int.toNat_natCast]
      exact ws
    rintro i σ G hi ⟨y3, y4, y5, t, p, W, k, j, rfl, sG, ht, hp, ws⟩
    have hlG := sG.lst (s4 _ _ hl3)
    rw [Int.zero_add]
    refine ⟨.ref l, rfl, _, rfl, l, _, _, rfl, hlG, by rw [List.length_map, List.length_range]; omega, sG.tabG (S4.tabG tg), fun F1 a1 f1 _ ha1 => ?_⟩
    have erow : (List.map (blw (i : Int)) (List.map (fun i : Nat => m.val i) (List.range m.rnd))) = rowM m (i : Int) m.rnd := by
      unfold rowM
      rw [List.map_map]
      rfl
    rw [erow] at ha1
    have lr := rowM_len m (i : Int) m.rnd
    refine ⟨a1, _, rfl, ha1, by omega, by omega, fun F2 t2 p2 w j2 f2 _ ht2 hp2 bst => ?_⟩
    rw [lr] at hp2
    refine ⟨t2, _, rfl, SqT.mk ht2, rfl, _, _, rfl, _, _, rfl, rfl, ?_⟩
    have sF := f1.trans (Sam.of f2)
    have htF := sF.tup ht
    have hpF := sF.tup hp
    have bw := frB_leM (t := w) ri
    have bW := frB_leM (t := W) ri
    refine ⟨.ref t, rfl, t, _, 0, _, rfl, rfl, SqT.mk htF, atI_nat (j := 0) rfl, .ref p2, rfl, p, p2, _, _, _, _, rfl, hpF, hp2, ⟨by omega, by omega⟩, ⟨by omega, by omega⟩, _, rfl, ite2 (fun e => ?_) (fun e => ?_)⟩
    · have lt : W < w := (fr_ltW ri).mp (of_decide_eq_true e)
      refine ⟨.ref p2, rfl, .int (i : Nat), rfl, .int (j2 : Nat), rfl, (show 3 ≤ sizeLine by decide), fun t5 nt5 => ?_⟩
      have f5 := same_upd nt5 (o := .tup [.ref p2, .int (i : Nat), .int (j2 : Nat)])
      exact ⟨_, _, _, t5, p2, w, i, j2, rfl, sG.trans (sF.trans (Sam.of f5)), upd_same, f5 _ _ hp2, ws.more bst lt⟩
    · have ge : ¬ W < w := fun c => e (decide_eq_true ((fr_ltW ri).mpr c))
      exact ⟨_, _, _, t, p, W, k, j, rfl, sG.trans sF, htF, hpF, ws.less bst ge⟩
theorem fr_cmp {n B x X w : Int} (hn : 0 < n) (hB : 0 < B) (ex : x * n = X * B) : (x * frB w n ≤ frT w n * B ↔ X ≤ w) ∧ (x * frB w n = frT w n * B ↔ X = w) := by
  have e := fr_eq w (show n ≠ 0 by omega)
  have p := fr_pos w (show n ≠ 0 by omega)
  have k1 : x * frB w n * n = X * (B * frB w n) := by
    rw [Int.mul_right_comm, ex, Int.mul_assoc]
  have k2 : frT w n * B * n = w * (B * frB w n) := by
    rw [Int.mul_right_comm, e, Int.mul_assoc, Int.mul_comm (frB w n)]
  have bp : 0 < B * frB w n := Int.mul_pos hB p
  constructor
  · constructor
    · intro h
      have := Int.mul_le_mul_of_nonneg_right h (Int.le_of_lt hn)
      rw [k1, k2] at this
      exact Int.le_of_mul_le_mul_right this bp
    · intro h
      have := Int.mul_le_mul_of_nonneg_right h (Int.le_of_lt bp)
      rw [← k1, ← k2] at this
      exact Int.le_of_mul_le_mul_right this hn
  · constructor
    · intro h
      have : x * frB w n * n = frT w n * B * n := by rw [h]
      rw [k1, k2] at this
      exact Int.eq_of_mul_eq_mul_right (by omega) this
    · intro h
      have : X * (B * frB w n) = w * (B * frB w n) := by rw [h]
      rw [← k1, ← k2] at this
      exact Int.eq_of_mul_eq_mul_right (by omega) this
theorem best_allM {rs : List Int} {w : Int} {j : Nat} (h : 0 < rs.length) (b : Best (Df rs) rs.length w j) (i : Nat) : ((Df rs i).natAbs : Int) ≤ w := by
  rw [Df_mod]
  exact b.most _ (Nat.le_of_lt (Nat.mod_lt _ h))
theorem ends_allM {rs : List Int} {L G : Int} {iL iG : Nat} (h : 0 < rs.length) (k : Ends (Df rs) rs.length L G iL iG) (i : Nat) : L ≤ Df rs i ∧ Df rs i ≤ G := by
  rw [Df_mod]
  exact ⟨k.mL _ (Nat.le_of_lt (Nat.mod_lt _ h)), k.mG _ (Nat.le_of_lt (Nat.mod_lt _ h))⟩
theorem ends_span {D : Nat → Int} {m iL iG : Nat} {L G : Int} (k : Ends D m L G iL iG) : (((D (max iL iG) - D (min iL iG)).natAbs : Nat) : Int) = G - L := by
  have := k.mL iG k.lG
  rw [k.eG] at this
  rcases Nat.le_total iL iG with z | z
  · rw [Nat.max_eq_right z, Nat.min_eq_left z, k.eL, k.eG]
    omega
  · rw [Nat.max_eq_left z, Nat.min_eq_right z, k.eL, k.eG]
    omega
def sp_again (_ : PySem.W.Frag) : Sp := fun vs H Q _ => ∃ (a : Addr) (rs : List Int) (k : Nat), vs = [.ref a, .int (k : Nat)] ∧ H a = some (.tup (rs.map V.int)) ∧ 0 < rs.length ∧ 1 ≤ k ∧ rs.length * k ≤ 1000000 ∧
  ∀ H' p, Same H H' → H' p = some (.tup (((List.replicate k rs).flatten).map V.int)) → Q (.ref p) H'
theorem map_rep (k : Nat) (rs : List Int) : (List.replicate k (rs.map V.int)).flatten = ((List.replicate k rs).flatten).map V.int := by
  rw [List.map_flatten, List.map_replicate]
theorem ok_again (T : Defs K mg) (TT : Tabs T base) : FnOk P w K mg base CX0 1 T.f_again T.fd_again ["row", "many"] (sp_again K) := by
  refine T.F_again.ok sc_again (fun vs H Q E h => ?_) (fun cdv A outer s H vs Q E hr h => ?_)
  · obtain ⟨a, rs, k, rfl, ha, h0, hk, hl, q⟩ := h
    rfl
  · obtain ⟨a, rs, k, rfl, ha, h0, hk, hl, q⟩ := h
    refine ⟨_, PSs.nox (pss_one (ps_ret (pe_op op_repA (pv 0) (pv 1)))), ?_⟩
    refine ⟨.ref a, rfl, .int (k : Nat), rfl, a, k, _, rfl, rfl, SqT.mk ha, fun z => ?_, hk, by rw [List.length_map]; exact hl, fun z => ?_, fun z p np => ?_⟩
    · rw [List.map_eq_nil_iff.mp z] at h0
      cases h0
    · subst z
      exact q H a (Same.refl H) (by rw [show (List.replicate 1 rs).flatten = rs by simp]; exact ha)
    · rw [map_rep]
      exact q _ p (same_upd np) upd_same
theorem eqvP {K : PySem.W.Frag} {H : Hp} {t t' p p' : Addr} {a b j : Int} (ht : H t = some (.tup [.ref p, .int j])) (ht' : H t' = some (.tup [.ref p', .int j])) (hp : H p = some (.tup [.int a, .int b])) (hp' : H p' = some (.tup [.int a, .int b])) {Q : VK} (q : Q (.bl false) H) : rNeD K (.ref t) (.ref t') H Q := by
  refine ⟨_, _, .tup (SqT.mk ht) (.cons (.tup (SqT.mk hp) (.cons (.int a) (.cons (.int b) .nil))) (.cons (.int j) .nil)), .tup (SqT.mk ht') (.cons (.tup (SqT.mk hp') (.cons (.int a) (.cons (.int b) .nil))) (.cons (.int j) .nil)), rfl, rfl, ?_⟩
  have e : PyData.eqv (.tuple [.tuple [.int a, .int b], .int j]) (.tuple [.tuple [.int a, .int b], .int j]) = true := by
    simp [PyData.eqv, PyData.eqvAll]
  rw [e]
  exact q
theorem eqvP3 {K : PySem.W.Frag} {H : Hp} {t t' p p' : Addr} {a b j k : Int} (ht : H t = some (.tup [.ref p, .int j, .int k])) (ht' : H t' = some (.tup [.ref p', .int j, .int k])) (hp : H p = some (.tup [.int a, .int b])) (hp' : H p' = some (.tup [.int a, .int b])) {Q : VK} (q : Q (.bl false) H) : rNeD K (.ref t) (.ref t') H Q := by
  refine ⟨_, _, .tup (SqT.mk ht) (.cons (.tup (SqT.mk hp) (.cons (.int a) (.cons (.int b) .nil))) (.cons (.int j) (.cons (.int k) .nil))), .tup (SqT.mk ht') (.cons (.tup (SqT.mk hp') (.cons (.int a) (.cons (.int b) .nil))) (.cons (.int j) (.cons (.int k) .nil))), rfl, rfl, ?_⟩
  have e : PyData.eqv (.tuple [.tuple [.int a, .int b], .int j, .int k]) (.tuple [.tuple [.int a, .int b], .int j, .int k]) = true := by
    simp [PyData.eqv, PyData.eqvAll]
  rw [e]
  exact q
theorem eqv2 {K : PySem.W.Frag} {H : Hp} {p r : Addr} {a b : Int} (hp : H p = some (.tup [.int a, .int b])) (hr : H r = some (.tup [.int a, .int b])) {Q : VK} (q : Q (.bl false) H) : rNeD K (.ref p) (.ref r) H Q := by
  refine ⟨_, _, .tup (SqT.mk hp) (.cons (.int a) (.cons (.int b) .nil)), .tup (SqT.mk hr) (.cons (.int a) (.cons (.int b) .nil)), rfl, rfl, ?_⟩
  have e : PyData.eqv (.tuple [.int a, .int b]) (.tuple [.int a, .int b]) = true := by
    simp [PyData.eqv, PyData.eqvAll]
  rw [e]
  exact q
theorem u65 {k : Nat} {A : Around} (r : Room k A) : A.units + 65 < cLine := by
  have := r.un
  omega
/-- three comparisons in a row of which the first two hold -/
def tHeld (r r' r'' : R2) (ta tb tc td : TE) : L2.St → Hp → (Bool → Hp → Prop) → Prop := fun σ H Q => ta σ H fun x G => tb σ G fun y G => r x y G fun z G => z = .bl true ∧
  tc σ G fun v G => r' y v G fun z G => z = .bl true ∧ td σ G fun u G => r'' v u G fun z G => ∃ k, z = .bl k ∧ Q k G
theorem pt_chain3 {X : Cx} {a b c d : Expr} {ta tb tc td : TE} {pos : Pos} {op op' op'' : CmpOp} {r r' r'' : R2} (ho : OpR X (compareOp op) r) (ho' : OpR X (compareOp op') r') (ho'' : OpR X (compareOp op'') r'') (ha : PE X a ta) (hb : PE X b tb) (hc : PE X c tc) (hd : PE X d td)
    (hm : lastMarks [op, op', op''] [b, c, d] = false := by with_unfolding_all rfl) : PT X (.Compare a [op, op', op''] [b, c, d] pos) (tHeld r r' r'' ta tb tc td) := by
  constructor
  intro pins s σ H Q I h
  refine isTrue_chain (thn (ha.run pins s σ H _ I h) fun v1 s1 ⟨x1, H1, I1, r1, q1⟩ => test_link (thn (hb.run pins s1 σ H1 _ I1 q1) fun v2 s2 ⟨x2, H2, I2, r2, q2⟩ => thn (ho pins s2 σ H2 x1 x2 v1 v2 _ I2 r1 r2 q2) fun w1 s3 ⟨z1, H3, I3, t1, e1, q3⟩ => ?_)) hm
  subst e1
  cases t1
  refine wpAny_truthy_bool (ite_tt (test_link (thn (hc.run pins s3 σ H3 _ I3 q3) fun v3 s4 ⟨x3, H4, I4, r3, q4⟩ => thn (ho' pins s4 σ H4 x2 x3 v2 v3 _ I4 r2 r3 q4) fun w2 s5 ⟨z2, H5, I5, t2, e2, q5⟩ => ?_)))
  subst e2
  cases t2
  refine wpAny_truthy_bool (ite_tt (test_last (thn (hd.run pins s5 σ H5 _ I5 q5) fun v4 s6 ⟨x4, H6, I6, r4, q6⟩ => thn (ho'' pins s6 σ H6 x3 x4 v3 v4 _ I6 r3 r4 q6) fun w3 s7 ⟨z3, H7, I7, t3, k, e3, q7⟩ => ?_)))
  subst e3
  cases t3
  exact wpAny_truthy_bool ⟨H7, I7, q7⟩
theorem dI {a b : Int} (h : a = b) : decide (V.int a = V.int b) = true := decide_eq_true (by rw [h])
theorem nD0 {a b : Int} (h : a = b) : ¬ (!decide (V.int a = V.int b)) = true := by
  rw [dI h]
  decide
theorem lst_snoc (f : Nat → Int) (i : Nat) : ((List.range i).map f).map V.int ++ [V.int (f i)] = ((List.range (i + 1)).map f).map V.int := by
  rw [List.range_succ, List.map_append, List.map_append]
  rfl
theorem lst_get {f : Nat → Int} {n i : Nat} (h : i < n) : (((List.range n).map f).map V.int)[i]? = some (V.int (f i)) := by
  rw [List.getElem?_map, List.getElem?_map, List.getElem?_range h]
  rfl
theorem flat_get (rs : List Int) (k : Nat) : ∀ i, i < rs.length * k → ((List.replicate k rs).flatten)[i]? = some (rs.getD (i % rs.length) 0) := by
  induction k with
  | zero => intro i h; omega
  | succ k ih =>
    intro i h
    rw [List.replicate_succ, List.flatten_cons]
    by_cases z : i < rs.length
    · rw [List.getElem?_append_left z, Nat.mod_eq_of_lt z, List.getD_eq_getElem?_getD, List.getElem?_eq_getElem z]
      rfl
    · rw [Nat.mul_succ] at h
      rw [List.getElem?_append_right (by omega), ih (i - rs.length) (by omega)]
      congr 2
      rw [show i % rs.length = (i - rs.length + rs.length) % rs.length by rw [Nat.sub_add_cancel (by omega)], Nat.add_mod_right]
def sp__law_offs (_ : PySem.W.Frag) : Sp := fun vs H Q _ => ∃ (a : Addr) (rs : List Int), vs = [.ref a] ∧ H a = some (.tup (rs.map V.int)) ∧ 1 ≤ rs.length ∧ rs.length ≤ 4096 ∧ Bits rs ∧
  ∀ H' p, Same H H' → H' p = some (.lst (((List.range (3 * rs.length + 1)).map (Df rs)).map V.int)) → Q (.ref p) H'
theorem ok__law_offs (T : Defs K mg) (TT : Tabs T base) : FnOk P w K mg base CX0 2 T.f__law_offs T.fd__law_offs ["_law_row_here"] (sp__law_offs K) := by
  have G_again : FnOk P w K mg base CX0 1 T.f_again T.fd_again ["row", "many"] (sp_again K) := ok_again T TT
  refine T.F__law_offs.ok sc__law_offs (fun vs H Q E h => ?_) (fun cdv A outer s H vs Q E hr h => ?_)
  · obtain ⟨a, rs, rfl, ha, h1, hl, br, q⟩ := h
    rfl
  · obtain ⟨a, rs, rfl, ha, h1, hl, br, q⟩ := h
    refine ⟨_, PSs.nox (pss_cons (ps_par3 (i := 1) (j := 2) (l := 3) (by rfl) sc__law_offs.nd rfl rfl rfl (by decide) (by decide) (by decide) rfl rfl rfl (pa_cons (pe_callB call_len_seq (by rfl) T.m_len bt_len (pa_cons (pv 0) pa_nil)) (pa_cons (pe_callB (cr_sumT rfl) (by rfl) T.m_sum bt_sum (pa_cons (pv 0) pa_nil)) (pa_cons (pe_lst (pa_cons pe_int pa_nil)) pa_nil))) (by rfl))
    (pss_cons (ps_for PassesOwn.never rfl (pi_tup (pe_call G_again (hr.mono (by decide)) (by rfl) T.g_again T.F_again.kp T.b_again .nil pass0 (pa_cons (pv 0) (pa_cons pe_int pa_nil)))) (pg_name (i := 4) sc__law_offs.nd rfl (.inl rfl)) (pss_one (ps_expr (pe_bm PySem.F.plainAttrs_list PySem.F.slot_list_append PySem.F.type_list_append mt_append (pv 3) (pa_cons (pe_op op_sub (pe_op op_add (pe_ix ix_list (pv 3) (pe_un un_neg pe_int) (fun _ _ => rfl)) (pe_op op_mul (pv 1) (pv 4))) (pv 2)) pa_nil)))))
    (pss_one (ps_ret (pv 3))))), ?_⟩
    have hsl : sizeLine = 16777216 := by decide
    refine ⟨_, rfl, a, _, rfl, .inr (SqT.mk ha), _, rfl, a, rs, rfl, SqT.mk ha, (show 1 ≤ sizeLine by decide), fun l nl => ⟨_, _, _, rfl, ?_⟩⟩
    have s1 := same_upd nl (o := .lst [.int 0])
    have hl1 : (upd H l (.lst [.int 0])) l = some (.lst (((List.range (0 + 1)).map (Df rs)).map V.int)) := by
      rw [upd_same]
      show _ = some (HO.lst [V.int (Df rs 0)])
      rw [Df_zero]
    generalize upd H l (.lst [.int 0]) = H1 at s1 hl1 ⊢
    refine ⟨_, rfl, a, rs, 3, rfl, s1 _ _ ha, by omega, by decide, by omega, fun H2 p s2 hp => ?_⟩
    have lf : ((List.replicate 3 rs).flatten).length = rs.length * 3 := by rw [List.length_flatten, List.map_replicate, List.sum_replicate_nat]; omega
    have npl : p ≠ l := ne_of hp (s2 _ _ hl1) (by intro z; cases z)
    refine ⟨p, rfl, ⟨_, SqT.mk hp⟩, for_tup (xs := ((List.replicate 3 rs).flatten).map V.int) (fun i σ G => ∃ y4, σ = [some (.ref a), some (.int (rs.length : Nat)), some (.int rs.sum), some (.ref l), y4] ∧ Same H G ∧ G p = some (.tup (((List.replicate 3 rs).flatten).map V.int)) ∧ G l = some (.lst (((List.range (i + 1)).map (Df rs)).map V.int))) ⟨none, by rw [List.length_map]; rfl, s1.trans s2, hp, s2 _ _ hl1⟩ ?_ ?_ ?_⟩
    · rintro i σ G _ ⟨y4, rfl, sG, hpG, hlG⟩
      exact SqT.mk hpG
    · rintro i x σ G hx ⟨y4, rfl, sG, hpG, hlG⟩
      have hi : i < rs.length * 3 := by
        have := (List.getElem?_eq_some_iff.mp hx).1
        rw [List.length_map, lf] at this
        exact this
      rw [List.getElem?_map, flat_get rs 3 i hi] at hx
      obtain rfl := (Option.some.inj hx).symm
      have hb : -(2 ^ 64) < (rs.length : Int) ∧ (rs.length : Int) < 2 ^ 64 := ⟨by omega, by omega⟩
      refine ⟨.ref l, rfl, .inl ⟨rfl, _, SqL.mk hlG⟩, .ref l, rfl, _, rfl, l, _, _, .int (Df rs i), rfl, rfl, SqL.mk hlG, (by rw [← lst_snoc]; exact atI_last _ _), _, rfl, _, rfl, _, _, rfl, rfl, .inl hb, _, _, rfl, rfl, _, rfl, _, _, rfl, rfl, l, _, _, rfl, rfl, hlG, by rw [List.length_map, List.length_map, List.length_range]; omega, ?_⟩
      have n0 : H l = none := nl
      refine ⟨_, rfl, same_newer sG n0, ?_, ?_⟩
      · rw [upd_ne npl]
        exact hpG
      · rw [upd_same, ← lst_snoc (Df rs) (i + 1), Df_step]
    · rintro σ G ⟨y4, rfl, sG, hpG, hlG⟩
      rw [List.length_map, lf, Nat.mul_comm] at hlG
      exact ⟨_, rfl, q _ l sG hlG⟩
def sp__law_part_right (_ : PySem.W.Frag) : Sp := fun vs H Q _ => ∃ (a : Addr) (rs : List Int), vs = [.ref a] ∧ H a = some (.tup (rs.map V.int)) ∧ 1 ≤ rs.length ∧ rs.length ≤ 4096 ∧ Bits rs ∧ ∀ H', Same H H' → Q (.bl true) H'
theorem max_is {w x : Int} {ns : List Int} (hx : x ∈ ns) (hm : ∀ y, y ∈ ns → y ≤ x) (hw : w ∈ ns) (ha : ∀ y, y ∈ ns → y ≤ w) : x = w := Int.le_antisymm (ha x hx) (hm w hw)
theorem min_is {w x : Int} {ns : List Int} (hx : x ∈ ns) (hm : ∀ y, y ∈ ns → x ≤ y) (hw : w ∈ ns) (ha : ∀ y, y ∈ ns → w ≤ y) : x = w := Int.le_antisymm (hm w hw) (ha x hx)
theorem in_lst {f : Nat → Int} {n i : Nat} (h : i < n) : f i ∈ (List.range n).map f := List.mem_map.mpr ⟨i, List.mem_range.mpr h, rfl⟩
theorem dfb {rs : List Int} (hl : rs.length ≤ 4096) (w : Int) (h1 : 1 ≤ rs.length) : -(2 ^ 64) < frB w rs.length ∧ frB w rs.length < 2 ^ 64 := by
  have := frB_leM (t := w) (b := (rs.length : Int)) (by omega)
  omega
theorem ok__law_part_right (T : Defs K mg) (TT : Tabs T base) : FnOk P w K mg base CX0 4 T.f__law_part_right T.fd__law_part_right ["_law_row_here"] (sp__law_part_right K) := by
  have G_worst_stretch : FnOk P w K mg base CX0 3 T.f_worst_stretch T.fd_worst_stretch ["row"] (sp_worst_stretch K) := ok_worst_stretch T TT
  have G__law_offs : FnOk P w K mg base CX0 2 T.f__law_offs T.fd__law_offs ["_law_row_here"] (sp__law_offs K) := ok__law_offs T TT
  have G_worst_part : FnOk P w K mg base CX0 3 T.f_worst_part T.fd_worst_part ["row"] (sp_worst_part K) := ok_worst_part T TT
  refine T.F__law_part_right.ok sc__law_part_right (fun vs H Q E h => ?_) (fun cdv A outer s H vs Q E hr h => ?_)
  · obtain ⟨a, rs, rfl, ha, h1, hl, br, q⟩ := h
    rfl
  · obtain ⟨a, rs, rfl, ha, h1, hl, br, q⟩ := h
    refine ⟨_, PSs.nox (pss_cons (ps_asg (pe_tup (pa_cons (pe_call G__law_offs (hr.mono (by decide)) (by rfl) T.g__law_offs T.F__law_offs.kp T.b__law_offs .nil pass0 (pa_cons (pv 0) pa_nil)) (pa_cons (pe_call G_worst_part (hr.mono (by decide)) (by rfl) T.g_worst_part T.F_worst_part.kp T.b_worst_part .nil pass0 (pa_cons (pv 0) pa_nil)) pa_nil))) (pg_tup rfl (pgs_cons (pg_name (i := 1) sc__law_part_right.nd rfl (.inl rfl)) (pgs_cons (pg_tup rfl (pgs_cons (pg_name (i := 2) sc__law_part_right.nd rfl (.inl rfl)) (pgs_cons (pg_name (i := 3) sc__law_part_right.nd rfl (.inl rfl)) pgs_nil))) pgs_nil))))
    (pss_cons (ps_setLc (i := 4) (own := [("_law_one", 7)]) (g := gName 7) (tt := tYes) rfl sc__law_part_right.nd rfl rfl (sw_true rfl rfl rfl (by decide +kernel)) (pi_list (pv 1)) (blkOk_by (N := N__law_part_right) (sc := defScope s__law_part_right) (by decide +kernel)) (fun _ _ _ _ _ => (pg_name (i := 7) sc__law_part_right.nd rfl (.inl rfl))) (fun _ _ _ _ _ => pts_nil) (fun _ _ _ _ _ => (pe_callB call_abs (by rfl) T.m_abs bt_abs (pa_cons (pv 7) pa_nil))))
    (pss_cons (ps_if (PW.pt (pw_or (pt_cmpR op_ne (pe_op op_mul (pe_callB (cr_max rfl) (by rfl) T.m_max bt_max (pa_cons (pv 4) pa_nil)) (pe_ix ix_tup (pv 2) pe_int (fun _ _ => rfl))) (pe_op op_mul (pe_ix ix_tup (pv 2) pe_int (fun _ _ => rfl)) (pe_callB call_len_seq (by rfl) T.m_len bt_len (pa_cons (pv 0) pa_nil))) (nomark _)) (pw_or (pt_cmpR op_ne (pe_bm PySem.F.plainAttrs_list PySem.F.slot_list_index PySem.F.type_list_index mt_index (pv 4) (pa_cons (pe_callB (cr_max rfl) (by rfl) T.m_max bt_max (pa_cons (pv 4) pa_nil)) pa_nil)) (pv 3) (nomark _)) (pw_or1 (pt_cmpR op_gt (pv 3) (pe_callB call_len_seq (by rfl) T.m_len bt_len (pa_cons (pv 0) pa_nil)) (nomark _)))))) (pss_one (ps_ret pe_bl)) pss_nil)
    (pss_cons (ps_asg (pe_call G_worst_stretch (hr.mono (by decide)) (by rfl) T.g_worst_stretch T.F_worst_stretch.kp T.b_worst_stretch .nil pass0 (pa_cons (pv 0) pa_nil)) (pg_tup rfl (pgs_cons (pg_name (i := 2) sc__law_part_right.nd rfl (.inl rfl)) (pgs_cons (pg_name (i := 5) sc__law_part_right.nd rfl (.inl rfl)) (pgs_cons (pg_name (i := 6) sc__law_part_right.nd rfl (.inl rfl)) pgs_nil)))))
    (pss_cons (ps_if (PW.pt (pw_or (pt_not (pt_chain3 op_le op_le op_le pe_int (pv 5) (pv 6) (pe_callB call_len_seq (by rfl) T.m_len bt_len (pa_cons (pv 0) pa_nil)))) (pw_or1 (pt_cmpR op_ne (pe_op op_mul (pe_op op_sub (pe_callB (cr_max rfl) (by rfl) T.m_max bt_max (pa_cons (pv 1) pa_nil)) (pe_callB (cr_min rfl) (by rfl) T.m_min bt_min (pa_cons (pv 1) pa_nil))) (pe_ix ix_tup (pv 2) pe_int (fun _ _ => rfl))) (pe_op op_mul (pe_ix ix_tup (pv 2) pe_int (fun _ _ => rfl)) (pe_callB call_len_seq (by rfl) T.m_len bt_len (pa_cons (pv 0) pa_nil))) (nomark _))))) (pss_one (ps_ret pe_bl)) pss_nil)
    (pss_one (ps_ret (pe_cmpR op_eq (pe_callB call_abs (by rfl) T.m_abs bt_abs (pa_cons (pe_op op_sub (pe_ix ix_list (pv 1) (pv 6) (fun _ _ => rfl)) (pe_ix ix_list (pv 1) (pv 5) (fun _ _ => rfl))) pa_nil)) (pe_op op_sub (pe_callB (cr_max rfl) (by rfl) T.m_max bt_max (pa_cons (pv 1) pa_nil)) (pe_callB (cr_min rfl) (by rfl) T.m_min bt_min (pa_cons (pv 1) pa_nil))) (nomark _))))))))), ?_⟩
    have hsl : sizeLine = 16777216 := by decide
    have hn0 : (rs.length : Int) ≠ 0 := by omega
    refine ⟨_, rfl, a, rs, rfl, ha, h1, hl, br, fun H1 p s1 hp => ?_⟩
    refine ⟨_, rfl, a, rs, rfl, s1 _ _ ha, h1, by omega, fun H2 t2 p2 w j s2 nt2 ht2 hp2 best => ?_⟩
    refine ⟨(show 2 ≤ sizeLine by decide), fun tt ntt => ?_⟩
    have s3 := same_upd ntt (o := .tup [.ref p, .ref t2])
    refine ⟨tt, _, rfl, SqT.mk upd_same, rfl, _, _, rfl, _, _, rfl, t2, _, rfl, SqT.mk (s3 _ _ ht2), rfl, _, _, rfl, _, _, rfl, rfl, rfl, ?_⟩
    have sA := s1.trans (s2.trans s3)
    have hpA := s3 _ _ (s2 _ _ hp)
    have hp2A := s3 _ _ hp2
    generalize upd H2 tt (.tup [.ref p, .ref t2]) = A at sA hpA hp2A ⊢
    clear s1 s2 s3 ntt ht2 nt2 hp hp2
    have all := best_allM (by omega) best
    refine ⟨_, rfl, p, rfl, ⟨_, SqL.mk hpA⟩, fun D nD => ?_⟩
    refine lc_list (xs := ((List.range (3 * rs.length + 1)).map (Df rs)).map V.int) (fun i G => Same A G ∧ G D = some (.lst (((List.range i).map fun i => ((Df rs i).natAbs : Int)).map V.int))) ⟨same_upd nD, upd_same⟩ (fun i G _ h => SqL.mk (h.1 _ _ hpA)) (fun i x G hx h => ?_) (fun G h => ?_)
    · obtain ⟨sG, hD⟩ := h
      have hi := (List.getElem?_eq_some_iff.mp hx).1
      rw [List.length_map, List.length_map, List.length_range] at hi
      rw [lst_get hi] at hx
      obtain rfl := (Option.some.inj hx).symm
      refine ⟨rfl, yes_ite ⟨_, rfl, _, rfl, _, hD, by rw [List.length_map, List.length_map, List.length_range]; omega, same_newer sG nD, ?_⟩⟩
      rw [upd_same, ← lst_snoc (fun i => ((Df rs i).natAbs : Int)) i, abs_eq]
    obtain ⟨sG, hD⟩ := h
    rw [List.length_map, List.length_map, List.length_range] at hD
    have aG := sG _ _ (sA _ _ ha)
    have p2G := sG _ _ hp2A
    have pG := sG _ _ hpA
    have sHG := sA.trans sG
    clear sA sG hpA hp2A nD A
    have pos : 0 < ((List.range (3 * rs.length + 1)).map fun i => ((Df rs i).natAbs : Int)).length := by rw [List.length_map, List.length_range]; omega
    have inw : w ∈ (List.range (3 * rs.length + 1)).map fun i => ((Df rs i).natAbs : Int) := by
      rw [← best.eq]
      have := best.le
      exact in_lst (f := fun i => ((Df rs i).natAbs : Int)) (by omega)
    have lew : ∀ y, y ∈ (List.range (3 * rs.length + 1)).map (fun i => ((Df rs i).natAbs : Int)) → y ≤ w := fun y hy => by
      obtain ⟨i, _, rfl⟩ := List.mem_map.mp hy
      exact all i
    refine nx_via (fun σ F => ∃ y5 y6, σ = [some (.ref a), some (.ref p), some (.ref p2), some (.int (j : Nat)), some (.ref D), y5, y6, none] ∧ F = G) (fun N key => ?_) ?_
    · refine ⟨.ref D, rfl, D, _, rfl, SqL.mk hD, pos, fun x hx mx => ?_⟩
      obtain rfl := max_is hx mx inw lew
      refine ⟨_, rfl, p2, _, 1, _, rfl, rfl, SqT.mk p2G, atI_nat (j := 1) rfl, _, _, rfl, rfl, .inr (dfb hl x h1), _, rfl, p2, _, 0, _, rfl, rfl, SqT.mk p2G, atI_nat (j := 0) rfl, _, rfl, a, _, rfl, .inr (SqT.mk aG), _, _, rfl, rfl, .inr ⟨by rw [List.length_map]; omega, by rw [List.length_map]; omega⟩, rfl, _, rfl, ite2 (fun e => absurd e (nD0 (by rw [List.length_map]; exact (fr_eq x hn0).symm))) (fun _ => ?_)⟩
      refine ⟨.ref D, rfl, .inl ⟨rfl, _, SqL.mk hD⟩, .ref D, rfl, D, _, rfl, SqL.mk hD, pos, fun x' hx' mx' => ?_⟩
      obtain rfl := max_is hx' mx' inw lew
      refine ⟨D, _, .int x', j, .int x', rfl, rfl, SqL.mk hD, rfl, flat_ints _, ?_, beq_self_eq_true x', fun m z' hm e => ?_, ?_⟩
      · rw [lst_get (f := fun i => ((Df rs i).natAbs : Int)) (by have := best.le; omega), best.eq]
      · have hm2 : m < 3 * rs.length + 1 := by have := best.le; omega
        rw [lst_get (f := fun i => ((Df rs i).natAbs : Int)) hm2] at e
        obtain rfl := (Option.some.inj e).symm
        have := best.first m hm
        show ((((Df rs m).natAbs : Int)) == x') = false
        exact beq_eq_false_iff_ne.mpr (by omega)
      · refine ⟨_, rfl, rfl, _, rfl, ite2 (fun e => absurd e (nD0 rfl)) (fun _ => ?_)⟩
        refine ⟨_, rfl, _, rfl, a, _, rfl, .inr (SqT.mk aG), _, _, rfl, rfl, _, rfl, ite2 (fun e => ?_) (fun _ => key _ _ ⟨_, _, rfl, rfl⟩)⟩
        exfalso
        have e := of_decide_eq_true e
        rw [List.length_map] at e
        have := best.le
        have e : (rs.length : Int) < (j : Int) := e
        omega
    rintro σ F ⟨y5, y6, rfl, rfl⟩
    refine ⟨_, rfl, a, rs, rfl, aG, h1, by omega, fun F1 t3 p3 L M iL iG s3 nt3 ht3 hp3 ends => ?_⟩
    refine ⟨t3, _, rfl, SqT.mk ht3, rfl, _, _, rfl, _, _, rfl, _, _, rfl, rfl, ?_⟩
    have pF := s3 _ _ pG
    have aF := s3 _ _ aG
    have allE := ends_allM (by omega) ends
    have pos2 : 0 < ((List.range (3 * rs.length + 1)).map (Df rs)).length := by rw [List.length_map, List.length_range]; omega
    have inL : L ∈ (List.range (3 * rs.length + 1)).map (Df rs) := by
      rw [← ends.eL]
      have := ends.lL
      exact in_lst (by omega)
    have inM : M ∈ (List.range (3 * rs.length + 1)).map (Df rs) := by
      rw [← ends.eG]
      have := ends.lG
      exact in_lst (by omega)
    have leL : ∀ y, y ∈ (List.range (3 * rs.length + 1)).map (Df rs) → L ≤ y := fun y hy => by
      obtain ⟨i, _, rfl⟩ := List.mem_map.mp hy
      exact (allE i).1
    have leM : ∀ y, y ∈ (List.range (3 * rs.length + 1)).map (Df rs) → y ≤ M := fun y hy => by
      obtain ⟨i, _, rfl⟩ := List.mem_map.mp hy
      exact (allE i).2
    have l1 := ends.lL
    have l2 := ends.lG
    refine nx_via (fun σ F => σ = [some (.ref a), some (.ref p), some (.ref p3), some (.int (j : Nat)), some (.ref D), some (.int ((min iL iG : Nat) : Int)), some (.int ((max iL iG : Nat) : Int)), none] ∧ F = F1) (fun N key => ?_) ?_
    · have mm1 : (0 : Int) ≤ ((min iL iG : Nat) : Int) := by omega
      have mm2 : ((min iL iG : Nat) : Int) ≤ ((max iL iG : Nat) : Int) := by omega
      have mm3 : ((max iL iG : Nat) : Int) ≤ (((rs.map V.int).length : Nat) : Int) := by
        rw [List.length_map]
        omega
      refine ⟨_, rfl, _, _, rfl, rfl, congrArg V.bl (decide_eq_true mm1), _, rfl, _, _, rfl, rfl, congrArg V.bl (decide_eq_true mm2), _, rfl, a, _, rfl, .inr (SqT.mk aF), _, _, rfl, rfl, _, rfl, ite2 (fun e => ?_) (fun _ => ?_)⟩
      · exfalso
        have : decide (((max iL iG : Nat) : Int) ≤ (((rs.map V.int).length : Nat) : Int)) = true := decide_eq_true mm3
        rw [this] at e
        cases e
      refine ⟨.ref p, rfl, p, _, rfl, SqL.mk pF, pos2, fun x hx mx => ?_⟩
      obtain rfl := max_is hx mx inM leM
      refine ⟨.ref p, rfl, p, _, rfl, SqL.mk pF, pos2, fun y hy my => ?_⟩
      obtain rfl := min_is hy my inL leL
      refine ⟨_, _, rfl, rfl, _, rfl, p3, _, 1, _, rfl, rfl, SqT.mk hp3, atI_nat (j := 1) rfl, _, _, rfl, rfl, .inr (dfb hl _ h1), _, rfl, p3, _, 0, _, rfl, rfl, SqT.mk hp3, atI_nat (j := 0) rfl, _, rfl, a, _, rfl, .inr (SqT.mk aF), _, _, rfl, rfl, .inr ⟨by rw [List.length_map]; omega, by rw [List.length_map]; omega⟩, rfl, _, rfl, ite2 (fun e => absurd e (nD0 (by rw [List.length_map]; exact (fr_eq (x - y) hn0).symm))) (fun _ => key _ _ ⟨rfl, rfl⟩)⟩
    rintro σ F2 ⟨rfl, rfl⟩
    refine ⟨.ref p, rfl, _, rfl, p, _, _, _, rfl, rfl, SqL.mk pF, atI_nat (lst_get (show max iL iG < 3 * rs.length + 1 by omega)), .ref p, rfl, _, rfl, p, _, _, _, rfl, rfl, SqL.mk pF, atI_nat (lst_get (show min iL iG < 3 * rs.length + 1 by omega)), _, _, rfl, rfl, _, rfl, ?_⟩
    refine ⟨.ref p, rfl, p, _, rfl, SqL.mk pF, pos2, fun x hx mx => ?_⟩
    obtain rfl := max_is hx mx inM leM
    refine ⟨.ref p, rfl, p, _, rfl, SqL.mk pF, pos2, fun y hy my => ?_⟩
    obtain rfl := min_is hy my inL leL
    refine ⟨_, _, rfl, rfl, rfl, ?_⟩
    have sp := ends_span ends
    have e2 : (if Df rs (max iL iG) - Df rs (min iL iG) < 0 then -(Df rs (max iL iG) - Df rs (min iL iG)) else Df rs (max iL iG) - Df rs (min iL iG)) = x - y := by
      rw [← sp]
      split <;> omega
    rw [dI e2]
    exact q _ (sHG.trans s3)
def sp__law_beats_right (_ : PySem.W.Frag) : Sp := fun vs H Q _ => ∃ (b a : Addr) (rs : List Int) (n : Nat), vs = [.ref b, .ref a] ∧ Bx H b n ∧ n < 1000000000 ∧ H a = some (.tup (rs.map V.int)) ∧ 1 ≤ rs.length ∧ rs.length ≤ 4096 ∧ Bits rs ∧
  ∀ H', But b H H' → Bx H' b (n + 2) → Q (.bl true) H'
theorem vi_bool {rs : List Int} {x y : Int} {L N : Nat} (last : IsLast (Vi rs x y) L) (h0 : 0 < N) (hN : 1 + L ≤ N ∨ N = L) : decide (((Df rs N).natAbs : Int) * y ≤ x * (N : Int) * (rs.length : Int)) = decide ((1 + (L : Int)) ≤ (N : Int)) := by
  rcases hN with h | h
  · rw [decide_eq_true (show (1 + (L : Int)) ≤ (N : Int) by omega), decide_eq_true]
    have := last.no N (by omega)
    unfold Vi at this
    omega
  · subst h
    rw [decide_eq_false (show ¬ (1 + (N : Int)) ≤ (N : Int) by omega), decide_eq_false]
    have := last.at_.resolve_left (by omega)
    unfold Vi at this
    omega
theorem abs_nat (i : Int) : (if i < 0 then -i else i) = ((i.natAbs : Nat) : Int) := by
  split <;> omega
theorem ok__law_beats_right (T : Defs K mg) (TT : Tabs T base) : FnOk P w K mg base CX0 4 T.f__law_beats_right T.fd__law_beats_right ["_law_box_here", "_law_row_here"] (sp__law_beats_right K) := by
  have G__law_take : FnOk P w K mg base CX0 1 T.f__law_take T.fd__law_take ["_law_box_here", "_law_many"] (sp__law_take K) := ok__law_take T TT
  have G_beats_for : FnOk P w K mg base CX0 3 T.f_beats_for T.fd_beats_for ["row", "e"] (sp_beats_for K) := ok_beats_for T TT
  have G__law_offs : FnOk P w K mg base CX0 2 T.f__law_offs T.fd__law_offs ["_law_row_here"] (sp__law_offs K) := ok__law_offs T TT
  refine T.F__law_beats_right.ok sc__law_beats_right (fun vs H Q E h => ?_) (fun cdv A outer s H vs Q E hr h => ?_)
  · obtain ⟨b, a, rs, n, rfl, hB, hn, ha, h1, hl, br, q⟩ := h
    rfl
  · obtain ⟨b, a, rs, n, rfl, hB, hn, ha, h1, hl, br, q⟩ := h
    refine ⟨_, PSs.nox (pss_cons (ps_set (i := 2) sc__law_beats_right.nd rfl (.inl rfl) (pe_op op_add pe_int (pe_call G__law_take (hr.mono (by decide)) (by rfl) T.g__law_take T.F__law_take.kp T.b__law_take .nil pass0 (pa_cons (pv 0) (pa_cons pe_int pa_nil)))))
    (pss_cons (ps_set (i := 3) sc__law_beats_right.nd rfl (.inl rfl) (pe_ix ix_list (pe_lst (pa_cons (pe_tup (pa_cons pe_int (pa_cons pe_int pa_nil))) (pa_cons (pe_tup (pa_cons pe_int (pa_cons pe_int pa_nil))) (pa_cons (pe_tup (pa_cons pe_int (pa_cons pe_int pa_nil))) (pa_cons (pe_tup (pa_cons (pv 2) (pa_cons pe_int pa_nil))) (pa_cons (pe_tup (pa_cons pe_int (pa_cons pe_int pa_nil))) pa_nil)))))) (pe_call G__law_take (hr.mono (by decide)) (by rfl) T.g__law_take T.F__law_take.kp T.b__law_take .nil pass0 (pa_cons (pv 0) (pa_cons pe_int pa_nil))) (fun _ _ => rfl)))
    (pss_cons (ps_asg (pe_tup (pa_cons (pe_call G_beats_for (hr.mono (by decide)) (by rfl) T.g_beats_for T.F_beats_for.kp T.b_beats_for .nil pass0 (pa_cons (pv 1) (pa_cons (pv 3) pa_nil))) (pa_cons (pe_call G__law_offs (hr.mono (by decide)) (by rfl) T.g__law_offs T.F__law_offs.kp T.b__law_offs .nil pass0 (pa_cons (pv 1) pa_nil)) pa_nil))) (pg_tup rfl (pgs_cons (pg_name (i := 4) sc__law_beats_right.nd rfl (.inr rfl)) (pgs_cons (pg_name (i := 5) sc__law_beats_right.nd rfl (.inl rfl)) pgs_nil))))
    (pss_cons (ps_set (i := 6) sc__law_beats_right.nd rfl (.inl rfl) (pe_callB call_len_seq (by rfl) T.m_len bt_len (pa_cons (pv 1) pa_nil)))
    (pss_cons (ps_for PassesOwn.never rfl (pi_list (pe_op op_cat (pe_lc (own := [("_law_k", 9)]) (g := gName 9) (tt := tYes) rfl sc__law_beats_right.nd (pi_range1 (by rfl) T.m_range (pa_cons (pe_op op_add (pe_op op_mul pe_int (pv 6)) pe_int) pa_nil)) (blkOk_by (N := N__law_beats_right) (sc := defScope s__law_beats_right) (by decide +kernel)) (fun _ _ _ _ _ => (pg_name (i := 9) sc__law_beats_right.nd rfl (.inl rfl))) (fun _ _ _ _ _ => pts_nil) (fun _ _ _ _ _ => (pe_op op_add (pv 4) (pv 9)))) (pe_lst (pa_cons (pe_op op_sub (pv 4) pe_int) pa_nil)))) (pg_name (i := 7) sc__law_beats_right.nd rfl (.inl rfl)) (pss_cons (ps_set (i := 8) sc__law_beats_right.nd rfl (.inl rfl) (pe_callB call_abs (by rfl) T.m_abs bt_abs (pa_cons (pe_ix ix_list (pv 5) (pe_op op_mod (pv 7) (pv 6)) (fun _ _ => rfl)) pa_nil)))
    (pss_one (ps_if (PW.pt (pw_and (pt_cmpR op_gt (pv 7) pe_int (nomark _)) (pw_and1 (pt_cmpR op_ne (pe_cmpR op_le (pe_op op_mul (pv 8) (pe_ix ix_tup (pv 3) pe_int (fun _ _ => rfl))) (pe_op op_mul (pe_op op_mul (pe_ix ix_tup (pv 3) pe_int (fun _ _ => rfl)) (pv 7)) (pv 6)) (nomark _)) (pe_cmpR op_ge (pv 7) (pv 4) (nomark _)) (nomark _))))) (pss_one (ps_ret pe_bl)) pss_nil))))
    (pss_one (ps_ret (pe_cmpR op_gt (pv 4) pe_int (nomark _))))))))), ?_⟩
    have hsl : sizeLine = 16777216 := by decide
    refine ⟨.ref b, rfl, b, 12, _, rfl, hB, by decide, by decide, by omega, fun G1 r1 c1 B1 d1 u1 => ⟨_, _, rfl, rfl, ?_⟩⟩
    have ha1 : G1 a = _ := c1 _ _ (hB.ne_tup ha) ha
    refine ⟨(show 2 ≤ sizeLine by decide), fun t1 n1 => ⟨(show 2 ≤ sizeLine by decide), fun t2 n2 => ⟨(show 2 ≤ sizeLine by decide), fun t3 n3 => ⟨_, rfl, (show 2 ≤ sizeLine by decide), fun t4 n4 => ⟨(show 2 ≤ sizeLine by decide), fun t5 n5 => ⟨(show 5 ≤ sizeLine by decide), fun l nl => ?_⟩⟩⟩⟩⟩⟩
    have q1 := same_upd n1 (o := .tup [.int 1, .int 1])
    have q2 := same_upd n2 (o := .tup [.int 1, .int 2])
    have q3 := same_upd n3 (o := .tup [.int 1, .int 12])
    have q4 := same_upd n4 (o := .tup [.int (1 + r1), .int 13])
    have q5 := same_upd n5 (o := .tup [.int 1, .int 3])
    have q6 := same_upd nl (o := .lst [.ref t1, .ref t2, .ref t3, .ref t4, .ref t5])
    have v1 := q6 _ _ (q5 _ _ (q4 _ _ (q3 _ _ (q2 _ _ (upd_same (a := t1) (o := .tup [.int 1, .int 1]))))))
    have v2 := q6 _ _ (q5 _ _ (q4 _ _ (q3 _ _ (upd_same (a := t2) (o := .tup [.int 1, .int 2])))))
    have v3 := q6 _ _ (q5 _ _ (q4 _ _ (upd_same (a := t3) (o := .tup [.int 1, .int 12]))))
    have v4 := q6 _ _ (q5 _ _ (upd_same (a := t4) (o := .tup [.int (1 + r1), .int 13])))
    have v5 := q6 _ _ (upd_same (a := t5) (o := .tup [.int 1, .int 3]))
    have vl : (upd (upd (upd (upd (upd (upd G1 t1 (.tup [.int 1, .int 1])) t2 (.tup [.int 1, .int 2])) t3 (.tup [.int 1, .int 12])) t4 (.tup [.int (1 + r1), .int 13])) t5 (.tup [.int 1, .int 3])) l (.lst [.ref t1, .ref t2, .ref t3, .ref t4, .ref t5])) l = some (.lst [.ref t1, .ref t2, .ref t3, .ref t4, .ref t5]) := upd_same
    have sQ := q1.trans (q2.trans (q3.trans (q4.trans (q5.trans q6))))
    have nlb : l ≠ b := ne_new (B1.same (q1.trans (q2.trans (q3.trans (q4.trans q5))))) nl
    have BQ := B1.same sQ
    have haQ := sQ _ _ ha1
    have cQ : But b H (upd (upd (upd (upd (upd (upd G1 t1 (.tup [.int 1, .int 1])) t2 (.tup [.int 1, .int 2])) t3 (.tup [.int 1, .int 12])) t4 (.tup [.int (1 + r1), .int 13])) t5 (.tup [.int 1, .int 3])) l (.lst [.ref t1, .ref t2, .ref t3, .ref t4, .ref t5])) := c1.trans (same_but sQ)
    refine ⟨.ref b, rfl, b, 5, _, rfl, BQ, by decide, by decide, by omega, fun G2 r2 c2 B2 d2 u2 => ?_⟩
    generalize upd (upd (upd (upd (upd (upd G1 t1 (.tup [.int 1, .int 1])) t2 (.tup [.int 1, .int 2])) t3 (.tup [.int 1, .int 12])) t4 (.tup [.int (1 + r1), .int 13])) t5 (.tup [.int 1, .int 3])) l (.lst [.ref t1, .ref t2, .ref t3, .ref t4, .ref t5]) = E at v1 v2 v3 v4 v5 vl BQ haQ cQ c2
    clear q1 q2 q3 q4 q5 q6 sQ n1 n2 n3 n4 n5 nl ha1
    obtain ⟨vv, ev, te, x, y, rfl, hte, hx0, hx1, hy0, hy1⟩ := at_menuV (Pr := fun v => ∃ (t : Addr) (x y : Int), v = V.ref t ∧ E t = some (.tup [.int x, .int y]) ∧ 0 < x ∧ x ≤ 13 ∧ 0 < y ∧ y ≤ 13) (xs := [.ref t1, .ref t2, .ref t3, .ref t4, .ref t5]) d2 u2 (fun z hz => by
      simp only [List.mem_cons, List.not_mem_nil, or_false] at hz
      rcases hz with rfl | rfl | rfl | rfl | rfl
      · exact ⟨t1, _, _, rfl, v1, by decide, by decide, by decide, by decide⟩
      · exact ⟨t2, _, _, rfl, v2, by decide, by decide, by decide, by decide⟩
      · exact ⟨t3, _, _, rfl, v3, by decide, by decide, by decide, by decide⟩
      · exact ⟨t4, _, _, rfl, v4, by omega, by omega, by decide, by decide⟩
      · exact ⟨t5, _, _, rfl, v5, by decide, by decide, by decide, by decide⟩)
    refine ⟨l, _, _, _, rfl, rfl, SqL.mk (c2 _ _ nlb vl), ev, ?_⟩
    have ha2 := c2 _ _ (BQ.ne_tup haQ) haQ
    have he2 := c2 _ _ (BQ.ne_tup hte) hte
    have c02 := cQ.trans c2
    clear v1 v2 v3 v4 v5 vl BQ haQ cQ c2 hte ev E
    refine ⟨_, rfl, _, rfl, a, te, rs, x, y, rfl, ha2, he2, h1, by omega, hx0, by omega, hy0, by omega, fun G3 L s3 last => ?_⟩
    refine ⟨_, rfl, a, rs, rfl, s3 _ _ ha2, h1, hl, br, fun G4 p s4 hp => ⟨(show 2 ≤ sizeLine by decide), fun tt ntt => ⟨tt, _, rfl, SqT.mk upd_same, rfl, _, _, rfl, _, _, rfl, rfl, ?_⟩⟩⟩
    have s5 := same_upd ntt (o := .tup [.int (1 + (L : Int)), .ref p])
    have sA := s3.trans (s4.trans s5)
    have haA := sA _ _ ha2
    have heA := sA _ _ he2
    have hpA := s5 _ _ hp
    have BA := B2.same sA
    have cA := c02.trans (same_but sA)
    generalize upd G4 tt (.tup [.int (1 + (L : Int)), .ref p]) = A at haA heA hpA BA cA ⊢
    clear s3 s4 s5 sA ntt ha2 he2 hp c02 B2
    refine ⟨_, rfl, a, _, rfl, .inr (SqT.mk haA), ?_⟩
    rw [List.length_map]
    refine ⟨_, rfl, _, _, rfl, rfl, .inl ⟨by decide, by decide⟩, _, _, rfl, rfl, _, rfl, by omega, by omega, fun D nD => ?_⟩
    refine lc_range (fun i G => Same A G ∧ G D = some (.lst (((List.range i).map fun (k : Nat) => 1 + (L : Int) + k).map V.int))) ⟨same_upd nD, upd_same⟩ (fun i G hi h => ?_) (fun G h => ?_)
    · obtain ⟨sG, hD⟩ := h
      refine ⟨rfl, yes_ite ⟨_, rfl, _, rfl, _, _, rfl, rfl, _, hD, by rw [List.length_map, List.length_map, List.length_range]; omega, same_newer sG nD, ?_⟩⟩
      rw [upd_same, ← lst_snoc (fun (k : Nat) => 1 + (L : Int) + k) i, Int.zero_add]
    obtain ⟨sG, hD⟩ := h
    rw [show (2 * (rs.length : Int) + 2).toNat = 2 * rs.length + 2 by omega] at hD
    refine ⟨_, rfl, _, _, rfl, rfl, (show 1 ≤ sizeLine by decide), fun l2 nl2 => ?_⟩
    have f2 := same_upd nl2 (o := .lst [.int (1 + (L : Int) - 1)])
    refine ⟨D, l2, _, _, rfl, rfl, f2 _ _ hD, upd_same, by rw [List.length_map, List.length_map, List.length_range]; show _ + 1 ≤ _; omega, fun lp nlp => ?_⟩
    have f3 := same_upd nlp (o := .lst (((List.range (2 * rs.length + 2)).map fun (k : Nat) => 1 + (L : Int) + k).map V.int ++ [.int (1 + (L : Int) - 1)]))
    have hlp : (upd (upd G l2 (.lst [.int (1 + (L : Int) - 1)])) lp (.lst (((List.range (2 * rs.length + 2)).map fun (k : Nat) => 1 + (L : Int) + k).map V.int ++ [.int (1 + (L : Int) - 1)]))) lp = some (.lst (((List.range (2 * rs.length + 2)).map fun (k : Nat) => 1 + (L : Int) + k).map V.int ++ [.int (1 + (L : Int) - 1)])) := upd_same
    have sX := sG.trans (f2.trans f3)
    generalize upd (upd G l2 (.lst [.int (1 + (L : Int) - 1)])) lp (.lst (((List.range (2 * rs.length + 2)).map fun (k : Nat) => 1 + (L : Int) + k).map V.int ++ [.int (1 + (L : Int) - 1)])) = X at hlp sX ⊢
    have heX := sX _ _ heA
    have hpX := sX _ _ hpA
    refine ⟨lp, rfl, ⟨_, SqL.mk hlp⟩, for_list (xs := ((List.range (2 * rs.length + 2)).map fun (k : Nat) => 1 + (L : Int) + k).map V.int ++ [.int (1 + (L : Int) - 1)]) (fun _ σ F => ∃ y7 y8, σ = [some (.ref b), some (.ref a), some (.int (1 + r1)), some (.ref te), some (.int (1 + (L : Int))), some (.ref p), some (.int (rs.length : Nat)), y7, y8, none] ∧ F = X) ⟨_, _, rfl, rfl⟩ ?_ ?_ ?_⟩
    · rintro i σ F _ ⟨y7, y8, rfl, rfl⟩
      exact SqL.mk hlp
    · rintro i z σ F hz ⟨y7, y8, rfl, rfl⟩
      obtain ⟨N, rfl, hN⟩ : ∃ N : Nat, z = .int (N : Nat) ∧ (1 + L ≤ N ∨ N = L) := by
        rcases List.mem_append.mp (List.mem_of_getElem? hz) with m | m
        · obtain ⟨z1, hz1, e1⟩ := List.mem_map.mp m
          obtain ⟨k, _, e2⟩ := List.mem_map.mp hz1
          refine ⟨1 + L + k, ?_, .inl (by omega)⟩
          rw [← e1, ← e2]
          exact congrArg V.int (by omega)
        · rw [List.mem_singleton] at m
          exact ⟨L, by rw [m]; exact congrArg V.int (by omega), .inr rfl⟩
      have ix : atI (((List.range (3 * rs.length + 1)).map (Df rs)).map V.int) ((N : Int) % (rs.length : Int)) = some (.int (Df rs N)) := by
        rw [← Int.natCast_emod, Df_mod rs N]
        exact atI_nat (lst_get (by have := Nat.mod_lt N (show 0 < rs.length by omega); omega))
      refine ⟨.ref p, rfl, _, rfl, _, rfl, _, _, rfl, rfl, (show (0 : Int) < (rs.length : Int) by omega), p, _, _, _, rfl, rfl, SqL.mk hpX, ix, _, rfl, ?_⟩
      refine ⟨_, rfl, _, _, rfl, rfl, _, rfl, ite2 (fun e => ?_) (fun _ => iteF ⟨_, _, rfl, rfl⟩)⟩
      have hN0 : 0 < N := by
        have : (0 : Int) < (N : Int) := of_decide_eq_true e
        omega
      refine ⟨_, rfl, _, rfl, te, _, 1, _, rfl, rfl, SqT.mk heX, atI_nat (j := 1) rfl, _, _, rfl, rfl, .inr ⟨by omega, by omega⟩, _, rfl, te, _, 0, _, rfl, rfl, SqT.mk heX, atI_nat (j := 0) rfl, _, rfl, _, _, rfl, rfl, .inl ⟨by omega, by omega⟩, _, rfl, _, _, rfl, rfl, .inr ⟨by omega, by omega⟩, _, _, rfl, rfl, _, rfl, _, rfl, _, _, rfl, rfl, rfl, _, rfl, ite2 (fun e => ?_) (fun _ => ⟨_, _, rfl, rfl⟩)⟩
      exfalso
      have vb := vi_bool last hN0 hN
      rw [abs_nat] at e
      have e' : (!decide (V.bl (decide (((Df rs N).natAbs : Int) * y ≤ x * (N : Int) * (rs.length : Int))) = V.bl (decide ((1 + (L : Int)) ≤ (N : Int))))) = true := e
      rw [vb, decide_eq_true rfl] at e'
      cases e'
    · rintro σ F ⟨y7, y8, rfl, rfl⟩
      refine ⟨_, rfl, _, _, rfl, rfl, ?_⟩
      have : decide ((0 : Int) < 1 + (L : Int)) = true := decide_eq_true (by omega)
      have fin := q F (cA.trans (same_but sX)) ((BA.same sX).mono (by omega))
      rw [← this] at fin
      exact fin
/-! what the law tells of a maker's rows -/
abbrev TQ := Addr × Addr × Int × Nat
structure TqAt (m : Mk) (H : Hp) (j : Nat) (q : TQ) : Prop where
  t : H q.1 = some (.tup [.ref q.2.1, .int (q.2.2.2 : Nat)])
  p : H q.2.1 = some (.tup [.int (frT q.2.2.1 m.rnd), .int (frB q.2.2.1 m.rnd)])
  b : Best (Df (rowM m (j : Int) m.rnd)) m.rnd q.2.2.1 q.2.2.2
def Tld (m : Mk) (H : Hp) (D : Addr) (i : Nat) (qs : List TQ) : Prop := qs.length = i ∧ H D = some (.lst (qs.map fun q => V.ref q.1)) ∧ ∀ (j : Nat) (q : TQ), qs[j]? = some q → TqAt m H j q
theorem TqAt.sam {m : Mk} {H H' : Hp} {j : Nat} {q : TQ} (h : TqAt m H j q) (s : Sam H H') : TqAt m H' j q := ⟨s.tup h.t, s.tup h.p, h.b⟩
theorem Tld.sam {m : Mk} {H H' : Hp} {D : Addr} {i : Nat} {qs : List TQ} (h : Tld m H D i qs) (s : Sam H H') : Tld m H' D i qs := ⟨h.1, s.lst h.2.1, fun j q e => (h.2.2 j q e).sam s⟩
theorem Tld.snoc {m : Mk} {H F : Hp} {D : Addr} {i : Nat} {qs : List TQ} (h : Tld m H D i qs) (s : Sam H F) {q : TQ} (hq : TqAt m F i q) : Tld m (upd F D (.lst ((qs.map fun q => V.ref q.1) ++ [.ref q.1]))) D (i + 1) (qs ++ [q]) := by
  obtain ⟨l, hD, hs⟩ := h
  have hD2 := s.lst hD
  have kp : ∀ x xs, F x = some (.tup xs) → (upd F D (.lst ((qs.map fun q => V.ref q.1) ++ [.ref q.1]))) x = some (.tup xs) := fun x xs e => by
    rw [upd_ne (ne_of e hD2 (by intro z; cases z))]
    exact e
  refine ⟨by rw [List.length_append, l]; rfl, by rw [upd_same, List.map_append]; rfl, fun j r e => ?_⟩
  by_cases z : j < i
  · rw [List.getElem?_append_left (by omega)] at e
    have := (hs j r e).sam s
    exact ⟨kp _ _ this.t, kp _ _ this.p, this.b⟩
  · rw [List.getElem?_append_right (by omega)] at e
    have hj : j - qs.length = 0 := by
      have := (List.getElem?_eq_some_iff.mp e).1
      have : j - qs.length < 1 := this
      omega
    rw [hj] at e
    obtain rfl : q = r := Option.some.inj e
    rw [show j = i by omega]
    exact ⟨kp _ _ hq.t, kp _ _ hq.p, hq.b⟩
def prD (ps : List (Int × Int)) : List PyData := ps.map fun p => .tuple [.int p.1, .int p.2]
theorem lay_prD : ∀ ps : List (Int × Int), PyData.canLayAll0 (prD ps) = true
  | [] => rfl
  | p :: ps => by
    show (PyData.canLay0 (.tuple [.int p.1, .int p.2]) && PyData.canLayAll0 (prD ps)) = true
    rw [lay_prD ps]
    rfl
theorem dep_prD : ∀ ps : List (Int × Int), PyData.depthAll (prD ps) ≤ 1
  | [] => Nat.zero_le _
  | p :: ps => by
    show max 1 (PyData.depthAll (prD ps)) ≤ 1
    exact Nat.max_le.mpr ⟨Nat.le_refl 1, dep_prD ps⟩
theorem sh_prD (ps : List (Int × Int)) : SeqAt.shaped (.list (prD ps)) = true := by
  show (PyData.canLayAll0 (prD ps) && decide (PyData.depthAll (prD ps) + 1 ≤ 64)) = true
  rw [lay_prD, decide_eq_true (by have := dep_prD ps; omega)]
  rfl
theorem dp_prD {K : PySem.W.Frag} {H : Hp} {R : Int} : ∀ qs : List TQ, (∀ q, q ∈ qs → H q.2.1 = some (.tup [.int (frT q.2.2.1 R), .int (frB q.2.2.1 R)])) → DpAll K H (qs.map fun q => V.ref q.2.1) (prD (qs.map fun q => (frT q.2.2.1 R, frB q.2.2.1 R)))
  | [], _ => .nil
  | q :: qs, h => .cons (.tup (SqT.mk (h q List.mem_cons_self)) (.cons (.int _) (.cons (.int _) .nil))) (dp_prD qs fun r hr => h r (List.mem_cons_of_mem _ hr))
theorem pr_eqv (a b c d : Int) : PyData.eqv (.tuple [.int a, .int b]) (.tuple [.int c, .int d]) = (decide (a = c) && decide (b = d)) := by
  show ((a == c) && ((b == d) && true)) = _
  rw [Bool.and_true]
  rfl
/-- where the worst row stands among all of them -/
theorem tld_first {m : Mk} {H : Hp} {D : Addr} {zn : Nat} {qs : List TQ} {W : Int} {K N : Nat} (h : Tld m H D (zn + 1) qs) (w : Wst (fun k => rowM m (k : Int) m.rnd) (zn + 1) W K N) : ∃ q, qs[K]? = some q ∧ q.2.2.1 = W ∧ q.2.2.2 = N ∧ ∀ j q', j < K → qs[j]? = some q' → q'.2.2.1 < W := by
  obtain ⟨l, _, hs⟩ := h
  have hb : ∀ (j : Nat) (q : TQ), qs[j]? = some q → Best (Df (rowM m (j : Int) m.rnd)) (rowM m (j : Int) m.rnd).length q.2.2.1 q.2.2.2 := fun j q e => by
    rw [rowM_len]
    exact (hs j q e).b
  rcases w.at_ with ⟨rfl, rfl, rfl⟩ | ⟨w0, kl, bK, lt⟩
  · refine ⟨_, List.getElem?_eq_getElem (show 0 < qs.length by omega), ?_, ?_, fun j q' hj => by omega⟩
    · have b0 := hb 0 _ (List.getElem?_eq_getElem (show 0 < qs.length by omega))
      have := w.all 0 (by omega) _ _ b0
      have := b0.eq
      omega
    · have b0 := hb 0 _ (List.getElem?_eq_getElem (show 0 < qs.length by omega))
      have le := w.all 0 (by omega) _ _ b0
      rcases Nat.eq_zero_or_pos (qs[0]'(by omega)).2.2.2 with z | z
      · exact z
      · have := b0.first 0 z
        omega
  · have e := List.getElem?_eq_getElem (show K < qs.length by omega)
    have u := (hb K _ e).uniq bK
    exact ⟨_, e, u.1, u.2, fun j q' hj e' => lt j hj _ _ (hb j q' e')⟩
theorem cnt_row {n k : Nat} (h : k ≤ n) (i : Nat) (hi : i < (rowM (.counter n 1 0) (k : Int) n).length) : (rowM (.counter n 1 0) (k : Int) n).getD i 0 = if i < k then 1 else 0 := by
  rw [rowM_len] at hi
  have ev : (Mk.counter n 1 0).val (i : Int) = (i : Int) := by
    unfold Mk.val
    have l : (Mk.counter n 1 0).inn.pl.length = n := by
      show ((List.range n).map _).length = n
      rw [List.length_map, List.length_range]
    rw [l]
    show ((List.range n).map fun i => (((0 + 1 * i) % n : Nat) : Int)).getD ((i : Int) % (n : Int)).toNat 0 = _
    rw [← Int.natCast_emod, Int.toNat_natCast, Nat.mod_eq_of_lt hi, List.getD_eq_getElem?_getD, List.getElem?_map, List.getElem?_range hi]
    show (((0 + 1 * i) % n : Nat) : Int) = _
    rw [Nat.zero_add, Nat.one_mul, Nat.mod_eq_of_lt hi]
  unfold rowM
  rw [List.getD_eq_getElem?_getD, List.getElem?_map, List.getElem?_range hi]
  show blw (k : Int) ((Mk.counter n 1 0).val (i : Int)) = _
  rw [ev]
  unfold blw
  by_cases z : i < k
  · rw [if_pos z, if_pos (by omega)]
  · rw [if_neg z, if_neg (by omega)]
theorem tsm {m : Mk} {z : Int} (pl : m.Pl) (h : m.Top z) : 1 ≤ z ∧ z ≤ 64 := by
  cases m with
  | counter r s t =>
    obtain ⟨h1, h2, _⟩ := pl
    have h : z = (r : Int) := h
    omega
  | table ns =>
    obtain ⟨h1, h2, h3⟩ := pl
    obtain ⟨M, hM, _, rfl⟩ := h
    have := h3 M hM
    omega
  | turned w s =>
    have h : z = ((2 ^ w : Nat) : Int) := h
    have := two_pow6 pl.2.1
    omega
  | register w p s =>
    have h : z = ((2 ^ w : Nat) : Int) := h
    have := two_pow6 pl.1.hi
    omega
  | _ => exact pl.elim
theorem rowM_bitsL (m : Mk) (k : Int) (n : Nat) : Bits (rowM m k n) := fun x hx => by
  unfold rowM at hx
  obtain ⟨i, _, rfl⟩ := List.mem_map.mp hx
  exact blw_bit k _
theorem fbd {R : Nat} (h1 : 1 ≤ R) (h2 : R ≤ 4096) (w : Int) : -(2 ^ 64) < frB w R ∧ frB w R < 2 ^ 64 := by
  have := frB_leM (t := w) (b := (R : Int)) (by omega)
  omega
def sp_law {K : PySem.W.Frag} {mg : Str → Option Value} (T : Defs K mg) : Sp := fun vs H Q _ => ∃ (a : Addr) (ns : List Int), vs = [.ref a] ∧ SqL K H a (ns.map V.int) ∧ ns.length ≤ 63 ∧ (GxR.TabG H T.P_row_below ∧ True) ∧ ∀ H', Q (.bl true) H'
theorem ok_law (T : Defs K mg) (TT : Tabs T base) : FnOk P w K mg base CX0 11 T.f_law T.fd_law ["_law_script"] (sp_law T) := by
  have G__law_folded : FnOk P w K mg base CX0 1 T.f__law_folded T.fd__law_folded ["_law_script", "_law_many"] (sp__law_folded K) := ok__law_folded T TT
  have G__law_box : FnOk P w K mg base CX0 1 T.f__law_box T.fd__law_box ["_law_script", "_law_k"] (sp__law_box K) := ok__law_box T TT
  have G__law_maker : FnOk P w K mg base CX0 10 T.f__law_maker T.fd__law_maker ["_law_box_here", "_law_most"] (sp__law_maker K) := ok__law_maker T TT
  have G_worst_of : FnOk P w K mg base CX0 10 T.f_worst_of T.fd_worst_of ["maker"] (sp_worst_of T) := ok_worst_of T TT
  have G__law_round : FnOk P w K mg base CX0 9 T.f__law_round T.fd__law_round ["_law_maker_here"] (sp__law_round K) := ok__law_round T TT
  have G_worst_part : FnOk P w K mg base CX0 3 T.f_worst_part T.fd_worst_part ["row"] (sp_worst_part K) := ok_worst_part T TT
  have G__law_divisor : FnOk P w K mg base CX0 1 T.f__law_divisor T.fd__law_divisor ["_law_one", "_law_other"] (sp__law_divisor K) := ok__law_divisor T TT
  have G_row_of : FnOk P w K mg base CX0 6 T.f_row_of T.fd_row_of ["maker", "k", "beats"] (sp_row_of T) := ok_row_of T TT
  have G__law_row : FnOk P w K mg base CX0 2 T.f__law_row T.fd__law_row ["_law_box_here", "_law_long"] (sp__law_row K) := ok__law_row T TT
  have G__law_take : FnOk P w K mg base CX0 1 T.f__law_take T.fd__law_take ["_law_box_here", "_law_many"] (sp__law_take K) := ok__law_take T TT
  have G__law_part_right : FnOk P w K mg base CX0 4 T.f__law_part_right T.fd__law_part_right ["_law_row_here"] (sp__law_part_right K) := ok__law_part_right T TT
  have G__law_beats_right : FnOk P w K mg base CX0 4 T.f__law_beats_right T.fd__law_beats_right ["_law_box_here", "_law_row_here"] (sp__law_beats_right K) := ok__law_beats_right T TT
  have G__law_top : FnOk P w K mg base CX0 2 T.f__law_top T.fd__law_top ["_law_maker_here"] (sp__law_top K) := ok__law_top T TT
  refine T.F_law.ok sc_law (fun vs H Q E h => ?_) (fun cdv A outer s H vs Q E hr h => ?_)
  · obtain ⟨a, ns, rfl, hS, hlen, ⟨tg, _⟩, q⟩ := h
    rfl
  · obtain ⟨a, ns, rfl, hS, hlen, ⟨tg, _⟩, q⟩ := h
    refine ⟨_, PSs.nox (pss_cons (ps_set (i := 1) sc_law.nd rfl (.inl rfl) (pe_call G__law_folded (hr.mono (by decide)) (by rfl) T.g__law_folded T.F__law_folded.kp T.b__law_folded .nil pass0 (pa_cons (pv 0) (pa_cons pe_int pa_nil))))
    (pss_cons (ps_for PassesOwn.never rfl (pi_range1 (by rfl) T.m_range (pa_cons (pe_callB (call_max2 rfl) (by rfl) T.m_max bt_max (pa_cons pe_int (pa_cons (pe_callB call_len_seq (by rfl) T.m_len bt_len (pa_cons (pv 1) pa_nil)) pa_nil))) pa_nil)) (pg_name (i := 2) sc_law.nd rfl (.inl rfl)) (pss_cons (ps_set (i := 3) sc_law.nd rfl (.inl rfl) (pe_call G__law_box (hr.mono (by decide)) (by rfl) T.g__law_box T.F__law_box.kp T.b__law_box .nil pass0 (pa_cons (pv 1) (pa_cons (pv 2) pa_nil))))
    (pss_cons (ps_asg (pe_tup (pa_cons (pe_call G__law_maker (hr.mono (by decide)) (by rfl) T.g__law_maker T.F__law_maker.kp T.b__law_maker .nil pass0 (pa_cons (pv 3) (pa_cons pe_int pa_nil))) (pa_cons (pe_op op_add pe_int (pe_call G__law_take (hr.mono (by decide)) (by rfl) T.g__law_take T.F__law_take.kp T.b__law_take .nil pass0 (pa_cons (pv 3) (pa_cons pe_int pa_nil)))) pa_nil))) (pg_tup rfl (pgs_cons (pg_name (i := 4) sc_law.nd rfl (.inr rfl)) (pgs_cons (pg_name (i := 5) sc_law.nd rfl (.inl rfl)) pgs_nil))))
    (pss_cons (ps_asg (pe_tup (pa_cons (pe_call G_worst_of (hr.mono (by decide)) (by rfl) T.g_worst_of T.F_worst_of.kp T.b_worst_of .nil pass0 (pa_cons (pv 4) pa_nil)) (pa_cons (pe_call G__law_round (hr.mono (by decide)) (by rfl) T.g__law_round T.F__law_round.kp T.b__law_round .nil pass0 (pa_cons (pv 4) pa_nil)) pa_nil))) (pg_tup rfl (pgs_cons (pg_name (i := 6) sc_law.nd rfl (.inl rfl)) (pgs_cons (pg_name (i := 7) sc_law.nd rfl (.inr rfl)) pgs_nil))))
    (pss_cons (ps_setLc (i := 8) (own := [("_law_bound", 11)]) (g := gName 11) (tt := tYes) rfl sc_law.nd rfl rfl (sw_true rfl rfl rfl (by decide +kernel)) (pi_range1 (by rfl) T.m_range (pa_cons (pe_op op_add (pe_call G__law_top (hr.mono (by decide)) (by rfl) T.g__law_top T.F__law_top.kp T.b__law_top .nil pass0 (pa_cons (pv 4) pa_nil)) pe_int) pa_nil)) (blkOk_by (N := N_law) (sc := defScope s_law) (by decide +kernel)) (fun _ _ _ _ _ => (pg_name (i := 11) sc_law.nd rfl (.inl rfl))) (fun _ _ _ _ _ => pts_nil) (fun _ _ _ _ _ => (pe_call G_worst_part (hr.mono (by decide)) (by rfl) T.g_worst_part T.F_worst_part.kp T.b_worst_part .nil pass0 (pa_cons (pe_call G_row_of (hr.mono (by decide)) (by rfl) T.g_row_of T.F_row_of.kp T.b_row_of .nil pass0 (pa_cons (pv 4) (pa_cons (pv 11) (pa_cons (pv 7) pa_nil)))) pa_nil))))
    (pss_cons (ps_for PassesOwn.never rfl (pi_list (pv 8)) (pg_tup rfl (pgs_cons (pg_name (i := 9) sc_law.nd rfl (.inl rfl)) (pgs_cons (pg_name (i := 10) sc_law.nd rfl (.inl rfl)) pgs_nil))) (pss_one (ps_if (pt_cmpR op_gt (pe_op op_mul (pe_ix ix_tup (pv 9) pe_int (fun _ _ => rfl)) (pe_ix ix_tup (pe_ix ix_tup (pv 6) pe_int (fun _ _ => rfl)) pe_int (fun _ _ => rfl))) (pe_op op_mul (pe_ix ix_tup (pe_ix ix_tup (pv 6) pe_int (fun _ _ => rfl)) pe_int (fun _ _ => rfl)) (pe_ix ix_tup (pv 9) pe_int (fun _ _ => rfl))) (nomark _)) (pss_one (ps_ret pe_bl)) pss_nil)))
    (pss_cons (ps_if (PW.pt (pw_or (pt_cmpR op_ne (pe_bm PySem.F.plainAttrs_list PySem.F.slot_list_index PySem.F.type_list_index (mt_indexD (u65 hr)) (pe_lc (own := [("_law_off", 9), ("_law_n", 10)]) (g := gTup K 2 (gCons (gName 9) (gCons (gName 10) gNil))) (tt := tYes) rfl sc_law.nd (pi_list (pv 8)) (blkOk_by (N := N_law) (sc := defScope s_law) (by decide +kernel)) (fun _ _ _ _ _ => (pg_tupK (K := K) rfl rfl (pgs_cons (pg_name (i := 9) sc_law.nd rfl (.inl rfl)) (pgs_cons (pg_name (i := 10) sc_law.nd rfl (.inl rfl)) pgs_nil)))) (fun _ _ _ _ _ => pts_nil) (fun _ _ _ _ _ => (pv 9))) (pa_cons (pe_ix ix_tup (pv 6) pe_int (fun _ _ => rfl)) pa_nil)) (pe_ix ix_tup (pv 6) pe_int (fun _ _ => rfl)) (nomark _)) (pw_or1 (pt_cmpR (op_neD hr.units) (pe_ix ix_list (pv 8) (pe_ix ix_tup (pv 6) pe_int (fun _ _ => rfl)) (fun _ _ => rfl)) (pe_tup (pa_cons (pe_ix ix_tup (pv 6) pe_int (fun _ _ => rfl)) (pa_cons (pe_ix ix_tup (pv 6) pe_int (fun _ _ => rfl)) pa_nil))) (nomark _))))) (pss_one (ps_ret pe_bl)) pss_nil)
    (pss_cons (ps_for PassesOwn.never rfl (pi_range2 (by rfl) T.m_range (pa_cons pe_int (pa_cons (pv 5) pa_nil))) (pg_name (i := 11) sc_law.nd rfl (.inl rfl)) (pss_cons (ps_set (i := 12) sc_law.nd rfl (.inl rfl) (pe_call G__law_divisor (hr.mono (by decide)) (by rfl) T.g__law_divisor T.F__law_divisor.kp T.b__law_divisor .nil pass0 (pa_cons (pe_op op_mul (pv 11) (pe_op op_sub (pv 5) (pv 11))) (pa_cons (pv 5) pa_nil))))
    (pss_cons (ps_set (i := 13) sc_law.nd rfl (.inl rfl) (pe_tup (pa_cons (pe_tup (pa_cons (pe_op op_fdivNW (pe_op op_mul (pv 11) (pe_op op_sub (pv 5) (pv 11))) (pv 12)) (pa_cons (pe_op op_fdivNW (pv 5) (pv 12)) pa_nil))) (pa_cons (pv 11) pa_nil))))
    (pss_one (ps_if (pt_cmpR (op_neD hr.units) (pe_call G_worst_part (hr.mono (by decide)) (by rfl) T.g_worst_part T.F_worst_part.kp T.b_worst_part .nil pass0 (pa_cons (pe_call G_row_of (hr.mono (by decide)) (by rfl) T.g_row_of T.F_row_of.kp T.b_row_of .nil pass0 (pa_cons (pe_tup (pa_cons pe_str (pa_cons (pv 5) (pa_cons pe_int (pa_cons pe_int pa_nil))))) (pa_cons (pv 11) (pa_cons (pv 5) pa_nil)))) pa_nil)) (pv 13) (nomark _)) (pss_one (ps_ret pe_bl)) pss_nil)))))
    (pss_cons (ps_set (i := 14) sc_law.nd rfl (.inl rfl) (pe_lst (pa_cons (pe_call G_row_of (hr.mono (by decide)) (by rfl) T.g_row_of T.F_row_of.kp T.b_row_of .nil pass0 (pa_cons (pv 4) (pa_cons (pe_call G__law_take (hr.mono (by decide)) (by rfl) T.g__law_take T.F__law_take.kp T.b__law_take .nil pass0 (pa_cons (pv 3) (pa_cons (pe_op op_add (pe_call G__law_top (hr.mono (by decide)) (by rfl) T.g__law_top T.F__law_top.kp T.b__law_top .nil pass0 (pa_cons (pv 4) pa_nil)) pe_int) pa_nil))) (pa_cons (pv 7) pa_nil)))) (pa_cons (pe_call G__law_row (hr.mono (by decide)) (by rfl) T.g__law_row T.F__law_row.kp T.b__law_row .nil pass0 (pa_cons (pv 3) (pa_cons (pe_op op_add pe_int (pe_call G__law_take (hr.mono (by decide)) (by rfl) T.g__law_take T.F__law_take.kp T.b__law_take .nil pass0 (pa_cons (pv 3) (pa_cons pe_int pa_nil)))) pa_nil))) pa_nil))))
    (pss_one (ps_for PassesOwn.never rfl (pi_list (pv 14)) (pg_name (i := 15) sc_law.nd rfl (.inl rfl)) (pss_one (ps_if (PW.pt (pw_or (pt_not (pt_val (pe_call G__law_part_right (hr.mono (by decide)) (by rfl) T.g__law_part_right T.F__law_part_right.kp T.b__law_part_right .nil pass0 (pa_cons (pv 15) pa_nil)))) (pw_or1 (pt_not (pt_val (pe_call G__law_beats_right (hr.mono (by decide)) (by rfl) T.g__law_beats_right T.F__law_beats_right.kp T.b__law_beats_right .nil pass0 (pa_cons (pv 3) (pa_cons (pv 15) pa_nil)))))))) (pss_one (ps_ret pe_bl)) pss_nil)))))))))))))
    (pss_one (ps_ret pe_bl)))), ?_⟩
    have hsl : sizeLine = 16777216 := by decide
    refine ⟨.ref a, rfl, a, ns, 3, rfl, hS, hlen, by decide, by decide, fun H1 c cs s1 nc hc lc => ?_⟩
    have tg1 := (Sam.of s1).tabG tg
    have hn : (if (((cs.map V.int).length : Nat) : Int) > 2 then (((cs.map V.int).length : Nat) : Int) else 2) ≤ 3 ∧ 0 ≤ (if (((cs.map V.int).length : Nat) : Int) > 2 then (((cs.map V.int).length : Nat) : Int) else 2) := by
      rw [List.length_map]
      split <;> omega
    refine ⟨.ref c, rfl, c, _, rfl, .inl (SqL.mk hc), _, _, rfl, _, rfl, by omega, by omega, for_range (fun i σ H2 => ∃ y2 y3 y4 y5 y6 y7 y8 y9 y10 y11 y12 y13 y14 y15, σ = [some (.ref a), some (.ref c), y2, y3, y4, y5, y6, y7, y8, y9, y10, y11, y12, y13, y14, y15] ∧ Sam H1 H2) ⟨none, none, none, none, none, none, none, none, none, none, none, none, none, none, rfl, Sam.refl H1⟩ ?_ ?_⟩
    rotate_left
    · rintro σ H2 ⟨y2, y3, y4, y5, y6, y7, y8, y9, y10, y11, y12, y13, y14, y15, rfl, s2⟩
      exact q _
    rintro i σ H2 hi ⟨y2, y3, y4, y5, y6, y7, y8, y9, y10, y11, y12, y13, y14, y15, rfl, s2⟩
    have hi2 : i < 1000 := by omega
    refine ⟨.ref c, rfl, .int (0 + (i : Int)), rfl, c, cs, i, by rw [Int.zero_add]; rfl, SqL.mk (s2.lst hc), hi2, fun H3 b s3 nb hB => ?_⟩
    have nb1 : H1 b = none := s2.free nb
    have s13 := s2.trans (Sam.of s3)
    have tg3 := s13.tabG tg1
    refine ⟨.ref b, rfl, b, 64, _, rfl, hB, by omega, by decide, fun G1 v m c1 B1 hm ok dp rm => ?_⟩
    refine ⟨.ref b, rfl, b, 64, _, rfl, B1, by decide, by decide, by omega, fun G2 r2 c2 B2 d2 u2 => ⟨_, _, rfl, rfl, (show 2 ≤ sizeLine by decide), fun tt ntt => ⟨tt, _, rfl, SqT.mk upd_same, rfl, _, _, rfl, _, _, rfl, rfl, ?_⟩⟩⟩
    obtain ⟨ln, hln⟩ := nat_of (show 0 ≤ 1 + r2 by omega)
    try dsimp only
    rw [hln]
    have l1 : 1 ≤ ln := by omega
    have l2 : ln ≤ 64 := by omega
    have f1 := same_upd ntt (o := .tup [v, .int (ln : Nat)])
    have hm3 := (hm.but B1 c2).same f1
    have b3 : But b H3 (upd G2 tt (.tup [v, .int (ln : Nat)])) := (c1.trans c2).trans (same_but f1)
    have B3 := B2.same f1
    generalize upd G2 tt (.tup [v, .int (ln : Nat)]) = G3 at hm3 b3 B3 ⊢
    clear f1 c1 c2 B1 B2 hm ntt hln u2 d2
    have R1 := rnd_pos ok
    have R2 : m.rnd ≤ 64 := by omega
    have bus3 : Bus b H3 G3 := .of b3
    have tgG3 := bus3.tabG hB tg3
    refine ⟨v, rfl, m, v, rfl, hm3, ok, by omega, by omega, tgG3, fun G4 t p W z K N s4 ht hp hz mw => ?_⟩
    obtain ⟨z1, z2⟩ := tsm ok.inn hz
    obtain ⟨zn, rfl⟩ := nat_of (show 0 ≤ z by omega)
    have mw : Wst (fun k => rowM m (k : Int) m.rnd) (zn + 1) W K N := by
      have e : ((zn : Int) + 1).toNat = zn + 1 := by omega
      unfold MW at mw
      rw [e] at mw
      exact mw
    refine ⟨v, rfl, m, v, rfl, hm3.sam s4, ok, bs_of ok, by omega, fun G5 s5 => ⟨(show 2 ≤ sizeLine by decide), fun tt ntt => ⟨tt, _, rfl, SqT.mk upd_same, rfl, _, _, rfl, _, _, rfl, rfl, ?_⟩⟩⟩
    have f2 := same_upd ntt (o := .tup [.ref t, .int (m.rnd : Nat)])
    have s35 := s4.trans (Sam.of (s5.trans f2))
    have hmA := hm3.sam s35
    have htA := f2 _ _ (s5 _ _ ht)
    have hpA := f2 _ _ (s5 _ _ hp)
    have bA := bus3.trans (.sam s35)
    have BA := B3.sam s35
    have tgA := s35.tabG tgG3
    generalize upd G5 tt (.tup [.ref t, .int (m.rnd : Nat)]) = A at hmA htA hpA bA BA tgA ⊢
    clear f2 s35 s4 s5 ntt ht hp hm3 b3 B3 bus3 tgG3
    -- what is told of each row
    refine ⟨v, rfl, m, v, rfl, hmA, ok, bs_of ok, fun A1 z' s6 hz' => ?_⟩
    obtain rfl := hz'.uniq hz
    have hm6 := hmA.same s6
    have ht6 := s6 _ _ htA
    have hp6 := s6 _ _ hpA
    have b6 := bA.trans (.sam (.of s6))
    have B6 := BA.same s6
    have tg6 := (Sam.of s6).tabG tgA
    clear hmA htA hpA bA BA tgA s6 A
    refine ⟨_, _, rfl, rfl, _, rfl, by omega, by omega, fun D nD => ?_⟩
    refine lc_range (fun i F => Sam A1 F ∧ ∃ qs, Tld m F D i qs) ⟨.of (same_upd nD), [], rfl, upd_same, fun j q e => (by cases e)⟩ (fun i F hi h => ?_) (fun F h => ?_)
    · obtain ⟨sF, qs, tF⟩ := h
      refine ⟨rfl, yes_ite ⟨_, rfl, _, rfl, _, rfl, m, v, (0 + (i : Int)), m.rnd, rfl, hm6.sam sF, ok, by omega, sF.tabG tg6, fun F2 p2 s2 n2 h2 => ?_⟩⟩
      rw [Int.zero_add] at h2
      refine ⟨p2, _, rfl, h2, by rw [rowM_len]; exact R1, by rw [rowM_len]; omega, fun F3 t3 p3 w j s3 nt3 ht3 hp3 best => ?_⟩
      rw [rowM_len] at hp3 best
      have s23 := s2.trans (Sam.of s3)
      have sn := tF.snoc s23 (q := (t3, p3, w, j)) ⟨ht3, hp3, best⟩
      refine ⟨_, s23.lst tF.2.1, by rw [List.length_map, tF.1]; omega, sam_newer (sF.trans s23) nD, _, sn⟩
    obtain ⟨sF, qs, tF⟩ := h
    rw [show ((zn : Int) + 1).toNat = zn + 1 by omega] at tF
    have hmF := hm6.sam sF
    have htF := sF.tup ht6
    have hpF := sF.tup hp6
    have bF := b6.trans (.sam sF)
    have BF := B6.sam sF
    have tgF := sF.tabG tg6
    clear hm6 ht6 hp6 b6 B6 tg6 sF nD
    have Ri : (0 : Int) < (m.rnd : Int) := by omega
    -- none is beyond the worst
    refine ⟨_, rfl, D, rfl, ⟨_, SqL.mk tF.2.1⟩, for_list (xs := qs.map fun q => V.ref q.1) (fun _ σ E => ∃ y9 y10, σ = [some (.ref a), some (.ref c), some (.int (0 + (i : Int))), some (.ref b), some v, some (.int (ln : Nat)), some (.ref t), some (.int (m.rnd : Nat)), some (.ref D), y9, y10, y11, y12, y13, y14, y15] ∧ E = F) ⟨_, _, rfl, rfl⟩ ?_ ?_ ?_⟩
    · rintro j σ E _ ⟨y9, y10, rfl, rfl⟩
      exact SqL.mk tF.2.1
    · rintro j x σ E hx ⟨y9, y10, rfl, rfl⟩
      rw [List.getElem?_map] at hx
      obtain ⟨⟨t3, p3, w, jj⟩, hq, rfl⟩ := Option.map_eq_some_iff.mp hx
      obtain ⟨h1, h2, h3⟩ := tF.2.2 j _ hq
      dsimp only at h1 h2 h3
      refine ⟨t3, _, rfl, SqT.mk h1, rfl, _, _, rfl, _, _, rfl, rfl, ?_⟩
      refine ⟨_, rfl, p3, _, 0, _, rfl, rfl, SqT.mk h2, atI_nat (j := 0) rfl, _, rfl, t, _, 0, _, rfl, rfl, SqT.mk htF, atI_nat (j := 0) rfl, p, _, 1, _, rfl, rfl, SqT.mk hpF, atI_nat (j := 1) rfl, _, _, rfl, rfl, .inr (fbd R1 (by omega) W), _, rfl, t, _, 0, _, rfl, rfl, SqT.mk htF, atI_nat (j := 0) rfl, p, _, 0, _, rfl, rfl, SqT.mk hpF, atI_nat (j := 0) rfl, _, rfl, p3, _, 1, _, rfl, rfl, SqT.mk h2, atI_nat (j := 1) rfl, _, _, rfl, rfl, .inr (fbd R1 (by omega) w), _, _, rfl, rfl, _, rfl, ite2 (fun e => ?_) (fun _ => ⟨_, _, rfl, rfl⟩)⟩
      exfalso
      have e : frT W m.rnd * frB w m.rnd < frT w m.rnd * frB W m.rnd := of_decide_eq_true e
      have lt := (fr_ltW Ri).mp e
      have hj : j < zn + 1 := by
        have := (List.getElem?_eq_some_iff.mp hq).1
        rw [tF.1] at this
        exact this
      have := mw.all j hj w jj (by rw [rowM_len]; exact h3)
      omega
    rintro σ E ⟨y9, y10, rfl, rfl⟩
    obtain ⟨qK, eK, eW, eN, bef⟩ := tld_first tF mw
    obtain ⟨k1, k2, k3⟩ := tF.2.2 K qK eK
    refine nx_via (fun σ X => σ = [some (.ref a), some (.ref c), some (.int (0 + (i : Int))), some (.ref b), some v, some (.int (ln : Nat)), some (.ref t), some (.int (m.rnd : Nat)), some (.ref D), y9, y10, y11, y12, y13, y14, y15] ∧ Same E X) (fun N' key => ?_) ?_
    · refine ⟨_, rfl, D, rfl, ⟨_, SqL.mk tF.2.1⟩, fun D2 nD2 => ?_⟩
      refine lc_list (xs := qs.map fun q => V.ref q.1) (fun i X => Same E X ∧ X D2 = some (.lst ((qs.take i).map fun q => V.ref q.2.1))) ⟨same_upd nD2, upd_same⟩ (fun i X _ h => SqL.mk (h.1 _ _ tF.2.1)) (fun i x X hx h => ?_) (fun X h => ?_)
      · obtain ⟨sX, hD2⟩ := h
        rw [List.getElem?_map] at hx
        obtain ⟨⟨t3, p3, w, jj⟩, hq, rfl⟩ := Option.map_eq_some_iff.mp hx
        obtain ⟨h1, h2, h3⟩ := tF.2.2 i _ hq
        dsimp only at h1 h2 h3
        refine ⟨t3, _, rfl, SqT.mk (sX _ _ h1), rfl, _, _, rfl, _, _, rfl, rfl, rfl, yes_ite ⟨_, rfl, _, hD2, ?_, same_newer sX nD2, ?_⟩⟩
        · rw [List.length_map, List.length_take, tF.1]
          omega
        · rw [upd_same, List.take_add_one, hq, List.map_append]
          rfl
      obtain ⟨sX, hD2⟩ := h
      rw [List.length_map, List.take_length] at hD2
      refine ⟨.inl ⟨rfl, _, SqL.mk hD2⟩, _, rfl, t, _, 0, _, rfl, rfl, SqT.mk (sX _ _ htF), atI_nat (j := 0) rfl, D2, .ref p, .tuple [.int (frT W m.rnd), .int (frB W m.rnd)], prD (qs.map fun q => (frT q.2.2.1 m.rnd, frB q.2.2.1 m.rnd)), K, .tuple [.int (frT W m.rnd), .int (frB W m.rnd)], rfl, rfl, .lst (SqL.mk hD2) (dp_prD qs fun q hq => ?_), .tup (SqT.mk (sX _ _ hpF)) (.cons (.int _) (.cons (.int _) .nil)), sh_prD _, rfl, ?_, by rw [pr_eqv, decide_eq_true rfl, decide_eq_true rfl]; rfl, fun j z' hj e => ?_, ?_⟩
      · obtain ⟨j, hj⟩ := List.getElem?_of_mem hq
        exact sX _ _ (tF.2.2 j q hj).p
      · unfold prD
        rw [List.getElem?_map, List.getElem?_map, eK, ← eW]
        rfl
      · unfold prD at e
        rw [List.getElem?_map, List.getElem?_map] at e
        obtain ⟨pr, e1, rfl⟩ := Option.map_eq_some_iff.mp e
        obtain ⟨q', e2, rfl⟩ := Option.map_eq_some_iff.mp e1
        have lt := bef j q' hj e2
        rw [pr_eqv]
        have cmp := (fr_ltW (W := q'.2.2.1) (w := W) Ri).mpr lt
        by_cases ea : frT q'.2.2.1 m.rnd = frT W m.rnd
        · by_cases eb : frB q'.2.2.1 m.rnd = frB W m.rnd
          · rw [ea, eb] at cmp
            omega
          · rw [decide_eq_false eb, Bool.and_false]
        · rw [decide_eq_false ea, Bool.false_and]
      · refine ⟨_, rfl, t, _, 1, _, rfl, rfl, SqT.mk (sX _ _ htF), atI_nat (j := 1) rfl, rfl, _, rfl, ite2 (fun e => absurd e (nD0 rfl)) (fun _ => ?_)⟩
        refine ⟨.ref D, rfl, _, rfl, t, _, 1, _, rfl, rfl, SqT.mk (sX _ _ htF), atI_nat (j := 1) rfl, D, _, _, .ref qK.1, rfl, rfl, SqL.mk (sX _ _ tF.2.1), atI_nat (by rw [List.getElem?_map, eK]; rfl), _, rfl, t, _, 0, _, rfl, rfl, SqT.mk (sX _ _ htF), atI_nat (j := 0) rfl, _, rfl, t, _, 2, _, rfl, rfl, SqT.mk (sX _ _ htF), atI_nat (j := 2) rfl, (show 2 ≤ sizeLine by decide), fun tq ntq => ?_⟩
        have fq := same_upd ntq (o := .tup [.ref p, .int (N : Nat)])
        rw [eN] at k1
        rw [eW] at k2
        have sq := sX.trans fq
        exact eqvP (sq _ _ k1) upd_same (sq _ _ k2) (sq _ _ hpF) ⟨_, rfl, iteF (key _ _ ⟨rfl, sq⟩)⟩
    rintro σ X ⟨rfl, sX⟩
    have hmX := hmF.same sX
    have bX := bF.trans (.sam (.of sX))
    have BX := BF.same sX
    have tgX := (Sam.of sX).tabG tgF
    clear hmF htF hpF bF BF tgF sX tF eK eW eN bef k1 k2 k3 E
    -- counters
    refine ⟨_, rfl, _, _, rfl, ⟨by decide, by decide, by omega, by omega⟩, ?_⟩
    refine for_range (fun _ σ E => ∃ y11 y12 y13, σ = [some (.ref a), some (.ref c), some (.int (0 + (i : Int))), some (.ref b), some v, some (.int (ln : Nat)), some (.ref t), some (.int (m.rnd : Nat)), some (.ref D), y9, y10, y11, y12, y13, y14, y15] ∧ Sam X E) ⟨_, _, _, rfl, Sam.refl X⟩ ?_ ?_
    · rintro j σ E hj ⟨y11, y12, y13, rfl, sE⟩
      have hj2 : 1 + j < ln := by omega
      obtain ⟨k, hk⟩ : ∃ k : Nat, (1 : Int) + (j : Int) = (k : Nat) := ⟨1 + j, by omega⟩
      have k0 : 0 < k := by omega
      have kl : k < ln := by omega
      rw [hk]
      have hb64 : -(2 ^ 64) < (k : Int) ∧ (k : Int) < 2 ^ 64 := ⟨by omega, by omega⟩
      have hgp : 0 < Int.gcd ((k : Int) * ((ln : Int) - (k : Int))) (ln : Int) := Int.gcd_pos_of_ne_zero_right _ (by omega)
      have hgs := gcd_small (t := (k : Int) * ((ln : Int) - (k : Int))) (show (ln : Int) ≠ 0 by omega) (s_len (show ln ≤ 100000 by omega))
      refine ⟨_, rfl, _, rfl, _, rfl, _, _, rfl, rfl, _, _, rfl, rfl, .inl hb64, _, rfl, _, _, rfl, ?_⟩
      refine ⟨_, rfl, _, rfl, _, rfl, _, _, rfl, rfl, _, _, rfl, rfl, .inl hb64, _, rfl, _, _, rfl, rfl, ⟨by omega, hgs⟩, _, rfl, _, rfl, _, _, rfl, rfl, ⟨by omega, hgs⟩, (show 2 ≤ sizeLine by decide), fun p1 n1 => ⟨_, rfl, (show 2 ≤ sizeLine by decide), fun p2 n2 => ?_⟩⟩
      have g1 := same_upd n1 (o := .tup [.int (((k : Int) * ((ln : Int) - (k : Int))).fdiv (Int.gcd ((k : Int) * ((ln : Int) - (k : Int))) (ln : Int) : Int)), .int ((ln : Int).fdiv (Int.gcd ((k : Int) * ((ln : Int) - (k : Int))) (ln : Int) : Int))])
      have g2 := same_upd n2 (o := .tup [.ref p1, .int (k : Nat)])
      have d1 := g2 _ _ (upd_same (H := E) (a := p1) (o := .tup [.int (((k : Int) * ((ln : Int) - (k : Int))).fdiv (Int.gcd ((k : Int) * ((ln : Int) - (k : Int))) (ln : Int) : Int)), .int ((ln : Int).fdiv (Int.gcd ((k : Int) * ((ln : Int) - (k : Int))) (ln : Int) : Int))]))
      rw [(fr_ge ((k : Int) * ((ln : Int) - (k : Int))) (show (0 : Int) < (ln : Int) by omega)).1, (fr_ge ((k : Int) * ((ln : Int) - (k : Int))) (show (0 : Int) < (ln : Int) by omega)).2] at d1
      have g12 := g1.trans g2
      refine ⟨_, rfl, (show 4 ≤ sizeLine by decide), fun tc ntc => ?_⟩
      have g3 := same_upd ntc (o := .tup [.str "counter", .int (ln : Nat), .int 1, .int 0])
      have sE3 := sE.trans (Sam.of (g12.trans g3))
      refine ⟨_, rfl, _, rfl, .counter ln 1 0, .ref tc, (k : Int), ln, rfl, ⟨tc, rfl, upd_same⟩, ⟨l1, l2, by decide, by omega⟩, by omega, sE3.tabG tgX, fun F2 p3 s2 n3 h2 => ?_⟩
      refine ⟨p3, _, rfl, h2, by rw [rowM_len]; exact l1, by rw [rowM_len]; omega, fun F3 t3 p4 w jj s3 nt3 ht3 hp3 best => ⟨_, rfl, ?_⟩⟩
      have bf := best_first (rs := rowM (.counter ln 1 0) (k : Int) ln) k0 (by rw [rowM_len]; exact kl) (fun i hi => cnt_row (by omega) i hi)
      obtain ⟨rfl, rfl⟩ := best.uniq bf
      rw [rowM_len] at hp3
      have s23 := s2.trans (Sam.of s3)
      exact eqvP ht3 (s23.tup (g3 _ _ upd_same)) hp3 (s23.tup (g3 _ _ d1)) ⟨_, rfl, iteF ⟨_, _, _, rfl, sE3.trans s23⟩⟩
    rintro σ E ⟨y11, y12, y13, rfl, sE⟩
    have hmE := hmX.sam sE
    have bE := bX.trans (.sam sE)
    have BE := BX.sam sE
    have tgE := sE.tabG tgX
    clear hmX bX BX tgX sE X
    -- two rows
    refine ⟨v, rfl, .ref b, rfl, v, rfl, m, v, rfl, hmE, ok, bs_of ok, fun E1 z' s1' hz' => ?_⟩
    obtain rfl := hz'.uniq hz
    refine ⟨_, _, rfl, rfl, b, (zn : Int) + 1, _, rfl, BE.same s1', by omega, by omega, by omega, fun E2 rk c2 B2 d2 u2 => ?_⟩
    have bE2 := bE.trans ((Bus.sam (.of s1')).trans (.of c2))
    refine ⟨_, rfl, m, v, rk, m.rnd, rfl, (hmE.same s1').but (BE.same s1') c2, ok, by omega, bE2.tabG hB tg3, fun E3 p3 s3' n3 h3 => ?_⟩
    have B3 := B2.sam s3'
    refine ⟨.ref b, rfl, .ref b, rfl, b, 40, _, rfl, B3, by decide, by decide, by omega, fun E4 r4 c4 B4 d4 u4 => ⟨_, _, rfl, rfl, ?_⟩⟩
    obtain ⟨mn, hmn⟩ := nat_of (show 0 ≤ 1 + r4 by omega)
    try dsimp only
    rw [hmn]
    refine ⟨b, mn, _, rfl, B4, by omega, by omega, by omega, fun E5 u rs c5 B5 hu lu brs => ⟨(show 2 ≤ sizeLine by decide), fun lr nlr => ?_⟩⟩
    have f9 := same_upd nlr (o := .lst [.ref p3, .ref u])
    have h35 := c5 _ _ (B4.ne_tup (c4 _ _ (B3.ne_tup h3) h3)) (c4 _ _ (B3.ne_tup h3) h3)
    have hp9 := f9 _ _ h35
    have hu9 := f9 _ _ hu
    have hl9 : (upd E5 lr (.lst [.ref p3, .ref u])) lr = some (.lst [.ref p3, .ref u]) := upd_same
    have b9 := bE2.trans ((Bus.sam s3').trans ((Bus.of (c4.trans c5)).trans (.sam (.of f9))))
    have B9 := B5.same f9
    have nlrb : lr ≠ b := ne_new B5 nlr
    generalize upd E5 lr (.lst [.ref p3, .ref u]) = Y at hp9 hu9 hl9 b9 B9 ⊢
    clear f9 h35 nlr c5 c4 B4 B5 B3 h3 hu
    refine ⟨_, rfl, lr, rfl, ⟨_, SqL.mk hl9⟩, for_list (xs := [.ref p3, .ref u]) (fun j σ F => ∃ y15, σ = [some (.ref a), some (.ref c), some (.int (0 + (i : Int))), some (.ref b), some v, some (.int (ln : Nat)), some (.ref t), some (.int (m.rnd : Nat)), some (.ref D), y9, y10, y11, y12, y13, some (.ref lr), y15] ∧ But b Y F ∧ Bx F b (100000 + 2 * j)) ⟨_, rfl, But.refl b Y, B9.mono (by omega)⟩ ?_ ?_ ?_⟩
    · rintro j σ F _ ⟨y15, rfl, bF, BF⟩
      exact SqL.mk (bF _ _ nlrb hl9)
    · rintro j x σ F hx ⟨y15, rfl, bF, BF⟩
      have hj : j < 2 := (List.getElem?_eq_some_iff.mp hx).1
      obtain ⟨pr, ss, rfl, hpr, ls1, ls2, bs⟩ : ∃ (pr : Addr) (ss : List Int), x = .ref pr ∧ Y pr = some (.tup (ss.map V.int)) ∧ 1 ≤ ss.length ∧ ss.length ≤ 4096 ∧ Bits ss := by
        match j, hx with
        | 0, hx =>
          cases hx
          exact ⟨p3, _, rfl, hp9, by rw [rowM_len]; exact R1, by rw [rowM_len]; omega, rowM_bitsL m rk m.rnd⟩
        | 1, hx =>
          cases hx
          exact ⟨u, rs, rfl, hu9, by omega, by omega, brs⟩
        | n + 2, hx => cases hx
      have hprF := bF _ _ (B9.ne_tup hpr) hpr
      refine ⟨_, rfl, pr, ss, rfl, hprF, ls1, ls2, bs, fun F1 s1' => ⟨_, rfl, iteF ?_⟩⟩
      refine ⟨_, rfl, _, rfl, b, pr, ss, _, rfl, BF.same s1', by omega, s1' _ _ hprF, ls1, ls2, bs, fun F2 c2 B2 => ⟨_, rfl, iteF ?_⟩⟩
      exact ⟨_, rfl, bF.trans ((same_but s1').trans c2), B2.mono (by omega)⟩
    rintro σ F ⟨y15, rfl, bF, BF⟩
    exact ⟨_, _, _, _, _, _, _, _, _, _, _, _, _, _, rfl, bus_same nb1 s13 (b9.trans (.of bF))⟩
end
def d_common_divisor : He.DefD := ⟨("common_divisor", none), "common_divisor", "common_divisor", defArgs s_common_divisor, defBody s_common_divisor, defScope s_common_divisor, [], []⟩
def d_fraction : He.DefD := ⟨("fraction", none), "fraction", "fraction", defArgs s_fraction, defBody s_fraction, defScope s_fraction, [], []⟩
def d_before : He.DefD := ⟨("before", none), "before", "before", defArgs s_before, defBody s_before, defScope s_before, [], []⟩
def d_ones : He.DefD := ⟨("ones", none), "ones", "ones", defArgs s_ones, defBody s_ones, defScope s_ones, [], []⟩
def d_again : He.DefD := ⟨("again", none), "again", "again", defArgs s_again, defBody s_again, defScope s_again, [], []⟩
def d_counter_round : He.DefD := ⟨("counter_round", none), "counter_round", "counter_round", defArgs s_counter_round, defBody s_counter_round, defScope s_counter_round, [], []⟩
def d_last_for_first : He.DefD := ⟨("last_for_first", none), "last_for_first", "last_for_first", defArgs s_last_for_first, defBody s_last_for_first, defScope s_last_for_first, [], []⟩
def d_size_of : He.DefD := ⟨("size_of", none), "size_of", "size_of", defArgs s_size_of, defBody s_size_of, defScope s_size_of, [], []⟩
def d_turned_round : He.DefD := ⟨("turned_round", none), "turned_round", "turned_round", defArgs s_turned_round, defBody s_turned_round, defScope s_turned_round, [], []⟩
def d_odd_ones : He.DefD := ⟨("odd_ones", none), "odd_ones", "odd_ones", defArgs s_odd_ones, defBody s_odd_ones, defScope s_odd_ones, [], []⟩
def d_held_round : He.DefD := ⟨("held_round", none), "held_round", "held_round", defArgs s_held_round, defBody s_held_round, defScope s_held_round, [], []⟩
def d_plain_round : He.DefD := ⟨("plain_round", none), "plain_round", "plain_round", defArgs s_plain_round, defBody s_plain_round, defScope s_plain_round, [], []⟩
def d_round_of : He.DefD := ⟨("round_of", none), "round_of", "round_of", defArgs s_round_of, defBody s_round_of, defScope s_round_of, [], []⟩
def d_innermost : He.DefD := ⟨("innermost", none), "innermost", "innermost", defArgs s_innermost, defBody s_innermost, defScope s_innermost, [], []⟩
def d_top_of : He.DefD := ⟨("top_of", none), "top_of", "top_of", defArgs s_top_of, defBody s_top_of, defScope s_top_of, [], []⟩
def d_inner_beat : He.DefD := ⟨("inner_beat", none), "inner_beat", "inner_beat", defArgs s_inner_beat, defBody s_inner_beat, defScope s_inner_beat, [], []⟩
def d_values_at : He.DefD := ⟨("values_at", none), "values_at", "values_at", defArgs s_values_at, defBody s_values_at, defScope s_values_at, [], []⟩
def d_values_of : He.DefD := ⟨("values_of", none), "values_of", "values_of", defArgs s_values_of, defBody s_values_of, defScope s_values_of, [], []⟩
def d_row_below : He.DefD := ⟨("row_below", none), "row_below", "row_below", defArgs s_row_below, defBody s_row_below, defScope s_row_below, [], []⟩
def d_row_of : He.DefD := ⟨("row_of", none), "row_of", "row_of", defArgs s_row_of, defBody s_row_of, defScope s_row_of, [], []⟩
def d_offs_by : He.DefD := ⟨("offs_by", none), "offs_by", "offs_by", defArgs s_offs_by, defBody s_offs_by, defScope s_offs_by, [], []⟩
def d_offs_of : He.DefD := ⟨("offs_of", none), "offs_of", "offs_of", defArgs s_offs_of, defBody s_offs_of, defScope s_offs_of, [], []⟩
def d_worst_part : He.DefD := ⟨("worst_part", none), "worst_part", "worst_part", defArgs s_worst_part, defBody s_worst_part, defScope s_worst_part, [], []⟩
def d_worst_stretch : He.DefD := ⟨("worst_stretch", none), "worst_stretch", "worst_stretch", defArgs s_worst_stretch, defBody s_worst_stretch, defScope s_worst_stretch, [], []⟩
def d_worst_of : He.DefD := ⟨("worst_of", none), "worst_of", "worst_of", defArgs s_worst_of, defBody s_worst_of, defScope s_worst_of, [], []⟩
def d_last_beyond : He.DefD := ⟨("last_beyond", none), "last_beyond", "last_beyond", defArgs s_last_beyond, defBody s_last_beyond, defScope s_last_beyond, [], []⟩
def d_beats_for : He.DefD := ⟨("beats_for", none), "beats_for", "beats_for", defArgs s_beats_for, defBody s_beats_for, defScope s_beats_for, [], []⟩
def d__law_box : He.DefD := ⟨("_law_box", none), "_law_box", "_law_box", defArgs s__law_box, defBody s__law_box, defScope s__law_box, [], []⟩
def d__law_take : He.DefD := ⟨("_law_take", none), "_law_take", "_law_take", defArgs s__law_take, defBody s__law_take, defScope s__law_take, [], []⟩
def d__law_folded : He.DefD := ⟨("_law_folded", none), "_law_folded", "_law_folded", defArgs s__law_folded, defBody s__law_folded, defScope s__law_folded, [], []⟩
def d__law_row : He.DefD := ⟨("_law_row", none), "_law_row", "_law_row", defArgs s__law_row, defBody s__law_row, defScope s__law_row, [], []⟩
def d__law_divisor : He.DefD := ⟨("_law_divisor", none), "_law_divisor", "_law_divisor", defArgs s__law_divisor, defBody s__law_divisor, defScope s__law_divisor, [], []⟩
def d__law_powers : He.DefD := ⟨("_law_powers", none), "_law_powers", "_law_powers", defArgs s__law_powers, defBody s__law_powers, defScope s__law_powers, [], []⟩
def d__law_plain : He.DefD := ⟨("_law_plain", none), "_law_plain", "_law_plain", defArgs s__law_plain, defBody s__law_plain, defScope s__law_plain, [], []⟩
def d__law_base : He.DefD := ⟨("_law_base", none), "_law_base", "_law_base", defArgs s__law_base, defBody s__law_base, defScope s__law_base, [], []⟩
def d__law_inner : He.DefD := ⟨("_law_inner", none), "_law_inner", "_law_inner", defArgs s__law_inner, defBody s__law_inner, defScope s__law_inner, [], []⟩
def d__law_round : He.DefD := ⟨("_law_round", none), "_law_round", "_law_round", defArgs s__law_round, defBody s__law_round, defScope s__law_round, [], []⟩
def d__law_top : He.DefD := ⟨("_law_top", none), "_law_top", "_law_top", defArgs s__law_top, defBody s__law_top, defScope s__law_top, [], []⟩
def d__law_maker : He.DefD := ⟨("_law_maker", none), "_law_maker", "_law_maker", defArgs s__law_maker, defBody s__law_maker, defScope s__law_maker, [], []⟩
def d__law_offs : He.DefD := ⟨("_law_offs", none), "_law_offs", "_law_offs", defArgs s__law_offs, defBody s__law_offs, defScope s__law_offs, [], []⟩
def d__law_part_right : He.DefD := ⟨("_law_part_right", none), "_law_part_right", "_law_part_right", defArgs s__law_part_right, defBody s__law_part_right, defScope s__law_part_right, [], []⟩
def d__law_beats_right : He.DefD := ⟨("_law_beats_right", none), "_law_beats_right", "_law_beats_right", defArgs s__law_beats_right, defBody s__law_beats_right, defScope s__law_beats_right, [], []⟩
def d_law : He.DefD := ⟨("law", none), "law", "law", defArgs s_law, defBody s_law, defScope s_law, [], []⟩
def hfn : List He.DefD := [d_common_divisor, d_fraction, d_before, d_ones, d_again, d_counter_round, d_last_for_first, d_size_of, d_turned_round, d_odd_ones, d_held_round, d_plain_round, d_round_of, d_innermost, d_top_of, d_inner_beat, d_values_at, d_values_of, d_row_below, d_row_of, d_offs_by, d_offs_of, d_worst_part, d_worst_stretch, d_worst_of, d_last_beyond, d_beats_for, d__law_box, d__law_take, d__law_folded, d__law_row, d__law_divisor, d__law_powers, d__law_plain, d__law_base, d__law_inner, d__law_round, d__law_top, d__law_maker, d__law_offs, d__law_part_right, d__law_beats_right, d_law]
def hfa : List He.Fa := [.glo "common_divisor", .glo "fraction", .glo "before", .glo "ones", .glo "again", .glo "counter_round", .glo "last_for_first", .glo "size_of", .glo "turned_round", .glo "odd_ones", .glo "held_round", .glo "plain_round", .glo "round_of", .glo "innermost", .glo "top_of", .glo "inner_beat", .glo "values_at", .glo "values_of", .glo "row_below", .glo "row_of", .glo "offs_by", .glo "offs_of", .glo "worst_part", .glo "worst_stretch", .glo "worst_of", .glo "last_beyond", .glo "beats_for", .glo "_law_box", .glo "_law_take", .glo "_law_folded", .glo "_law_row", .glo "_law_divisor", .glo "_law_powers", .glo "_law_plain", .glo "_law_base", .glo "_law_inner", .glo "_law_round", .glo "_law_top", .glo "_law_maker", .glo "_law_offs", .glo "_law_part_right", .glo "_law_beats_right", .glo "law", .free "abs", .free "divmod", .free "enumerate", .free "int", .free "len", .free "list", .free "max", .free "min", .free "range", .free "sum", .free "tuple", .free "zip"]
def htf : List He.Defn := [("row_below", none)]
def hex : PySem.W.Frag → Bool := fun _ => true
abbrev R : PySem.W.OpenRow := PySem.W.OpenLaw.row PySem.Challenge.rw_shareones_k76_whole_parts_never_beyond
abbrev hk : PySem.W.Hook := He.hookX 4 hfa hfn [] htf hex
def ob (s : PySem.W.SharedT) : He.AlX := He.obsX 4 hfa hfn [] htf hex (HandSHeadRun.getT s)
theorem ob_eq (s : PySem.W.SharedT) : ob s = hk.obs s.abs := He.obsX_eq (HandSHeadRun.getT_eq s)
def loose : List Str := "common_divisor" :: "fraction" :: "before" :: "ones" :: "again" :: "counter_round" :: "last_for_first" :: "size_of" :: "turned_round" :: "odd_ones" :: "held_round" :: "plain_round" :: "round_of" :: "innermost" :: "top_of" :: "inner_beat" :: "values_at" :: "values_of" :: "row_below" :: "row_of" :: "offs_by" :: "offs_of" :: "worst_part" :: "worst_stretch" :: "worst_of" :: "last_beyond" :: "beats_for" :: "_law_box" :: "_law_take" :: "_law_folded" :: "_law_row" :: "_law_divisor" :: "_law_powers" :: "_law_plain" :: "_law_base" :: "_law_inner" :: "_law_round" :: "_law_top" :: "_law_maker" :: "_law_offs" :: "_law_part_right" :: "_law_beats_right" :: []
theorem run (w : World) : HandSHeadRun.RunEq R (PySem.W.view R.prog [47]) hk ob 6000 loose w := by
  intro os
  kernel_rfl
theorem codeAt {K : PySem.W.Frag} {p : He.Defn} : CodeAt K (He.fAd K p) (He.cT K p).1 := fun oc od fd osl lk b e => (He.codeOf_eq lk e).symm
theorem facts {l : PySem.W.OpenLaw} {w : World} {K : PySem.W.Frag} {h : Heap} {mg : Str → Option Value} {f : Addr} (X : K.In h) (G : h.Ns mainGlobals mg) (hfa_ : mg ("law" : Str) = some (.ref f)) (cc : He.SaysX hfa hfn [] htf hex w h K) :
    LamX.LawAtS l w K CX0 11 63 "_law_script" mg f h := by
  have c : He.SaysD hfa hfn K := congrArg (fun z : He.AlT => z.1) cc.t
  obtain ⟨fd_common_divisor, F_common_divisor⟩ := c.def_ 0 (d := d_common_divisor) rfl
  obtain ⟨fd_fraction, F_fraction⟩ := c.def_ 1 (d := d_fraction) rfl
  obtain ⟨fd_before, F_before⟩ := c.def_ 2 (d := d_before) rfl
  obtain ⟨fd_ones, F_ones⟩ := c.def_ 3 (d := d_ones) rfl
  obtain ⟨fd_again, F_again⟩ := c.def_ 4 (d := d_again) rfl
  obtain ⟨fd_counter_round, F_counter_round⟩ := c.def_ 5 (d := d_counter_round) rfl
  obtain ⟨fd_last_for_first, F_last_for_first⟩ := c.def_ 6 (d := d_last_for_first) rfl
  obtain ⟨fd_size_of, F_size_of⟩ := c.def_ 7 (d := d_size_of) rfl
  obtain ⟨fd_turned_round, F_turned_round⟩ := c.def_ 8 (d := d_turned_round) rfl
  obtain ⟨fd_odd_ones, F_odd_ones⟩ := c.def_ 9 (d := d_odd_ones) rfl
  obtain ⟨fd_held_round, F_held_round⟩ := c.def_ 10 (d := d_held_round) rfl
  obtain ⟨fd_plain_round, F_plain_round⟩ := c.def_ 11 (d := d_plain_round) rfl
  obtain ⟨fd_round_of, F_round_of⟩ := c.def_ 12 (d := d_round_of) rfl
  obtain ⟨fd_innermost, F_innermost⟩ := c.def_ 13 (d := d_innermost) rfl
  obtain ⟨fd_top_of, F_top_of⟩ := c.def_ 14 (d := d_top_of) rfl
  obtain ⟨fd_inner_beat, F_inner_beat⟩ := c.def_ 15 (d := d_inner_beat) rfl
  obtain ⟨fd_values_at, F_values_at⟩ := c.def_ 16 (d := d_values_at) rfl
  obtain ⟨fd_values_of, F_values_of⟩ := c.def_ 17 (d := d_values_of) rfl
  obtain ⟨fd_row_below, F_row_below⟩ := c.def_ 18 (d := d_row_below) rfl
  obtain ⟨fd_row_of, F_row_of⟩ := c.def_ 19 (d := d_row_of) rfl
  obtain ⟨fd_offs_by, F_offs_by⟩ := c.def_ 20 (d := d_offs_by) rfl
  obtain ⟨fd_offs_of, F_offs_of⟩ := c.def_ 21 (d := d_offs_of) rfl
  obtain ⟨fd_worst_part, F_worst_part⟩ := c.def_ 22 (d := d_worst_part) rfl
  obtain ⟨fd_worst_stretch, F_worst_stretch⟩ := c.def_ 23 (d := d_worst_stretch) rfl
  obtain ⟨fd_worst_of, F_worst_of⟩ := c.def_ 24 (d := d_worst_of) rfl
  obtain ⟨fd_last_beyond, F_last_beyond⟩ := c.def_ 25 (d := d_last_beyond) rfl
  obtain ⟨fd_beats_for, F_beats_for⟩ := c.def_ 26 (d := d_beats_for) rfl
  obtain ⟨fd__law_box, F__law_box⟩ := c.def_ 27 (d := d__law_box) rfl
  obtain ⟨fd__law_take, F__law_take⟩ := c.def_ 28 (d := d__law_take) rfl
  obtain ⟨fd__law_folded, F__law_folded⟩ := c.def_ 29 (d := d__law_folded) rfl
  obtain ⟨fd__law_row, F__law_row⟩ := c.def_ 30 (d := d__law_row) rfl
  obtain ⟨fd__law_divisor, F__law_divisor⟩ := c.def_ 31 (d := d__law_divisor) rfl
  obtain ⟨fd__law_powers, F__law_powers⟩ := c.def_ 32 (d := d__law_powers) rfl
  obtain ⟨fd__law_plain, F__law_plain⟩ := c.def_ 33 (d := d__law_plain) rfl
  obtain ⟨fd__law_base, F__law_base⟩ := c.def_ 34 (d := d__law_base) rfl
  obtain ⟨fd__law_inner, F__law_inner⟩ := c.def_ 35 (d := d__law_inner) rfl
  obtain ⟨fd__law_round, F__law_round⟩ := c.def_ 36 (d := d__law_round) rfl
  obtain ⟨fd__law_top, F__law_top⟩ := c.def_ 37 (d := d__law_top) rfl
  obtain ⟨fd__law_maker, F__law_maker⟩ := c.def_ 38 (d := d__law_maker) rfl
  obtain ⟨fd__law_offs, F__law_offs⟩ := c.def_ 39 (d := d__law_offs) rfl
  obtain ⟨fd__law_part_right, F__law_part_right⟩ := c.def_ 40 (d := d__law_part_right) rfl
  obtain ⟨fd__law_beats_right, F__law_beats_right⟩ := c.def_ 41 (d := d__law_beats_right) rfl
  obtain ⟨fd_law, F_law⟩ := c.def_ 42 (d := d_law) rfl
  have e := hfa_.symm.trans (He.glo_ok X G (c.fact 42 (f := .glo "law") rfl))
  cases e
  have b := FunD.bindsA (ps := ["_law_script"]) F_law fun _ _ _ _ _ _ us hl => match us, hl with | [_], _ => rfl
  let T : Defs K mg := ⟨_, fd_common_divisor, F_common_divisor, (He.glo_ok X G (c.fact 0 (f := .glo "common_divisor") rfl)), (FunD.bindsN F_common_divisor fun _ _ _ _ _ _ us hl => match us, hl with | [_, _], _ => rfl), _, fd_fraction, F_fraction, (He.glo_ok X G (c.fact 1 (f := .glo "fraction") rfl)), (FunD.bindsN F_fraction fun _ _ _ _ _ _ us hl => match us, hl with | [_, _], _ => rfl), _, fd_before, F_before, (He.glo_ok X G (c.fact 2 (f := .glo "before") rfl)), (FunD.bindsN F_before fun _ _ _ _ _ _ us hl => match us, hl with | [_, _], _ => rfl), _, fd_ones, F_ones, (He.glo_ok X G (c.fact 3 (f := .glo "ones") rfl)), (FunD.bindsN F_ones fun _ _ _ _ _ _ us hl => match us, hl with | [_], _ => rfl), _, fd_again, F_again, (He.glo_ok X G (c.fact 4 (f := .glo "again") rfl)), (FunD.bindsN F_again fun _ _ _ _ _ _ us hl => match us, hl with | [_, _], _ => rfl), _, fd_counter_round, F_counter_round, (He.glo_ok X G (c.fact 5 (f := .glo "counter_round") rfl)), (FunD.bindsN F_counter_round fun _ _ _ _ _ _ us hl => match us, hl with | [_, _, _], _ => rfl), _, fd_last_for_first, F_last_for_first, (He.glo_ok X G (c.fact 6 (f := .glo "last_for_first") rfl)), (FunD.bindsN F_last_for_first fun _ _ _ _ _ _ us hl => match us, hl with | [_, _], _ => rfl), _, fd_size_of, F_size_of, (He.glo_ok X G (c.fact 7 (f := .glo "size_of") rfl)), (FunD.bindsN F_size_of fun _ _ _ _ _ _ us hl => match us, hl with | [_], _ => rfl), _, fd_turned_round, F_turned_round, (He.glo_ok X G (c.fact 8 (f := .glo "turned_round") rfl)), (FunD.bindsN F_turned_round fun _ _ _ _ _ _ us hl => match us, hl with | [_, _], _ => rfl), _, fd_odd_ones, F_odd_ones, (He.glo_ok X G (c.fact 9 (f := .glo "odd_ones") rfl)), (FunD.bindsN F_odd_ones fun _ _ _ _ _ _ us hl => match us, hl with | [_], _ => rfl), _, fd_held_round, F_held_round, (He.glo_ok X G (c.fact 10 (f := .glo "held_round") rfl)), (FunD.bindsN F_held_round fun _ _ _ _ _ _ us hl => match us, hl with | [_, _, _], _ => rfl), _, fd_plain_round, F_plain_round, (He.glo_ok X G (c.fact 11 (f := .glo "plain_round") rfl)), (FunD.bindsN F_plain_round fun _ _ _ _ _ _ us hl => match us, hl with | [_], _ => rfl), _, fd_round_of, F_round_of, (He.glo_ok X G (c.fact 12 (f := .glo "round_of") rfl)), (FunD.bindsN F_round_of fun _ _ _ _ _ _ us hl => match us, hl with | [_], _ => rfl), _, fd_innermost, F_innermost, (He.glo_ok X G (c.fact 13 (f := .glo "innermost") rfl)), (FunD.bindsN F_innermost fun _ _ _ _ _ _ us hl => match us, hl with | [_], _ => rfl), _, fd_top_of, F_top_of, (He.glo_ok X G (c.fact 14 (f := .glo "top_of") rfl)), (FunD.bindsN F_top_of fun _ _ _ _ _ _ us hl => match us, hl with | [_], _ => rfl), _, fd_inner_beat, F_inner_beat, (He.glo_ok X G (c.fact 15 (f := .glo "inner_beat") rfl)), (FunD.bindsN F_inner_beat fun _ _ _ _ _ _ us hl => match us, hl with | [_, _], _ => rfl), _, fd_values_at, F_values_at, (He.glo_ok X G (c.fact 16 (f := .glo "values_at") rfl)), (FunD.bindsN F_values_at fun _ _ _ _ _ _ us hl => match us, hl with | [_, _], _ => rfl), _, fd_values_of, F_values_of, (He.glo_ok X G (c.fact 17 (f := .glo "values_of") rfl)), (FunD.bindsN F_values_of fun _ _ _ _ _ _ us hl => match us, hl with | [_, _], _ => rfl), _, fd_row_below, F_row_below, (He.glo_ok X G (c.fact 18 (f := .glo "row_below") rfl)), (FunD.bindsN F_row_below fun _ _ _ _ _ _ us hl => match us, hl with | [_, _], _ => rfl), _, fd_row_of, F_row_of, (He.glo_ok X G (c.fact 19 (f := .glo "row_of") rfl)), (FunD.bindsN F_row_of fun _ _ _ _ _ _ us hl => match us, hl with | [_, _, _], _ => rfl), _, fd_offs_by, F_offs_by, (He.glo_ok X G (c.fact 20 (f := .glo "offs_by") rfl)), (FunD.bindsN F_offs_by fun _ _ _ _ _ _ us hl => match us, hl with | [_, _, _], _ => rfl), _, fd_offs_of, F_offs_of, (He.glo_ok X G (c.fact 21 (f := .glo "offs_of") rfl)), (FunD.bindsN F_offs_of fun _ _ _ _ _ _ us hl => match us, hl with | [_], _ => rfl), _, fd_worst_part, F_worst_part, (He.glo_ok X G (c.fact 22 (f := .glo "worst_part") rfl)), (FunD.bindsN F_worst_part fun _ _ _ _ _ _ us hl => match us, hl with | [_], _ => rfl), _, fd_worst_stretch, F_worst_stretch, (He.glo_ok X G (c.fact 23 (f := .glo "worst_stretch") rfl)), (FunD.bindsN F_worst_stretch fun _ _ _ _ _ _ us hl => match us, hl with | [_], _ => rfl), _, fd_worst_of, F_worst_of, (He.glo_ok X G (c.fact 24 (f := .glo "worst_of") rfl)), (FunD.bindsN F_worst_of fun _ _ _ _ _ _ us hl => match us, hl with | [_], _ => rfl), _, fd_last_beyond, F_last_beyond, (He.glo_ok X G (c.fact 25 (f := .glo "last_beyond") rfl)), (FunD.bindsN F_last_beyond fun _ _ _ _ _ _ us hl => match us, hl with | [_, _, _, _], _ => rfl), _, fd_beats_for, F_beats_for, (He.glo_ok X G (c.fact 26 (f := .glo "beats_for") rfl)), (FunD.bindsN F_beats_for fun _ _ _ _ _ _ us hl => match us, hl with | [_, _], _ => rfl), _, fd__law_box, F__law_box, (He.glo_ok X G (c.fact 27 (f := .glo "_law_box") rfl)), (FunD.bindsN F__law_box fun _ _ _ _ _ _ us hl => match us, hl with | [_, _], _ => rfl), _, fd__law_take, F__law_take, (He.glo_ok X G (c.fact 28 (f := .glo "_law_take") rfl)), (FunD.bindsN F__law_take fun _ _ _ _ _ _ us hl => match us, hl with | [_, _], _ => rfl), _, fd__law_folded, F__law_folded, (He.glo_ok X G (c.fact 29 (f := .glo "_law_folded") rfl)), (FunD.bindsN F__law_folded fun _ _ _ _ _ _ us hl => match us, hl with | [_, _], _ => rfl), _, fd__law_row, F__law_row, (He.glo_ok X G (c.fact 30 (f := .glo "_law_row") rfl)), (FunD.bindsN F__law_row fun _ _ _ _ _ _ us hl => match us, hl with | [_, _], _ => rfl), _, fd__law_divisor, F__law_divisor, (He.glo_ok X G (c.fact 31 (f := .glo "_law_divisor") rfl)), (FunD.bindsN F__law_divisor fun _ _ _ _ _ _ us hl => match us, hl with | [_, _], _ => rfl), _, fd__law_powers, F__law_powers, (He.glo_ok X G (c.fact 32 (f := .glo "_law_powers") rfl)), (FunD.bindsN F__law_powers fun _ _ _ _ _ _ us hl => match us, hl with | [], _ => rfl), _, fd__law_plain, F__law_plain, (He.glo_ok X G (c.fact 33 (f := .glo "_law_plain") rfl)), (FunD.bindsN F__law_plain fun _ _ _ _ _ _ us hl => match us, hl with | [_], _ => rfl), _, fd__law_base, F__law_base, (He.glo_ok X G (c.fact 34 (f := .glo "_law_base") rfl)), (FunD.bindsN F__law_base fun _ _ _ _ _ _ us hl => match us, hl with | [_], _ => rfl), _, fd__law_inner, F__law_inner, (He.glo_ok X G (c.fact 35 (f := .glo "_law_inner") rfl)), (FunD.bindsN F__law_inner fun _ _ _ _ _ _ us hl => match us, hl with | [_], _ => rfl), _, fd__law_round, F__law_round, (He.glo_ok X G (c.fact 36 (f := .glo "_law_round") rfl)), (FunD.bindsN F__law_round fun _ _ _ _ _ _ us hl => match us, hl with | [_], _ => rfl), _, fd__law_top, F__law_top, (He.glo_ok X G (c.fact 37 (f := .glo "_law_top") rfl)), (FunD.bindsN F__law_top fun _ _ _ _ _ _ us hl => match us, hl with | [_], _ => rfl), _, fd__law_maker, F__law_maker, (He.glo_ok X G (c.fact 38 (f := .glo "_law_maker") rfl)), (FunD.bindsN F__law_maker fun _ _ _ _ _ _ us hl => match us, hl with | [_, _], _ => rfl), _, fd__law_offs, F__law_offs, (He.glo_ok X G (c.fact 39 (f := .glo "_law_offs") rfl)), (FunD.bindsN F__law_offs fun _ _ _ _ _ _ us hl => match us, hl with | [_], _ => rfl), _, fd__law_part_right, F__law_part_right, (He.glo_ok X G (c.fact 40 (f := .glo "_law_part_right") rfl)), (FunD.bindsN F__law_part_right fun _ _ _ _ _ _ us hl => match us, hl with | [_], _ => rfl), _, fd__law_beats_right, F__law_beats_right, (He.glo_ok X G (c.fact 41 (f := .glo "_law_beats_right") rfl)), (FunD.bindsN F__law_beats_right fun _ _ _ _ _ _ us hl => match us, hl with | [_, _], _ => rfl), _, fd_law, F_law, (He.glo_ok X G (c.fact 42 (f := .glo "law") rfl)), (FunD.bindsN F_law fun _ _ _ _ _ _ us hl => match us, hl with | [_], _ => rfl), (He.cT K ("row_below", none)).1, (He.cT K ("row_below", none)).2, codeAt, (He.free_ok X G (c.fact 43 (f := .free "abs") rfl)), (He.free_ok X G (c.fact 44 (f := .free "divmod") rfl)), (He.free_ok X G (c.fact 45 (f := .free "enumerate") rfl)), (He.free_ok X G (c.fact 46 (f := .free "int") rfl)), (He.free_ok X G (c.fact 47 (f := .free "len") rfl)), (He.free_ok X G (c.fact 48 (f := .free "list") rfl)), (He.free_ok X G (c.fact 49 (f := .free "max") rfl)), (He.free_ok X G (c.fact 50 (f := .free "min") rfl)), (He.free_ok X G (c.fact 51 (f := .free "range") rfl)), (He.free_ok X G (c.fact 52 (f := .free "sum") rfl)), (He.free_ok X G (c.fact 53 (f := .free "tuple") rfl)), (He.free_ok X G (c.fact 54 (f := .free "zip") rfl))⟩
  refine ⟨fd_law, htf.map (He.cT K), sp_law T, fun p hp => ?_, fun p hp => ?_, fun p hp => ?_, fun s v => b s [v] rfl, fun H a ns hl _ hH hS => ⟨a, ns, rfl, hS, hl, ?_, fun _ => rfl⟩, fun base _ _ TB => ok_law T ?_⟩
  · obtain ⟨q, hq, rfl⟩ := List.mem_map.mp hp
    exact cc.empty q hq
  · obtain ⟨q, hq, rfl⟩ := List.mem_map.mp hp
    exact cc.out q hq
  · obtain ⟨q, hq, rfl⟩ := List.mem_map.mp hp
    exact PySem.W.codeHd_of_K X (cc.hd q hq)
  · exact ⟨⟨#[], hH _ (List.mem_map.mpr ⟨_, List.mem_cons_self, rfl⟩), trip0⟩, trivial⟩
  · exact ⟨⟨(TB _ (List.mem_map.mpr ⟨_, List.mem_cons_self, rfl⟩)).code, (TB _ (List.mem_map.mpr ⟨_, List.mem_cons_self, rfl⟩)).bm, (TB _ (List.mem_map.mpr ⟨_, List.mem_cons_self, rfl⟩)).gP⟩⟩
end Fq
open PySem PySem.W PySem.Calls PyProof.Rows
set_option maxHeartbeats 0 in
theorem PySem.Challenge.cw_shareones_k76_whole_parts_never_beyond_holds : PySem.Challenge.rw_shareones_k76_whole_parts_never_beyond.Holds := by
  w_on; o_law
  refine HandSHeadRun.head_any (r := OpenLaw.row PySem.Challenge.rw_shareones_k76_whole_parts_never_beyond) (q := view (OpenLaw.row PySem.Challenge.rw_shareones_k76_whole_parts_never_beyond).prog [47]) (H := Fq.hk) (ob := Fq.ob) (M := 6000) (loose := Fq.loose) (d := HandSHeadRun.topDef (OpenLaw.row PySem.Challenge.rw_shareones_k76_whole_parts_never_beyond).prog 47) (kwd := []) Fq.ob_eq
    (by kernel_rfl) (fun s => by kernel_rfl) Fq.run (by kernel_rfl) (by kernel_rfl) (by kernel_rfl) (by rfl) (by first | assumption | decide +kernel) (by decide +kernel) ⟨rfl, rfl, rfl, rfl, rfl, by decide +kernel⟩ ?hw ?hc
  case hw => w_witness2
  case hc =>
    refine LamX.walk_ofTsE (l := PySem.Challenge.rw_shareones_k76_whole_parts_never_beyond) (n := 63) (k := 11) (x := "_law_script") (CX := fun _ => L2.CX0) rfl (by decide) (by kernel_rfl) ⟨rfl, by decide, by decide⟩ ?F (fun _ _ _ _ _ z => z)
    intro w mg fa h Y G hmg0
    obtain ⟨K, KX, c⟩ := Y
    have hmg : mg ("law" : PySem.Str) = some (.ref fa) := by
      have e : (HandSHeadRun.topDef (OpenLaw.row PySem.Challenge.rw_shareones_k76_whole_parts_never_beyond).prog 47).name = ("law" : PySem.Str) := by kernel_rfl
      rw [← e]
      exact hmg0
    exact ⟨K, KX, Fq.facts KX G hmg c⟩
