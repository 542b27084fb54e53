import PyProof.Rows.All
import Wide.All
import OpenK.AllK
import Wide.FinOn
import KE.KStateDown
import Lean
import HandS.ForMost
import HandS.Wide
import HandS.WideBits
import HandS.IsInst
import HandS.Walk
import HandS.Evl
import HandS.Style
import HandS.NoneIn
import HandS.Defaults
import HandS.Head0
import HandS.Head1
import HandS.Head2
import HandS.HeadEnd
import HandS.HeadHook1
import HandS.HeadHook2
import HandS.AnyAll
import HandS.TupAny
import HandS.TupMul
import HandS.Zip
import HandS.HeadHook3
import HandS.HeadHook4
import HandS.HeadWalk
import HandS.EndTab
import PyProof.TupleOfGen
import KE.KNest
import KE.KDictWalk
import HandS.Set
import HandS.Strs
import KE.GoesSet
import KE.GoesMore
import KE.GoesZip
import KE.GoesEnum
import PyProof.GenCompT
import HandS.Conv
import HandS.Flow
import HandS.SortKw
import KE.DataMinMax
import HandS.Style
import HandS.SortInts
import PyProof.Rows.MatchSeqLen
import PyProof.RulesMatch
import PyProof.RulesMatchSeq
import HandS.Exc
import HandS.ExcOwn
import HandS.ExcIs
import HandS.WordsExc
import HandS.SetFor
import HandS.ForDict
import PySem.Challenge.RW_shareones_k74_whole_keepers_add_up
set_option Elab.async false
set_option pp.maxSteps 250
set_option linter.all false
set_option maxRecDepth 100000
set_option maxHeartbeats 4000000
namespace Fq
open PySem PySem.Spec PyProof.Rows L2
section
variable {P : Program} {w : World} {K : PySem.W.Frag} {mg : Str → Option Value} {base : Heap}
def topS (i : Nat) : Stmt := PySem.Challenge.pw_shareones_k74_whole_keepers_add_up.main.body.getD i (.Pass ⟨0, 0, 0, 0⟩)
abbrev FnP (K : PySem.W.Frag) (x : Str) (st : Stmt) (f : Addr) (fd : FuncData) : Prop := FunD K x x (defArgs st) (defBody st) (defScope st) [] [] f fd
abbrev s_refuse_unlike : Stmt := topS 4
abbrev N_refuse_unlike : List Str := ["rows", "row"]
theorem sc_refuse_unlike : FnScope N_refuse_unlike ["rows"] (defScope s_refuse_unlike) := ⟨rfl, rfl, rfl, by decide +kernel, rfl, by decide +kernel, by decide +kernel⟩
abbrev s_counter_round : Stmt := topS 6
abbrev N_counter_round : List Str := ["size", "step", "start", "t"]
theorem sc_counter_round : FnScope N_counter_round ["size", "step", "start"] (defScope s_counter_round) := ⟨rfl, rfl, rfl, by decide +kernel, rfl, by decide +kernel, by decide +kernel⟩
abbrev s_last_for_first : Stmt := topS 7
abbrev N_last_for_first : List Str := ["number", "wide", "told", "at"]
theorem sc_last_for_first : FnScope N_last_for_first ["number", "wide"] (defScope s_last_for_first) := ⟨rfl, rfl, rfl, by decide +kernel, rfl, by decide +kernel, by decide +kernel⟩
abbrev s_size_of : Stmt := topS 8
abbrev N_size_of : List Str := ["wide"]
theorem sc_size_of : FnScope N_size_of ["wide"] (defScope s_size_of) := ⟨rfl, rfl, rfl, by decide +kernel, rfl, by decide +kernel, by decide +kernel⟩
abbrev s_turned_round : Stmt := topS 9
abbrev N_turned_round : List Str := ["wide", "start", "size", "t"]
theorem sc_turned_round : FnScope N_turned_round ["wide", "start"] (defScope s_turned_round) := ⟨rfl, rfl, rfl, by decide +kernel, rfl, by decide +kernel, by decide +kernel⟩
abbrev s_odd_ones : Stmt := topS 10
abbrev N_odd_ones : List Str := ["number", "odd"]
theorem sc_odd_ones : FnScope N_odd_ones ["number"] (defScope s_odd_ones) := ⟨rfl, rfl, rfl, by decide +kernel, rfl, by decide +kernel, by decide +kernel⟩
abbrev s_held_round : Stmt := topS 11
abbrev N_held_round : List Str := ["wide", "taps", "start", "size", "told", "held"]
theorem sc_held_round : FnScope N_held_round ["wide", "taps", "start"] (defScope s_held_round) := ⟨rfl, rfl, rfl, by decide +kernel, rfl, by decide +kernel, by decide +kernel⟩
abbrev s_plain_round : Stmt := topS 12
abbrev N_plain_round : List Str := ["maker", "size", "step", "start", "wide", "taps", "numbers"]
theorem sc_plain_round : FnScope N_plain_round ["maker"] (defScope s_plain_round) := ⟨rfl, rfl, rfl, by decide +kernel, rfl, by decide +kernel, by decide +kernel⟩
abbrev s_innermost : Stmt := topS 13
abbrev N_innermost : List Str := ["maker"]
theorem sc_innermost : FnScope N_innermost ["maker"] (defScope s_innermost) := ⟨rfl, rfl, rfl, by decide +kernel, rfl, by decide +kernel, by decide +kernel⟩
abbrev s_inner_beat : Stmt := topS 14
abbrev N_inner_beat : List Str := ["maker", "t", "word", "many", "inner"]
theorem sc_inner_beat : FnScope N_inner_beat ["maker", "t"] (defScope s_inner_beat) := ⟨rfl, rfl, rfl, by decide +kernel, rfl, by decide +kernel, by decide +kernel⟩
abbrev s_values_at : Stmt := topS 15
abbrev N_values_at : List Str := ["maker", "beats", "numbers", "t"]
theorem sc_values_at : FnScope N_values_at ["maker", "beats"] (defScope s_values_at) := ⟨rfl, rfl, rfl, by decide +kernel, rfl, by decide +kernel, by decide +kernel⟩
abbrev s_values_of : Stmt := topS 16
abbrev N_values_of : List Str := ["maker", "beats"]
theorem sc_values_of : FnScope N_values_of ["maker", "beats"] (defScope s_values_of) := ⟨rfl, rfl, rfl, by decide +kernel, rfl, by decide +kernel, by decide +kernel⟩
abbrev s_row_below : Stmt := topS 17
abbrev N_row_below : List Str := ["numbers", "k", "number"]
theorem sc_row_below : FnScope N_row_below ["numbers", "k"] (defScope s_row_below) := ⟨rfl, rfl, rfl, by decide +kernel, rfl, by decide +kernel, by decide +kernel⟩
abbrev s_row_of : Stmt := topS 18
abbrev N_row_of : List Str := ["maker", "k", "beats"]
theorem sc_row_of : FnScope N_row_of ["maker", "k", "beats"] (defScope s_row_of) := ⟨rfl, rfl, rfl, by decide +kernel, rfl, by decide +kernel, by decide +kernel⟩
abbrev s_moved : Stmt := topS 20
abbrev N_moved : List Str := ["most", "at", "up", "down"]
theorem sc_moved : FnScope N_moved ["most", "at", "up", "down"] (defScope s_moved) := ⟨rfl, rfl, rfl, by decide +kernel, rfl, by decide +kernel, by decide +kernel⟩
abbrev s_Keeper___init__ : Stmt := inClass (topS 21) 0
abbrev N_Keeper___init__ : List Str := ["self", "most", "at"]
theorem sc_Keeper___init__ : FnScope N_Keeper___init__ ["self", "most", "at"] (defScope s_Keeper___init__) := ⟨rfl, rfl, rfl, by decide +kernel, rfl, by decide +kernel, by decide +kernel⟩
abbrev s_Keeper_beat : Stmt := inClass (topS 21) 1
abbrev N_Keeper_beat : List Str := ["self", "up", "down", "held"]
theorem sc_Keeper_beat : FnScope N_Keeper_beat ["self", "up", "down"] (defScope s_Keeper_beat) := ⟨rfl, rfl, rfl, by decide +kernel, rfl, by decide +kernel, by decide +kernel⟩
abbrev s_Keeper_at_now : Stmt := inClass (topS 21) 2
abbrev N_Keeper_at_now : List Str := ["self"]
theorem sc_Keeper_at_now : FnScope N_Keeper_at_now ["self"] (defScope s_Keeper_at_now) := ⟨rfl, rfl, rfl, by decide +kernel, rfl, by decide +kernel, by decide +kernel⟩
abbrev s_Keeper_lost_now : Stmt := inClass (topS 21) 3
abbrev N_Keeper_lost_now : List Str := ["self"]
theorem sc_Keeper_lost_now : FnScope N_Keeper_lost_now ["self"] (defScope s_Keeper_lost_now) := ⟨rfl, rfl, rfl, by decide +kernel, rfl, by decide +kernel, by decide +kernel⟩
abbrev s_Keeper_beats_now : Stmt := inClass (topS 21) 4
abbrev N_Keeper_beats_now : List Str := ["self"]
theorem sc_Keeper_beats_now : FnScope N_Keeper_beats_now ["self"] (defScope s_Keeper_beats_now) := ⟨rfl, rfl, rfl, by decide +kernel, rfl, by decide +kernel, by decide +kernel⟩
abbrev s_fed_back : Stmt := topS 22
abbrev N_fed_back : List Str := ["row", "by", "maker", "most", "at", "keeper", "out", "fed", "ahead", "t", "number", "bit", "back"]
theorem sc_fed_back : FnScope N_fed_back ["row", "by", "maker", "most", "at"] (defScope s_fed_back) := ⟨rfl, rfl, rfl, by decide +kernel, rfl, by decide +kernel, by decide +kernel⟩
abbrev s_divided : Stmt := topS 23
abbrev N_divided : List Str := ["row", "by", "maker", "most", "at"]
theorem sc_divided : FnScope N_divided ["row", "by", "maker", "most", "at"] (defScope s_divided) := ⟨rfl, rfl, rfl, by decide +kernel, rfl, by decide +kernel, by decide +kernel⟩
abbrev s_rooted : Stmt := topS 24
abbrev N_rooted : List Str := ["row", "maker", "most", "at"]
theorem sc_rooted : FnScope N_rooted ["row", "maker", "most", "at"] (defScope s_rooted) := ⟨rfl, rfl, rfl, by decide +kernel, rfl, by decide +kernel, by decide +kernel⟩
abbrev s__law_box : Stmt := topS 26
abbrev N__law_box : List Str := ["_law_script", "_law_k", "_law_cell"]
theorem sc__law_box : FnScope N__law_box ["_law_script", "_law_k"] (defScope s__law_box) := ⟨rfl, rfl, rfl, by decide +kernel, rfl, by decide +kernel, by decide +kernel⟩
abbrev s__law_take : Stmt := topS 27
abbrev N__law_take : List Str := ["_law_box_here", "_law_many", "_law_found", "_law_once"]
theorem sc__law_take : FnScope N__law_take ["_law_box_here", "_law_many"] (defScope s__law_take) := ⟨rfl, rfl, rfl, by decide +kernel, rfl, by decide +kernel, by decide +kernel⟩
abbrev s__law_folded : Stmt := topS 28
abbrev N__law_folded : List Str := ["_law_script", "_law_many", "_law_cells", "_law_k", "_law_cell"]
theorem sc__law_folded : FnScope N__law_folded ["_law_script", "_law_many"] (defScope s__law_folded) := ⟨rfl, rfl, rfl, by decide +kernel, rfl, by decide +kernel, by decide +kernel⟩
abbrev s__law_alone : Stmt := topS 29
abbrev N__law_alone : List Str := ["_law_one", "_law_other"]
theorem sc__law_alone : FnScope N__law_alone ["_law_one", "_law_other"] (defScope s__law_alone) := ⟨rfl, rfl, rfl, by decide +kernel, rfl, by decide +kernel, by decide +kernel⟩
abbrev s__law_maker : Stmt := topS 30
abbrev N__law_maker : List Str := ["_law_box_here", "_law_deep", "_law_most", "_law_way", "_law_many", "_law_word", "_law_twos", "_law_wides", "_law_wide", "_law_taps", "_law_steps", "_law_k", "_law_step"]
theorem sc__law_maker : FnScope N__law_maker ["_law_box_here", "_law_deep", "_law_most"] (defScope s__law_maker) := ⟨rfl, rfl, rfl, by decide +kernel, rfl, by decide +kernel, by decide +kernel⟩
abbrev s__law_sums : Stmt := topS 31
abbrev N__law_sums : List Str := ["_law_row", "_law_found", "_law_at", "_law_n", "_law_out", "_law_fed", "_law_number", "_law_lost"]
theorem sc__law_sums : FnScope N__law_sums ["_law_row", "_law_found", "_law_at", "_law_n"] (defScope s__law_sums) := ⟨rfl, rfl, rfl, by decide +kernel, rfl, by decide +kernel, by decide +kernel⟩
abbrev s__law_whole : Stmt := topS 32
abbrev N__law_whole : List Str := ["_law_way", "_law_row", "_law_by", "_law_made", "_law_n"]
theorem sc__law_whole : FnScope N__law_whole ["_law_way", "_law_row", "_law_by", "_law_made", "_law_n"] (defScope s__law_whole) := ⟨rfl, rfl, rfl, by decide +kernel, rfl, by decide +kernel, by decide +kernel⟩
abbrev s__law_right : Stmt := topS 33
abbrev N__law_right : List Str := ["_law_row", "_law_by", "_law_made", "_law_way", "_law_out", "_law_fed", "_law_number", "_law_lost", "_law_keeper", "_law_reached", "_law_n", "_law_told", "_law_found"]
theorem sc__law_right : FnScope N__law_right ["_law_row", "_law_by", "_law_made", "_law_way"] (defScope s__law_right) := ⟨rfl, rfl, rfl, by decide +kernel, rfl, by decide +kernel, by decide +kernel⟩
abbrev s__law_full_right : Stmt := topS 34
abbrev N__law_full_right : List Str := ["_law_made", "_law_beats", "_law_out", "_law_fed", "_law_number", "_law_lost", "_law_up"]
theorem sc__law_full_right : FnScope N__law_full_right ["_law_made", "_law_beats"] (defScope s__law_full_right) := ⟨rfl, rfl, rfl, by decide +kernel, rfl, by decide +kernel, by decide +kernel⟩
abbrev s_law : Stmt := topS 35
abbrev N_law : List Str := ["_law_script", "_law_cells", "_law_k", "_law_box_here", "_law_beats", "_law_rows", "_law_turn", "_law_most", "_law_made", "_law_way"]
theorem sc_law : FnScope N_law ["_law_script"] (defScope s_law) := ⟨rfl, rfl, rfl, by decide +kernel, rfl, by decide +kernel, by decide +kernel⟩
/-- the code object of the def at f is the one at c -/
def CodeAt (K : PySem.W.Frag) (f c : Addr) : Prop := ∀ (oc : Value) (od : Option Addr) (fd : FuncData) (osl : Array (Option Value)), K.lookup f = some ⟨oc, od, .func fd, osl⟩ → ∀ b, fd.code = .ref b → b = c
theorem okC {P : Program} {w : World} {K : PySem.W.Frag} {mg : Str → Option Value} {base : Heap} {x : Str} {st : Stmt} {f c : Addr} {fd : FuncData} {N ps : List Str} {k : Nat} {sp : Sp} (F : FnP K x st f fd) (hc : CodeAt K f c) (S : FnScope N ps (defScope st)) (len : ∀ vs H Q E, sp vs H Q E → vs.length = ps.length)
    (hb : ∀ (A : Around) (outer : List Env) (s : Shared) (H : Hp) (vs : List V) (Q : VK) (E : XK), Room k (A.deeper (envOfC x (defScope st) s.heap.objs.size f (.ref c))) → sp vs H Q E →
      ∃ t, PSs (cxOf CX0 P w K mg base N x (defScope st) f (.ref c) A outer s H E) (defBody st) t ∧ t { nx := fun _ H' => Q .non H', rt := Q } (L2.start N vs) H) : FnOk P w K mg base CX0 (k + 1) f fd ps sp := by
  obtain ⟨oc, od, dV, kV, doc, pm, an, cdv, ct, osl, rfl, lk, hcd, _, _⟩ := F.ex
  obtain ⟨b, rfl⟩ := He.codeIn_ref hcd
  have e := hc oc od _ osl lk b rfl
  subst e
  exact fn_of lk hcd S len hb
theorem okX {P : Program} {w : World} {K : PySem.W.Frag} {mg : Str → Option Value} {base : Heap} {x : Str} {st : Stmt} {f : Addr} {fd : FuncData} {N ps : List Str} {k : Nat} {sp : Sp} (F : FnP K x st f fd) (S : FnScope N ps (defScope st)) (len : ∀ vs H Q E, sp vs H Q E → vs.length = ps.length)
    (hb : ∀ (cdv : Value) (A : Around) (outer : List Env) (s : Shared) (H : Hp) (vs : List V) (Q : VK) (E : XK), Room k (A.deeper (envOfC x (defScope st) s.heap.objs.size f cdv)) → sp vs H Q E →
      ∃ t, PSs (cxOf (L2.CX P w) P w K mg base N x (defScope st) f cdv A outer s H E) (defBody st) t ∧ t { nx := fun _ H' => Q .non H', rt := Q } (L2.start N vs) H) : FnOk P w K mg base (L2.CX P w) (k + 1) f fd ps sp := by
  obtain ⟨oc, od, dV, kV, doc, pm, an, cdv, ct, osl, rfl, lk, hcd, _, _⟩ := F.ex
  exact fn_of lk hcd S len fun A outer s H vs Q E hr h => hb cdv A outer s H vs Q E hr h
theorem okXC {P : Program} {w : World} {K : PySem.W.Frag} {mg : Str → Option Value} {base : Heap} {x : Str} {st : Stmt} {f c : Addr} {fd : FuncData} {N ps : List Str} {k : Nat} {sp : Sp} (F : FnP K x st f fd) (hc : CodeAt K f c) (S : FnScope N ps (defScope st)) (len : ∀ vs H Q E, sp vs H Q E → vs.length = ps.length)
    (hb : ∀ (A : Around) (outer : List Env) (s : Shared) (H : Hp) (vs : List V) (Q : VK) (E : XK), Room k (A.deeper (envOfC x (defScope st) s.heap.objs.size f (.ref c))) → sp vs H Q E →
      ∃ t, PSs (cxOf (L2.CX P w) P w K mg base N x (defScope st) f (.ref c) A outer s H E) (defBody st) t ∧ t { nx := fun _ H' => Q .non H', rt := Q } (L2.start N vs) H) : FnOk P w K mg base (L2.CX P w) (k + 1) f fd ps sp := by
  obtain ⟨oc, od, dV, kV, doc, pm, an, cdv, ct, osl, rfl, lk, hcd, _, _⟩ := F.ex
  obtain ⟨b, rfl⟩ := He.codeIn_ref hcd
  have e := hc oc od _ osl lk b rfl
  subst e
  exact fn_of lk hcd S len hb
structure Defs (K : PySem.W.Frag) (mg : Str → Option Value) where
  f_refuse_unlike : Addr
  fd_refuse_unlike : FuncData
  F_refuse_unlike : FnP K "refuse_unlike" s_refuse_unlike f_refuse_unlike fd_refuse_unlike
  g_refuse_unlike : mg "refuse_unlike" = some (.ref f_refuse_unlike)
  b_refuse_unlike : Binds K fd_refuse_unlike ["rows"] []
  f_counter_round : Addr
  fd_counter_round : FuncData
  F_counter_round : FnP K "counter_round" s_counter_round f_counter_round fd_counter_round
  g_counter_round : mg "counter_round" = some (.ref f_counter_round)
  b_counter_round : Binds K fd_counter_round ["size", "step", "start"] []
  f_last_for_first : Addr
  fd_last_for_first : FuncData
  F_last_for_first : FnP K "last_for_first" s_last_for_first f_last_for_first fd_last_for_first
  g_last_for_first : mg "last_for_first" = some (.ref f_last_for_first)
  b_last_for_first : Binds K fd_last_for_first ["number", "wide"] []
  f_size_of : Addr
  fd_size_of : FuncData
  F_size_of : FnP K "size_of" s_size_of f_size_of fd_size_of
  g_size_of : mg "size_of" = some (.ref f_size_of)
  b_size_of : Binds K fd_size_of ["wide"] []
  f_turned_round : Addr
  fd_turned_round : FuncData
  F_turned_round : FnP K "turned_round" s_turned_round f_turned_round fd_turned_round
  g_turned_round : mg "turned_round" = some (.ref f_turned_round)
  b_turned_round : Binds K fd_turned_round ["wide", "start"] []
  f_odd_ones : Addr
  fd_odd_ones : FuncData
  F_odd_ones : FnP K "odd_ones" s_odd_ones f_odd_ones fd_odd_ones
  g_odd_ones : mg "odd_ones" = some (.ref f_odd_ones)
  b_odd_ones : Binds K fd_odd_ones ["number"] []
  f_held_round : Addr
  fd_held_round : FuncData
  F_held_round : FnP K "held_round" s_held_round f_held_round fd_held_round
  g_held_round : mg "held_round" = some (.ref f_held_round)
  b_held_round : Binds K fd_held_round ["wide", "taps", "start"] []
  f_plain_round : Addr
  fd_plain_round : FuncData
  F_plain_round : FnP K "plain_round" s_plain_round f_plain_round fd_plain_round
  g_plain_round : mg "plain_round" = some (.ref f_plain_round)
  b_plain_round : Binds K fd_plain_round ["maker"] []
  f_innermost : Addr
  fd_innermost : FuncData
  F_innermost : FnP K "innermost" s_innermost f_innermost fd_innermost
  g_innermost : mg "innermost" = some (.ref f_innermost)
  b_innermost : Binds K fd_innermost ["maker"] []
  f_inner_beat : Addr
  fd_inner_beat : FuncData
  F_inner_beat : FnP K "inner_beat" s_inner_beat f_inner_beat fd_inner_beat
  g_inner_beat : mg "inner_beat" = some (.ref f_inner_beat)
  b_inner_beat : Binds K fd_inner_beat ["maker", "t"] []
  f_values_at : Addr
  fd_values_at : FuncData
  F_values_at : FnP K "values_at" s_values_at f_values_at fd_values_at
  g_values_at : mg "values_at" = some (.ref f_values_at)
  b_values_at : Binds K fd_values_at ["maker", "beats"] []
  f_values_of : Addr
  fd_values_of : FuncData
  F_values_of : FnP K "values_of" s_values_of f_values_of fd_values_of
  g_values_of : mg "values_of" = some (.ref f_values_of)
  b_values_of : Binds K fd_values_of ["maker", "beats"] []
  f_row_below : Addr
  fd_row_below : FuncData
  F_row_below : FnP K "row_below" s_row_below f_row_below fd_row_below
  g_row_below : mg "row_below" = some (.ref f_row_below)
  b_row_below : Binds K fd_row_below ["numbers", "k"] []
  f_row_of : Addr
  fd_row_of : FuncData
  F_row_of : FnP K "row_of" s_row_of f_row_of fd_row_of
  g_row_of : mg "row_of" = some (.ref f_row_of)
  b_row_of : Binds K fd_row_of ["maker", "k", "beats"] []
  f_moved : Addr
  fd_moved : FuncData
  F_moved : FnP K "moved" s_moved f_moved fd_moved
  g_moved : mg "moved" = some (.ref f_moved)
  b_moved : Binds K fd_moved ["most", "at", "up", "down"] []
  f_Keeper___init__ : Addr
  fd_Keeper___init__ : FuncData
  F_Keeper___init__ : FunD K "__init__" "Keeper.__init__" (defArgs s_Keeper___init__) (defBody s_Keeper___init__) (defScope s_Keeper___init__) [] [] f_Keeper___init__ fd_Keeper___init__
  b_Keeper___init__ : Binds K fd_Keeper___init__ ["self", "most", "at"] []
  f_Keeper_beat : Addr
  fd_Keeper_beat : FuncData
  F_Keeper_beat : FunD K "beat" "Keeper.beat" (defArgs s_Keeper_beat) (defBody s_Keeper_beat) (defScope s_Keeper_beat) [] [] f_Keeper_beat fd_Keeper_beat
  b_Keeper_beat : Binds K fd_Keeper_beat ["self", "up", "down"] []
  f_Keeper_at_now : Addr
  fd_Keeper_at_now : FuncData
  F_Keeper_at_now : FunD K "at_now" "Keeper.at_now" (defArgs s_Keeper_at_now) (defBody s_Keeper_at_now) (defScope s_Keeper_at_now) [] [] f_Keeper_at_now fd_Keeper_at_now
  b_Keeper_at_now : Binds K fd_Keeper_at_now ["self"] []
  f_Keeper_lost_now : Addr
  fd_Keeper_lost_now : FuncData
  F_Keeper_lost_now : FunD K "lost_now" "Keeper.lost_now" (defArgs s_Keeper_lost_now) (defBody s_Keeper_lost_now) (defScope s_Keeper_lost_now) [] [] f_Keeper_lost_now fd_Keeper_lost_now
  b_Keeper_lost_now : Binds K fd_Keeper_lost_now ["self"] []
  f_Keeper_beats_now : Addr
  fd_Keeper_beats_now : FuncData
  F_Keeper_beats_now : FunD K "beats_now" "Keeper.beats_now" (defArgs s_Keeper_beats_now) (defBody s_Keeper_beats_now) (defScope s_Keeper_beats_now) [] [] f_Keeper_beats_now fd_Keeper_beats_now
  b_Keeper_beats_now : Binds K fd_Keeper_beats_now ["self"] []
  f_fed_back : Addr
  fd_fed_back : FuncData
  F_fed_back : FnP K "fed_back" s_fed_back f_fed_back fd_fed_back
  g_fed_back : mg "fed_back" = some (.ref f_fed_back)
  b_fed_back : Binds K fd_fed_back ["row", "by", "maker", "most", "at"] []
  f_divided : Addr
  fd_divided : FuncData
  F_divided : FnP K "divided" s_divided f_divided fd_divided
  g_divided : mg "divided" = some (.ref f_divided)
  b_divided : Binds K fd_divided ["row", "by", "maker", "most", "at"] []
  f_rooted : Addr
  fd_rooted : FuncData
  F_rooted : FnP K "rooted" s_rooted f_rooted fd_rooted
  g_rooted : mg "rooted" = some (.ref f_rooted)
  b_rooted : Binds K fd_rooted ["row", "maker", "most", "at"] []
  f__law_box : Addr
  fd__law_box : FuncData
  F__law_box : FnP K "_law_box" s__law_box f__law_box fd__law_box
  g__law_box : mg "_law_box" = some (.ref f__law_box)
  b__law_box : Binds K fd__law_box ["_law_script", "_law_k"] []
  f__law_take : Addr
  fd__law_take : FuncData
  F__law_take : FnP K "_law_take" s__law_take f__law_take fd__law_take
  g__law_take : mg "_law_take" = some (.ref f__law_take)
  b__law_take : Binds K fd__law_take ["_law_box_here", "_law_many"] []
  f__law_folded : Addr
  fd__law_folded : FuncData
  F__law_folded : FnP K "_law_folded" s__law_folded f__law_folded fd__law_folded
  g__law_folded : mg "_law_folded" = some (.ref f__law_folded)
  b__law_folded : Binds K fd__law_folded ["_law_script", "_law_many"] []
  f__law_alone : Addr
  fd__law_alone : FuncData
  F__law_alone : FnP K "_law_alone" s__law_alone f__law_alone fd__law_alone
  g__law_alone : mg "_law_alone" = some (.ref f__law_alone)
  b__law_alone : Binds K fd__law_alone ["_law_one", "_law_other"] []
  f__law_maker : Addr
  fd__law_maker : FuncData
  F__law_maker : FnP K "_law_maker" s__law_maker f__law_maker fd__law_maker
  g__law_maker : mg "_law_maker" = some (.ref f__law_maker)
  b__law_maker : Binds K fd__law_maker ["_law_box_here", "_law_deep", "_law_most"] []
  f__law_sums : Addr
  fd__law_sums : FuncData
  F__law_sums : FnP K "_law_sums" s__law_sums f__law_sums fd__law_sums
  g__law_sums : mg "_law_sums" = some (.ref f__law_sums)
  b__law_sums : Binds K fd__law_sums ["_law_row", "_law_found", "_law_at", "_law_n"] []
  f__law_whole : Addr
  fd__law_whole : FuncData
  F__law_whole : FnP K "_law_whole" s__law_whole f__law_whole fd__law_whole
  g__law_whole : mg "_law_whole" = some (.ref f__law_whole)
  b__law_whole : Binds K fd__law_whole ["_law_way", "_law_row", "_law_by", "_law_made", "_law_n"] []
  f__law_right : Addr
  fd__law_right : FuncData
  F__law_right : FnP K "_law_right" s__law_right f__law_right fd__law_right
  g__law_right : mg "_law_right" = some (.ref f__law_right)
  b__law_right : Binds K fd__law_right ["_law_row", "_law_by", "_law_made", "_law_way"] []
  f__law_full_right : Addr
  fd__law_full_right : FuncData
  F__law_full_right : FnP K "_law_full_right" s__law_full_right f__law_full_right fd__law_full_right
  g__law_full_right : mg "_law_full_right" = some (.ref f__law_full_right)
  b__law_full_right : Binds K fd__law_full_right ["_law_made", "_law_beats"] []
  f_law : Addr
  fd_law : FuncData
  F_law : FnP K "law" s_law f_law fd_law
  g_law : mg "law" = some (.ref f_law)
  b_law : Binds K fd_law ["_law_script"] []
  C_Keeper : Addr
  g_Keeper : mg "Keeper" = some (.ref C_Keeper)
  cl_Keeper : Cls K C_Keeper
  mk_Keeper : L2.Mk K C_Keeper f_Keeper___init__
  na_Keeper_at : NoAttr K C_Keeper "at"
  na_Keeper_beats : NoAttr K C_Keeper "beats"
  na_Keeper_downs_lost : NoAttr K C_Keeper "downs_lost"
  na_Keeper_most : NoAttr K C_Keeper "most"
  na_Keeper_ups_lost : NoAttr K C_Keeper "ups_lost"
  mt_Keeper_beat : Meth K C_Keeper "beat" f_Keeper_beat
  mt_Keeper_at_now : Meth K C_Keeper "at_now" f_Keeper_at_now
  mt_Keeper_lost_now : Meth K C_Keeper "lost_now" f_Keeper_lost_now
  mt_Keeper_beats_now : Meth K C_Keeper "beats_now" f_Keeper_beats_now
  c_row_below : Addr
  P_row_below : Addr
  k_row_below : CodeAt K f_row_below c_row_below
  C_OnesError : Addr
  g_OnesError : mg "OnesError" = some (.ref C_OnesError)
  C_Unlike : Addr
  g_Unlike : mg "Unlike" = some (.ref C_Unlike)
  xi_Unlike : PySem.W.excIn K C_Unlike He.veBase "ValueError.__new__" = true
  xk_Unlike : PySem.W.keepIn K (.ref C_Unlike) = true
  xs_Unlike : PySem.W.subIn K (.ref C_Unlike) (.type "BaseException") = some true
  xt_Unlike : PySem.W.typeIn K (.ref C_Unlike) = some (.type "type")
  xc_Unlike : ExcC K C_Unlike
  xm_Unlike : PySem.W.exmOne K (.ref C_Unlike) (.ref C_OnesError) = some true
  xo_Unlike_OnesError : PySem.W.kitOne K (.ref C_Unlike) (.ref C_OnesError) = some true
  xo_Unlike_Unlike : PySem.W.kitOne K (.ref C_Unlike) (.ref C_Unlike) = some true
  xv_Unlike : PySem.W.kitOne K (.ref C_Unlike) (.type "ValueError") = some true
  m_ValueError : mg "ValueError" = none
  m_abs : mg "abs" = none
  m_divmod : mg "divmod" = none
  m_enumerate : mg "enumerate" = none
  m_int : mg "int" = none
  m_len : mg "len" = none
  m_list : mg "list" = none
  m_max : mg "max" = none
  m_min : mg "min" = none
  m_range : mg "range" = none
  m_sum : mg "sum" = none
  m_tuple : mg "tuple" = none
structure Tabs {K : PySem.W.Frag} {mg : Str → Option Value} (T : Defs K mg) (base : Heap) : Prop where
  t_row_below : GxR.TabB base mg T.c_row_below T.P_row_below
theorem bt_ValueError : bootBuiltins "ValueError" = some (.type "ValueError") := by decide +kernel
theorem bt_abs : bootBuiltins "abs" = some (.builtin "abs") := by decide +kernel
theorem bt_divmod : bootBuiltins "divmod" = some (.builtin "divmod") := by decide +kernel
theorem bt_enumerate : bootBuiltins "enumerate" = some (.type "enumerate") := by decide +kernel
theorem bt_int : bootBuiltins "int" = some (.type "int") := by decide +kernel
theorem bt_len : bootBuiltins "len" = some (.builtin "len") := by decide +kernel
theorem bt_list : bootBuiltins "list" = some (.type "list") := by decide +kernel
theorem bt_max : bootBuiltins "max" = some (.builtin "max") := by decide +kernel
theorem bt_min : bootBuiltins "min" = some (.builtin "min") := by decide +kernel
theorem bt_range : bootBuiltins "range" = some (.type "range") := by decide +kernel
theorem bt_sum : bootBuiltins "sum" = some (.builtin "sum") := by decide +kernel
theorem bt_tuple : bootBuiltins "tuple" = some (.type "tuple") := by decide +kernel
def frT (t b : Int) : Int := (b.sign * t) / (Int.gcd t b : Int)
def frB (t b : Int) : Int := (b.natAbs : Int) / (Int.gcd t b : Int)
theorem fr_ex (t : Int) {b : Int} (hb : b ≠ 0) : ∃ (g : Nat) (x y : Int), 0 < g ∧ Int.gcd t b = g ∧ t = (g : Int) * x ∧ b = (g : Int) * y ∧ y ≠ 0 ∧ Int.gcd x y = 1 := by
  have hg : 0 < Int.gcd t b := Int.gcd_pos_of_ne_zero_right t hb
  obtain ⟨x, hx⟩ := Int.gcd_dvd_left t b
  obtain ⟨y, hy⟩ := Int.gcd_dvd_right t b
  refine ⟨Int.gcd t b, x, y, hg, rfl, hx, hy, fun e => hb (by rw [hy, e, Int.mul_zero]), ?_⟩
  generalize eg : Int.gcd t b = g at hg hx hy
  have e : g = g * Int.gcd x y := by
    rw [← eg]
    conv => lhs; rw [hx, hy, Int.gcd_mul_left]
    rw [Int.natAbs_natCast, eg]
  exact Nat.eq_of_mul_eq_mul_left hg (by rw [← e, Nat.mul_one])
theorem sgn {b : Int} {g : Nat} {y : Int} (hg : 0 < g) (hb : b = (g : Int) * y) : b.sign = y.sign := by
  rw [hb, Int.sign_mul, Int.sign_eq_one_of_pos (by omega), Int.one_mul]
theorem fr_vals {t b : Int} {g : Nat} {x y : Int} (hg : 0 < g) (eg : Int.gcd t b = g) (ht : t = (g : Int) * x) (hb : b = (g : Int) * y) : frT t b = y.sign * x ∧ frB t b = (y.natAbs : Int) := by
  have g0 : (g : Int) ≠ 0 := by omega
  constructor
  · unfold frT
    rw [eg, sgn hg hb, ht, show y.sign * ((g : Int) * x) = (g : Int) * (y.sign * x) by rw [Int.mul_left_comm]]
    exact Int.mul_ediv_cancel_left _ g0
  · unfold frB
    rw [eg, hb, Int.natAbs_mul, Int.natAbs_natCast, Int.natCast_mul]
    exact Int.mul_ediv_cancel_left _ g0
theorem sgn_abs {y : Int} (hy : y ≠ 0) : y.sign.natAbs = 1 := Int.natAbs_sign_of_ne_zero hy
theorem fr_pos (t : Int) {b : Int} (hb : b ≠ 0) : 0 < frB t b := by
  obtain ⟨g, x, y, hg, eg, ht, hy, hy0, h1⟩ := fr_ex t hb
  rw [(fr_vals hg eg ht hy).2]
  omega
theorem fr_gcd (t : Int) {b : Int} (hb : b ≠ 0) : Int.gcd (frT t b) (frB t b) = 1 := by
  obtain ⟨g, x, y, hg, eg, ht, hy, hy0, h1⟩ := fr_ex t hb
  rw [(fr_vals hg eg ht hy).1, (fr_vals hg eg ht hy).2]
  show Nat.gcd (y.sign * x).natAbs ((y.natAbs : Int)).natAbs = 1
  rw [Int.natAbs_mul, sgn_abs hy0, Nat.one_mul, Int.natAbs_natCast]
  exact h1
theorem fr_eq (t : Int) {b : Int} (hb : b ≠ 0) : frT t b * b = t * frB t b := by
  obtain ⟨g, x, y, hg, eg, ht, hy, hy0, h1⟩ := fr_ex t hb
  rw [(fr_vals hg eg ht hy).1, (fr_vals hg eg ht hy).2]
  rw [ht, hy]
  have e : y * y.sign = (y.natAbs : Int) := Int.mul_sign_self y
  rw [← e]
  simp only [Int.mul_comm, Int.mul_left_comm, Int.mul_assoc]
theorem fr_absT (t : Int) {b : Int} (hb : b ≠ 0) : (frT t b).natAbs ≤ t.natAbs := by
  obtain ⟨g, x, y, hg, eg, ht, hy, hy0, h1⟩ := fr_ex t hb
  rw [(fr_vals hg eg ht hy).1, ht, Int.natAbs_mul, sgn_abs hy0, Nat.one_mul, Int.natAbs_mul, Int.natAbs_natCast]
  exact Nat.le_mul_of_pos_left _ hg
theorem fr_absB (t : Int) {b : Int} (hb : b ≠ 0) : (frB t b).natAbs ≤ b.natAbs := by
  obtain ⟨g, x, y, hg, eg, ht, hy, hy0, h1⟩ := fr_ex t hb
  rw [(fr_vals hg eg ht hy).2, hy, Int.natAbs_mul, Int.natAbs_natCast, Int.natAbs_natCast]
  exact Nat.le_mul_of_pos_left _ hg
theorem fr_negT (t b : Int) : frT (-t) (-b) = frT t b := by
  unfold frT
  rw [Int.sign_neg, Int.neg_mul_neg, Int.gcd_neg, Int.neg_gcd]
theorem fr_negB (t b : Int) : frB (-t) (-b) = frB t b := by
  unfold frB
  rw [Int.natAbs_neg, Int.gcd_neg, Int.neg_gcd]
/-- what the program's two ways reckon -/
theorem fd_pos {g : Nat} {x : Int} (hg : 0 < g) : ((g : Int) * x).fdiv (g : Int) = x := by
  rw [Int.fdiv_eq_ediv_of_nonneg _ (by omega)]
  exact Int.mul_ediv_cancel_left _ (by omega)
theorem fd_neg {g : Nat} {x : Int} (hg : 0 < g) : ((g : Int) * x).fdiv (-(g : Int)) = -x := by
  rw [show (g : Int) * x = -(g : Int) * (-x) by rw [Int.neg_mul_neg]]
  exact Int.mul_fdiv_cancel_left _ (by omega)
theorem fr_lt (t : Int) {b : Int} (hb : b < 0) : t.fdiv (-(Int.gcd t b : Int)) = frT t b ∧ b.fdiv (-(Int.gcd t b : Int)) = frB t b := by
  obtain ⟨g, x, y, hg, eg, ht, hy, hy0, h1⟩ := fr_ex t (show b ≠ 0 by omega)
  rw [(fr_vals hg eg ht hy).1, (fr_vals hg eg ht hy).2, eg]
  have yn : y < 0 := by
    rw [hy] at hb
    exact Int.neg_of_mul_neg_right hb (by omega)
  constructor
  · conv => lhs; rw [ht]
    rw [fd_neg hg, Int.sign_eq_neg_one_of_neg yn]
    omega
  · conv => lhs; rw [hy]
    rw [fd_neg hg]
    omega
theorem fr_ge (t : Int) {b : Int} (hb : 0 < b) : t.fdiv (Int.gcd t b : Int) = frT t b ∧ b.fdiv (Int.gcd t b : Int) = frB t b := by
  obtain ⟨g, x, y, hg, eg, ht, hy, hy0, h1⟩ := fr_ex t (show b ≠ 0 by omega)
  rw [(fr_vals hg eg ht hy).1, (fr_vals hg eg ht hy).2, eg]
  have yn : 0 < y := by
    rw [hy] at hb
    exact Int.pos_of_mul_pos_right hb (by omega)
  constructor
  · conv => lhs; rw [ht]
    rw [fd_pos hg, Int.sign_eq_one_of_pos yn]
    omega
  · conv => lhs; rw [hy]
    rw [fd_pos hg]
    omega
/-! sizes -/
def S (n : Nat) (x : Int) : Prop := x.natAbs < 2 ^ n
theorem S.mono {n m : Nat} {x : Int} (h : S n x) (l : n ≤ m) : S m x := Nat.lt_of_lt_of_le h (Nat.pow_le_pow_right (by decide) l)
theorem S.mul {n m : Nat} {x y : Int} (h : S n x) (k : S m y) : S (n + m) (x * y) := by
  unfold S at *
  rw [Int.natAbs_mul, Nat.pow_add]
  exact Nat.mul_lt_mul'' h k
theorem S.add {n : Nat} {x y : Int} (h : S n x) (k : S n y) : S (n + 1) (x + y) := by
  unfold S at *
  rw [Nat.pow_succ]
  omega
theorem S.sub {n : Nat} {x y : Int} (h : S n x) (k : S n y) : S (n + 1) (x - y) := by
  unfold S at *
  rw [Nat.pow_succ]
  omega
theorem S.frT {n : Nat} {t b : Int} (h : S n t) (hb : b ≠ 0) : S n (frT t b) := Nat.lt_of_le_of_lt (fr_absT t hb) h
theorem S.frB {n : Nat} {t b : Int} (h : S n b) (hb : b ≠ 0) : S n (frB t b) := Nat.lt_of_le_of_lt (fr_absB t hb) h
theorem abs_eq (i : Int) : (if i < 0 then -i else i) = (i.natAbs : Int) := by
  split <;> omega
/-! the same rules with the written part by its name: for the inside of comprehensions -/
theorem pg_tupK {X : Cx} {K : PySem.W.Frag} {es : List Expr} {k n : Nat} {pos : Pos} {t : TGs} (h : X.K = K) (hc : X.calm = true) (hg : PGs X es t) (hn : (assignEach es X.env).length = n := by rfl) (hst : (assignEach es X.env).findIdx? (·.1) = none := by rfl) : PG X (.Tuple es k pos) (gTup K n t) := by
  subst h
  exact pg_tup hc hg hn hst
theorem isiK {X : Cx} {K : PySem.W.Frag} (h : X.K = K) : CallR X (.builtin "isinstance") (rIsi K) := by
  subst h
  exact call_isi
theorem ixlK {X : Cx} {K : PySem.W.Frag} (h : X.K = K) : IxR X (rIxL K) := by
  subst h
  exact ix_list
theorem ixtK {X : Cx} {K : PySem.W.Frag} (h : X.K = K) : IxR X (rIxT K) := by
  subst h
  exact ix_tup
theorem lenK {X : Cx} {K : PySem.W.Frag} (h : X.K = K) : CallR X (.builtin "len") (fun xs H Q => ∃ p ys, xs = [.ref p] ∧ (SqL K H p ys ∨ SqT K H p ys) ∧ Q (.int ys.length) H) := by
  subst h
  exact call_len_seq
theorem sumK {X : Cx} {K : PySem.W.Frag} (h : X.K = K) (hc : X.calm = true) : CallR X (.builtin "sum") (rSum K) := by
  subst h
  exact cr_sum hc
theorem yes_ite {σ : L2.St} {H : Hp} {A B : Hp → Prop} (h : A H) : tYes σ H (fun b H3 => if b = true then A H3 else B H3) := by
  show if true = true then A H else B H
  rw [if_pos rfl]
  exact h
/-! heaps -/
theorem same_upd {H : Hp} {p : Addr} {o : HO} (h : H p = none) : Same H (upd H p o) := fun b x e => by
  rw [upd_ne (ne_of_none e h)]
  exact e
def But (p : Addr) (H H' : Hp) : Prop := ∀ b o, b ≠ p → H b = some o → H' b = some o
theorem But.trans {p : Addr} {H H1 H2 : Hp} (a : But p H H1) (b : But p H1 H2) : But p H H2 := fun c o n e => b c o n (a c o n e)
theorem But.refl (p : Addr) (H : Hp) : But p H H := fun _ _ _ e => e
theorem But.put {p : Addr} {H H' : Hp} {o : HO} (a : But p H H') : But p H (L2.upd H' p o) := fun c x n e => by
  rw [upd_ne n]
  exact a c x n e
theorem same_but {p : Addr} {H H' : Hp} (a : Same H H') : But p H H' := fun c x _ e => a c x e
theorem But.new {p q : Addr} {H H' : Hp} {o : HO} (a : But p H H') (n : H' q = none) : But p H (upd H' q o) := fun c x hn e => by
  have e2 := a c x hn e
  rw [upd_ne (ne_of_none e2 n)]
  exact e2
/-- objects made since H may change: what H has stays -/
theorem same_newer {H H' : Hp} {q : Addr} {o : HO} (a : Same H H') (n : H q = none) : Same H (upd H' q o) := fun c x e => by
  rw [upd_ne (ne_of_none e n)]
  exact a c x e
theorem But.same {p : Addr} {H H1 H2 : Hp} (n : H p = none) (a : Same H H1) (b : But p H1 H2) : Same H H2 := fun c x e =>
  b c x (ne_of_none e n) (a c x e)
/-- the box: a rest, a begin, how often -/
def Bx (H : Hp) (p : Addr) (n : Nat) : Prop := ∃ a b c : Int, H p = some (.lst [.int a, .int b, .int c]) ∧ 0 ≤ a ∧ 0 ≤ b ∧ b < 2147483647 ∧ 0 ≤ c ∧ c ≤ n
theorem Bx.same {H H' : Hp} {p : Addr} {n : Nat} (h : Bx H p n) (s : Same H H') : Bx H' p n := by
  obtain ⟨a, b, c, hp, r⟩ := h
  exact ⟨a, b, c, s _ _ hp, r⟩
theorem Bx.mono {H : Hp} {p : Addr} {n m : Nat} (h : Bx H p n) (l : n ≤ m) : Bx H p m := by
  obtain ⟨a, b, c, hp, h1, h2, h3, h4, h5⟩ := h
  exact ⟨a, b, c, hp, h1, h2, h3, h4, by omega⟩
theorem Bx.new {H : Hp} {p q : Addr} {n : Nat} {o : HO} (h : Bx H p n) (nq : H q = none) : Bx (L2.upd H q o) p n := h.same (same_upd nq)
theorem Bx.ne_tup {H : Hp} {p q : Addr} {n : Nat} {xs : List V} (h : Bx H p n) (e : H q = some (.tup xs)) : q ≠ p := by
  obtain ⟨a, b, c, hp, _⟩ := h
  exact ne_of e hp (fun z => by cases z)
/-- an item of a menu of numbers -/
theorem at_menu {Pr : Int → Prop} {xs : List Int} {r : Int} (h0 : 0 ≤ r) (h1 : r < xs.length) (hx : ∀ x, x ∈ xs → Pr x) : ∃ v, atI (xs.map V.int) r = some (V.int v) ∧ Pr v := by
  obtain ⟨j, rfl⟩ := Int.eq_ofNat_of_zero_le h0
  have hj : j < xs.length := by omega
  refine ⟨xs[j], atI_nat (by rw [List.getElem?_map, List.getElem?_eq_getElem hj]; rfl), hx _ (List.getElem_mem hj)⟩
theorem SqL.mk {K : PySem.W.Frag} {H : Hp} {a : Addr} {xs : List V} (h : H a = some (.lst xs)) : SqL K H a xs := .inl (.inl h)
theorem SqT.mk {K : PySem.W.Frag} {H : Hp} {a : Addr} {xs : List V} (h : H a = some (.tup xs)) : SqT K H a xs := .inl (.inl h)
theorem same_tup {K : PySem.W.Frag} {H H' : Hp} {a : Addr} {xs : List V} (e : Same H H') (h : SqT K H a xs) : SqT K H' a xs := by
  rcases h with (h | ⟨o, h⟩) | h
  · exact .inl (.inl (e _ _ h))
  · exact .inl (.inr ⟨o, e _ _ h⟩)
  · exact .inr h
theorem ixn {n j : Nat} (hj : j < n) : ixN n (j : Int) = some j := by
  unfold ixN
  rw [if_pos (by omega), if_pos (by omega)]
  simp
theorem cdivP {a m : Int} (h0 : 0 < m) (h1 : m < 2 ^ 60) : CDivP a m := ⟨h0, PyProof.noPylong_of_log2 (wide_div (i := a) (b := 60) h0 (by omega) (by decide) (by decide)).2⟩
theorem i01 {c : Prop} [Decidable c] : -(2 ^ 64) < (if c then (1 : Int) else 0) ∧ (if c then (1 : Int) else 0) < 2 ^ 64 := by
  split <;> decide
theorem i01n {c : Prop} [Decidable c] : 0 ≤ (if c then (1 : Int) else 0) := by
  split <;> decide
theorem absn (i : Int) : 0 ≤ (if i < 0 then -i else i) := by
  split <;> omega
/-! the box of a cell -/
def sp__law_box (K : PySem.W.Frag) : Sp := fun vs H Q _ => ∃ (a : Addr) (ns : List Int) (k : Nat), vs = [.ref a, .int (k : Nat)] ∧ SqL K H a (ns.map V.int) ∧ k < 1000 ∧
  ∀ H' p, Same H H' → H p = none → Bx H' p 0 → Q (.ref p) H'
theorem ok__law_box (T : Defs K mg) (TT : Tabs T base) : FnOk P w K mg base CX0 1 T.f__law_box T.fd__law_box ["_law_script", "_law_k"] (sp__law_box K) := by
  refine T.F__law_box.ok sc__law_box (fun vs H Q E h => ?_) (fun cdv A outer s H vs Q E hr h => ?_)
  · obtain ⟨a, ns, k, rfl, hS, hk, q⟩ := h
    rfl
  · obtain ⟨a, ns, k, rfl, hS, hk, q⟩ := h
    refine ⟨_, PSs.nox (pss_cons (ps_set (i := 2) sc__law_box.nd rfl (.inl rfl) pe_int)
    (pss_cons (ps_if (pt_cmpR op_lt (pv 1) (pe_callB call_len_seq (by rfl) T.m_len bt_len (pa_cons (pv 0) pa_nil)) (nomark _)) (pss_one (ps_set (i := 2) sc__law_box.nd rfl (.inl rfl) (pe_ix ix_list (pv 0) (pv 1) (fun _ _ => rfl)))) pss_nil)
    (pss_one (ps_ret (pe_lst (pa_cons (pe_op op_mul (pe_callB call_abs (by rfl) T.m_abs bt_abs (pa_cons (pv 2) pa_nil)) (pe_callTy call_int1 (by rfl) T.m_int bt_int (pa_cons (pe_cmpR op_ge (pe_callB call_abs (by rfl) T.m_abs bt_abs (pa_cons (pv 2) pa_nil)) (pe_op op_pow pe_int pe_int) (nomark _)) pa_nil))) (pa_cons (pe_op op_mod (pe_op op_add (pv 2) (pe_op op_mul (pe_op op_mul pe_int (pv 1)) (pv 1))) pe_int) (pa_cons pe_int pa_nil)))))))), ?_⟩
    refine ⟨.int k, rfl, .ref a, rfl, a, _, rfl, .inl hS, _, _, rfl, rfl, _, rfl, ite2 (fun e => ?_) (fun e => ?_)⟩
    · have hl : (k : Int) < ((ns.map V.int).length : Nat) := of_decide_eq_true e
      rw [List.length_map] at hl
      have hj : k < ns.length := by omega
      refine ⟨.ref a, rfl, .int k, rfl, a, _, _, .int ns[k], rfl, rfl, hS, atI_nat (by rw [List.getElem?_map, List.getElem?_eq_getElem hj]; rfl), ?_⟩
      refine ⟨_, rfl, _, rfl, _, rfl, _, rfl, _, _, rfl, rfl, ⟨by decide, by decide, by decide⟩, _, _, rfl, rfl, .inr ⟨_, rfl, _, _, rfl, rfl, .inr i01, _, rfl, .int k, rfl, _, _, rfl, rfl, .inl ⟨by decide, by decide⟩, .int k, rfl, _, _, rfl, rfl, .inr ⟨by omega, by omega⟩, _, _, rfl, rfl, _, _, rfl, rfl, (show (0 : Int) < 2147483647 by decide), (show 3 ≤ sizeLine by decide), fun p np => ?_⟩⟩
      refine q _ p (same_upd np) np ⟨_, _, _, upd_same, ?_, Int.emod_nonneg _ (by decide), Int.emod_lt_of_pos _ (by decide), Int.le_refl 0, Int.le_refl 0⟩
      exact Int.mul_nonneg (absn _) i01n
    · refine ⟨_, rfl, _, rfl, _, rfl, _, rfl, _, _, rfl, rfl, ⟨by decide, by decide, by decide⟩, _, _, rfl, rfl, .inr ⟨_, rfl, _, _, rfl, rfl, .inr i01, _, rfl, .int k, rfl, _, _, rfl, rfl, .inl ⟨by decide, by decide⟩, .int k, rfl, _, _, rfl, rfl, .inr ⟨by omega, by omega⟩, _, _, rfl, rfl, _, _, rfl, rfl, (show (0 : Int) < 2147483647 by decide), (show 3 ≤ sizeLine by decide), fun p np => ?_⟩⟩
      refine q _ p (same_upd np) np ⟨_, _, _, upd_same, ?_, Int.emod_nonneg _ (by decide), Int.emod_lt_of_pos _ (by decide), Int.le_refl 0, Int.le_refl 0⟩
      exact Int.mul_nonneg (absn _) i01n
/-! one number taken -/
def sp__law_take (K : PySem.W.Frag) : Sp := fun vs H Q _ => ∃ (p : Addr) (m : Int) (n : Nat), vs = [.ref p, .int m] ∧ Bx H p n ∧ 0 < m ∧ m < 2 ^ 60 ∧ n < 1000000000000 ∧
  ∀ H' r, But p H H' → Bx H' p (n + 1) → 0 ≤ r → r < m → Q (.int r) H'
theorem ok__law_take (T : Defs K mg) (TT : Tabs T base) : FnOk P w K mg base CX0 1 T.f__law_take T.fd__law_take ["_law_box_here", "_law_many"] (sp__law_take K) := by
  refine T.F__law_take.ok sc__law_take (fun vs H Q E h => ?_) (fun cdv A outer s H vs Q E hr h => ?_)
  · obtain ⟨p, m, n, rfl, ⟨a, b, c, hp, ha, hb, hb2, hc, hc2⟩, h0, h1, hn, q⟩ := h
    rfl
  · obtain ⟨p, m, n, rfl, ⟨a, b, c, hp, ha, hb, hb2, hc, hc2⟩, h0, h1, hn, q⟩ := h
    refine ⟨_, PSs.nox (pss_cons (ps_if (pt_cmpR op_gt (pe_ix ix_list (pv 0) pe_int (fun _ _ => rfl)) pe_int (nomark _)) (pss_cons (ps_asg (pe_callB call_divmodW (by rfl) T.m_divmod bt_divmod (pa_cons (pe_ix ix_list (pv 0) pe_int (fun _ _ => rfl)) (pa_cons (pv 1) pa_nil))) (pg_tup rfl (pgs_cons (pg_sub (pv 0) pe_int set_list) (pgs_cons (pg_name (i := 2) sc__law_take.nd rfl (.inl rfl)) pgs_nil))))
    (pss_one (ps_ret (pv 2)))) pss_nil)
    (pss_cons (ps_asg (pe_op op_add (pe_ix ix_list (pv 0) pe_int (fun _ _ => rfl)) pe_int) (pg_sub (pv 0) pe_int set_list))
    (pss_cons (ps_set (i := 3) sc__law_take.nd rfl (.inl rfl) (pe_op op_mod (pe_op op_pow (pe_op op_add (pe_ix ix_list (pv 0) pe_int (fun _ _ => rfl)) (pe_op op_mul pe_int (pe_ix ix_list (pv 0) pe_int (fun _ _ => rfl)))) pe_int) pe_int))
    (pss_one (ps_ret (pe_op op_mod (pe_op op_fdiv (pe_op op_mod (pe_op op_add (pe_op op_mul (pv 3) pe_int) (pe_op op_mul (pe_op op_mul (pe_ix ix_list (pv 0) pe_int (fun _ _ => rfl)) (pe_ix ix_list (pv 0) pe_int (fun _ _ => rfl))) pe_int)) pe_int) pe_int) (pv 1))))))), ?_⟩
    have SQ : SqL K H p [.int a, .int b, .int c] := SqL.mk hp
    refine ⟨.ref p, rfl, p, _, 0, _, rfl, rfl, SQ, atI_nat (j := 0) rfl, _, _, rfl, rfl, _, rfl, ite2 (fun e => ?_) (fun e => ?_)⟩
    · refine ⟨.ref p, rfl, p, _, 0, _, rfl, rfl, SQ, atI_nat (j := 0) rfl, .int m, rfl, a, m, rfl, cdivP h0 h1, fun t nt => ?_⟩
      have hp1 : (upd H t (.tup [.int (a / m), .int (a % m)])) p = some (.lst [.int a, .int b, .int c]) := by
        rw [upd_ne (ne_of_none hp nt)]
        exact hp
      refine ⟨t, _, rfl, SqT.mk upd_same, rfl, _, _, rfl, .ref p, rfl, p, _, 0, 0, rfl, rfl, hp1, rfl, _, _, rfl, rfl, _, rfl, ?_⟩
      refine q _ _ ((But.refl p H).new nt).put ⟨_, _, _, upd_same, Int.ediv_nonneg ha (by omega), hb, hb2, hc, by omega⟩ (Int.emod_nonneg _ (by omega)) (Int.emod_lt_of_pos _ h0)
    · refine ⟨.ref p, rfl, p, _, 2, _, rfl, rfl, SQ, atI_nat (j := 2) rfl, _, _, rfl, rfl, .ref p, rfl, p, _, 2, 2, rfl, rfl, hp, rfl, ?_⟩
      have SQ1 : SqL K (upd H p (.lst [.int a, .int b, .int (c + 1)])) p [.int a, .int b, .int (c + 1)] := SqL.mk upd_same
      refine ⟨.ref p, rfl, p, _, 1, _, rfl, rfl, SQ1, atI_nat (j := 1) rfl, .ref p, rfl, p, _, 2, _, rfl, rfl, SQ1, atI_nat (j := 2) rfl, _, _, rfl, rfl, .inl ⟨by decide, by decide⟩, _, _, rfl, rfl, _, _, rfl, rfl, ⟨by decide, by decide, by omega⟩, _, _, rfl, rfl, (show (0 : Int) < 2147483647 by decide), ?_⟩
      refine ⟨_, rfl, _, _, rfl, rfl, .inr ⟨by decide, by decide⟩, .ref p, rfl, p, _, 2, _, rfl, rfl, SQ1, atI_nat (j := 2) rfl, .ref p, rfl, p, _, 2, _, rfl, rfl, SQ1, atI_nat (j := 2) rfl, _, _, rfl, rfl, .inl ⟨by omega, by omega⟩, _, _, rfl, rfl, .inr ⟨by decide, by decide⟩, _, _, rfl, rfl, _, _, rfl, rfl, (show (0 : Int) < 2147483629 by decide), _, _, rfl, rfl, ⟨by decide, by decide⟩, .int m, rfl, _, _, rfl, rfl, h0, ?_⟩
      refine q _ _ (But.refl p H).put ⟨_, _, _, upd_same, ha, hb, hb2, by omega, by omega⟩ (Int.emod_nonneg _ (by omega)) (Int.emod_lt_of_pos _ h0)
/-! the folded cells -/
theorem cut_take (ns : List Int) (m : Nat) : cutV (ns.map V.int) none (some (m : Int)) = (ns.take m).map V.int := by
  unfold cutV
  rw [HT.sIx_none, HT.sIx_nat, List.drop_zero, List.length_map, Nat.sub_zero, ← List.map_take]
  congr 1
  by_cases h : m ≤ ns.length
  · rw [Nat.min_eq_left h]
  · rw [Nat.min_eq_right (by omega), List.take_length, List.take_of_length_le (by omega)]
theorem cut_rest (ns : List Int) (m k : Nat) : ∃ ms : List Int, cutV (ns.map V.int) (some (m : Int)) (some (k : Int)) = ms.map V.int ∧ (0 < ms.length → m < ns.length) ∧ ms.length ≤ ns.length := by
  unfold cutV
  rw [HT.sIx_nat, HT.sIx_nat, List.length_map]
  refine ⟨(ns.drop (min m ns.length)).take (min k ns.length - min m ns.length), ?_, fun h => ?_, ?_⟩
  · rw [List.map_take, List.map_drop]
  · rw [List.length_take, List.length_drop] at h
    omega
  · rw [List.length_take, List.length_drop]
    omega
def sp__law_folded (K : PySem.W.Frag) : Sp := fun vs H Q _ => ∃ (a : Addr) (ns : List Int) (m : Nat), vs = [.ref a, .int (m : Nat)] ∧ SqL K H a (ns.map V.int) ∧ ns.length ≤ 63 ∧ 0 < m ∧ m < 64 ∧
  ∀ H' p (cs : List Int), Same H H' → H p = none → H' p = some (.lst (cs.map V.int)) → cs.length ≤ m → Q (.ref p) H'
theorem ok__law_folded (T : Defs K mg) (TT : Tabs T base) : FnOk P w K mg base CX0 1 T.f__law_folded T.fd__law_folded ["_law_script", "_law_many"] (sp__law_folded K) := by
  refine T.F__law_folded.ok sc__law_folded (fun vs H Q E h => ?_) (fun cdv A outer s H vs Q E hr h => ?_)
  · obtain ⟨a, ns, m, rfl, hS, hlen, hm, hm2, q⟩ := h
    rfl
  · obtain ⟨a, ns, m, rfl, hS, hlen, hm, hm2, q⟩ := h
    refine ⟨_, PSs.nox (pss_cons (ps_set (i := 2) sc__law_folded.nd rfl (.inl rfl) (pe_callTy call_list_of (by rfl) T.m_list bt_list (pa_cons (pe_slice sl_list (pv 0) po_none (po_some (pv 1))) pa_nil)))
    (pss_cons (ps_for PassesOwn.never rfl (pi_enum (by rfl) T.m_enumerate (pa_cons (pe_slice sl_list (pv 0) (po_some (pv 1)) (po_some pe_int)) pa_nil)) (pg_tup rfl (pgs_cons (pg_name (i := 3) sc__law_folded.nd rfl (.inl rfl)) (pgs_cons (pg_name (i := 4) sc__law_folded.nd rfl (.inl rfl)) pgs_nil))) (pss_one (ps_asg (pe_op op_add (pe_ix ix_list (pv 2) (pe_op op_mod (pv 3) (pv 1)) (fun _ _ => rfl)) (pe_op op_mul (pv 4) (pe_op op_add (pv 3) pe_int))) (pg_sub (pv 2) (pe_op op_mod (pv 3) (pv 1)) set_list))))
    (pss_one (ps_ret (pv 2))))), ?_⟩
    refine ⟨.ref a, rfl, .int m, rfl, m, rfl, a, _, rfl, hS, fun c nc => ?_⟩
    rw [cut_take]
    have s1 : Same H (upd H c (.lst ((ns.take m).map V.int))) := same_upd nc
    refine ⟨c, _, rfl, .inl (SqL.mk upd_same), fun l nl => ?_⟩
    have s2 := s1.trans (same_upd nl (o := .lst ((ns.take m).map V.int)))
    refine ⟨.ref a, rfl, .int m, rfl, m, rfl, 63, rfl, a, _, rfl, s2.seq hS, fun d nd => ?_⟩
    obtain ⟨ms, em, hms, hms2⟩ := cut_rest ns m 63
    rw [show (63 : Int) = ((63 : Nat) : Int) from rfl, em]
    have nl0 : H l = none := s1.free nl
    have nd0 : H d = none := s2.free nd
    have ndl : l ≠ d := fun e => by
      rw [← e, upd_same] at nd
      cases nd
    refine ⟨d, _, rfl, SqL.mk upd_same, for_it (walk_enum (xs := ms.map V.int)) (fun i σ H3 => ∃ y3 y4, ∃ cs : List Int, σ = [some (.ref a), some (.int m), some (.ref l), y3, y4] ∧ Same H H3 ∧ H3 l = some (.lst (cs.map V.int)) ∧ cs.length = (ns.take m).length ∧ H3 d = some (.lst (ms.map V.int))) ⟨none, none, ns.take m, rfl, s2.trans (same_upd nd), ?_, rfl, upd_same⟩ ?_ ?_ ?_⟩
    · rw [upd_ne ndl, upd_same]
    · rintro i σ H3 hi ⟨y3, y4, cs, rfl, s3, hl, hc, hd⟩
      exact SqL.mk hd
    · rintro i x σ H3 H4 hi ⟨y3, y4, cs, rfl, s3, hl, hc, hd⟩ ⟨t, x1, x2, rfl, nt, rfl, e1, e2⟩
      rw [List.length_map] at hi
      have lm : m < ns.length := hms (by omega)
      have lc : cs.length = m := by
        rw [hc, List.length_take]
        omega
      have ex1 : x1 = .int (i : Nat) := (Option.some.inj e1).symm
      have ex2 : x2 = .int ms[i] := by
        have e2 : (ms.map V.int)[i]? = some x2 := e2
        rw [List.getElem?_map, List.getElem?_eq_getElem hi] at e2
        exact (Option.some.inj e2).symm
      subst ex1 ex2
      have hl1 : (upd H3 t (.tup [.int (i : Nat), .int ms[i]])) l = some (.lst (cs.map V.int)) := by
        rw [upd_ne (ne_of_none hl nt)]
        exact hl
      have him : i % m < cs.length := by
        rw [lc]
        exact Nat.mod_lt _ hm
      have eim : ((i : Int) % (m : Int)) = ((i % m : Nat) : Int) := by omega
      refine ⟨t, _, rfl, SqT.mk upd_same, rfl, _, _, rfl, _, _, rfl, rfl, ?_⟩
      refine ⟨.ref l, rfl, .int (i : Nat), rfl, .int m, rfl, _, _, rfl, rfl, (show (0 : Int) < (m : Int) by omega), l, _, _, .int cs[i % m], rfl, rfl, SqL.mk hl1, ?_, .int ms[i], rfl, .int (i : Nat), rfl, _, _, rfl, rfl, _, _, rfl, rfl, .inr ⟨by omega, by omega⟩, _, _, rfl, rfl, .ref l, rfl, .int (i : Nat), rfl, .int m, rfl, _, _, rfl, rfl, (show (0 : Int) < (m : Int) by omega), l, _, _, i % m, rfl, rfl, hl1, ?_, ?_⟩
      · rw [eim]
        exact atI_nat (by rw [List.getElem?_map, List.getElem?_eq_getElem him]; rfl)
      · rw [eim]
        exact ixn (by rw [List.length_map]; exact him)
      · refine ⟨_, _, cs.set (i % m) (cs[i % m] + ms[i] * ((i : Int) + 2)), rfl, same_newer (s3.trans (same_upd nt)) nl0, ?_, by rw [List.length_set, hc], ?_⟩
        · rw [upd_same, List.map_set]
        · rw [upd_ne ndl.symm, upd_ne (ne_of_none hd nt)]
          exact hd
    · rintro σ H3 ⟨y3, y4, cs, rfl, s3, hl, hc, hd⟩
      exact ⟨.ref l, rfl, q H3 l cs s3 nl0 hl (by rw [hc, List.length_take]; omega)⟩
/-! the program's own -/
theorem op_fdivNW {X : Cx} : OpR X (binaryOp .FloorDiv) (rI (fun _ j => j ≠ 0 ∧ j.natAbs.log2 < 9000) fun i j => .int (i.fdiv j)) := opI fun _ _ _ _ _ _ _ hc q => floordiv_int hc.1 q (.inl (PyProof.noPylong_of_log2 hc.2))
theorem gcd_step (x y : Nat) : Nat.gcd y (x % y) = Nat.gcd x y := by
  rw [Nat.gcd_comm y, ← Nat.gcd_rec, Nat.gcd_comm]
theorem gcd_small {t b : Int} (hb : b ≠ 0) (h : S 4000 b) : (Int.gcd t b : Int).natAbs.log2 < 9000 := by
  have h1 : Int.gcd t b ≤ b.natAbs := Nat.le_of_dvd (by omega) (Nat.gcd_dvd_right _ _)
  have h2 : 0 < Int.gcd t b := Int.gcd_pos_of_ne_zero_right t hb
  exact (wide_div (i := 0) (j := (Int.gcd t b : Int)) (b := 4000) (by omega) (by rw [Int.natAbs_natCast]; exact Nat.lt_of_le_of_lt h1 h) (by decide) (by decide)).2
def sp_common_divisor (_ : PySem.W.Frag) : Sp := fun vs H Q _ => ∃ a b : Int, vs = [.int a, .int b] ∧ Q (.int (if (1 : Int) > (Int.gcd a b : Int) then 1 else (Int.gcd a b : Int))) H
/-! match x: case (word, names ..) -/
abbrev TCs := Addr → List V → TS
structure PCs (X : Cx) (cs : List MatchCase) (t : TCs) : Prop where
  run : ∀ (pins : List (Addr × Obj)) (s : Shared) (σ : L2.St) (H : Hp) (D : L2.Ends) (a : Addr) (xs : List V) (first : Bool), Inv X pins σ H s → SqT X.K H a xs → t a xs D σ H →
    wpAny (model X.prog X.w) X.A (matchCases cs X.env (.ref a) first) (SP X pins D) X.xe s
def tMatch (K : PySem.W.Frag) (te : TE) (tc : TCs) : TS := fun D σ H => te σ H fun v H1 => ∃ a xs, v = .ref a ∧ SqT K H1 a xs ∧ tc a xs D σ H1
theorem ps_match {X : Cx} {e : Expr} {cs : List MatchCase} {pos : Pos} {te : TE} {tc : TCs} (he : PE X e te) (hc : PCs X cs tc) : PS X (.Match e cs pos) (tMatch X.K te tc) := by
  refine ⟨fun pins s σ H D I h => ?_⟩
  refine wpAny_Match (thn (he.run pins s σ H _ I h) fun v s1 ⟨x, H1, I1, r1, a, xs, e1, hq, q⟩ => ?_)
  subst e1
  cases r1
  exact hc.run pins s1 σ H1 D a xs true I1 hq q
theorem pcs_nil {X : Cx} : PCs X [] (fun _ _ D σ H => D.nx σ H) := ⟨fun _ _ σ H _ _ _ _ I _ h => wpAny_matchCases_nil ⟨σ, H, I, h⟩⟩
theorem pcs_any {X : Cx} {body : List Stmt} {rest : List MatchCase} {pos : Pos} {tb : TS} (hb : PSs X body tb) : PCs X (⟨.MatchAs none none pos, none, body⟩ :: rest) (fun _ _ => tb) := by
  refine ⟨fun pins s σ H D a xs first I hq h => wpAny_matchCases_cons (wpAny_matchPattern_Capture ?_)⟩
  exact wpAny_assignInOrder_none (hb.run pins s σ H D I h)
/-- the slots i .. get the values .. in turn -/
def sets (σ : L2.St) : List Nat → List V → L2.St
  | i :: is, v :: vs => sets (σ.set i (some v)) is vs
  | _, _ => σ
structure PCap (X : Cx) (ps : List Pattern) (ns : List (Nat × Str)) : Prop where
  each : ∀ (s : Shared) (us : List Value) (Q : Option (List (Str × Value)) → Shared → Prop), us.length = ns.length → Q (some (List.zipWith (fun n u => (n.2, u)) ns us)) s → wpAny (model X.prog X.w) X.A (matchEach ps X.env us) Q X.xe s
  slot : ∀ n, n ∈ ns → X.N[n.1]? = some n.2 ∧ Loc X.env.scope n.2 ∧ (X.fn n.2 = true ∨ X.env.scope.names.lookup n.2 = some .local)
  len : ps.length = ns.length
theorem pcap_nil {X : Cx} : PCap X [] [] := ⟨fun s us Q hl h => wpAny_matchEach_nil (by
  rw [show us = [] from List.eq_nil_of_length_eq_zero hl] at h
  exact h), fun n hn => (by cases hn), rfl⟩
theorem pcap_cons {X : Cx} {i : Nat} {x : Str} {pos : Pos} {ps : List Pattern} {ns : List (Nat × Str)} (hi : X.N[i]? = some x) (hx : Loc X.env.scope x) (h : PCap X ps ns) (hf : X.fn x = true ∨ X.env.scope.names.lookup x = some .local := by first | exact .inl rfl | exact .inr rfl | assumption) :
    PCap X (.MatchAs none (some x) pos :: ps) ((i, x) :: ns) := by
  refine ⟨fun s us Q hl hQ => ?_, fun n hn => ?_, ?_⟩
  · match us, hl with
    | u :: us, hl =>
      refine wpAny_matchEach_cons (wpAny_matchPattern_Capture ?_)
      refine h.each s us _ (Nat.succ.inj hl) ?_
      exact hQ
  · rcases List.mem_cons.mp hn with rfl | hn
    · exact ⟨hi, hx, hf⟩
    · exact h.slot n hn
  · rw [List.length_cons, List.length_cons, h.len]
theorem bind_all {X : Cx} {pins : List (Addr × Obj)} {H : Hp} (hN : X.N.Nodup) : ∀ (ns : List (Nat × Str)) (us : List Value) (vs : List V) (σ : L2.St) (s : Shared) (Q : Unit → Shared → Prop),
    (∀ n, n ∈ ns → X.N[n.1]? = some n.2 ∧ Loc X.env.scope n.2 ∧ (X.fn n.2 = true ∨ X.env.scope.names.lookup n.2 = some .local)) → us.length = ns.length → Vals vs us → Inv X pins σ H s → (∀ s', Inv X pins (sets σ (ns.map Prod.fst) vs) H s' → Q () s') →
    wpAny (model X.prog X.w) X.A (assignInOrder ((List.zipWith (fun (n : Nat × Str) u => (n.2, u)) ns us).map fun (n, _) => bindName X.env n) ((List.zipWith (fun (n : Nat × Str) u => (n.2, u)) ns us).map (·.2))) Q X.xe s
  | [], us, vs, σ, s, Q, _, hl, r, I, q => by
    have e : us = [] := List.eq_nil_of_length_eq_zero hl
    subst e
    cases r
    exact wpAny_assignInOrder_none (q s I)
  | n :: ns, us, vs, σ, s, Q, hs, hl, r, I, q => by
    match us, vs, hl, r with
    | u :: us, v :: vs, hl, .cons r1 r2 =>
      obtain ⟨h1, h2, h3⟩ := hs n List.mem_cons_self
      refine wpAny_assignInOrder_more (wpAny_bindName (store_ok I hN h1 h2 r1 (fun s1 I1 => ?_) h3))
      exact bind_all hN ns us vs _ s1 Q (fun m hm => hs m (List.mem_cons_of_mem _ hm)) (Nat.succ.inj hl) r2 I1 q
def tCase (word : Str) (is : List Nat) (tb : TS) (rest : TCs) : TCs := fun a xs D σ H =>
  (xs.length ≠ is.length + 1 ∧ rest a xs D σ H) ∨ ∃ z ys, xs = .str z :: ys ∧ ys.length = is.length ∧ ((z = word ∧ tb D (sets σ is ys) H) ∨ (z ≠ word ∧ rest a xs D σ H))
theorem pcs_seq {X : Cx} {e : Expr} {word : Str} {vp sp : Pos} {ps : List Pattern} {ns : List (Nat × Str)} {body : List Stmt} {rest : List MatchCase} {tb : TS} {tr : TCs} (hc : X.calm = true) (hN : X.N.Nodup) (hw : PE X e (tC (.str word))) (hcap : PCap X ps ns) (hb : PSs X body tb) (hr : PCs X rest tr)
    (hstar : (.MatchValue e vp :: ps).findIdx? (·.isStar) = none := by rfl) (hwild : ((.MatchValue e vp :: ps).all fun p => p.isWildcard || (p.isStar && p.names.isEmpty)) = false := by rfl) :
    PCs X (⟨.MatchSequence (.MatchValue e vp :: ps) sp, none, body⟩ :: rest) (tCase word (ns.map Prod.fst) tb tr) := by
  refine ⟨fun pins s σ H D a xs first I hq h => ?_⟩
  obtain ⟨its, rv, ht, hz⟩ := I.tuple hq
  have hl := rv.length
  have hsl : sizeLine = 16777216 := by decide
  have hfit : ((its.toArray.size : Nat) : Int) < 2 ^ 63 := by
    rw [List.size_toArray]
    omega
  have lp := hcap.len
  have miss : ∀ s', Inv X pins σ H s' → tr a xs D σ H → wpAny (model X.prog X.w) X.A (matchCases rest X.env (.ref a) false) (SP X pins D) X.xe s' := fun s' I' q => hr.run pins s' σ H D a xs false I' hq q
  refine wpAny_matchCases_cons ?_
  rcases h with ⟨hn, h⟩ | ⟨z, ys, rfl, hn, h⟩
  · rw [List.length_map] at hn
    refine matchSeq_tuple_miss ht hfit (by rw [List.size_toArray, List.length_cons]; omega) ?_ hstar hwild
    exact miss _ (I.kept (t' := s.toks + 1 + 1) fun b o q => q) h
  · rw [List.length_map] at hn
    rw [List.length_cons] at hl
    refine matchSeq_tuple_hit ht hfit (by rw [List.size_toArray, List.length_cons]; omega) ?_ hstar hwild
    have e1 : (Pattern.MatchValue e vp :: ps).length = its.toArray.size := by
      rw [List.size_toArray, List.length_cons]
      omega
    have key : ∀ s2 : Shared, Inv X pins σ H s2 → wpAny (model X.prog X.w) X.A (matchEach (.MatchValue e vp :: ps) X.env its) (fun r s₁ => match r with
        | none => wpAny (model X.prog X.w) X.A (matchCases rest X.env (.ref a) false) (SP X pins D) X.xe s₁
        | some bs => wpAny (model X.prog X.w) X.A (assignInOrder (bs.map fun (n, _) => bindName X.env n) (bs.map (·.2))) (fun _ s₂ => wpAny (model X.prog X.w) X.A (execs body X.env) (SP X pins D) X.xe s₂) X.xe s₁) X.xe s2 := fun s2 I1 => by
      clear e1 hfit hz ht
      match its, rv, hl with
      | u :: us, .cons r1 r2, hl =>
        refine wpAny_matchEach_cons (wpAny_matchPattern_Value ?_)
        refine thn (hw.run pins s2 σ H (fun v H' => v = .str word ∧ H' = H) I1 ⟨rfl, rfl⟩) fun c s3 ⟨x, H3, I3, r3, e3, e4⟩ => ?_
        subst e3 e4
        refine thn (op_eq pins s3 σ H3 (.str z) (.str word) u c (fun v H' => v = .bl (decide (V.str z = V.str word)) ∧ H' = H3) I3 r1 r3 ⟨rfl, rfl, rfl⟩) fun d s4 ⟨y, H4, I4, r4, e5, e6⟩ => ?_
        subst e5 e6
        obtain rfl : d = Value.bool (decide (V.str z = V.str word)) := r4
        refine wpAny_truthy_bool ?_
        rcases h with ⟨rfl, h⟩ | ⟨ne, h⟩
        · rw [if_pos (decide_eq_true rfl)]
          have ul : us.length = ns.length := by
            have := r2.length
            omega
          refine hcap.each s4 us _ ul ?_
          show wpAny _ _ (assignInOrder _ _) _ _ s4
          exact bind_all hN ns us ys σ s4 _ hcap.slot ul r2 I4 fun s5 I5 => hb.run pins s5 _ H4 D I5 h
        · rw [if_neg (fun y => ne (V.str.inj (of_decide_eq_true y)))]
          exact miss s4 I4 h
    rw [e1]
    refine unpackItems_tuple (I.ok.hd hc) ht fun h' hx => ?_
    have I1 : Inv X pins σ H { s with heap := h', toks := s.toks + 1 + 1 } := I.kept (t' := s.toks + 1 + 1) fun b o q => hx b o (Nat.ne_of_lt (Heap.lt_size q)) q
    refine key _ ?_
    exact I1
/-! max(tuple), max(tuple, default=d) -/
def rMaxT (K : PySem.W.Frag) : List V → Hp → VK → Prop := fun vs H Q => ∃ (a : Addr) (ns : List Int), vs = [V.ref a] ∧ SqT K H a (ns.map V.int) ∧ 0 < ns.length ∧ ∀ m, m ∈ ns → (∀ y, y ∈ ns → y ≤ m) → Q (.int m) H
theorem best_in {ns : List Int} (h : 0 < ns.length) : ns.getD (argBest (fun i j => decide (ns.getD i 0 > ns.getD j 0)) (ns.length - 1)) 0 ∈ ns ∧ ∀ y, y ∈ ns → y ≤ ns.getD (argBest (fun i j => decide (ns.getD i 0 > ns.getD j 0)) (ns.length - 1)) 0 := by
  obtain ⟨h1, h2⟩ := argBest_gt (fun i => ns.getD i 0) (ns.length - 1)
  refine ⟨?_, fun y hy => ?_⟩
  · generalize argBest (fun i j => decide (ns.getD i 0 > ns.getD j 0)) (ns.length - 1) = k at h1
    have hk : k < ns.length := by omega
    rw [List.getD_eq_getElem?_getD, List.getElem?_eq_getElem hk]
    exact List.getElem_mem hk
  · obtain ⟨j, hj, rfl⟩ := List.getElem_of_mem hy
    have := h2 j (by omega)
    have e : ns.getD j 0 = ns[j] := by
      rw [List.getD_eq_getElem?_getD, List.getElem?_eq_getElem hj]
      rfl
    rw [← e]
    exact this
theorem ints_at {its : List Value} {ns : List Int} (rv : Vals (ns.map V.int) its) : ∀ (i : Nat) (v : Value), its.toArray[i]? = some v → ∃ t, v = Value.int (ns.getD i 0) t := fun i v hv => by
  have hv2 : its[i]? = some v := by simpa using hv
  have hl := rv.length
  rw [List.length_map] at hl
  have hi : i < ns.length := by
    have := (List.getElem?_eq_some_iff.mp hv2).1
    omega
  obtain ⟨u, hu, ru⟩ := rv.get (show (ns.map V.int)[i]? = some (V.int ns[i]) by rw [List.getElem?_map, List.getElem?_eq_getElem hi]; rfl)
  rw [hv2] at hu
  cases hu
  obtain ⟨t, rfl⟩ := (show ∃ t, v = Value.int ns[i] t from ru)
  exact ⟨t, by
    show Value.int ns[i] t = Value.int (ns.getD i 0) t
    rw [List.getD_eq_getElem?_getD, List.getElem?_eq_getElem hi]
    rfl⟩
theorem cr_maxT {X : Cx} (hc : X.calm = true) : CallR X (.builtin "max") (rMaxT X.K) := by
  intro pins s σ H vs us Q I r h
  obtain ⟨a, ns, rfl, hs, hne, q⟩ := h
  obtain ⟨its, rv, ht, _⟩ := I.tuple hs
  rw [Vals.ref1 r]
  have hh := I.ok.hd hc
  have lta : a < s.heap.objs.size := by
    obtain ⟨o, ho, _⟩ := id ht
    exact Heap.lt_size ho
  have hl := rv.length
  rw [List.length_map] at hl
  have hz : its.toArray.size = ns.length := by rw [List.size_toArray, hl]
  refine call_max_walk (wpAny_pyIter_tuple (show s.heap.IsTuple a its.toArray from ht) ⟨s.heap.objs.size, _, _, _, _, _, fun i j => decide (ns.getD i 0 > ns.getD j 0), rfl, Walks.tuple (A := X.A.in1) hh s.heap.objs.size a (Nat.ne_of_lt lta) its.toArray, ⟨⟨_, Heap.get?_push_size _ rfl, rfl, rfl⟩, (show s.heap.IsTuple a its.toArray from ht).at fun o e => Heap.get?_push_of_some _ e⟩, fun b hb => ?_, by rw [hz]; exact hne, CmpOf.ints_gt (fun i => ns.getD i 0) (ints_at rv), fun v h' tk hP hk => ?_⟩)
  · show b < (s.heap.push _).objs.size
    rw [Heap.size_push]
    rcases List.mem_cons.mp hb with z | z
    · rw [z]
      exact Nat.lt_succ_self _
    · rw [List.mem_singleton.mp z]
      exact Nat.lt_succ_of_lt lta
  · obtain ⟨t, rfl⟩ := ints_at rv _ _ hP
    rw [hz]
    obtain ⟨b1, b2⟩ := best_in hne
    refine ⟨.int _, H, I.kept fun b o e => hk b o (fun z => ?_) (Heap.get?_push_of_some _ e), ⟨_, rfl⟩, q _ b1 b2⟩
    rw [List.mem_singleton] at z
    rw [z] at e
    exact Nat.lt_irrefl _ (Heap.lt_size e)
theorem cr_maxTD {X : Cx} (hc : X.calm = true) : CallRK X (.builtin "max") [Str.ofString "default"] (fun vs zs H Q => (∃ z, zs = [z]) ∧ rMaxT X.K vs H Q) := by
  intro pins s σ H vs zs us ws Q I r rz h
  obtain ⟨⟨z, rfl⟩, a, ns, rfl, hs, hne, q⟩ := h
  obtain ⟨its, rv, ht, _⟩ := I.tuple hs
  rw [Vals.ref1 r]
  match ws, rz with
  | [d], .cons rd .nil =>
    have hh := I.ok.hd hc
    have lta : a < s.heap.objs.size := by
      obtain ⟨o, ho, _⟩ := id ht
      exact Heap.lt_size ho
    have hl := rv.length
    rw [List.length_map] at hl
    have hz : its.toArray.size = ns.length := by rw [List.size_toArray, hl]
    have none : ∀ (b : Addr) (o : Obj), ({ s.heap with objs := #[] } : Heap).get? b = some o → False := fun b o e => by
      have := Heap.lt_size e
      exact Nat.not_lt_zero _ this
    refine call_max_walkD (wpAny_pyIter_tuple (show s.heap.IsTuple a its.toArray from ht) ⟨s.heap.objs.size, _, _, _, _, _, _, { s.heap with objs := #[] }, fun i j => decide (ns.getD i 0 > ns.getD j 0), rfl, (Walks.tuple (A := X.A.in1) hh s.heap.objs.size a (Nat.ne_of_lt lta) its.toArray).toS, ⟨⟨_, Heap.get?_push_size _ rfl, rfl, rfl⟩, (show s.heap.IsTuple a its.toArray from ht).at fun o e => Heap.get?_push_of_some _ e⟩, fun b hb => ?_, fun b o e => (none b o e).elim, fun b o e => (none b o e).elim, fun e => by rw [hz] at e; omega, fun _ => ⟨fun i j vi vj s' Q' E' _ hi hj hq => CmpOf.ints_gt (fun i => ns.getD i 0) (ints_at rv) i j vi vj s' Q' E' hi hj hq, fun v s' hP hm => ?_⟩⟩)
    · show b < (s.heap.push _).objs.size
      rw [Heap.size_push]
      rcases List.mem_cons.mp hb with z | z
      · rw [z]
        exact Nat.lt_succ_self _
      · rw [List.mem_singleton.mp z]
        exact Nat.lt_succ_of_lt lta
    · obtain ⟨t, rfl⟩ := ints_at rv _ _ hP
      rw [hz]
      obtain ⟨b1, b2⟩ := best_in hne
      obtain ⟨h', g', d', t', o'⟩ := s'
      have eg : g' = s.gens := hm.gens
      have ed : d' = s.drawn := hm.drawn
      have eo : o' = s.os := hm.os
      subst eg ed eo
      refine ⟨.int _, H, I.kept (h' := h') (t' := t') fun b o e => hm.heap b o (fun z => ?_) (Heap.get?_push_of_some _ e), ⟨_, rfl⟩, q _ b1 b2⟩
      rw [List.mem_singleton] at z
      rw [z] at e
      exact Nat.lt_irrefl _ (Heap.lt_size e)
/-! sum(tuple) -/
theorem preSum_take (ns : List Int) : ∀ k, preSum (fun i => ns.getD i 0) k = (ns.take k).sum
  | 0 => rfl
  | k + 1 => by
    show preSum (fun i => ns.getD i 0) k + ns.getD k 0 = _
    rw [preSum_take ns k, List.take_add_one, List.getD_eq_getElem?_getD]
    cases ns[k]? with
    | none => simp
    | some x => simp
def rSumT (K : PySem.W.Frag) : List V → Hp → VK → Prop := fun vs H Q => ∃ (a : Addr) (ns : List Int), vs = [V.ref a] ∧ SqT K H a (ns.map V.int) ∧ Q (.int ns.sum) H
theorem cr_sumT {X : Cx} (hc : X.calm = true) : CallR X (.builtin "sum") (rSumT X.K) := by
  intro pins s σ H vs us Q I r h
  obtain ⟨a, ns, rfl, hs, q⟩ := h
  obtain ⟨its, rv, ht, _⟩ := I.tuple hs
  rw [Vals.ref1 r]
  have hh := I.ok.hd hc
  have lta : a < s.heap.objs.size := by
    obtain ⟨o, ho, _⟩ := ht
    exact Heap.lt_size ho
  have hl := rv.length
  rw [List.length_map] at hl
  refine call_sum_walkG (wpAny_pyIter_tuple (show s.heap.IsTuple a its.toArray from ht) ⟨s.heap.objs.size, _, _, _, _, _, fun i => ns.getD i 0, rfl, Walks.tuple (A := X.A.in1) hh s.heap.objs.size a (Nat.ne_of_lt lta) its.toArray, ⟨⟨_, Heap.get?_push_size _ rfl, rfl, rfl⟩, (show s.heap.IsTuple a its.toArray from ht).at fun o e => Heap.get?_push_of_some _ e⟩, fun b hb => ?_, fun i v hv => ?_, fun h' tk t' hk => ?_⟩)
  · show b < (s.heap.push _).objs.size
    rw [Heap.size_push]
    rcases List.mem_cons.mp hb with z | z
    · rw [z]
      exact Nat.lt_succ_self _
    · rw [List.mem_singleton.mp z]
      exact Nat.lt_succ_of_lt lta
  · have hv2 : its[i]? = some v := by simpa using hv
    have hi : i < ns.length := by
      have := (List.getElem?_eq_some_iff.mp hv2).1
      omega
    obtain ⟨u, hu, ru⟩ := rv.get (show (ns.map V.int)[i]? = some (V.int ns[i]) by rw [List.getElem?_map, List.getElem?_eq_getElem hi]; rfl)
    rw [hv2] at hu
    cases hu
    obtain ⟨t, rfl⟩ := (show ∃ t, v = Value.int ns[i] t from ru)
    exact ⟨t, by
      show Value.int ns[i] t = Value.int (ns.getD i 0) t
      rw [List.getD_eq_getElem?_getD, List.getElem?_eq_getElem hi]
      rfl⟩
  · rw [preSum_take, List.take_of_length_le (by rw [List.size_toArray]; omega)]
    refine ⟨.int _, H, I.kept fun b o e => hk b o (fun z => ?_) (Heap.get?_push_of_some _ e), ⟨_, rfl⟩, q⟩
    rw [List.mem_singleton] at z
    rw [z] at e
    exact Nat.lt_irrefl _ (Heap.lt_size e)
theorem sumTK {X : Cx} {K : PySem.W.Frag} (h : X.K = K) (hc : X.calm = true) : CallR X (.builtin "sum") (rSumT K) := by
  subst h
  exact cr_sumT hc
/-! what a register holds -/
def parF : Nat → Nat → Nat
  | 0, _ => 0
  | f + 1, n => (n % 2 + parF f (n / 2)) % 2
def par (n : Nat) : Nat := parF 7 n
def regS (w p x : Nat) : Nat := 2 * x % 2 ^ w + par (x &&& p)
def regA (w p s : Nat) : Nat → Nat
  | 0 => s
  | k + 1 => regS w p (regA w p s k)
def regI (w p z : Nat) : Nat := z / 2 + 2 ^ (w - 1) * ((z % 2 + par ((z / 2) &&& p)) % 2)
theorem par_lt (n : Nat) : par n < 2 := Nat.mod_lt _ (by decide)
theorem regS_lt {w p x : Nat} (hw : 1 ≤ w) : regS w p x < 2 ^ w := by
  unfold regS
  have h1 := par_lt (x &&& p)
  have h2 := Nat.mod_lt (2 * x) (Nat.two_pow_pos w)
  obtain ⟨v, rfl⟩ : ∃ v, w = v + 1 := ⟨w - 1, by omega⟩
  rw [Nat.pow_succ] at *
  have : 2 * x % (2 ^ v * 2) % 2 = 0 := by
    rw [Nat.mod_mul_left_mod]
    omega
  omega
theorem reg_back2 : ∀ p, p < 4 → 2 ≤ p → ∀ x, x < 4 → regI 2 p (regS 2 p x) = x := by decide +kernel
theorem reg_back3 : ∀ p, p < 8 → 4 ≤ p → ∀ x, x < 8 → regI 3 p (regS 3 p x) = x := by decide +kernel
theorem reg_back4 : ∀ p, p < 16 → 8 ≤ p → ∀ x, x < 16 → regI 4 p (regS 4 p x) = x := by decide +kernel
theorem reg_back5 : ∀ p, p < 32 → 16 ≤ p → ∀ x, x < 32 → regI 5 p (regS 5 p x) = x := by decide +kernel
theorem reg_back6 : ∀ p, p < 64 → 32 ≤ p → ∀ x, x < 64 → regI 6 p (regS 6 p x) = x := by decide +kernel
structure RgW (w p : Nat) : Prop where
  lo : 2 ≤ w
  hi : w ≤ 6
  pl : 2 ^ (w - 1) ≤ p
  ph : p < 2 ^ w
theorem reg_back {w p x : Nat} (h : RgW w p) (hx : x < 2 ^ w) : regI w p (regS w p x) = x := by
  obtain ⟨h1, h2, h3, h4⟩ := h
  match w, h1, h2 with
  | 2, _, _ => exact reg_back2 p h4 h3 x hx
  | 3, _, _ => exact reg_back3 p h4 h3 x hx
  | 4, _, _ => exact reg_back4 p h4 h3 x hx
  | 5, _, _ => exact reg_back5 p h4 h3 x hx
  | 6, _, _ => exact reg_back6 p h4 h3 x hx
theorem regA_lt {w p s : Nat} (h : RgW w p) (hs : s < 2 ^ w) : ∀ k, regA w p s k < 2 ^ w
  | 0 => hs
  | _ + 1 => regS_lt (by have := h.lo; omega)
theorem reg_inj {w p x y : Nat} (h : RgW w p) (hx : x < 2 ^ w) (hy : y < 2 ^ w) (e : regS w p x = regS w p y) : x = y := by
  rw [← reg_back h hx, e, reg_back h hy]
theorem regA_back {w p s : Nat} (h : RgW w p) (hs : s < 2 ^ w) : ∀ i d, regA w p s (i + d) = regA w p s i → regA w p s d = s
  | 0, d, e => by rw [Nat.zero_add] at e; exact e
  | i + 1, d, e => by
    rw [show i + 1 + d = (i + d) + 1 by omega] at e
    exact regA_back h hs i d (reg_inj h (regA_lt h hs _) (regA_lt h hs _) e)
theorem regA_zero {w p s : Nat} (h : RgW w p) (hs : s < 2 ^ w) (s0 : 0 < s) : ∀ k, 0 < regA w p s k
  | 0 => s0
  | k + 1 => by
    rcases Nat.eq_zero_or_pos (regA w p s (k + 1)) with z | z
    · exfalso
      have ih := regA_zero h hs s0 k
      have e0 : regS w p 0 = 0 := by
        unfold regS
        rw [Nat.mul_zero, Nat.zero_mod, Nat.zero_and]
        rfl
      have : regA w p s k = 0 := reg_inj h (regA_lt h hs k) (Nat.two_pow_pos w) (by rw [e0]; exact z)
      omega
    · exact z
theorem pigeon : ∀ (n : Nat) (l : List Nat), l.Nodup → (∀ x, x ∈ l → x < n) → l.length ≤ n
  | 0, l, _, h => by
    cases l with
    | nil => exact Nat.le_refl 0
    | cons x r => exact absurd (h x List.mem_cons_self) (Nat.not_lt_zero _)
  | n + 1, l, hd, h => by
    by_cases hm : n ∈ l
    · have h1 := pigeon n (l.erase n) (hd.erase n) fun x hx => by
        have h2 := (hd.mem_erase_iff).mp hx
        have := h x h2.2
        omega
      rw [List.length_erase_of_mem hm] at h1
      omega
    · have h1 := pigeon n l hd fun x hx => by
        have := h x hx
        have : x ≠ n := fun e => hm (e ▸ hx)
        omega
      omega
/-- the first k that comes back -/
structure IsPer (w p s k : Nat) : Prop where
  pos : 1 ≤ k
  le : k ≤ 2 ^ w
  back : regA w p s k = s
  first : ∀ j, 0 < j → j < k → regA w p s j ≠ s
theorem reg_nodup {w p s k : Nat} (h : RgW w p) (hs : s < 2 ^ w) (hf : ∀ j, 0 < j → j < k → regA w p s j ≠ s) : ((List.range k).map (regA w p s)).Nodup := by
  rw [List.nodup_iff_pairwise_ne, List.pairwise_map]
  refine List.pairwise_lt_range.imp_of_mem ?_
  intro a b ha hb hab e
  have hb := List.mem_range.mp hb
  refine hf (b - a) (by omega) (by omega) (regA_back h hs a (b - a) ?_)
  rw [show a + (b - a) = b by omega]
  exact e.symm
theorem per_ex {w p s : Nat} (h : RgW w p) (hs : s < 2 ^ w) : ∃ k, IsPer w p s k := by
  have ex : ∃ k, 1 ≤ k ∧ k ≤ 2 ^ w ∧ regA w p s k = s := by
    apply Classical.byContradiction
    intro hn
    have hf : ∀ j, 0 < j → j < 2 ^ w + 1 → regA w p s j ≠ s := fun j h0 h1 e => hn ⟨j, by omega, by omega, e⟩
    have := pigeon (2 ^ w) _ (reg_nodup h hs hf) fun x hx => by
      obtain ⟨j, _, rfl⟩ := List.mem_map.mp hx
      exact regA_lt h hs j
    rw [List.length_map, List.length_range] at this
    omega
  -- the least such
  have least : ∀ n, ∀ k, k ≤ n → 1 ≤ k → k ≤ 2 ^ w → regA w p s k = s → ∃ k, IsPer w p s k := by
    intro n
    induction n with
    | zero => intro k h1 h2; omega
    | succ n ih =>
      intro k h1 h2 h3 h4
      by_cases hj : ∃ j, 0 < j ∧ j < k ∧ regA w p s j = s
      · obtain ⟨j, j0, jk, je⟩ := hj
        exact ih j (by omega) j0 (by omega) je
      · exact ⟨k, h2, h3, h4, fun j j0 jk je => hj ⟨j, j0, jk, je⟩⟩
  obtain ⟨k, h1, h2, h3⟩ := ex
  exact least k k (Nat.le_refl k) h1 h2 h3
theorem IsPer.uniq {w p s k l : Nat} (h : IsPer w p s k) (g : IsPer w p s l) : k = l := by
  rcases Nat.lt_trichotomy k l with z | z | z
  · exact absurd h.back (g.first k h.pos z)
  · exact z
  · exact absurd g.back (h.first l g.pos z)
noncomputable def per (w p s : Nat) : Nat := @dite Nat (∃ k, IsPer w p s k) (Classical.propDecidable _) (fun h => h.choose) (fun _ => 0)
theorem per_is {w p s : Nat} (h : RgW w p) (hs : s < 2 ^ w) : IsPer w p s (per w p s) := by
  unfold per
  rw [dif_pos (per_ex h hs)]
  exact (per_ex h hs).choose_spec
theorem per_eq {w p s k : Nat} (h : RgW w p) (hs : s < 2 ^ w) (g : IsPer w p s k) : per w p s = k := (per_is h hs).uniq g
/-- the law's odd count -/
def oddL (w x p : Nat) : Int := ((List.range w).map fun j => (((x / 2 ^ j % 2 : Nat) : Int) * ((p / 2 ^ j % 2 : Nat) : Int))).sum % 2
theorem odd2 : ∀ p, p < 4 → ∀ x, x < 4 → oddL 2 x p = ((par (x &&& p) : Nat) : Int) := by decide +kernel
theorem odd3 : ∀ p, p < 8 → ∀ x, x < 8 → oddL 3 x p = ((par (x &&& p) : Nat) : Int) := by decide +kernel
theorem odd4 : ∀ p, p < 16 → ∀ x, x < 16 → oddL 4 x p = ((par (x &&& p) : Nat) : Int) := by decide +kernel
theorem odd5 : ∀ p, p < 32 → ∀ x, x < 32 → oddL 5 x p = ((par (x &&& p) : Nat) : Int) := by decide +kernel
theorem odd6 : ∀ p, p < 64 → ∀ x, x < 64 → oddL 6 x p = ((par (x &&& p) : Nat) : Int) := by decide +kernel
theorem odd_eq {w p x : Nat} (h : RgW w p) (hx : x < 2 ^ w) : oddL w x p = ((par (x &&& p) : Nat) : Int) := by
  obtain ⟨h1, h2, h3, h4⟩ := h
  match w, h1, h2 with
  | 2, _, _ => exact odd2 p h4 x hx
  | 3, _, _ => exact odd3 p h4 x hx
  | 4, _, _ => exact odd4 p h4 x hx
  | 5, _, _ => exact odd5 p h4 x hx
  | 6, _, _ => exact odd6 p h4 x hx
/-! makers -/
inductive Mk where
  | counter (r s t : Nat)
  | table (ns : List Int)
  | turned (w s : Nat)
  | register (w p s : Nat)
  | slow (n : Nat) (m : Mk)
  | slip (n : Nat) (m : Mk)
  | late (n : Nat) (m : Mk)
def Mk.inn : Mk → Mk
  | .slow _ m => m.inn
  | .slip _ m => m.inn
  | .late _ m => m.inn
  | m => m
def Mk.dep : Mk → Nat
  | .slow _ m => m.dep + 1
  | .slip _ m => m.dep + 1
  | .late _ m => m.dep + 1
  | _ => 0
def Mk.bt : Mk → Int → Int
  | .slow n m, t => m.bt (t / n)
  | .slip n m, t => m.bt (t + t / n)
  | .late n m, t => m.bt (t - n)
  | _, t => t
def lff (n : Nat) : Nat → Nat
  | 0 => 0
  | w + 1 => 2 * lff n w + n / 2 ^ w % 2
noncomputable def Mk.pl : Mk → List Int
  | .counter r s t => (List.range r).map fun i => (((t + s * i) % r : Nat) : Int)
  | .table ns => ns
  | .turned w s => (List.range (2 ^ w)).map fun i => ((lff ((s + i) % 2 ^ w) w : Nat) : Int)
  | .register w p s => (List.range (per w p s)).map fun k => ((regA w p s k : Nat) : Int)
  | _ => []
noncomputable def Mk.rnd : Mk → Nat
  | .slow n m => n * m.rnd
  | .slip n m => n * m.rnd / Nat.gcd m.rnd (n + 1)
  | .late _ m => m.rnd
  | m => m.pl.length
def Mk.Pl : Mk → Prop
  | .counter r s t => 1 ≤ r ∧ r ≤ 64 ∧ s ≤ 64 ∧ t < r
  | .table ns => 1 ≤ ns.length ∧ ns.length ≤ 64 ∧ ∀ x, x ∈ ns → 0 ≤ x ∧ x ≤ 63
  | .turned w s => 1 ≤ w ∧ w ≤ 6 ∧ s < 2 ^ w
  | .register w p s => RgW w p ∧ 1 ≤ s ∧ s < 2 ^ w
  | _ => False
def Mk.Ok : Mk → Prop
  | .slow n m => 1 ≤ n ∧ n ≤ 64 ∧ m.Ok
  | .slip n m => 1 ≤ n ∧ n ≤ 64 ∧ m.Ok
  | .late n m => n ≤ 64 ∧ m.Ok
  | m => m.Pl
def Mk.Top : Mk → Int → Prop
  | .counter r _ _, v => v = r
  | .table ns, v => ∃ M, M ∈ ns ∧ (∀ y, y ∈ ns → y ≤ M) ∧ v = M + 1
  | .turned w _, v => v = ((2 ^ w : Nat) : Int)
  | .register w _ _, v => v = ((2 ^ w : Nat) : Int)
  | _, _ => False
theorem Mk.Top.uniq {m : Mk} {v u : Int} (h : m.Top v) (k : m.Top u) : v = u := by
  cases m with
  | counter r s t => exact h.trans k.symm
  | table ns =>
    obtain ⟨M, h1, h2, rfl⟩ := h
    obtain ⟨N, k1, k2, rfl⟩ := k
    have := h2 N k1
    have := k2 M h1
    omega
  | turned w s => exact h.trans k.symm
  | register w p s => exact h.trans k.symm
  | _ => exact h.elim
noncomputable def Mk.val (m : Mk) (t : Int) : Int := m.inn.pl.getD ((m.bt t) % (m.inn.pl.length : Int)).toNat 0
theorem Mk.Ok.inn : ∀ {m : Mk}, m.Ok → m.inn.Pl
  | .slow _ m, h => Mk.Ok.inn (m := m) h.2.2
  | .slip _ m, h => Mk.Ok.inn (m := m) h.2.2
  | .late _ m, h => Mk.Ok.inn (m := m) h.2
  | .counter _ _ _, h => h
  | .table _, h => h
  | .turned _ _, h => h
  | .register _ _ _, h => h
theorem Mk.Pl.len {m : Mk} (h : m.Pl) : 1 ≤ m.pl.length ∧ m.pl.length ≤ 64 := by
  cases m with
  | counter r s t =>
    obtain ⟨h1, h2, _⟩ := h
    simp only [Mk.pl, List.length_map, List.length_range]
    omega
  | table ns => exact ⟨h.1, h.2.1⟩
  | turned w s =>
    obtain ⟨h1, h2, _⟩ := h
    simp only [Mk.pl, List.length_map, List.length_range]
    exact ⟨Nat.one_le_two_pow, Nat.le_trans (Nat.pow_le_pow_right (by decide) h2) (by decide)⟩
  | register w p s =>
    obtain ⟨h1, h2, h3⟩ := h
    have ip := per_is h1 h3
    simp only [Mk.pl, List.length_map, List.length_range]
    exact ⟨ip.pos, Nat.le_trans ip.le (Nat.le_trans (Nat.pow_le_pow_right (by decide) h1.hi) (by decide))⟩
  | _ => exact h.elim
theorem Mk.inn_dep : ∀ m : Mk, m.inn.dep = 0
  | .slow _ m => Mk.inn_dep m
  | .slip _ m => Mk.inn_dep m
  | .late _ m => Mk.inn_dep m
  | .counter _ _ _ => rfl
  | .table _ => rfl
  | .turned _ _ => rfl
  | .register _ _ _ => rfl
theorem Mk.inn_self : ∀ {m : Mk}, m.dep = 0 → m.inn = m
  | .counter _ _ _, _ => rfl
  | .table _, _ => rfl
  | .turned _ _, _ => rfl
  | .register _ _ _, _ => rfl
/-! makers as they stand -/
def MkAt (H : Hp) : Mk → V → Prop
  | .counter r s t, v => ∃ a, v = .ref a ∧ H a = some (.tup [.str "counter", .int (r : Nat), .int (s : Nat), .int (t : Nat)])
  | .table ns, v => ∃ a b, v = .ref a ∧ H a = some (.tup [.str "table", .ref b]) ∧ H b = some (.tup (ns.map V.int))
  | .turned w s, v => ∃ a, v = .ref a ∧ H a = some (.tup [.str "turned", .int (w : Nat), .int (s : Nat)])
  | .register w p s, v => ∃ a, v = .ref a ∧ H a = some (.tup [.str "register", .int (w : Nat), .int (p : Nat), .int (s : Nat)])
  | .slow n m, v => ∃ a x, v = .ref a ∧ H a = some (.tup [.str "slow", .int (n : Nat), x]) ∧ MkAt H m x
  | .slip n m, v => ∃ a x, v = .ref a ∧ H a = some (.tup [.str "slip", .int (n : Nat), x]) ∧ MkAt H m x
  | .late n m, v => ∃ a x, v = .ref a ∧ H a = some (.tup [.str "late", .int (n : Nat), x]) ∧ MkAt H m x
theorem MkAt.keep {H H' : Hp} (s : ∀ a xs, H a = some (.tup xs) → H' a = some (.tup xs)) : ∀ {m : Mk} {v : V}, MkAt H m v → MkAt H' m v
  | .counter _ _ _, _, ⟨a, e, h⟩ => ⟨a, e, s _ _ h⟩
  | .table _, _, ⟨a, b, e, h, k⟩ => ⟨a, b, e, s _ _ h, s _ _ k⟩
  | .turned _ _, _, ⟨a, e, h⟩ => ⟨a, e, s _ _ h⟩
  | .register _ _ _, _, ⟨a, e, h⟩ => ⟨a, e, s _ _ h⟩
  | .slow _ m, _, ⟨a, x, e, h, k⟩ => ⟨a, x, e, s _ _ h, MkAt.keep s (m := m) k⟩
  | .slip _ m, _, ⟨a, x, e, h, k⟩ => ⟨a, x, e, s _ _ h, MkAt.keep s (m := m) k⟩
  | .late _ m, _, ⟨a, x, e, h, k⟩ => ⟨a, x, e, s _ _ h, MkAt.keep s (m := m) k⟩
theorem MkAt.same {H H' : Hp} {m : Mk} {v : V} (h : MkAt H m v) (s : Same H H') : MkAt H' m v := h.keep fun _ _ e => s _ _ e
theorem MkAt.but {H H' : Hp} {m : Mk} {v : V} {p : Addr} {n : Nat} (h : MkAt H m v) (B : Bx H p n) (s : But p H H') : MkAt H' m v := h.keep fun _ _ e => s _ _ (B.ne_tup e) e
def inW (z : Str) : Bool := inV (.str z) [.str "slow", .str "slip", .str "late"]
theorem inW_slow : inW "slow" = true := by decide +kernel
theorem inW_slip : inW "slip" = true := by decide +kernel
theorem inW_late : inW "late" = true := by decide +kernel
theorem inW_counter : inW "counter" = false := by decide +kernel
theorem inW_table : inW "table" = false := by decide +kernel
theorem inW_turned : inW "turned" = false := by decide +kernel
theorem inW_register : inW "register" = false := by decide +kernel
/-- what stands around a maker -/
structure Around1 (m : Mk) (z : Str) (n : Nat) (m' : Mk) : Prop where
  word : (z = "slow" ∧ m = .slow n m') ∨ (z = "slip" ∧ m = .slip n m') ∨ (z = "late" ∧ m = .late n m')
theorem MkAt.shape {H : Hp} {m : Mk} {v : V} (h : MkAt H m v) : (∃ z n m' a x, v = .ref a ∧ H a = some (.tup [.str z, .int (n : Nat), x]) ∧ MkAt H m' x ∧ Around1 m z n m' ∧ inW z = true) ∨ (m.dep = 0 ∧ ∃ a z xs, v = .ref a ∧ H a = some (.tup (.str z :: xs)) ∧ inW z = false) := by
  cases m with
  | counter r s t => obtain ⟨a, e, h⟩ := h; exact .inr ⟨rfl, a, _, _, e, h, inW_counter⟩
  | table ns => obtain ⟨a, b, e, h, _⟩ := h; exact .inr ⟨rfl, a, _, _, e, h, inW_table⟩
  | turned w s => obtain ⟨a, e, h⟩ := h; exact .inr ⟨rfl, a, _, _, e, h, inW_turned⟩
  | register w p s => obtain ⟨a, e, h⟩ := h; exact .inr ⟨rfl, a, _, _, e, h, inW_register⟩
  | slow n m => obtain ⟨a, x, e, h, k⟩ := h; exact .inl ⟨_, n, m, a, x, e, h, k, ⟨.inl ⟨rfl, rfl⟩⟩, inW_slow⟩
  | slip n m => obtain ⟨a, x, e, h, k⟩ := h; exact .inl ⟨_, n, m, a, x, e, h, k, ⟨.inr (.inl ⟨rfl, rfl⟩)⟩, inW_slip⟩
  | late n m => obtain ⟨a, x, e, h, k⟩ := h; exact .inl ⟨_, n, m, a, x, e, h, k, ⟨.inr (.inr ⟨rfl, rfl⟩)⟩, inW_late⟩
theorem Around1.dep {m m' : Mk} {z : Str} {n : Nat} (h : Around1 m z n m') : m.dep = m'.dep + 1 ∧ m.inn = m'.inn := by
  rcases h.word with ⟨_, rfl⟩ | ⟨_, rfl⟩ | ⟨_, rfl⟩ <;> exact ⟨rfl, rfl⟩
def sp_innermost (_ : PySem.W.Frag) : Sp := fun vs H Q _ => ∃ m v, vs = [v] ∧ MkAt H m v ∧ ∀ H' u, Same H H' → MkAt H' m.inn u → Q u H'
theorem ok_innermost (T : Defs K mg) (TT : Tabs T base) : FnOk P w K mg base CX0 1 T.f_innermost T.fd_innermost ["maker"] (sp_innermost K) := by
  refine T.F_innermost.ok sc_innermost (fun vs H Q E h => ?_) (fun cdv A outer s H vs Q E hr h => ?_)
  · obtain ⟨m, v, rfl, hm, q⟩ := h
    rfl
  · obtain ⟨m, v, rfl, hm, q⟩ := h
    refine ⟨_, PSs.nox (pss_cons (ps_while PassesOwn.never (pt_cmpR op_in_seq (pe_ix ix_tup (pv 0) pe_int (fun _ _ => rfl)) (pe_tup (pa_cons pe_str (pa_cons pe_str (pa_cons pe_str pa_nil)))) rfl) (pss_one (ps_set (i := 0) sc_innermost.nd rfl (.inl rfl) (pe_ix ix_tup (pv 0) pe_int (fun _ _ => rfl)))))
    (pss_one (ps_ret (pv 0)))), ?_⟩
    refine ⟨fun n σ H1 => ∃ m' u, m'.dep = n ∧ σ = [some u] ∧ Same H H1 ∧ MkAt H1 m' u ∧ m'.inn = m.inn, ⟨_, m, v, rfl, rfl, Same.refl H, hm, rfl⟩, ?_⟩
    rintro n σ H1 ⟨m', u, rfl, rfl, s1, hm', ei⟩
    rcases hm'.shape with ⟨z, n, m2, a, x, rfl, ha, hx, ar, iw⟩ | ⟨d0, a, z, xs, rfl, ha, iw⟩
    · refine ⟨.ref a, rfl, a, _, 0, _, rfl, rfl, SqT.mk ha, atI_nat (j := 0) rfl, (show 3 ≤ sizeLine by decide), fun t nt => ⟨t, _, rfl, .inr (SqT.mk upd_same), rfl, rfl, _, rfl, ?_⟩⟩
      have s2 := s1.trans (same_upd nt (o := .tup [.str "slow", .str "slip", .str "late"]))
      rw [if_neg Bool.false_ne_true, show inV (.str z) [.str "slow", .str "slip", .str "late"] = true from iw]
      refine iteT ⟨_, fun σ' H' h => h, ?_⟩
      refine ⟨.ref a, rfl, a, _, 2, _, rfl, rfl, SqT.mk ((same_upd nt) _ _ ha), atI_nat (j := 2) rfl, ?_⟩
      exact ⟨m2.dep, by have := ar.dep.1; omega, m2, x, rfl, rfl, s2, hx.same (same_upd nt), by rw [← ar.dep.2, ei]⟩
    · refine ⟨.ref a, rfl, a, _, 0, _, rfl, rfl, SqT.mk ha, atI_nat (j := 0) rfl, (show 3 ≤ sizeLine by decide), fun t nt => ⟨t, _, rfl, .inr (SqT.mk upd_same), rfl, rfl, _, rfl, ?_⟩⟩
      rw [if_neg Bool.false_ne_true, show inV (.str z) [.str "slow", .str "slip", .str "late"] = false from iw]
      refine iteF ?_
      refine ⟨.ref a, rfl, q _ _ (s1.trans (same_upd nt)) ?_⟩
      rw [← ei, Mk.inn_self d0]
      exact hm'.same (same_upd nt)
def sp_inner_beat (_ : PySem.W.Frag) : Sp := fun vs H Q _ => ∃ m v t, vs = [v, .int t] ∧ MkAt H m v ∧ m.Ok ∧ ∀ H', Same H H' → Q (.int (m.bt t)) H'
theorem ok_inner_beat (T : Defs K mg) (TT : Tabs T base) : FnOk P w K mg base CX0 1 T.f_inner_beat T.fd_inner_beat ["maker", "t"] (sp_inner_beat K) := by
  refine T.F_inner_beat.ok sc_inner_beat (fun vs H Q E h => ?_) (fun cdv A outer s H vs Q E hr h => ?_)
  · obtain ⟨m, v, t, rfl, hm, ok, q⟩ := h
    rfl
  · obtain ⟨m, v, t, rfl, hm, ok, q⟩ := h
    refine ⟨_, PSs.nox (pss_cons (ps_while PassesOwn.never (pt_cmpR op_in_seq (pe_ix ix_tup (pv 0) pe_int (fun _ _ => rfl)) (pe_tup (pa_cons pe_str (pa_cons pe_str (pa_cons pe_str pa_nil)))) rfl) (pss_cons (ps_asg (pv 0) (pg_tup rfl (pgs_cons (pg_name (i := 2) sc_inner_beat.nd rfl (.inl rfl)) (pgs_cons (pg_name (i := 3) sc_inner_beat.nd rfl (.inl rfl)) (pgs_cons (pg_name (i := 4) sc_inner_beat.nd rfl (.inl rfl)) pgs_nil)))))
    (pss_cons (ps_if (pt_cmpR op_eq (pv 2) pe_str (nomark _)) (pss_one (ps_set (i := 1) sc_inner_beat.nd rfl (.inl rfl) (pe_op op_fdiv (pv 1) (pe_callB (call_max2 rfl) (by rfl) T.m_max bt_max (pa_cons (pv 3) (pa_cons pe_int pa_nil)))))) (pss_one (ps_if (pt_cmpR op_eq (pv 2) pe_str (nomark _)) (pss_one (ps_set (i := 1) sc_inner_beat.nd rfl (.inl rfl) (pe_op op_add (pv 1) (pe_op op_fdiv (pv 1) (pe_callB (call_max2 rfl) (by rfl) T.m_max bt_max (pa_cons (pv 3) (pa_cons pe_int pa_nil))))))) (pss_one (ps_set (i := 1) sc_inner_beat.nd rfl (.inl rfl) (pe_op op_sub (pv 1) (pv 3)))))))
    (pss_one (ps_set (i := 0) sc_inner_beat.nd rfl (.inl rfl) (pv 4))))))
    (pss_one (ps_ret (pv 1)))), ?_⟩
    refine ⟨fun n σ H1 => ∃ m' u t' y2 y3 y4, m'.dep = n ∧ σ = [some u, some (.int t'), y2, y3, y4] ∧ Same H H1 ∧ MkAt H1 m' u ∧ m'.Ok ∧ m'.bt t' = m.bt t, ⟨_, m, v, t, none, none, none, rfl, rfl, Same.refl H, hm, ok, rfl⟩, ?_⟩
    rintro n σ H1 ⟨m', u, t', y2, y3, y4, rfl, rfl, s1, hm', ok', ei⟩
    rcases hm'.shape with ⟨z, n, m2, a, x, rfl, ha, hx, ar, iw⟩ | ⟨d0, a, z, xs, rfl, ha, iw⟩
    · refine ⟨.ref a, rfl, a, _, 0, _, rfl, rfl, SqT.mk ha, atI_nat (j := 0) rfl, (show 3 ≤ sizeLine by decide), fun tp nt => ⟨tp, _, rfl, .inr (SqT.mk upd_same), rfl, rfl, _, rfl, ?_⟩⟩
      have s2 := s1.trans (same_upd nt (o := .tup [.str "slow", .str "slip", .str "late"]))
      have ha2 := (same_upd nt (o := .tup [.str "slow", .str "slip", .str "late"])) _ _ ha
      have hx2 := hx.same (same_upd nt (o := .tup [.str "slow", .str "slip", .str "late"]))
      rw [if_neg Bool.false_ne_true, show inV (.str z) [.str "slow", .str "slip", .str "late"] = true from iw]
      generalize upd H1 tp (.tup [.str "slow", .str "slip", .str "late"]) = H2 at s2 ha2 hx2 ⊢
      refine iteT ⟨_, fun σ' H' h => h, ?_⟩
      refine ⟨.ref a, rfl, a, _, rfl, SqT.mk ha2, rfl, _, _, rfl, _, _, rfl, _, _, rfl, rfl, ?_⟩
      have dp := ar.dep.1
      rcases ar.word with ⟨rfl, rfl⟩ | ⟨rfl, rfl⟩ | ⟨rfl, rfl⟩
      · have em : (if (1 : Int) > (n : Int) then 1 else (n : Int)) = (n : Int) := by
          have := ok'.1
          split <;> omega
        refine ⟨_, rfl, rfl, _, rfl, ?_⟩
        rw [decide_eq_true rfl]
        refine iteT ?_
        refine ⟨.int t', rfl, .int (n : Nat), rfl, _, _, rfl, _, _, rfl, rfl, ?_, ?_⟩
        · rw [em]
          exact ⟨(show (0 : Int) < (n : Int) by have := ok'.1; omega), (show (n : Int) < 1073741824 by have := ok'.2.1; omega)⟩
        rw [em]
        exact ⟨_, rfl, m2.dep, by omega, m2, x, t' / (n : Int), _, _, _, rfl, rfl, s2, hx2, ok'.2.2, ei⟩
      · have em : (if (1 : Int) > (n : Int) then 1 else (n : Int)) = (n : Int) := by
          have := ok'.1
          split <;> omega
        refine ⟨_, rfl, rfl, _, rfl, ?_⟩
        rw [decide_eq_false (show ¬ (V.str "slip" = V.str "slow") by decide +kernel)]
        refine iteF ?_
        refine ⟨_, rfl, rfl, _, rfl, ?_⟩
        rw [decide_eq_true rfl]
        refine iteT ?_
        refine ⟨.int t', rfl, .int t', rfl, .int (n : Nat), rfl, _, _, rfl, _, _, rfl, rfl, ?_, _, _, rfl, rfl, ?_⟩
        · rw [em]
          exact ⟨(show (0 : Int) < (n : Int) by have := ok'.1; omega), (show (n : Int) < 1073741824 by have := ok'.2.1; omega)⟩
        rw [em]
        exact ⟨_, rfl, m2.dep, by omega, m2, x, t' + t' / (n : Int), _, _, _, rfl, rfl, s2, hx2, ok'.2.2, ei⟩
      · refine ⟨_, rfl, rfl, _, rfl, ?_⟩
        rw [decide_eq_false (show ¬ (V.str "late" = V.str "slow") by decide +kernel)]
        refine iteF ?_
        refine ⟨_, rfl, rfl, _, rfl, ?_⟩
        rw [decide_eq_false (show ¬ (V.str "late" = V.str "slip") by decide +kernel)]
        refine iteF ?_
        refine ⟨.int t', rfl, .int (n : Nat), rfl, _, _, rfl, rfl, ?_⟩
        exact ⟨_, rfl, m2.dep, by omega, m2, x, t' - (n : Int), _, _, _, rfl, rfl, s2, hx2, ok'.2, ei⟩
    · refine ⟨.ref a, rfl, a, _, 0, _, rfl, rfl, SqT.mk ha, atI_nat (j := 0) rfl, (show 3 ≤ sizeLine by decide), fun tp nt => ⟨tp, _, rfl, .inr (SqT.mk upd_same), rfl, rfl, _, rfl, ?_⟩⟩
      rw [if_neg Bool.false_ne_true, show inV (.str z) [.str "slow", .str "slip", .str "late"] = false from iw]
      refine iteF ?_
      have eb : m'.bt t' = t' := by
        cases m' with
        | slow n m => cases d0
        | slip n m => cases d0
        | late n m => cases d0
        | _ => rfl
      rw [eb] at ei
      rw [ei]
      exact ⟨.int _, rfl, q _ (s1.trans (same_upd nt))⟩
/-! the program: numbers of plain makers -/
theorem is_pos {n : Nat} (h : 1 ≤ n) : (0 : Int) < (n : Int) := by omega
def sp_counter_round (_ : PySem.W.Frag) : Sp := fun vs H Q _ => ∃ r s t : Nat, vs = [.int (r : Nat), .int (s : Nat), .int (t : Nat)] ∧ 1 ≤ r ∧ r ≤ 64 ∧ s ≤ 64 ∧ t < r ∧
  ∀ H' p, Same H H' → H p = none → H' p = some (.lst ((Mk.counter r s t).pl.map V.int)) → Q (.ref p) H'
theorem ok_counter_round (T : Defs K mg) (TT : Tabs T base) : FnOk P w K mg base CX0 1 T.f_counter_round T.fd_counter_round ["size", "step", "start"] (sp_counter_round K) := by
  refine T.F_counter_round.ok sc_counter_round (fun vs H Q E h => ?_) (fun cdv A outer s H vs Q E hr h => ?_)
  · obtain ⟨r, s', t, rfl, r1, r2, s2, t2, q⟩ := h
    rfl
  · obtain ⟨r, s', t, rfl, r1, r2, s2, t2, q⟩ := h
    refine ⟨_, PSs.nox (pss_one (ps_ret (pe_lc (own := [("t", 3)]) (g := gName 3) (tt := tYes) rfl sc_counter_round.nd (pi_range1 (by rfl) T.m_range (pa_cons (pv 0) pa_nil)) (blkOk_by (N := N_counter_round) (sc := defScope s_counter_round) (by decide +kernel)) (fun _ _ _ _ _ => (pg_name (i := 3) sc_counter_round.nd rfl (.inl rfl))) (fun _ _ _ _ _ => pts_nil) (fun _ _ _ _ _ => (pe_op op_mod (pe_op op_add (pv 2) (pe_op op_mul (pv 1) (pv 3))) (pv 0)))))), ?_⟩
    have hsl : sizeLine = 16777216 := by decide
    refine ⟨.int (r : Nat), rfl, (r : Nat), rfl, by omega, by omega, fun D nD => ?_⟩
    refine lc_range (fun i H1 => Same H H1 ∧ H1 D = some (.lst (((List.range i).map fun i => (((t + s' * i) % r : Nat) : Int)).map V.int))) ⟨same_upd nD, upd_same⟩ (fun i H1 hi h => ?_) (fun H1 h => ?_)
    · obtain ⟨s1, hD⟩ := h
      have hi : i < r := by omega
      refine ⟨rfl, yes_ite ?_⟩
      refine ⟨.int (t : Nat), rfl, .int (s' : Nat), rfl, _, rfl, _, _, rfl, rfl, .inl ⟨by omega, by omega⟩, _, _, rfl, rfl, .int (r : Nat), rfl, _, _, rfl, rfl, is_pos r1, ?_⟩
      refine ⟨_, hD, by rw [List.length_map, List.length_map, List.length_range]; omega, same_newer s1 nD, ?_⟩
      rw [upd_same, List.range_succ, List.map_append, List.map_append]
      have e : ((t : Int) + (s' : Int) * (0 + (i : Int))) % (r : Int) = (((t + s' * i) % r : Nat) : Int) := by
        rw [Int.zero_add, Int.natCast_emod, Int.natCast_add, Int.natCast_mul]
      dsimp only
      rw [e]
      rfl
    · obtain ⟨s1, hD⟩ := h
      rw [Int.toNat_natCast] at hD
      exact q H1 D s1 nD hD
def sp_last_for_first (_ : PySem.W.Frag) : Sp := fun vs H Q _ => ∃ n w : Nat, vs = [.int (n : Nat), .int (w : Nat)] ∧ w ≤ 64 ∧ Q (.int (lff n w : Nat)) H
theorem bit_and (n i : Nat) : Builtin.bitAnd ((n : Int) / 2 ^ ((0 : Int) + (i : Int)).toNat) 1 = ((n / 2 ^ i % 2 : Nat) : Int) := by
  rw [Int.zero_add, Int.toNat_natCast]
  have h := _root_.Bits.bit_at (x := (n : Int)) i
  rw [Int.fdiv_eq_ediv_of_nonneg _ (by exact Int.le_of_lt (Int.pow_pos (by decide)))] at h
  rw [h]
  have e : ((2 : Int) ^ i) = ((2 ^ i : Nat) : Int) := by rw [Int.natCast_pow]; rfl
  rw [e]
  omega
theorem ok_last_for_first (T : Defs K mg) (TT : Tabs T base) : FnOk P w K mg base CX0 1 T.f_last_for_first T.fd_last_for_first ["number", "wide"] (sp_last_for_first K) := by
  refine T.F_last_for_first.ok sc_last_for_first (fun vs H Q E h => ?_) (fun cdv A outer s H vs Q E hr h => ?_)
  · obtain ⟨n, w', rfl, hw, q⟩ := h
    rfl
  · obtain ⟨n, w', rfl, hw, q⟩ := h
    refine ⟨_, PSs.nox (pss_cons (ps_set (i := 2) sc_last_for_first.nd rfl (.inl rfl) pe_int)
    (pss_cons (ps_for PassesOwn.never rfl (pi_range1 (by rfl) T.m_range (pa_cons (pv 1) pa_nil)) (pg_name (i := 3) sc_last_for_first.nd rfl (.inl rfl)) (pss_one (ps_set (i := 2) sc_last_for_first.nd rfl (.inl rfl) (pe_op op_add (pe_op op_mul pe_int (pv 2)) (pe_op op_and (pe_op op_shr (pv 0) (pv 3)) pe_int)))))
    (pss_one (ps_ret (pv 2))))), ?_⟩
    refine ⟨.int (w' : Nat), rfl, (w' : Nat), rfl, by omega, by omega, for_range (fun i σ G => ∃ y3, σ = [some (.int (n : Nat)), some (.int (w' : Nat)), some (.int (lff n i : Nat)), y3] ∧ G = H) ⟨none, rfl, rfl⟩ ?_ ?_⟩
    · rintro i σ G hi ⟨y3, rfl, rfl⟩
      refine ⟨_, rfl, _, _, rfl, rfl, .inl ⟨by decide, by decide⟩, .int (n : Nat), rfl, .int (0 + (i : Int)), rfl, _, _, rfl, rfl, (show (0 : Int) ≤ 0 + (i : Int) by omega), _, _, rfl, rfl, _, _, rfl, rfl, some (.int (0 + (i : Int))), ?_, rfl⟩
      try dsimp only
      rw [bit_and]
      rfl
    · rintro σ G ⟨y3, rfl, rfl⟩
      rw [Int.toNat_natCast]
      exact ⟨_, rfl, q⟩
theorem two_pow6 {w : Nat} (h : w ≤ 6) : 1 ≤ 2 ^ w ∧ 2 ^ w ≤ 64 := ⟨Nat.one_le_two_pow, Nat.le_trans (Nat.pow_le_pow_right (by decide) h) (by decide)⟩
theorem shl_one (w : Nat) : (1 : Int) * 2 ^ ((w : Nat) : Int).toNat = ((2 ^ w : Nat) : Int) := by
  rw [Int.toNat_natCast, Int.one_mul, Int.natCast_pow]
  rfl
def sp_size_of (_ : PySem.W.Frag) : Sp := fun vs H Q _ => ∃ w : Nat, vs = [.int (w : Nat)] ∧ w ≤ 6 ∧ Q (.int ((2 ^ w : Nat) : Int)) H
theorem ok_size_of (T : Defs K mg) (TT : Tabs T base) : FnOk P w K mg base CX0 1 T.f_size_of T.fd_size_of ["wide"] (sp_size_of K) := by
  refine T.F_size_of.ok sc_size_of (fun vs H Q E h => ?_) (fun cdv A outer s H vs Q E hr h => ?_)
  · obtain ⟨w', rfl, hw, q⟩ := h
    rfl
  · obtain ⟨w', rfl, hw, q⟩ := h
    refine ⟨_, PSs.nox (pss_one (ps_ret (pe_op op_shl pe_int (pe_callB (call_max2 rfl) (by rfl) T.m_max bt_max (pa_cons (pv 0) (pa_cons pe_int pa_nil)))))), ?_⟩
    have e0 : (if (0 : Int) > (w' : Int) then (0 : Int) else (w' : Int)) = (w' : Int) := if_neg (by omega)
    refine ⟨.int (w' : Nat), rfl, _, _, rfl, ?_⟩
    try dsimp only
    rw [e0]
    refine ⟨_, _, rfl, rfl, ⟨(show (0 : Int) ≤ (w' : Int) by omega), (show (w' : Int) ≤ 1000000 by omega), by decide⟩, ?_⟩
    try dsimp only
    rw [shl_one]
    exact q
def sp_turned_round (_ : PySem.W.Frag) : Sp := fun vs H Q _ => ∃ w s : Nat, vs = [.int (w : Nat), .int (s : Nat)] ∧ 1 ≤ w ∧ w ≤ 6 ∧ s < 2 ^ w ∧
  ∀ H' p, Same H H' → H p = none → H' p = some (.lst ((Mk.turned w s).pl.map V.int)) → Q (.ref p) H'
theorem ok_turned_round (T : Defs K mg) (TT : Tabs T base) : FnOk P w K mg base CX0 2 T.f_turned_round T.fd_turned_round ["wide", "start"] (sp_turned_round K) := by
  have G_size_of : FnOk P w K mg base CX0 1 T.f_size_of T.fd_size_of ["wide"] (sp_size_of K) := ok_size_of T TT
  have G_last_for_first : FnOk P w K mg base CX0 1 T.f_last_for_first T.fd_last_for_first ["number", "wide"] (sp_last_for_first K) := ok_last_for_first T TT
  refine T.F_turned_round.ok sc_turned_round (fun vs H Q E h => ?_) (fun cdv A outer s H vs Q E hr h => ?_)
  · obtain ⟨w', s', rfl, w1, w2, hs, q⟩ := h
    rfl
  · obtain ⟨w', s', rfl, w1, w2, hs, q⟩ := h
    refine ⟨_, PSs.nox (pss_cons (ps_set (i := 2) sc_turned_round.nd rfl (.inr rfl) (pe_call G_size_of (hr.mono (by decide)) (by rfl) T.g_size_of T.F_size_of.kp T.b_size_of .nil pass0 (pa_cons (pv 0) pa_nil)))
    (pss_one (ps_ret (pe_lc (own := [("t", 3)]) (g := gName 3) (tt := tYes) rfl sc_turned_round.nd (pi_range1 (by rfl) T.m_range (pa_cons (pv 2) pa_nil)) (blkOk_by (N := N_turned_round) (sc := defScope s_turned_round) (by decide +kernel)) (fun _ _ _ _ _ => (pg_name (i := 3) sc_turned_round.nd rfl (.inl rfl))) (fun _ _ _ _ _ => pts_nil) (fun _ _ _ _ _ => (pe_call G_last_for_first (hr.mono (by decide)) (by rfl) T.g_last_for_first T.F_last_for_first.kp T.b_last_for_first .nil pass0 (pa_cons (pe_op op_mod (pe_op op_add (pv 1) (pv 3)) (pv 2)) (pa_cons (pv 0) pa_nil)))))))), ?_⟩
    have hsl : sizeLine = 16777216 := by decide
    have tp := two_pow6 w2
    refine ⟨.int (w' : Nat), rfl, w', rfl, w2, ?_⟩
    refine ⟨.int ((2 ^ w' : Nat) : Int), rfl, _, rfl, by omega, by omega, fun D nD => ?_⟩
    refine lc_range (fun i H1 => Same H H1 ∧ H1 D = some (.lst (((List.range i).map fun i => ((lff ((s' + i) % 2 ^ w') w' : Nat) : Int)).map V.int))) ⟨same_upd nD, upd_same⟩ (fun i H1 hi h => ?_) (fun H1 h => ?_)
    · obtain ⟨s1, hD⟩ := h
      have hi : i < 2 ^ w' := by omega
      refine ⟨rfl, yes_ite ?_⟩
      have e : ((s' : Int) + (0 + (i : Int))) % ((2 ^ w' : Nat) : Int) = (((s' + i) % 2 ^ w' : Nat) : Int) := by
        rw [Int.zero_add, Int.natCast_emod, Int.natCast_add]
      refine ⟨.int (s' : Nat), rfl, _, rfl, _, _, rfl, rfl, .int ((2 ^ w' : Nat) : Int), rfl, _, _, rfl, rfl, is_pos tp.1, .int (w' : Nat), rfl, (s' + i) % 2 ^ w', w', congrArg (fun z => [V.int z, V.int ((w' : Nat) : Int)]) e, by omega, ?_⟩
      refine ⟨_, hD, by rw [List.length_map, List.length_map, List.length_range]; omega, same_newer s1 nD, ?_⟩
      rw [upd_same, List.range_succ, List.map_append, List.map_append]
      rfl
    · obtain ⟨s1, hD⟩ := h
      rw [Int.toNat_natCast] at hD
      exact q H1 D s1 nD hD
theorem xor01 {o b : Nat} (ho : o < 2) (hb : b < 2) : Builtin.bitXor (o : Int) (b : Int) = (((o + b) % 2 : Nat) : Int) := by
  match o, b, ho, hb with
  | 0, 0, _, _ => decide
  | 0, 1, _, _ => decide
  | 1, 0, _, _ => decide
  | 1, 1, _, _ => decide
theorem and_one (x : Nat) : Builtin.bitAnd (x : Int) 1 = ((x % 2 : Nat) : Int) := by
  have h := _root_.Bits.bit_at (x := (x : Int)) 0
  rw [Int.pow_zero, Int.fdiv_one] at h
  rw [h, Int.ediv_one]
  omega
theorem parF_zero : ∀ f, parF f 0 = 0
  | 0 => rfl
  | f + 1 => by
    show (0 % 2 + parF f (0 / 2)) % 2 = 0
    rw [Nat.zero_div, parF_zero f]
def sp_odd_ones (_ : PySem.W.Frag) : Sp := fun vs H Q _ => ∃ n : Nat, vs = [.int (n : Nat)] ∧ n < 2 ^ 7 ∧ Q (.int (par n : Nat)) H
theorem ok_odd_ones (T : Defs K mg) (TT : Tabs T base) : FnOk P w K mg base CX0 1 T.f_odd_ones T.fd_odd_ones ["number"] (sp_odd_ones K) := by
  refine T.F_odd_ones.ok sc_odd_ones (fun vs H Q E h => ?_) (fun cdv A outer s H vs Q E hr h => ?_)
  · obtain ⟨n, rfl, hn, q⟩ := h
    rfl
  · obtain ⟨n, rfl, hn, q⟩ := h
    refine ⟨_, PSs.nox (pss_cons (ps_set (i := 1) sc_odd_ones.nd rfl (.inl rfl) pe_int)
    (pss_cons (ps_while PassesOwn.never (pt_cmpR op_gt (pv 0) pe_int (nomark _)) (pss_cons (ps_set (i := 1) sc_odd_ones.nd rfl (.inl rfl) (pe_op op_xor (pv 1) (pe_op op_and (pv 0) pe_int)))
    (pss_one (ps_set (i := 0) sc_odd_ones.nd rfl (.inl rfl) (pe_op op_shr (pv 0) pe_int)))))
    (pss_one (ps_ret (pv 1))))), ?_⟩
    refine ⟨fun k σ H1 => ∃ x o f : Nat, x = k ∧ σ = [some (.int (x : Nat)), some (.int (o : Nat))] ∧ H1 = H ∧ x < 2 ^ f ∧ o < 2 ∧ (o + parF f x) % 2 = par n, ⟨n, n, 0, 7, rfl, rfl, rfl, hn, by decide, by rw [Nat.zero_add]; exact Nat.mod_eq_of_lt (par_lt n)⟩, ?_⟩
    rintro k σ H1 ⟨x, o, f, rfl, rfl, rfl, hx, ho, he⟩
    refine ⟨.int (x : Nat), rfl, _, _, rfl, rfl, _, rfl, ite2 (fun e => ⟨_, fun σ' H' h => h, ?_⟩) (fun e => ?_)⟩
    · have x0 : (0 : Int) < (x : Int) := of_decide_eq_true e
      match f, hx, he with
      | 0, hx, _ =>
        exfalso
        have : x < 1 := hx
        omega
      | f + 1, hx, he =>
        refine ⟨.int (o : Nat), rfl, .int (x : Nat), rfl, _, _, rfl, rfl, _, _, rfl, rfl, ?_⟩
        refine ⟨.int (x : Nat), rfl, _, _, rfl, rfl, (show (0 : Int) ≤ 1 by decide), ?_⟩
        refine ⟨x / 2, by omega, x / 2, (o + x % 2) % 2, f, rfl, ?_, rfl, by rw [Nat.pow_succ] at hx; omega, Nat.mod_lt _ (by decide), ?_⟩
        · have e1 : (x : Int) / 2 ^ (1 : Int).toNat = ((x / 2 : Nat) : Int) := by
            show (x : Int) / 2 ^ 1 = _
            omega
          try dsimp only
          rw [and_one, xor01 ho (Nat.mod_lt _ (by decide)), e1]
          rfl
        · have : (o + (x % 2 + parF f (x / 2)) % 2) % 2 = par n := he
          omega
    · have x0 : x = 0 := by
        have : ¬ (0 : Int) < (x : Int) := fun z => e (decide_eq_true z)
        omega
      subst x0
      rw [parF_zero, Nat.add_zero, Nat.mod_eq_of_lt ho] at he
      subst he
      exact ⟨_, rfl, q⟩
theorem and_nat (x p : Nat) : Builtin.bitAnd (x : Int) (p : Int) = ((x &&& p : Nat) : Int) := by
  rw [PyProof.Rows.bitAnd_pp (by omega) (by omega), Int.toNat_natCast, Int.toNat_natCast]
def sp_held_round (_ : PySem.W.Frag) : Sp := fun vs H Q _ => ∃ w p s : Nat, vs = [.int (w : Nat), .int (p : Nat), .int (s : Nat)] ∧ (Mk.register w p s).Pl ∧
  ∀ H' a, Same H H' → H a = none → H' a = some (.lst ((Mk.register w p s).pl.map V.int)) → Q (.ref a) H'
theorem step_eq {w x p : Nat} : (2 : Int) * (x : Int) % ((2 ^ w : Nat) : Int) + ((par (x &&& p) : Nat) : Int) = ((regS w p x : Nat) : Int) := by
  unfold regS
  rw [Int.natCast_add, Int.natCast_emod, Int.natCast_mul]
  rfl
theorem ok_held_round (T : Defs K mg) (TT : Tabs T base) : FnOk P w K mg base CX0 2 T.f_held_round T.fd_held_round ["wide", "taps", "start"] (sp_held_round K) := by
  have G_size_of : FnOk P w K mg base CX0 1 T.f_size_of T.fd_size_of ["wide"] (sp_size_of K) := ok_size_of T TT
  have G_odd_ones : FnOk P w K mg base CX0 1 T.f_odd_ones T.fd_odd_ones ["number"] (sp_odd_ones K) := ok_odd_ones T TT
  refine T.F_held_round.ok sc_held_round (fun vs H Q E h => ?_) (fun cdv A outer s H vs Q E hr h => ?_)
  · obtain ⟨w', p', s', rfl, ⟨hw, s1, s2⟩, q⟩ := h
    rfl
  · obtain ⟨w', p', s', rfl, ⟨hw, s1, s2⟩, q⟩ := h
    refine ⟨_, PSs.nox (pss_cons (ps_set (i := 3) sc_held_round.nd rfl (.inl rfl) (pe_call G_size_of (hr.mono (by decide)) (by rfl) T.g_size_of T.F_size_of.kp T.b_size_of .nil pass0 (pa_cons (pv 0) pa_nil)))
    (pss_cons (ps_set (i := 4) sc_held_round.nd rfl (.inl rfl) (pe_lst pa_nil))
    (pss_cons (ps_set (i := 5) sc_held_round.nd rfl (.inl rfl) (pv 2))
    (pss_cons (ps_while PassesOwn.never (PW.pt (pw_and (pt_cmpR op_lt (pe_callB call_len_seq (by rfl) T.m_len bt_len (pa_cons (pv 4) pa_nil)) (pv 3) (nomark _)) (pw_and1 (PW.pt (pw_or (pt_cmpR op_ne (pv 5) (pv 2) (nomark _)) (pw_or1 (pt_not (pt_truth (pv 4) (by intro _; rfl))))))))) (pss_cons (ps_expr (pe_bm PySem.F.plainAttrs_list PySem.F.slot_list_append PySem.F.type_list_append mt_append (pv 4) (pa_cons (pv 5) pa_nil)))
    (pss_one (ps_set (i := 5) sc_held_round.nd rfl (.inl rfl) (pe_op op_add (pe_op op_mod (pe_op op_mul pe_int (pv 5)) (pv 3)) (pe_call G_odd_ones (hr.mono (by decide)) (by rfl) T.g_odd_ones T.F_odd_ones.kp T.b_odd_ones .nil pass0 (pa_cons (pe_op op_and (pv 5) (pv 1)) pa_nil)))))))
    (pss_one (ps_ret (pv 4))))))), ?_⟩
    have hsl : sizeLine = 16777216 := by decide
    have tp := two_pow6 hw.hi
    have ip := per_is hw s2
    refine ⟨.int (w' : Nat), rfl, w', rfl, hw.hi, ?_⟩
    obtain ⟨n, hn⟩ : ∃ n, 2 ^ w' = n := ⟨_, rfl⟩
    rw [hn] at tp ⊢
    refine ⟨Nat.zero_le _, fun l nl => ?_⟩
    refine ⟨.int (s' : Nat), rfl, ?_⟩
    refine ⟨fun m σ H1 => ∃ k : Nat, m = n - k ∧ k ≤ n ∧ σ = [some (.int (w' : Nat)), some (.int (p' : Nat)), some (.int (s' : Nat)), some (.int (n : Nat)), some (.ref l), some (.int (regA w' p' s' k : Nat))] ∧ Same H H1 ∧ H1 l = some (.lst (((List.range k).map fun k => ((regA w' p' s' k : Nat) : Int)).map V.int)) ∧ ∀ j, 0 < j → j < k → regA w' p' s' j ≠ s', ⟨n, 0, by omega, by omega, rfl, same_upd nl, upd_same, fun j h0 h1 => by omega⟩, ?_⟩
    rintro m σ H1 ⟨k, rfl, hk, rfl, sH, hl, hf⟩
    have ll : (((List.range k).map fun k => ((regA w' p' s' k : Nat) : Int)).map V.int).length = k := by rw [List.length_map, List.length_map, List.length_range]
    have done : IsPer w' p' s' k → Q (.ref l) H1 := fun h => q H1 l sH nl (by
      rw [hl]
      show _ = some (HO.lst (((List.range (per w' p' s')).map fun k => ((regA w' p' s' k : Nat) : Int)).map V.int))
      rw [per_eq hw s2 h])
    have alt : regA w' p' s' k < 2 ^ w' := regA_lt hw s2 k
    have go : k < n → ∃ v, some (V.ref l) = some v ∧ True := fun _ => ⟨_, rfl, trivial⟩
    clear go
    refine ⟨.ref l, rfl, l, _, rfl, .inl (SqL.mk hl), .int (n : Nat), rfl, _, _, rfl, rfl, _, rfl, ?_⟩
    rw [ll]
    have body : ∀ (b : Prop), k < n → b → k < n := fun _ h _ => h
    clear body
    by_cases kn : k < n
    · rw [decide_eq_true (show (k : Int) < (n : Int) by omega)]
      refine iteT ?_
      refine ⟨_, rfl, .int (s' : Nat), rfl, rfl, _, rfl, ?_⟩
      by_cases es : regA w' p' s' k = s'
      · rw [show (!decide (V.int ((regA w' p' s' k : Nat) : Int) = V.int ((s' : Nat) : Int))) = false by rw [es, decide_eq_true rfl]; rfl]
        refine iteF ?_
        refine ⟨.ref l, rfl, _, .inl ⟨_, SqL.mk hl, rfl⟩, ?_⟩
        match k, kn, hk, hl, hf, done, alt, es with
        | 0, kn, hk, hl, hf, done, alt, es =>
          refine iteT ⟨_, fun σ' H' h => h, ?_⟩
          refine ⟨.ref l, rfl, .inl ⟨rfl, _, SqL.mk hl⟩, _, rfl, l, _, _, rfl, rfl, hl, (show 0 < sizeLine by decide), ?_⟩
          refine ⟨_, rfl, _, _, rfl, rfl, .inl ⟨by decide, by decide⟩, .int (n : Nat), rfl, _, _, rfl, rfl, is_pos tp.1, _, rfl, .int (p' : Nat), rfl, _, _, rfl, rfl, (regA w' p' s' 0 &&& p'), congrArg (fun z => [V.int z]) (and_nat _ _), Nat.lt_of_le_of_lt Nat.and_le_left (Nat.lt_of_lt_of_le alt (Nat.pow_le_pow_right (by decide) (by have := hw.hi; omega))), _, _, rfl, rfl, ?_⟩
          refine ⟨n - 1, by omega, 1, rfl, by omega, ?_, same_newer sH nl, by rw [upd_same]; rfl, fun j h0 h1 => by omega⟩
          try dsimp only
          rw [← hn, step_eq]
          rfl
        | k + 1, kn, hk, hl, hf, done, alt, es =>
          have nz : (!(((List.range (k + 1)).map fun k => ((regA w' p' s' k : Nat) : Int)).map V.int).isEmpty) = true := by
            rw [List.range_succ_eq_map]
            rfl
          rw [nz]
          refine iteF ?_
          exact ⟨.ref l, rfl, done ⟨by omega, by omega, es, hf⟩⟩
      · rw [show (!decide (V.int ((regA w' p' s' k : Nat) : Int) = V.int ((s' : Nat) : Int))) = true by
          rw [decide_eq_false (fun z => es (by have := V.int.inj z; omega))]
          rfl]
        refine iteT (iteT ⟨_, fun σ' H' h => h, ?_⟩)
        refine ⟨.ref l, rfl, .inl ⟨rfl, _, SqL.mk hl⟩, _, rfl, l, _, _, rfl, rfl, hl, by rw [ll]; omega, ?_⟩
        refine ⟨_, rfl, _, _, rfl, rfl, .inl ⟨by decide, by decide⟩, .int (n : Nat), rfl, _, _, rfl, rfl, is_pos tp.1, _, rfl, .int (p' : Nat), rfl, _, _, rfl, rfl, (regA w' p' s' k &&& p'), congrArg (fun z => [V.int z]) (and_nat _ _), Nat.lt_of_le_of_lt Nat.and_le_left (Nat.lt_of_lt_of_le alt (Nat.pow_le_pow_right (by decide) (by have := hw.hi; omega))), _, _, rfl, rfl, ?_⟩
        refine ⟨n - (k + 1), by omega, k + 1, rfl, by omega, ?_, same_newer sH nl, ?_, fun j h0 h1 => ?_⟩
        · try dsimp only
          rw [← hn, step_eq]
          rfl
        · rw [upd_same, List.range_succ, List.map_append, List.map_append]
          rfl
        · by_cases z : j = k
          · rw [z]
            exact es
          · exact hf j h0 (by omega)
    · rw [decide_eq_false (show ¬ (k : Int) < (n : Int) by omega)]
      refine iteF (iteF ?_)
      have kp : per w' p' s' = k := by
        have h1 := ip.le
        have h2 : ¬ per w' p' s' < k := fun z => hf _ ip.pos z ip.back
        omega
      refine ⟨.ref l, rfl, done ?_⟩
      rw [← kp]
      exact ip
def sp_plain_round (_ : PySem.W.Frag) : Sp := fun vs H Q _ => ∃ m v, vs = [v] ∧ MkAt H m v ∧ m.Pl ∧
  ∀ H' p, Same H H' → H p = none → H' p = some (.lst (m.pl.map V.int)) → Q (.ref p) H'
theorem ok_plain_round (T : Defs K mg) (TT : Tabs T base) : FnOk P w K mg base CX0 3 T.f_plain_round T.fd_plain_round ["maker"] (sp_plain_round K) := by
  have G_counter_round : FnOk P w K mg base CX0 1 T.f_counter_round T.fd_counter_round ["size", "step", "start"] (sp_counter_round K) := ok_counter_round T TT
  have G_turned_round : FnOk P w K mg base CX0 2 T.f_turned_round T.fd_turned_round ["wide", "start"] (sp_turned_round K) := ok_turned_round T TT
  have G_held_round : FnOk P w K mg base CX0 2 T.f_held_round T.fd_held_round ["wide", "taps", "start"] (sp_held_round K) := ok_held_round T TT
  refine T.F_plain_round.ok sc_plain_round (fun vs H Q E h => ?_) (fun cdv A outer s H vs Q E hr h => ?_)
  · obtain ⟨m, v, rfl, hm, pl, q⟩ := h
    rfl
  · obtain ⟨m, v, rfl, hm, pl, q⟩ := h
    refine ⟨_, PSs.nox (pss_one (ps_match (pv 0) (pcs_seq rfl sc_plain_round.nd pe_str (pcap_cons (i := 1) rfl (.inl rfl) (pcap_cons (i := 2) rfl (.inl rfl) (pcap_cons (i := 3) rfl (.inl rfl) pcap_nil))) (pss_one (ps_ret (pe_call G_counter_round (hr.mono (by decide)) (by rfl) T.g_counter_round T.F_counter_round.kp T.b_counter_round .nil pass0 (pa_cons (pv 1) (pa_cons (pv 2) (pa_cons (pv 3) pa_nil))))))
    (pcs_seq rfl sc_plain_round.nd pe_str (pcap_cons (i := 4) rfl (.inl rfl) (pcap_cons (i := 3) rfl (.inl rfl) pcap_nil)) (pss_one (ps_ret (pe_call G_turned_round (hr.mono (by decide)) (by rfl) T.g_turned_round T.F_turned_round.kp T.b_turned_round .nil pass0 (pa_cons (pv 4) (pa_cons (pv 3) pa_nil)))))
    (pcs_seq rfl sc_plain_round.nd pe_str (pcap_cons (i := 4) rfl (.inl rfl) (pcap_cons (i := 5) rfl (.inl rfl) (pcap_cons (i := 3) rfl (.inl rfl) pcap_nil))) (pss_one (ps_ret (pe_call G_held_round (hr.mono (by decide)) (by rfl) T.g_held_round T.F_held_round.kp T.b_held_round .nil pass0 (pa_cons (pv 4) (pa_cons (pv 5) (pa_cons (pv 3) pa_nil))))))
    (pcs_seq rfl sc_plain_round.nd pe_str (pcap_cons (i := 6) rfl (.inl rfl) pcap_nil) (pss_one (ps_ret (pe_callTy call_list_of (by rfl) T.m_list bt_list (pa_cons (pv 6) pa_nil))))
    pcs_nil)))))), ?_⟩
    cases m with
    | counter r s' t =>
      obtain ⟨a, rfl, ha⟩ := hm
      refine ⟨.ref a, rfl, a, _, rfl, SqT.mk ha, .inr ⟨_, _, rfl, rfl, .inl ⟨rfl, ?_⟩⟩⟩
      exact ⟨.int (r : Nat), rfl, .int (s' : Nat), rfl, .int (t : Nat), rfl, r, s', t, rfl, pl.1, pl.2.1, pl.2.2.1, pl.2.2.2, q⟩
    | turned w' s' =>
      obtain ⟨a, rfl, ha⟩ := hm
      refine ⟨.ref a, rfl, a, _, rfl, SqT.mk ha, .inl ⟨by simp, .inr ⟨_, _, rfl, rfl, .inl ⟨rfl, ?_⟩⟩⟩⟩
      exact ⟨.int (w' : Nat), rfl, .int (s' : Nat), rfl, w', s', rfl, pl.1, pl.2.1, pl.2.2, q⟩
    | table ns =>
      obtain ⟨a, b, rfl, ha, hb⟩ := hm
      refine ⟨.ref a, rfl, a, _, rfl, SqT.mk ha, .inl ⟨by simp, .inl ⟨by simp, .inl ⟨by simp, .inr ⟨_, _, rfl, rfl, .inl ⟨rfl, ?_⟩⟩⟩⟩⟩⟩
      exact ⟨.ref b, rfl, b, _, rfl, .inr (SqT.mk hb), fun l nl => q _ l (same_upd nl) nl upd_same⟩
    | register w' p' s' =>
      obtain ⟨a, rfl, ha⟩ := hm
      refine ⟨.ref a, rfl, a, _, rfl, SqT.mk ha, .inr ⟨_, _, rfl, rfl, .inr ⟨by decide +kernel, .inl ⟨by simp, .inr ⟨_, _, rfl, rfl, .inl ⟨rfl, ?_⟩⟩⟩⟩⟩⟩
      exact ⟨.int (w' : Nat), rfl, .int (p' : Nat), rfl, .int (s' : Nat), rfl, w', p', s', rfl, pl, q⟩
    | _ => exact pl.elim
/-! the program: rounds, tops, numbers at beats -/
def spr_round_of (d : Nat) (_ : PySem.W.Frag) : Sp := fun vs H Q _ => ∃ m v, vs = [v] ∧ MkAt H m v ∧ m.Ok ∧ m.dep < d ∧ ∀ H', Same H H' → Q (.int (m.rnd : Nat)) H'
theorem no_round_of {K : PySem.W.Frag} {vs : List V} {H : Hp} {Q : VK} {E : XK} (h : spr_round_of 0 K vs H Q E) : False := by
  obtain ⟨m, v, _, _, _, z, _⟩ := h
  exact Nat.not_lt_zero _ z
theorem gcd_le {a n : Nat} : 1 ≤ Nat.gcd a (n + 1) ∧ Nat.gcd a (n + 1) ≤ n + 1 := ⟨Nat.gcd_pos_of_pos_right _ (by omega), Nat.le_of_dvd (by omega) (Nat.gcd_dvd_right _ _)⟩
def sp_top_of (_ : PySem.W.Frag) : Sp := fun vs H Q _ => ∃ m v, vs = [v] ∧ MkAt H m v ∧ m.Ok ∧ ∀ H' z, Same H H' → m.inn.Top z → Q (.int z) H'
theorem pl_at {m : Mk} (h : m.Pl) (t : Int) : atI (m.pl.map V.int) (t % (m.pl.length : Int)) = some (.int (m.pl.getD (t % (m.pl.length : Int)).toNat 0)) := by
  have hl := h.len
  have h1 := Int.emod_nonneg t (show (m.pl.length : Int) ≠ 0 by omega)
  have h2 := Int.emod_lt_of_pos t (show (0 : Int) < (m.pl.length : Int) by omega)
  obtain ⟨j, hj⟩ := Int.eq_ofNat_of_zero_le h1
  rw [hj] at h2 ⊢
  have hj2 : j < m.pl.length := by omega
  refine atI_nat ?_
  rw [List.getElem?_map, List.getElem?_eq_getElem hj2, Int.toNat_natCast, List.getD_eq_getElem?_getD, List.getElem?_eq_getElem hj2]
  rfl
def sp_values_at (_ : PySem.W.Frag) : Sp := fun vs H Q _ => ∃ m v b ts, vs = [v, .ref b] ∧ MkAt H m v ∧ m.Ok ∧ H b = some (.lst ((ts : List Int).map V.int)) ∧ ts.length ≤ 100000 ∧
  ∀ H' p, Same H H' → H p = none → H' p = some (.lst ((ts.map m.val).map V.int)) → Q (.ref p) H'
theorem ok_values_at (T : Defs K mg) (TT : Tabs T base) : FnOk P w K mg base CX0 4 T.f_values_at T.fd_values_at ["maker", "beats"] (sp_values_at K) := by
  have G_plain_round : FnOk P w K mg base CX0 3 T.f_plain_round T.fd_plain_round ["maker"] (sp_plain_round K) := ok_plain_round T TT
  have G_innermost : FnOk P w K mg base CX0 1 T.f_innermost T.fd_innermost ["maker"] (sp_innermost K) := ok_innermost T TT
  have G_inner_beat : FnOk P w K mg base CX0 1 T.f_inner_beat T.fd_inner_beat ["maker", "t"] (sp_inner_beat K) := ok_inner_beat T TT
  refine T.F_values_at.ok sc_values_at (fun vs H Q E h => ?_) (fun cdv A outer s H vs Q E hr h => ?_)
  · obtain ⟨m, v, b, ts, rfl, hm, ok, hb, hl, q⟩ := h
    rfl
  · obtain ⟨m, v, b, ts, rfl, hm, ok, hb, hl, q⟩ := h
    refine ⟨_, PSs.nox (pss_cons (ps_set (i := 2) sc_values_at.nd rfl (.inr rfl) (pe_orT (pe_call G_plain_round (hr.mono (by decide)) (by rfl) T.g_plain_round T.F_plain_round.kp T.b_plain_round .nil pass0 (pa_cons (pe_call G_innermost (hr.mono (by decide)) (by rfl) T.g_innermost T.F_innermost.kp T.b_innermost .nil pass0 (pa_cons (pv 0) pa_nil)) pa_nil)) (pe_one (pe_lst (pa_cons pe_int pa_nil)))))
    (pss_one (ps_ret (pe_lc (own := [("t", 3)]) (g := gName 3) (tt := tYes) rfl sc_values_at.nd (pi_list (pv 1)) (blkOk_by (N := N_values_at) (sc := defScope s_values_at) (by decide +kernel)) (fun _ _ _ _ _ => (pg_name (i := 3) sc_values_at.nd rfl (.inl rfl))) (fun _ _ _ _ _ => pts_nil) (fun _ _ _ _ _ => (pe_ix (ixlK (K := K) rfl) (pv 2) (pe_op op_mod (pe_call G_inner_beat (hr.mono (by decide)) (by rfl) T.g_inner_beat T.F_inner_beat.kp T.b_inner_beat .nil pass0 (pa_cons (pv 0) (pa_cons (pv 3) pa_nil))) (pe_callB (lenK (K := K) rfl) (by rfl) T.m_len bt_len (pa_cons (pv 2) pa_nil))) (fun _ _ => rfl))))))), ?_⟩
    have hsl : sizeLine = 16777216 := by decide
    refine ⟨v, rfl, m, v, rfl, hm, fun H1 u s1 hu => ?_⟩
    refine ⟨m.inn, u, rfl, hu, ok.inn, fun H2 p s2 np hp => ?_⟩
    have ll := ok.inn.len
    refine ⟨true, .inl ⟨_, SqL.mk hp, ?_⟩, ?_⟩
    · cases e : m.inn.pl with
      | nil =>
        rw [e] at ll
        exact absurd ll.1 (by decide)
      | cons x r => rfl
    refine iteT ?_
    have s12 := s1.trans s2
    refine ⟨.ref b, rfl, b, rfl, ⟨_, SqL.mk (s12 _ _ hb)⟩, fun D nD => ?_⟩
    refine lc_list (xs := ts.map V.int) (fun i H3 => Same H2 H3 ∧ H3 D = some (.lst (((ts.take i).map m.val).map V.int))) ⟨same_upd nD, upd_same⟩ (fun i H3 _ h => SqL.mk (h.1 _ _ (s12 _ _ hb))) (fun i x H3 hx h => ?_) (fun H3 h => ?_)
    · obtain ⟨s3, hD⟩ := h
      rw [List.getElem?_map] at hx
      obtain ⟨t, ht, rfl⟩ := Option.map_eq_some_iff.mp hx
      have hi := (List.getElem?_eq_some_iff.mp ht).1
      refine ⟨rfl, yes_ite ?_⟩
      refine ⟨.ref p, rfl, v, rfl, _, rfl, m, v, t, rfl, (hm.same s12).same s3, ok, fun H4 s4 => ?_⟩
      have hp4 := s4 _ _ (s3 _ _ hp)
      refine ⟨.ref p, rfl, p, _, rfl, .inl (SqL.mk hp4), _, _, rfl, rfl, by rw [List.length_map]; exact is_pos ll.1, p, _, _, .int (m.val t), rfl, rfl, SqL.mk hp4, ?_, ?_⟩
      · rw [List.length_map]
        exact pl_at ok.inn (m.bt t)
      · refine ⟨_, s4 _ _ hD, by rw [List.length_map, List.length_map, List.length_take]; omega, same_newer (s3.trans s4) nD, ?_⟩
        rw [upd_same, List.take_add_one, ht, List.map_append, List.map_append]
        rfl
    · obtain ⟨s3, hD⟩ := h
      rw [List.length_map, List.take_length] at hD
      exact q H3 D (s12.trans s3) (s12.free nD) hD
def sp_value_at (_ : PySem.W.Frag) : Sp := fun vs H Q _ => ∃ m v t, vs = [v, .int t] ∧ MkAt H m v ∧ m.Ok ∧ ∀ H', Same H H' → Q (.int (m.val t)) H'
def sp_values_of (_ : PySem.W.Frag) : Sp := fun vs H Q _ => ∃ m v, ∃ n : Nat, vs = [v, .int (n : Nat)] ∧ MkAt H m v ∧ m.Ok ∧ n ≤ 100000 ∧
  ∀ H' p, Same H H' → H p = none → H' p = some (.lst (((List.range n).map fun (i : Nat) => m.val i).map V.int)) → Q (.ref p) H'
theorem ok_values_of (T : Defs K mg) (TT : Tabs T base) : FnOk P w K mg base CX0 5 T.f_values_of T.fd_values_of ["maker", "beats"] (sp_values_of K) := by
  have G_values_at : FnOk P w K mg base CX0 4 T.f_values_at T.fd_values_at ["maker", "beats"] (sp_values_at K) := ok_values_at T TT
  refine T.F_values_of.ok sc_values_of (fun vs H Q E h => ?_) (fun cdv A outer s H vs Q E hr h => ?_)
  · obtain ⟨m, v, n, rfl, hm, ok, hn, q⟩ := h
    rfl
  · obtain ⟨m, v, n, rfl, hm, ok, hn, q⟩ := h
    refine ⟨_, PSs.nox (pss_one (ps_ret (pe_call G_values_at (hr.mono (by decide)) (by rfl) T.g_values_at T.F_values_at.kp T.b_values_at .nil pass0 (pa_cons (pv 0) (pa_cons (pe_listRg rfl (by rfl) T.m_list (prg_1 (by rfl) T.m_range (pv 1))) pa_nil))))), ?_⟩
    refine ⟨v, rfl, .int (n : Nat), rfl, (n : Nat), rfl, RgOk.of_le (Int.le_refl 0) (by omega) (by decide) (by omega), fun l nl => ?_⟩
    refine ⟨m, v, l, (List.range n).map fun (i : Nat) => (i : Int), rfl, hm.same (same_upd nl), ok, ?_, by rw [List.length_map, List.length_range]; exact hn, fun H1 p s1 np hp => ?_⟩
    · rw [upd_same]
      unfold rgV
      rw [List.map_map, show ((n : Int) - 0).toNat = n by omega]
      congr 2
      apply List.map_congr_left
      intro i _
      show V.int (0 + (i : Int)) = V.int (i : Int)
      rw [Int.zero_add]
    · refine q H1 p ((same_upd nl).trans s1) ((same_upd nl).free np) ?_
      rw [hp]
      simp only [List.map_map]
      rfl
/-! heaps with tables -/
theorem trip0 : TriplesOk (#[] : Array Value).toList := trivial
structure Sam (H H' : Hp) : Prop where
  obj : ∀ b o, (∀ ps, o ≠ .tbl ps) → H b = some o → H' b = some o
  tab : ∀ b ps, H b = some (.tbl ps) → ∃ ps', H' b = some (.tbl ps') ∧ (TriplesOk ps.toList → TriplesOk ps'.toList)
theorem Sam.of {H H' : Hp} (s : Same H H') : Sam H H' := ⟨fun b o _ e => s b o e, fun b ps e => ⟨ps, s b _ e, fun z => z⟩⟩
theorem Sam.refl (H : Hp) : Sam H H := .of (Same.refl H)
theorem Sam.trans {H H1 H2 : Hp} (a : Sam H H1) (b : Sam H1 H2) : Sam H H2 := ⟨fun c o n e => b.obj c o n (a.obj c o n e), fun c ps e => by
  obtain ⟨p1, e1, t1⟩ := a.tab c ps e
  obtain ⟨p2, e2, t2⟩ := b.tab c p1 e1
  exact ⟨p2, e2, fun z => t2 (t1 z)⟩⟩
theorem Sam.tabG {H H' : Hp} {P : Addr} (a : Sam H H') (t : GxR.TabG H P) : GxR.TabG H' P := by
  obtain ⟨ps, e, z⟩ := t
  obtain ⟨p1, e1, t1⟩ := a.tab P ps e
  exact ⟨p1, e1, t1 z⟩
theorem Sam.tup {H H' : Hp} {a : Addr} {xs : List V} (s : Sam H H') (h : H a = some (.tup xs)) : H' a = some (.tup xs) := s.obj _ _ (fun _ z => by cases z) h
theorem Sam.lst {H H' : Hp} {a : Addr} {xs : List V} (s : Sam H H') (h : H a = some (.lst xs)) : H' a = some (.lst xs) := s.obj _ _ (fun _ z => by cases z) h
theorem Sam.free {H H' : Hp} (s : Sam H H') {l : Addr} (h : H' l = none) : H l = none := by
  cases q : H l with
  | none => rfl
  | some o =>
    cases o with
    | tbl ps =>
      obtain ⟨p1, e1, _⟩ := s.tab l ps q
      rw [e1] at h
      cases h
    | _ =>
      rw [s.obj l _ (fun _ z => by cases z) q] at h
      cases h
theorem Sam.tabbed {P : Addr} {H H' : Hp} (g : GxR.TabG H P) (t : GxR.Tabbed P H H') : Sam H H' := by
  obtain ⟨⟨p1, e1, z1⟩, k⟩ := t
  obtain ⟨p0, e0, _⟩ := g
  refine ⟨fun b o n e => ?_, fun b ps e => ?_⟩
  · by_cases hb : b = P
    · rw [hb, e0] at e
      exact absurd (Option.some.inj e).symm (n p0)
    · rw [k b hb]
      exact e
  · by_cases hb : b = P
    · rw [hb]
      exact ⟨p1, e1, fun _ => z1⟩
    · exact ⟨ps, by rw [k b hb]; exact e, fun z => z⟩
theorem sam_newer {H H' : Hp} {q : Addr} {o : HO} (a : Sam H H') (n : H q = none) : Sam H (upd H' q o) := ⟨fun c x hx e => by
    rw [upd_ne (ne_of_none e n)]
    exact a.obj c x hx e, fun c ps e => by
    obtain ⟨p1, e1, t1⟩ := a.tab c ps e
    exact ⟨p1, by rw [upd_ne (ne_of_none e n)]; exact e1, t1⟩⟩
/-- all but the box stays, tables grow -/
structure Bus (p : Addr) (H H' : Hp) : Prop where
  obj : ∀ b o, b ≠ p → (∀ ps, o ≠ .tbl ps) → H b = some o → H' b = some o
  tab : ∀ b ps, b ≠ p → H b = some (.tbl ps) → ∃ ps', H' b = some (.tbl ps') ∧ (TriplesOk ps.toList → TriplesOk ps'.toList)
theorem Bus.of {p : Addr} {H H' : Hp} (s : But p H H') : Bus p H H' := ⟨fun b o n _ e => s b o n e, fun b ps n e => ⟨ps, s b _ n e, fun z => z⟩⟩
theorem Bus.sam {p : Addr} {H H' : Hp} (s : Sam H H') : Bus p H H' := ⟨fun b o _ n e => s.obj b o n e, fun b ps _ e => s.tab b ps e⟩
theorem Bus.refl (p : Addr) (H : Hp) : Bus p H H := .of (But.refl p H)
theorem Bus.trans {p : Addr} {H H1 H2 : Hp} (a : Bus p H H1) (b : Bus p H1 H2) : Bus p H H2 := ⟨fun c o h n e => b.obj c o h n (a.obj c o h n e), fun c ps h e => by
  obtain ⟨p1, e1, t1⟩ := a.tab c ps h e
  obtain ⟨p2, e2, t2⟩ := b.tab c p1 h e1
  exact ⟨p2, e2, fun z => t2 (t1 z)⟩⟩
theorem Bus.tup {p : Addr} {H H' : Hp} {n : Nat} {a : Addr} {xs : List V} (s : Bus p H H') (B : Bx H p n) (h : H a = some (.tup xs)) : H' a = some (.tup xs) := s.obj _ _ (B.ne_tup h) (fun _ z => by cases z) h
theorem Bus.lst {p : Addr} {H H' : Hp} {a : Addr} {xs : List V} (s : Bus p H H') (ne : a ≠ p) (h : H a = some (.lst xs)) : H' a = some (.lst xs) := s.obj _ _ ne (fun _ z => by cases z) h
theorem Bus.tabG {p : Addr} {H H' : Hp} {n : Nat} {P : Addr} (s : Bus p H H') (B : Bx H p n) (t : GxR.TabG H P) : GxR.TabG H' P := by
  obtain ⟨ps, e, z⟩ := t
  obtain ⟨a, b, c, hp, _⟩ := B
  obtain ⟨p1, e1, t1⟩ := s.tab P ps (ne_of e hp (fun z => by cases z)) e
  exact ⟨p1, e1, t1 z⟩
theorem Bus.new {p q : Addr} {H H' : Hp} {o : HO} (a : Bus p H H') (n : H' q = none) : Bus p H (upd H' q o) := a.trans (.of ((But.refl p H').new n))
/-- a thing made since H may change -/
theorem bus_newer {p q : Addr} {H H' : Hp} {o : HO} (a : Bus p H H') (n : H q = none) : Bus p H (upd H' q o) := ⟨fun c x h hx e => by
    rw [upd_ne (ne_of_none e n)]
    exact a.obj c x h hx e, fun c ps h e => by
    obtain ⟨p1, e1, t1⟩ := a.tab c ps h e
    exact ⟨p1, by rw [upd_ne (ne_of_none e n)]; exact e1, t1⟩⟩
theorem Bus.free {p : Addr} {H H' : Hp} {n : Nat} (s : Bus p H H') (B : Bx H p n) (B' : ∃ m, Bx H' p m) {l : Addr} (h : H' l = none) : H l = none := by
  cases q : H l with
  | none => rfl
  | some o =>
    have nl : l ≠ p := fun z => by
      obtain ⟨m, _, _, _, hp, _⟩ := B'
      rw [z, hp] at h
      cases h
    cases o with
    | tbl ps =>
      obtain ⟨p1, e1, _⟩ := s.tab l ps nl q
      rw [e1] at h
      cases h
    | _ =>
      rw [s.obj l _ nl (fun _ z => by cases z) q] at h
      cases h
theorem Bx.sam {H H' : Hp} {p : Addr} {n : Nat} (h : Bx H p n) (s : Sam H H') : Bx H' p n := by
  obtain ⟨a, b, c, hp, r⟩ := h
  exact ⟨a, b, c, s.lst hp, r⟩
theorem bus_same {p : Addr} {H H1 H2 : Hp} (n : H p = none) (a : Sam H H1) (b : Bus p H1 H2) : Sam H H2 := ⟨fun c x h e => b.obj c x (ne_of_none e n) h (a.obj c x h e), fun c ps e => by
  obtain ⟨p1, e1, t1⟩ := a.tab c ps e
  obtain ⟨p2, e2, t2⟩ := b.tab c p1 (ne_of_none e n) e1
  exact ⟨p2, e2, fun z => t2 (t1 z)⟩⟩
theorem ne_new {H : Hp} {p q : Addr} {n : Nat} (B : Bx H p n) (nq : H q = none) : q ≠ p := fun e => by
  obtain ⟨_, _, _, hp, _⟩ := B
  rw [e, hp] at nq
  cases nq
/-! a tuple so many times -/
theorem tuple_once (l : Addr) (items : Array Value) (n : Nat) (dd : Option Addr) (sl : Array (Option Value)) (u : Tok) :
    Meets (Builtin.«tuple.__mul__» ⟨[.ref l, .int 1 u], []⟩) (fun _ R s => s.heap.get? l = some { cls := .type "tuple", dict := dd, data := .seq items n, slots := sl } ∧ R (.ok (.ret (Value.ref l))) { s with toks := s.toks }) :=
  .of_wp fun prog w A R s h => by
    obtain ⟨hp, g, d, tk, os⟩ := s
    obtain ⟨hl, h⟩ := h
    have f1 := AutoSeq1.idx_int
    have c1 : (items.isEmpty || (1 : Int) == 1) = true := by simp
    wp_walk using wpAny_loadPart' hl
    repeat (first
      | (refine wpAny_ite_true (decide_eq_true c1) ?_; wp_walk using wpAny_loadPart' hl)
      | (refine wpAny_ite_false (decide_eq_false (by decide)) ?_; wp_walk using wpAny_loadPart' hl))
    exact ⟨_, rfl, h⟩
def rRepA (K : PySem.W.Frag) : R2 := fun x y H Q => ∃ (l : Addr) (k : Nat) (xs : List V), x = .ref l ∧ y = .int (k : Nat) ∧ SqT K H l xs ∧ xs ≠ [] ∧ 1 ≤ k ∧ xs.length * k ≤ 1000000 ∧ (k = 1 → Q (.ref l) H) ∧
  (2 ≤ k → ∀ p, H p = none → Q (.ref p) (upd H p (.tup (List.replicate k xs).flatten)))
theorem op_repA {X : Cx} : OpR X (binaryOp .Mult) (rRepA X.K) := by
  intro pins s σ H x y v u Q I rx ry h
  obtain ⟨l, k, xs, rfl, rfl, hT, hne, h1, hz, q1, q2⟩ := h
  cases rx
  obtain ⟨t, rfl⟩ := ry
  obtain ⟨its, r, ⟨⟨cls, dd, data, sl⟩, ho, hc, n, hd⟩, hs⟩ := I.tuple hT
  simp only at hc hd
  subst hc hd
  have lx : 0 < xs.length := List.length_pos_iff.mpr hne
  have le : its.length = xs.length := r.length.symm
  have ke : k * xs.length ≤ 1000000 := by
    rw [Nat.mul_comm]
    exact hz
  have kl : k ≤ 1000000 := Nat.le_trans (Nat.le_mul_of_pos_right k lx) ke
  have ne : its.toArray.isEmpty = false := by
    cases its with
    | nil =>
      rw [← le] at lx
      cases lx
    | cons a b => rfl
  by_cases k1 : k = 1
  · subst k1
    refine wpAny_binaryOp_repeat_ref (T := "tuple") (U := "int") (by decide) ⟨_, ho, rfl⟩ (fun s' => typeIs_int s' _ t) noFill_tuple_mul F.fills_int_mul F.slot_int_rmul repeat_tuple F.slot_int_index.lookup
      (call_meets F.slot_int_rmul (typeIs_int s _ t) F.entry_int_rmul (F.args_int_rmul_2 _ _) (int_rmul_tuple _ t l its.toArray n dd sl)
        ⟨ho, rfl, ⟨_, ho, rfl⟩, call_meets F.slot_tuple_mul ⟨_, ho, rfl⟩ F.entry_tuple_mul (F.args_tuple_mul_2 _ _) (tuple_once l its.toArray n dd sl t) ⟨ho, ?_⟩⟩)
    exact ⟨.ref l, H, I, rfl, q1 rfl⟩
  · have k2 : 2 ≤ k := by omega
    have sz : its.toArray.size = xs.length := by rw [List.size_toArray, le]
    have pr : ((its.toArray.size : Nat) : Int) * (k : Int) ≤ 1000000 := by
      rw [sz, ← Int.natCast_mul]
      omega
    have fl : (List.replicate k its).flatten.length ≤ sizeLine := by
      rw [PyProof.Rows.lm_len_rep_flat, le, sizeLine_eq]
      omega
    have d0 : (decide ((k : Int) < -(2 ^ 63)) || decide ((k : Int) ≥ 2 ^ 63)) = false := by
      rw [decide_eq_false (show ¬ (k : Int) < -(2 ^ 63) by omega), decide_eq_false (show ¬ (k : Int) ≥ 2 ^ 63 by omega)] <;> rfl
    have d1 : (its.toArray.isEmpty || (k : Int) == 1) = false := by
      rw [ne, Bool.false_or]
      exact beq_eq_false_iff_ne.mpr (by omega)
    have d2 : (decide ((k : Int) ≤ 0) || its.toArray.isEmpty) = false := by
      rw [ne, Bool.or_false]
      exact decide_eq_false (by omega)
    have d4 : Builtin.Tuple.tupleTooMany (((its.toArray.size : Nat) : Int) * (k : Int)) = false := by
      unfold Builtin.Tuple.tupleTooMany
      rw [sizeLine_eq]
      exact decide_eq_false (by omega)
    refine wpAny_binaryOp_repeat_ref (T := "tuple") (U := "int") (by decide) ⟨_, ho, rfl⟩ (fun s' => typeIs_int s' _ t) noFill_tuple_mul F.fills_int_mul F.slot_int_rmul repeat_tuple F.slot_int_index.lookup
      (call_meets F.slot_int_rmul (typeIs_int s _ t) F.entry_int_rmul (F.args_int_rmul_2 _ _) (int_rmul_tuple _ t l its.toArray n dd sl)
        ⟨ho, rfl, ⟨_, ho, rfl⟩, call_meets F.slot_tuple_mul ⟨_, ho, rfl⟩ F.entry_tuple_mul (F.args_tuple_mul_2 _ _) (tuple_mulW l its.toArray n dd sl (k : Int) t d0 d1 d2 (by omega) d4 (by rw [Int.toNat_natCast, size_rep, List.size_toArray]; exact fl)) ⟨ho, ?_⟩⟩)
    rw [Int.toNat_natCast, size_rep]
    refine ⟨.ref s.heap.objs.size, _, I.laid (t' := s.toks) (o := .tup (List.replicate k xs).flatten) (fun b ob q => Heap.get?_push_of_some _ q) (Nat.le_refl _) ⟨?_, _, r.rep k, IsTup.new _ _⟩, rfl, q2 k2 _ (I.hok.fresh (Nat.le_refl _))⟩
    rw [PyProof.Rows.lm_len_rep_flat, sizeLine_eq]
    omega
/-! the law's own rows -/
def Bits (rs : List Int) : Prop := ∀ x, x ∈ rs → x = 0 ∨ x = 1
theorem Bits.snoc {rs : List Int} {x : Int} (h : Bits rs) (hx : x = 0 ∨ x = 1) : Bits (rs ++ [x]) := fun y hy => by
  rcases List.mem_append.mp hy with hy | hy
  · exact h y hy
  · rw [List.mem_singleton] at hy
    rw [hy]
    exact hx
theorem but_newer {p q : Addr} {H H' : Hp} {o : HO} (a : But p H H') (n : H q = none) : But p H (upd H' q o) := fun c x hn e => by
  rw [upd_ne (ne_of_none e n)]
  exact a c x hn e
theorem Bx.other {H : Hp} {p q : Addr} {n : Nat} {o : HO} (h : Bx H p n) (nq : q ≠ p) : Bx (L2.upd H q o) p n := by
  obtain ⟨a, b, c, hp, r⟩ := h
  exact ⟨a, b, c, by rw [upd_ne (Ne.symm nq)]; exact hp, r⟩
def PV (p D : Addr) (HX : Hp) (k i : Nat) (H1 : Hp) : Prop := ∃ rs : List Int, rs.length = i ∧ Bits rs ∧ But p HX H1 ∧ Bx H1 p (k + i) ∧ H1 D = some (.lst (rs.map V.int))
theorem pv_start {p D : Addr} {HX : Hp} {k : Nat} (nD : HX D = none) (B : Bx HX p k) : PV p D HX k 0 (upd HX D (.lst [])) := ⟨[], rfl, fun _ h => (by cases h), (But.refl p HX).new nD, B.new nD, upd_same⟩
theorem pv_step {p D : Addr} {HX H1 H4 : Hp} {k i : Nat} {x : Int} (nD : HX D = none) (Dp : D ≠ p) (h : PV p D HX k i H1) (b : But p H1 H4) (B : Bx H4 p (k + (i + 1))) (hi : i < 100000) (hx : x = 0 ∨ x = 1) :
    ∃ acc, H4 D = some (.lst acc) ∧ acc.length < sizeLine ∧ PV p D HX k (i + 1) (upd H4 D (.lst (acc ++ [.int x]))) := by
  obtain ⟨rs, hl, hb, b1, _, hD⟩ := h
  have hsl : sizeLine = 16777216 := by decide
  refine ⟨_, b _ _ Dp hD, by rw [List.length_map]; omega, rs ++ [x], by rw [List.length_append, hl]; rfl, hb.snoc hx, but_newer (b1.trans b) nD, B.other Dp, ?_⟩
  rw [upd_same, List.map_append]
  rfl
theorem rep_one (m : Nat) (x : Int) : (List.replicate m [V.int x]).flatten = (List.replicate m x).map V.int := by
  rw [List.map_replicate]
  induction m with
  | zero => rfl
  | succ m ih => rw [List.replicate_succ, List.flatten_cons, ih, List.replicate_succ]; rfl
/-! a tuple no times, too -/
theorem tuple_nought (l : Addr) (items : Array Value) (n : Nat) (dd : Option Addr) (sl : Array (Option Value)) (u : Tok) (hi : items.isEmpty = false) :
    Meets (Builtin.«tuple.__mul__» ⟨[.ref l, .int 0 u], []⟩) (fun _ R s => s.heap.get? l = some { cls := .type "tuple", dict := dd, data := .seq items n, slots := sl } ∧ R (.ok (.ret (Value.ref s.heap.objs.size))) { s with heap := s.heap.push { cls := Value.type "tuple", data := Data.seq #[] }, toks := s.toks }) :=
  .of_wp fun prog w A R s h => by
    obtain ⟨hp, g, d, tk, os⟩ := s
    obtain ⟨hl, h⟩ := h
    have f1 := AutoSeq1.idx_int
    have c1 : (items.isEmpty || (0 : Int) == 1) = false := by rw [hi]; rfl
    have c2 : (decide ((0 : Int) ≤ 0) || items.isEmpty) = true := by simp
    wp_walk using wpAny_loadPart' hl
    repeat (first
      | (refine wpAny_ite_false (decide_eq_false (by rw [c1]; exact Bool.false_ne_true)) ?_; wp_walk using wpAny_loadPart' hl)
      | (refine wpAny_ite_true (decide_eq_true c2) ?_; wp_walk using wpAny_loadPart' hl)
      | (refine wpAny_ite_false (decide_eq_false (by decide)) ?_; wp_walk using wpAny_loadPart' hl))
    exact ⟨_, rfl, h⟩
def rRepB (K : PySem.W.Frag) : R2 := fun x y H Q => ∃ (l : Addr) (k : Nat) (xs : List V), x = .ref l ∧ y = .int (k : Nat) ∧ SqT K H l xs ∧ xs ≠ [] ∧ xs.length * k ≤ 1000000 ∧ (k = 1 → Q (.ref l) H) ∧
  (k ≠ 1 → ∀ p, H p = none → Q (.ref p) (upd H p (.tup (List.replicate k xs).flatten)))
theorem op_repB {X : Cx} : OpR X (binaryOp .Mult) (rRepB X.K) := by
  intro pins s σ H x y v u Q I rx ry h
  obtain ⟨l, k, xs, rfl, rfl, hT, hne, hz, q1, q2⟩ := h
  by_cases k0 : k = 0
  · subst k0
    cases rx
    obtain ⟨t, rfl⟩ := ry
    obtain ⟨its, r, ⟨⟨cls, dd, data, sl⟩, ho, hc, n, hd⟩, hs⟩ := I.tuple hT
    simp only at hc hd
    subst hc hd
    have le : its.length = xs.length := r.length.symm
    have ne : its.toArray.isEmpty = false := by
      cases its with
      | nil => exact absurd (List.eq_nil_of_length_eq_zero le.symm) hne
      | cons a b => rfl
    refine wpAny_binaryOp_repeat_ref (T := "tuple") (U := "int") (by decide) ⟨_, ho, rfl⟩ (fun s' => typeIs_int s' _ t) noFill_tuple_mul F.fills_int_mul F.slot_int_rmul repeat_tuple F.slot_int_index.lookup
      (call_meets F.slot_int_rmul (typeIs_int s _ t) F.entry_int_rmul (F.args_int_rmul_2 _ _) (int_rmul_tuple _ t l its.toArray n dd sl)
        ⟨ho, rfl, ⟨_, ho, rfl⟩, call_meets F.slot_tuple_mul ⟨_, ho, rfl⟩ F.entry_tuple_mul (F.args_tuple_mul_2 _ _) (tuple_nought l its.toArray n dd sl t ne) ⟨ho, ?_⟩⟩)
    exact ⟨.ref s.heap.objs.size, _, I.laid (t' := s.toks) (o := .tup []) (fun b ob q => Heap.get?_push_of_some _ q) (Nat.le_refl _) ⟨Nat.zero_le _, [], .nil, IsTup.new _ _⟩, rfl, q2 (by decide) _ (I.hok.fresh (Nat.le_refl _))⟩
  · exact op_repA pins s σ H _ _ v u Q I rx ry ⟨l, k, xs, rfl, rfl, hT, hne, by omega, hz, q1, fun z => q2 (by omega)⟩
/-- (x,) so many times -/
theorem rep_go {K : PySem.W.Frag} {H : Hp} {t : Addr} {x v : Int} {k : Nat} {Q : VK} (hv : v = (k : Nat)) (ht : H t = some (.tup [.int x])) (hk : k ≤ 100000) (q : ∀ H' p, Same H H' → H' p = some (.tup ((List.replicate k x).map V.int)) → Q (.ref p) H') : rRepB K (.ref t) (.int v) H Q := by
  subst hv
  refine ⟨t, k, _, rfl, rfl, SqT.mk ht, by simp, (show 1 * k ≤ 1000000 by omega), fun z => ?_, fun z p np => ?_⟩
  · subst z
    exact q H t (Same.refl H) ht
  · exact q _ p (same_upd np) (by rw [upd_same, rep_one])
theorem cat_go {K : PySem.W.Frag} {H : Hp} {a b : Addr} {rs ss : List Int} {Q : VK} (ha : H a = some (.tup (rs.map V.int))) (hb : H b = some (.tup (ss.map V.int))) (hl : rs.length + ss.length ≤ 100000)
    (q : ∀ H' p, Same H H' → H' p = some (.tup ((rs ++ ss).map V.int)) → Q (.ref p) H') : rCatA K (.ref a) (.ref b) H Q := by
  have hsl : sizeLine = 16777216 := by decide
  refine ⟨a, b, _, _, rfl, rfl, SqT.mk ha, SqT.mk hb, by rw [List.length_map, List.length_map]; omega, fun z => ?_, fun _ z => ?_, fun _ _ p np => ?_⟩
  · rw [List.map_eq_nil_iff.mp z] at q
    exact q H b (Same.refl H) hb
  · rw [List.map_eq_nil_iff.mp z] at q
    exact q H a (Same.refl H) (by rw [List.append_nil]; exact ha)
  · exact q _ p (same_upd np) (by rw [upd_same, List.map_append])
theorem catK {X : Cx} {K : PySem.W.Frag} (h : X.K = K) : OpR X (binaryOp .Add) (rCatA K) := by
  subst h
  exact op_catA
theorem zipAK {X : Cx} {K : PySem.W.Frag} {e e2 : Expr} {ta : TA} {p pos tpos : Pos} {elts : List Expr} {kk : Nat} (h : X.K = K) (hg : Gl X "zip") (hm : X.mg "zip" = none) (ha : PA X [e, e2] ta)
    (hs : starEach [e, e2] X.env = (false, eval e X.env) :: starEach [e2] X.env := by rfl) (hpl : (backTo pos (starEach [e2] X.env)).any (·.1) = false := by rfl) :
    PI X (.Tuple elts kk tpos) (.Call (.Name "zip" p) [e, e2] [] pos) (RZ.iZipA K ta) := by
  subst h
  exact RZ.pi_zipA hg hm ha hs hpl
/-! enumerate of a tuple -/
abbrev itObj (l : Addr) : Obj := { cls := .type "tuple_iterator", data := .fields #[.ref l, .int 0 0] }
abbrev enObj (a : Addr) : Obj := { cls := .type "enumerate", data := .fields #[.none, .bool false, .ref a, rawInt 0, .none, .none] }
set_option maxHeartbeats 1000000 in
theorem enum_newT (l : Addr) (items : Array Value) : Meets (Builtin.«enumerate.__new__» ⟨[.type "enumerate", .ref l], []⟩)
    (fun _ R s => s.heap.IsTuple l items ∧ R (.ok (.ret (.ref (s.heap.push (itObj l)).objs.size))) { s with heap := (s.heap.push (itObj l)).push (enObj s.heap.objs.size) }) :=
  .of_wp fun prog w A R s h => by
    obtain ⟨hp, g, d, tk, os⟩ := s
    obtain ⟨h1, h⟩ := h
    have hsub := sub_enumerate
    have q1 : ∀ {A' : Around} {E : Value → Shared → Prop} {Q : Value → Shared → Prop}, Q (.ref hp.objs.size) ⟨hp.push (itObj l), g, d, tk, os⟩ → wpAny (model prog w) A' (pyIter (.ref l)) Q E ⟨hp, g, d, tk, os⟩ := fun q => (begins_tuple l items).iter prog w _ _ ⟨hp, g, d, tk, os⟩ _ h1 q
    obtain ⟨⟨c, dct, dt, sl⟩, hl, hc, n, hd⟩ := h1
    replace hc : c = .type "tuple" := hc
    replace hd : dt = .seq items n := hd
    subst hc hd
    wp_walk using AutoSeq1.wpAny_loadPart' hl, q1
    refine wpAny_stack_any fun st => wpAny_pure ?_
    split
    · rename_i c _ _ _ _ _
      cases (c == Value.type "enumerate") <;> (wp_walk using AutoSeq1.wpAny_loadPart' hl, q1; exact ⟨_, rfl, h⟩)
    · wp_walk using AutoSeq1.wpAny_loadPart' hl, q1
      exact ⟨_, rfl, h⟩
theorem enum_callT {prog : Program} {w : World} {A : Around} {E : Value → Shared → Prop} {s : Shared} {l : Addr} {items : Array Value} {Q : Value → Shared → Prop} (hL : s.heap.IsTuple l items)
    (h : ∀ h', IsEnum h' (s.heap.objs.size + 1) s.heap.objs.size 0 .none → h'.IsTupleIter s.heap.objs.size l 0 → (∀ b o, s.heap.get? b = some o → h'.get? b = some o) → Q (.ref (s.heap.objs.size + 1)) { s with heap := h' }) :
    wpAny (model prog w) A (call (.type "enumerate") [.ref l]) Q E s := by
  refine callType_new F.called_enumerate (by decide) (F.typeCall_enumerate_1 _) (F.newCall_enumerate_1 _) (fun obj => F.args_object_init_2 obj _) F.entry_enumerate_new (enum_newT l items) ⟨hL, ?_⟩
  have hz : (s.heap.push (itObj l)).objs.size = s.heap.objs.size + 1 := Heap.size_push ..
  show _ ∧ _
  rw [hz]
  have he : IsEnum ((s.heap.push (itObj l)).push (enObj s.heap.objs.size)) (s.heap.objs.size + 1) s.heap.objs.size 0 .none := by
    have e := Heap.get?_push_size (s.heap.push (itObj l)) (o := enObj s.heap.objs.size) rfl
    rw [hz] at e
    exact e
  exact ⟨⟨_, he, rfl⟩, h _ he ⟨_, Heap.get?_push_of_some _ (Heap.get?_push_size _ rfl), rfl, rfl⟩ fun b o x => Heap.get?_push_of_some _ (Heap.get?_push_of_some _ x)⟩
/-- the tuple at a, each item in a new pair -/
def ItN (K : PySem.W.Frag) (a : Addr) : It :=
  ⟨fun i H => ∃ (xs : List V) (x : V), SqT K H a xs ∧ xs[i]? = some x, fun i H v H' => ∃ T x, v = .ref T ∧ H T = none ∧ H' = upd H T (.tup [.int (i : Nat), x]) ∧ ∀ xs, SqT K H a xs → xs[i]? = some x, fun i H => ∃ xs : List V, SqT K H a xs ∧ xs.length ≤ i⟩
theorem turn_N {P : Program} {w : World} {K : PySem.W.Frag} {elts : List Expr} {kk : Nat} {tpos : Pos} (a e it : Addr) (hae : a ≠ e) (hai : a ≠ it) :
    Turn P w K (.Tuple elts kk tpos) (ItN K a) [e, it] e (fun i h => (∃ old, IsEnum h e it ((i : Nat) : Int) old) ∧ h.IsTupleIter it a i ∧ e ≠ it) where
  mem := List.mem_cons_self
  obj := fun i h st b hb => by
    obtain ⟨⟨old, he⟩, ⟨o, ho, hc, hd⟩, _⟩ := st
    rcases List.mem_cons.mp hb with z | z
    · rw [z]
      exact ⟨_, he, fun v q => nomatch q⟩
    · rw [List.mem_singleton.mp z]
      exact ⟨o, ho, fun v q => by rw [hd] at q; cases q⟩
  keep := fun i h h' st k => let ⟨⟨old, he⟩, hi, hne⟩ := st; ⟨⟨old, k e List.mem_cons_self _ he⟩, hi.at fun o q => k it (List.mem_cons_of_mem _ List.mem_cons_self) o q, hne⟩
  item := by
    intro X hP hw hK hc i pins s σ H E I hf st hg
    subst hP hw hK
    obtain ⟨⟨old, he⟩, hit, hne⟩ := st
    obtain ⟨xs, x, hq, hx⟩ := hg
    obtain ⟨its, rv, p, hz⟩ := I.tuple hq
    obtain ⟨u, hu, ru⟩ := rv.get hx
    have hel : e < s.heap.objs.size := Heap.lt_size he
    have hil : it < s.heap.objs.size := by
      obtain ⟨_, q, _⟩ := hit
      exact Heap.lt_size q
    have hlt : i < its.toArray.size := by
      rw [List.size_toArray]
      exact (List.getElem?_eq_some_iff.mp hu).1
    refine wpAny_pyNext_enum_itemD (Draws.tuple (A := X.A.in1) (I.ok.hd hc) it a hai its.toArray) he ⟨hit, (show s.heap.IsTuple a its.toArray from p)⟩ hlt hne (fun z => ?_) fun x' h' tk hP' ho hst' hT hsz hk => ?_
    · rcases List.mem_cons.mp z with z | z
      · exact hne z
      · exact hae (List.mem_singleton.mp z).symm
    have ex : x' = u := by
      have hP' : its.toArray[i]? = some x' := hP'
      have hu' : its.toArray[i]? = some u := by simpa using hu
      rw [hu'] at hP'
      exact (Option.some.inj hP').symm
    subst ex
    refine ⟨_, rfl, wpAny_letOwnedTupleGo_enum (s := { s with heap := h', toks := tk + 1 }) ho fun h'' he' sb => ?_⟩
    have hT2 : h''.get? s.heap.objs.size = some { cls := .type "tuple", data := .seq #[.int i tk, x'] } := (sb.2 _ (Nat.ne_of_gt hel)).trans hT
    have new : ObjOk X.prog X.w (upd H s.heap.objs.size (.tup [.int (i : Nat), x])) h'' s.heap.objs.size (.tup [.int (i : Nat), x]) := ⟨(show 2 ≤ sizeLine by decide), [.int i tk, x'], .cons ⟨_, rfl⟩ (.cons ru .nil), ⟨_, hT2, rfl, _, rfl⟩⟩
    have I1 : Inv X pins σ (upd H s.heap.objs.size (.tup [.int (i : Nat), x])) { s with heap := h'', toks := tk + 1 } :=
      I.turnedNew (ch := [e, it]) (fun b ob hb q => (sb.2 b (fun z => hb (by rw [z]; exact List.mem_cons_self))).trans (hk b ob (fun z => hb (by rw [z]; exact List.mem_cons_self)) (fun z => hb (by rw [z]; exact List.mem_cons_of_mem _ List.mem_cons_self)) q)) hf (Nat.le_refl _) new
    refine ⟨.ref s.heap.objs.size, _, I1, rfl, ⟨_, x, rfl, I.hok.fresh (Nat.le_refl _), rfl, fun ys hy => by rw [I.tuple_inj hy hq]; exact hx⟩, ⟨⟨x', ?_⟩, hst'.1.at fun o q => (sb.2 it (Ne.symm hne)).trans q, hne⟩, fun b hb => ?_⟩
    · rw [show ((i + 1 : Nat) : Int) = (i : Int) + 1 by omega]
      exact he'
    · have hb' : b < s.heap.objs.size := by
        rcases List.mem_cons.mp hb with z | z
        · rw [z]
          exact hel
        · rw [List.mem_singleton.mp z]
          exact hil
      rw [upd_ne (Nat.ne_of_lt hb')]
      exact (hf b hb).1
  done := by
    intro X hP hw hK hc i pins s σ H E I hf st hg
    subst hP hw hK
    obtain ⟨⟨old, he⟩, hit, hne⟩ := st
    obtain ⟨xs, hq, hx⟩ := hg
    obtain ⟨its, rv, p, hz⟩ := I.tuple hq
    obtain ⟨f0, f1, f2, f3, f4, f5⟩ := hf it (List.mem_cons_of_mem _ List.mem_cons_self)
    have hl := rv.length
    have hT : s.TypeIs (.ref e) "enumerate" := ⟨_, he, rfl⟩
    have hend : its.toArray[i]? = none := by
      rw [List.getElem?_toArray, List.getElem?_eq_none (by omega)]
    unfold pyNext
    refine wpAny_bind (wpAny_attempt (wpAny_callSpecial?_slot (name := Str.ofString "__next__") hT F.slot_enumerate_next (wpAny_call_entry F.slot_enumerate_next hT F.entry_enumerate_next ?_ (F.args_enumerate_next_1 _))))
    show wpAny _ _ (field (.ref e) 2 >>= _) _ _ _
    refine wpAny_bind (wpAny_field he rfl (x := .ref it) rfl ?_)
    refine wpAny_bind (wpAny_nextOf_tuple_end (I.ok.hd hc) hit (show s.heap.IsTuple a its.toArray from p) hend fun h' x eb hx' => ?_)
    obtain ⟨o, ho, hcl⟩ := hx'
    refine wpAny_bind (wpAny_isInstance (T := "StopIteration") (b := true) ⟨o, ho, hcl⟩ isSubtype_stop ?_)
    exact wpAny_pure ⟨rfl, I.turned (t' := s.toks) (fun b o hb q => eb b o hb q) f0 f1 f3 f4 f5⟩
  self := fun A i s Q E st h => let ⟨⟨_, he⟩, _⟩ := st; wpAny_pyIter_enum he h
def iEnumT (K : PySem.W.Frag) (ta : TA) : TI := fun σ H R => ta σ H fun vs H1 => ∃ a xs, vs = [.ref a] ∧ SqT K H1 a xs ∧ R (ItN K a) H1
theorem pi_enumT {X : Cx} {e : Expr} {ta : TA} {p pos tpos : Pos} {elts : List Expr} {kk : Nat} (hg : Gl X "enumerate") (hm : X.mg "enumerate" = none) (ha : PA X [e] ta) (hs : starEach [e] X.env = [(false, eval e X.env)] := by rfl) :
    PI X (.Tuple elts kk tpos) (.Call (.Name "enumerate" p) [e] [] pos) (iEnumT X.K ta) := by
  refine ⟨fun pins s σ H R I h => ?_⟩
  refine Call_ (ld_blt I hg hm boot_enumerate (PyProof.Rows.callWith_type1 (thn (ha.run pos pins s σ H _ I h) fun us s1 ⟨vs, H1, I1, r1, q1⟩ => ?_) hs rfl))
  obtain ⟨a, xs, ex, hq, q⟩ := q1
  subst ex
  rw [Vals.ref1 r1]
  obtain ⟨its, rv, p', hz⟩ := I1.tuple hq
  have lta : a < s1.heap.objs.size := by
    obtain ⟨o, ho, _⟩ := id p'
    exact Heap.lt_size ho
  refine enum_callT (show s1.heap.IsTuple a its.toArray from p') fun h' he hit hk => wpAny_pyIter_enum he ?_
  have I2 : Inv X pins σ H1 { s1 with heap := h' } := I1.kept (t' := s1.toks) hk
  refine ⟨s1.heap.objs.size + 1, [s1.heap.objs.size + 1, s1.heap.objs.size], _, _, H1, rfl, I2, turn_N a (s1.heap.objs.size + 1) s1.heap.objs.size (Nat.ne_of_lt (Nat.lt_succ_of_lt lta)) (Nat.ne_of_lt lta), ⟨⟨.none, he⟩, hit, Nat.succ_ne_self _⟩, fun b hb => ?_, q⟩
  have hle : s1.heap.objs.size ≤ b := by
    rcases List.mem_cons.mp hb with z | z
    · rw [z]
      exact Nat.le_succ _
    · rw [List.mem_singleton.mp z]
      exact Nat.le_refl _
  exact I1.fpOk hle (I1.hok.fresh hle)
theorem walk_enumT {K : PySem.W.Frag} {a : Addr} {xs : List V} : Walk (ItN K a) xs.length (fun H => SqT K H a xs) (YPair (fun i => some (.int (i : Nat))) (fun i => xs[i]?)) := by
  refine ⟨fun i _ hi q => ⟨xs, xs[i], q, List.getElem?_eq_getElem hi⟩, fun _ q => ⟨xs, q, Nat.le_refl _⟩, fun i H v H' _ q y => ?_⟩
  obtain ⟨T, x, h1, h2, h3, h4⟩ := y
  exact ⟨T, .int (i : Nat), x, h1, h2, h3, rfl, h4 xs q⟩
def PN (p D : Addr) (HX : Hp) (m : Int) (k i : Nat) (H1 : Hp) : Prop := ∃ rs : List Int, rs.length = i ∧ (∀ x, x ∈ rs → 0 ≤ x ∧ x < m) ∧ But p HX H1 ∧ Bx H1 p (k + i) ∧ H1 D = some (.lst (rs.map V.int))
theorem pn_start {p D : Addr} {HX : Hp} {m : Int} {k : Nat} (nD : HX D = none) (B : Bx HX p k) : PN p D HX m k 0 (upd HX D (.lst [])) := ⟨[], rfl, fun _ h => (by cases h), (But.refl p HX).new nD, B.new nD, upd_same⟩
theorem pn_step {p D : Addr} {HX H1 H4 : Hp} {m : Int} {k i : Nat} {x : Int} (nD : HX D = none) (Dp : D ≠ p) (h : PN p D HX m k i H1) (b : But p H1 H4) (B : Bx H4 p (k + (i + 1))) (hi : i < 100000) (hx : 0 ≤ x ∧ x < m) :
    ∃ acc, H4 D = some (.lst acc) ∧ acc.length < sizeLine ∧ PN p D HX m k (i + 1) (upd H4 D (.lst (acc ++ [.int x]))) := by
  obtain ⟨rs, hl, hb, b1, _, hD⟩ := h
  have hsl : sizeLine = 16777216 := by decide
  refine ⟨_, b _ _ Dp hD, by rw [List.length_map]; omega, rs ++ [x], by rw [List.length_append, hl]; rfl, fun y hy => ?_, but_newer (b1.trans b) nD, B.other Dp, ?_⟩
  · rcases List.mem_append.mp hy with hy | hy
    · exact hb y hy
    · rw [List.mem_singleton.mp hy]
      exact hx
  · rw [upd_same, List.map_append]
    rfl
/-! where a number stands first -/
theorem flat_ints (xs : List Int) : (xs.map V.int).all flatV = true := by
  rw [List.all_eq_true]
  intro x hx
  obtain ⟨i, _, rfl⟩ := List.mem_map.mp hx
  rfl
theorem in_ints (xs : List Int) (k : Int) : inV (.int k) (xs.map V.int) = decide (k ∈ xs) := by
  unfold inV
  rw [Bool.eq_iff_iff, List.any_eq_true, decide_eq_true_iff]
  constructor
  · rintro ⟨y, hy, e⟩
    obtain ⟨i, hi, rfl⟩ := List.mem_map.mp hy
    have : i = k := by
      have e : (i == k) = true := e
      exact eq_of_beq e
    rw [← this]
    exact hi
  · intro h
    exact ⟨_, List.mem_map.mpr ⟨k, h, rfl⟩, show (k == k) = true from beq_self_eq_true k⟩
theorem first_of {xs : List Int} {k : Int} : k ∈ xs → ∃ j : Nat, xs[j]? = some k ∧ ∀ m, m < j → xs[m]? ≠ some k := by
  induction xs with
  | nil => intro h; cases h
  | cons x r ih =>
    intro h
    by_cases e : x = k
    · exact ⟨0, by rw [e]; rfl, fun m hm => by omega⟩
    · rcases List.mem_cons.mp h with h | h
      · exact absurd h.symm e
      · obtain ⟨j, h1, h2⟩ := ih h
        refine ⟨j + 1, h1, fun m hm => ?_⟩
        cases m with
        | zero => exact fun z => e (Option.some.inj z)
        | succ m => exact h2 m (by omega)
theorem nat_of {x : Int} (h : 0 ≤ x) : ∃ m : Nat, x = (m : Nat) := Int.eq_ofNat_of_zero_le h
/-! sums over the first places -/
def Sm (f : Nat → Int) : Nat → Int
  | 0 => 0
  | n + 1 => Sm f n + f n
theorem Sm_congr {f g : Nat → Int} : ∀ {n : Nat}, (∀ i, i < n → f i = g i) → Sm f n = Sm g n
  | 0, _ => rfl
  | n + 1, h => by
    show Sm f n + f n = Sm g n + g n
    rw [Sm_congr (n := n) fun i hi => h i (by omega), h n (by omega)]
theorem Sm_plus (f g : Nat → Int) : ∀ n, Sm (fun i => f i + g i) n = Sm f n + Sm g n
  | 0 => rfl
  | n + 1 => by
    show Sm _ n + (f n + g n) = (Sm f n + f n) + (Sm g n + g n)
    rw [Sm_plus f g n]
    omega
theorem Sm_mul (c : Int) (f : Nat → Int) : ∀ n, Sm (fun i => c * f i) n = c * Sm f n
  | 0 => by
    show (0 : Int) = c * 0
    rw [Int.mul_zero]
  | n + 1 => by
    show Sm _ n + c * f n = c * (Sm f n + f n)
    rw [Sm_mul c f n, Int.mul_add]
theorem Sm_const (c : Int) : ∀ n, Sm (fun _ => c) n = n * c
  | 0 => by
    show (0 : Int) = ((0 : Nat) : Int) * c
    omega
  | n + 1 => by
    show Sm _ n + c = ((n + 1 : Nat) : Int) * c
    rw [Sm_const c n, Int.natCast_add, Int.add_mul]
    omega
theorem Sm_comm (f : Nat → Nat → Int) (m : Nat) : ∀ n, Sm (fun j => Sm (fun i => f i j) m) n = Sm (fun i => Sm (f i) n) m
  | 0 => by
    show (0 : Int) = Sm (fun _ => (0 : Int)) m
    rw [Sm_const]
    omega
  | n + 1 => by
    show Sm _ n + Sm (fun i => f i n) m = Sm (fun i => Sm (f i) n + f i n) m
    rw [Sm_comm f m n, Sm_plus]
theorem Sm_split (f : Nat → Int) (m : Nat) : ∀ k, Sm f (m + k) = Sm f m + Sm (fun j => f (m + j)) k
  | 0 => by
    show Sm f m = Sm f m + 0
    omega
  | k + 1 => by
    show Sm f (m + k) + f (m + k) = Sm f m + (Sm _ k + f (m + k))
    rw [Sm_split f m k]
    omega
theorem Sm_head (f : Nat → Int) : ∀ n, Sm f (n + 1) = f 0 + Sm (fun j => f (j + 1)) n
  | 0 => by
    show (0 : Int) + f 0 = f 0 + 0
    omega
  | n + 1 => by
    show Sm f (n + 1) + f (n + 1) = f 0 + (Sm _ n + f (n + 1))
    rw [Sm_head f n]
    omega
theorem Sm_rev (f : Nat → Int) : ∀ m, Sm (fun k => f (m - 1 - k)) m = Sm f m
  | 0 => rfl
  | m + 1 => by
    rw [Sm_head]
    show f (m + 1 - 1 - 0) + _ = Sm f m + f m
    rw [show m + 1 - 1 - 0 = m by omega, ← Sm_rev f m]
    rw [Sm_congr (f := fun j => f (m + 1 - 1 - (j + 1))) (g := fun k => f (m - 1 - k)) fun i hi => by rw [show m + 1 - 1 - (i + 1) = m - 1 - i by omega]]
    omega
theorem Sm_turn (f : Nat → Int) {i n : Nat} (hi : i < n) : Sm (fun b => f ((i + n - b) % n)) n = Sm f n := by
  have e : n = (i + 1) + (n - i - 1) := by omega
  have h1 : Sm (fun b => f ((i + n - b) % n)) (i + 1) = Sm f (i + 1) := by
    rw [← Sm_rev f (i + 1)]
    refine Sm_congr fun b hb => ?_
    rw [show i + n - b = (i + 1 - 1 - b) + n by omega, Nat.add_mod_right, Nat.mod_eq_of_lt (by omega)]
  have h2 : Sm (fun j => f ((i + n - (i + 1 + j)) % n)) (n - i - 1) = Sm (fun j => f (i + 1 + j)) (n - i - 1) := by
    rw [← Sm_rev (fun j => f (i + 1 + j)) (n - i - 1)]
    refine Sm_congr fun b hb => ?_
    rw [Nat.mod_eq_of_lt (by omega), show i + n - (i + 1 + b) = i + 1 + (n - i - 1 - 1 - b) by omega]
  have s1 := Sm_split (fun b => f ((i + n - b) % n)) (i + 1) (n - i - 1)
  have s2 := Sm_split f (i + 1) (n - i - 1)
  rw [← e] at s1 s2
  rw [s1, s2, h1, h2]
theorem Sm_list : ∀ (xs : List Int), xs.sum = Sm (fun i => xs.getD i 0) xs.length
  | [] => rfl
  | x :: r => by
    rw [List.sum_cons, List.length_cons, Sm_head, Sm_list r]
    rfl
theorem Sm_map (v : Nat → Int) : ∀ n, ((List.range n).map v).sum = Sm v n
  | 0 => rfl
  | n + 1 => by
    rw [List.range_succ, List.map_append, List.sum_append, Sm_map v n]
    show _ + (v n + 0) = Sm v n + v n
    omega
theorem Sm_filter (p : Nat → Bool) (v : Nat → Int) : ∀ n, (((List.range n).filter p).map v).sum = Sm (fun i => if p i = true then v i else 0) n
  | 0 => rfl
  | n + 1 => by
    rw [List.range_succ, List.filter_append, List.map_append, List.sum_append, Sm_filter p v n]
    show _ + (([n].filter p).map v).sum = Sm _ n + (if p n = true then v n else 0)
    by_cases h : p n = true
    · rw [List.filter_cons_of_pos h, if_pos h]
      show _ + (v n + 0) = _
      omega
    · rw [List.filter_cons_of_neg h, if_neg h]
      rfl
theorem Sm_count (p : Nat → Bool) : ∀ n, (((List.range n).filter p).length : Int) = Sm (fun i => if p i = true then 1 else 0) n
  | 0 => rfl
  | n + 1 => by
    rw [List.range_succ, List.filter_append, List.length_append, Int.natCast_add, Sm_count p n]
    show _ + ((([n].filter p).length : Nat) : Int) = Sm _ n + (if p n = true then 1 else 0)
    by_cases h : p n = true
    · rw [List.filter_cons_of_pos h, if_pos h]
      rfl
    · rw [List.filter_cons_of_neg h, if_neg h]
      rfl
/-! rows that meet, one late -/
theorem getD_at {rs : List Int} {i : Nat} (h : i < rs.length) : rs[i]? = some (rs.getD i 0) := by
  rw [List.getD_eq_getElem?_getD, List.getElem?_eq_getElem h]
  rfl
/-! a row's begin -/
theorem slice_take {K : PySem.W.Frag} {H : Hp} {a : Addr} {rs : List Int} {b : Nat} {Q : VK} (ha : H a = some (.tup (rs.map V.int))) (hb : b ≤ rs.length)
    (q : ∀ H' p, Same H H' → H' p = some (.tup ((rs.take b).map V.int)) → Q (.ref p) H') : rSlA K (.ref a) none (some (b : Int)) H Q := by
  refine ⟨a, _, rfl, SqT.mk ha, fun z => ?_, fun z p np => ?_⟩
  · have z1 := z.2
    rw [HT.sIx_nat, List.length_map] at z1
    refine q H a (Same.refl H) ?_
    rw [List.take_of_length_le (by omega)]
    exact ha
  · refine q _ p (same_upd np) ?_
    rw [upd_same, cut_take]
theorem bits_sum : ∀ (r : List Int), Bits r → 0 ≤ r.sum ∧ r.sum ≤ r.length
  | [], _ => ⟨Int.le_refl 0, Int.le_refl 0⟩
  | x :: r, h => by
    have ih := bits_sum r fun y hy => h y (List.mem_cons_of_mem _ hy)
    have hx := h x List.mem_cons_self
    rw [List.sum_cons, List.length_cons]
    omega
/-! generator expressions: the walked thing, the element, the generator at hand -/
def SrcOk (X : Cx) (P : Addr) (s1 : Shared) (xv : Value) (n : Nat) (Pf : Nat → Value → Prop) : Prop :=
  ∃ (o : Obj) (aux : List Addr) (Z : Nat → Heap → Prop),
    (∀ Q : Value → Shared → Prop, Q (.ref s1.heap.objs.size) { s1 with heap := s1.heap.push o } → wpAny (model X.prog X.w) X.A (pyIter xv) Q X.xe s1) ∧
    (∀ b ∈ aux, b < s1.heap.objs.size ∧ b ≠ P) ∧
    (∀ B : Around, B.handled = none → Walks X.prog X.w B s1.heap.objs.size (s1.heap.objs.size :: aux) [s1.heap.objs.size] n Pf Z) ∧ Z 0 (s1.heap.push o)
def EltOk (X : Cx) (P : Addr) (scope : Scope) (x : Str) (elt : Expr) (s1 : Shared) (Pf F : Nat → Value → Prop) : Prop :=
  ∀ (cenv : Env) (B : Around) (E2 : Value → Shared → Prop) (i : Nat) (v : Value) (s2 : Shared) (m2 : Str → Option Value), cenv.scope = scope → cenv.cells = cloFrom X.env.cells scope.names [] → cenv.globals = X.env.globals → cenv.builtins = builtinsNs →
    B.handled = none → Pf i v → s2.heap.Ns cenv.locals m2 → m2 x = some v → (∀ b o, b ≠ P → s1.heap.get? b = some o → s2.heap.get? b = some o) →
    wpAny (model X.prog X.w) B (eval elt cenv) (fun y s3 => F i y ∧ Keeps s2 s3) E2 s2
def AtHand (X : Cx) (pins : List (Addr × Obj)) (σ : L2.St) (H1 : Hp) (P : Addr) (n : Nat) (F : Nat → Value → Prop) (g : Addr) (s5 : Shared) : Prop :=
  ∃ (fp wr : List Addr) (G : Array GenState → Array GenState → Prop) (F' : Nat → Value → Prop) (Z : Nat → Shared → Prop),
    WalksS X.prog X.w X.A.in4 g fp wr G n F' Z ∧ (∀ j v, F' j v → F j v) ∧ Z 0 s5 ∧ (∀ b ∈ fp, b < s5.heap.objs.size) ∧ g ∈ fp ∧ (∀ i s9, Z i s9 → s9.TypeIs (.ref g) "generator") ∧
    ∀ s', Moved wr G s5 s' → ∃ H2, GxR.Tabbed P H1 H2 ∧ Inv X pins σ H2 s'
theorem gen_one {X : Cx} {pins : List (Addr × Obj)} {σ : L2.St} {s : Shared} {c P : Addr} {elt iter : Expr} {x : Str} {px gpos : Pos} {scope : Scope} {k : Nat} {W : Value → Shared → Prop}
    (hr : Room k X.A) (TB : GxR.TabB X.base X.mg c P) (hcode : X.env.code = .ref c) (S : GxR.GenS X.env scope x) (hs : ∀ v, genFold iter X.env v = pure v)
    (h : wpAny (model X.prog X.w) X.A (eval iter X.env) (fun xv s1 => ∃ (H1 : Hp) (ps : Array Value) (n : Nat) (Pf F : Nat → Value → Prop), Inv X pins σ H1 s1 ∧ H1 P = some (.tbl ps) ∧ TriplesOk ps.toList ∧ SrcOk X P s1 xv n Pf ∧
      EltOk X P scope x elt s1 Pf F ∧ ∀ g s5, AtHand X pins σ H1 P n F g s5 → W (.ref g) s5) X.xe s) :
    wpAny (model X.prog X.w) X.A (eval (.GeneratorExp elt [⟨.Name x px, iter, [], 0⟩] scope gpos) X.env) W X.xe s := by
  have deep := hr.dp
  refine wpAny_GeneratorExp_walksQ hr.hd S.co (closure_ok S.free) S.cell S.dot S.loc S.kind (by omega) (wpAny_mono h (fun xv s1 z => ?_) fun _ _ e => e) hs
  obtain ⟨H1, ps, n, Pf, F, J1, hP, trip, ⟨o, aux, Z, go, hau, wk, z0⟩, hel, fin⟩ := z
  refine go _ ?_
  have hPs : s1.heap.get? P = some { cls := .none, data := .fields ps } := J1.hok P _ hP
  have ltP : P < s1.heap.objs.size := Heap.lt_size hPs
  have hP2 : (s1.heap.push o).get? P = some { cls := .none, data := .fields ps } := Heap.get?_push_of_some _ hPs
  have cd : PySem.W.CodeHd (s1.heap.push o) c P := TB.code.keeps fun b u e => Heap.get?_push_of_some _ (J1.bk b u e)
  have lim : (s1.heap.push o).NoLimit := J1.nolimit.push o
  have szp : (s1.heap.push o).objs.size = s1.heap.objs.size + 1 := Heap.size_push ..
  have go2 : ∀ (code : Value) (h3 : Heap) (tk : Nat) (more : Array Value), Heap.ExtBut P (s1.heap.push o) h3 → (s1.heap.push o).objs.size ≤ h3.objs.size → h3.get? P = some { cls := .none, data := .fields (ps ++ more) } → TriplesOk (ps ++ more).toList →
      wpAny (model X.prog X.w) X.A (builtinsFor X.env.globals X.env.builtins) (fun bi s4 =>
        ∃ I0 fp wr n0 Pf0 Z0 pz F0, Value.ref s1.heap.objs.size = .ref I0 ∧ (∀ B : Around, B.handled = none → Walks X.prog X.w B I0 fp wr n0 Pf0 Z0) ∧ Z0 0 s4.heap ∧ (∀ b ∈ fp, b < s4.heap.objs.size) ∧ s4.heap.NoLimit ∧ cStatics ∉ wr ∧
          (∀ hq : Heap, (∀ b o, s4.heap.get? b = some o → hq.get? b = some o) →
            QuietGen X.prog X.w (genEnv scope (cloFrom X.env.cells scope.names []) s4.heap.objs.size code bi X.env) x [] elt (List.range s4.heap.objs.size) wr Pf0 pz F0 hq) ∧
          (∀ g h5 tk5 gs, gs.bare = true → s4.heap.objs.size < g → h5.objs.size = g + 1 → (∀ b o, s4.heap.get? b = some o → h5.get? b = some o) →
            WalksS X.prog X.w X.A.in4 g (g :: s4.heap.objs.size :: List.range s4.heap.objs.size) (s4.heap.objs.size :: wr) (GenOnlyQ s4.gens.size) (passing pz n0 0).length
              (fun j y => ∃ i, (passing pz n0 0)[j]? = some i ∧ F0 i y) (GenAt X.prog X.w X.A.in4 g s4.gens.size s4.heap.objs.size (List.range s4.heap.objs.size) wr pz n0 F0) →
            GenAt X.prog X.w X.A.in4 g s4.gens.size s4.heap.objs.size (List.range s4.heap.objs.size) wr pz n0 F0 0 { s4 with gens := s4.gens.push gs, toks := tk5, heap := h5 } →
            W (.ref g) { s4 with gens := s4.gens.push gs, toks := tk5, heap := h5 })) X.xe { s1 with heap := h3, toks := tk } := by
    intro code h3 tk more hx hsz hP3 trip3
    obtain ⟨bm, ob, e1, e2, e3, e4, e5, e6, e7, e8⟩ := TB.bm
    have keep3 : ∀ b u, b ≠ P → s1.heap.get? b = some u → h3.get? b = some u := fun b u hb e => hx b u hb (Heap.get?_push_of_some _ e)
    have stP : cStatics ≠ P := fun z => by
      obtain ⟨_, ⟨o1, es, ep, ho, hd, _⟩, _⟩ := J1.nolimit
      rw [z, hPs] at ho
      cases ho
      cases hd
    have stL : cStatics < s1.heap.objs.size := by
      obtain ⟨_, hns, _⟩ := J1.nolimit
      exact hns.lt
    have newP : s1.heap.objs.size ≠ P := Nat.ne_of_gt ltP
    refine wpAny_builtinsFor (m := X.mg) (by rw [J1.ok.glob]; exact ((J1.mod.glob.keeps J1.bk).push o).extBut hx TB.gP) e1 e2 (keep3 _ _ e4 (J1.bk _ _ e5)) e6 e7 e8 ?_
    refine ⟨s1.heap.objs.size, s1.heap.objs.size :: aux, [s1.heap.objs.size], n, Pf, Z, fun _ => true, F, rfl, wk, ?_, ?_, lim.extBut hx stP, ?_, ?_, ?_⟩
    · refine (wk X.A hr.hd).frame _ _ _ z0 fun b hb u e => hx b u (fun z => ?_) e
      rcases List.mem_cons.mp hb with z2 | z2
      · exact newP (z2.symm.trans z)
      · exact (hau b z2).2 z
    · intro b hb
      show b < h3.objs.size
      have up : s1.heap.objs.size < h3.objs.size := by omega
      rcases List.mem_cons.mp hb with z2 | z2
      · rw [z2]
        exact up
      · exact Nat.lt_trans (hau b z2).1 up
    · intro z
      rcases List.mem_cons.mp z with z2 | z2
      · exact Nat.ne_of_lt stL z2
      · cases z2
    · intro hq keepq
      refine ⟨fun B E2 i v s2 m2 hB hv hn hm hk => ?_, fun B E2 i v s2 m2 hB hv _ hn hm hk => ?_⟩
      · simp only [List.forIn_nil]
        exact wpAny_pure ⟨rfl, GxR.keeps_refl _⟩
      · refine hel _ B E2 i v s2 m2 rfl rfl rfl rfl hB hv hn hm fun b u hb e => ?_
        have lb := Heap.lt_size e
        have up : s1.heap.objs.size < h3.objs.size := by omega
        refine hk b (List.mem_range.mpr (Nat.lt_trans lb up)) (fun z => ?_) u (keepq b u (keep3 b u hb e))
        rcases List.mem_cons.mp z with z2 | z2
        · exact Nat.ne_of_lt lb z2
        · cases z2
    · intro g h5 tk5 gs hgb hag hsz5 hk5 W5 gat
      simp only [GxR.passing_true, List.length_range] at W5
      refine fin g _ ⟨_, _, _, _, _, W5, fun j v hv => ?_, gat, fun b hb => ?_, List.mem_cons_self, fun i s9 h9 => h9.1.typeIs, fun s' hm => ?_⟩
      · obtain ⟨i, hij, e⟩ := hv
        obtain ⟨_, ej⟩ := List.getElem?_eq_some_iff.mp hij
        rw [List.getElem_range] at ej
        subst ej
        exact e
      · show b < h5.objs.size
        have h8 : h3.objs.size < g := hag
        have h9 : h5.objs.size = g + 1 := hsz5
        have u1 : g < h5.objs.size := by
          rw [h9]
          exact Nat.lt_succ_self g
        have u2 : h3.objs.size < h5.objs.size := Nat.lt_trans h8 u1
        rcases List.mem_cons.mp hb with z | z
        · rw [z]
          exact u1
        · rcases List.mem_cons.mp z with z | z
          · rw [z]
            exact u2
          · exact Nat.lt_trans (show b < h3.objs.size from List.mem_range.mp z) u2
      · have old : ∀ b u, s1.heap.get? b = some u → b ∉ h3.objs.size :: [s1.heap.objs.size] := fun b u e hb => by
          have lb := Heap.lt_size e
          have up : s1.heap.objs.size < h3.objs.size := by omega
          rcases List.mem_cons.mp hb with z | z
          · exact Nat.ne_of_lt (Nat.lt_trans lb up) z
          · rcases List.mem_cons.mp z with z | z
            · exact Nat.ne_of_lt lb z
            · cases z
        have R := GxR.inv_tab (more := more) (h' := s'.heap) (g' := s'.gens) (d' := s'.drawn) (t' := s'.toks) J1 hP (fun b u hb e => hm.heap b u (old b u e) (hk5 b u (keep3 b u hb e)))
          (hm.heap P _ (old P _ hPs) (hk5 P _ hP3)) (AllBare.movedS (J1.bare.push hgb) hm)
        rw [GxR.sh_eta s1 s' hm.os] at R
        exact ⟨_, ⟨⟨ps ++ more, upd_same, trip3⟩, fun b hb => upd_ne hb⟩, R⟩
  refine ⟨lim, ?_⟩
  cases hf : codeAmong gpos ps.toList with
  | none =>
    refine wpAny_genexprCodeX hcode (cd.code hP2 trip) (cd.tab hP2) hf fun c' h' tk hx hge hlt hco' _ htab' _ => ?_
    obtain ⟨o1, vs, f1, tf, fl, tg, inF, tx, tt, op, _, _, _, _, _, _, _, _, _, htr, _⟩ := hco'
    exact go2 _ h' tk _ hx (Nat.le_trans hge (Nat.le_of_lt hlt)) htab'.2 htr
  | some cv =>
    refine wpAny_genexprCode_hit hcode (cd.code hP2 trip) hf ?_
    exact go2 cv (s1.heap.push o) s1.toks #[] (Heap.ExtBut.refl _ _) (Nat.le_refl _) (by rw [Array.append_empty]; exact hP2) (by rw [Array.append_empty]; exact trip)
/-! tuple(element for x in walked) -/
structure PSrc (X : Cx) (P : Addr) (iter : Expr) (ti : L2.St → Hp → (List V → Hp → Prop) → Prop) : Prop where
  run : ∀ (pins : List (Addr × Obj)) (s : Shared) (σ : L2.St) (H : Hp) (R : List V → Hp → Prop), Inv X pins σ H s → ti σ H (fun xs H1 => GxR.TabG H1 P ∧ R xs H1) →
    wpAny (model X.prog X.w) X.A (eval iter X.env) (fun xv s1 => ∃ (H1 : Hp) (xs : List V), Inv X pins σ H1 s1 ∧ GxR.TabG H1 P ∧ R xs H1 ∧ SrcOk X P s1 xv xs.length (fun i u => ∃ y, xs[i]? = some y ∧ RelV y u)) X.xe s
/-- where the element is reckoned: the generator's own frame -/
structure InGen (X : Cx) (P : Addr) (scope : Scope) (s1 : Shared) (cenv : Env) (B : Around) (s2 : Shared) (m2 : Str → Option Value) : Prop where
  sc : cenv.scope = scope
  cells : cenv.cells = cloFrom X.env.cells scope.names []
  glob : cenv.globals = X.env.globals
  blt : cenv.builtins = builtinsNs
  hd : B.handled = none
  ns : s2.heap.Ns cenv.locals m2
  keep : ∀ b o, b ≠ P → s1.heap.get? b = some o → s2.heap.get? b = some o
structure PElt (X : Cx) (P : Addr) (scope : Scope) (x : Str) (elt : Expr) (te : L2.St → Hp → V → V → Prop) : Prop where
  run : ∀ (pins : List (Addr × Obj)) (s1 : Shared) (σ : L2.St) (H : Hp), Inv X pins σ H s1 → GxR.TabG H P → ∀ (cenv : Env) (B : Around) (E2 : Value → Shared → Prop) (s2 : Shared) (m2 : Str → Option Value) (v y : V) (u : Value),
    InGen X P scope s1 cenv B s2 m2 → RelV v u → te σ H v y → m2 x = some u → wpAny (model X.prog X.w) B (eval elt cenv) (fun z s3 => RelV y z ∧ Keeps s2 s3) E2 s2
def tTupG (P : Addr) (ti : L2.St → Hp → (List V → Hp → Prop) → Prop) (te : L2.St → Hp → V → V → Prop) : TE := fun σ H Q => ti σ H fun xs H1 => GxR.TabG H1 P ∧ xs.length ≤ sizeLine ∧ ∃ ys : List V, ys.length = xs.length ∧
  (∀ (i : Nat) (x : V), xs[i]? = some x → ∃ y, ys[i]? = some y ∧ te σ H1 x y) ∧ ∀ H2 p, GxR.Tabbed P H1 H2 → H2 p = none → Q (.ref p) (upd H2 p (.tup ys))
theorem vals_of : ∀ (ys : List V) (us : List Value), us.length = ys.length → (∀ (j : Nat) (u : Value), us[j]? = some u → ∃ y, ys[j]? = some y ∧ RelV y u) → Vals ys us
  | [], [], _, _ => .nil
  | y :: ys, u :: us, hl, h => by
    obtain ⟨y1, e1, r1⟩ := h 0 u rfl
    cases e1
    exact .cons r1 (vals_of ys us (by simpa using hl) fun j v hj => h (j + 1) v hj)
theorem pe_tupG {X : Cx} {c P : Addr} {elt iter : Expr} {x : Str} {px p pos gpos : Pos} {scope : Scope} {ti : L2.St → Hp → (List V → Hp → Prop) → Prop} {te : L2.St → Hp → V → V → Prop} {k : Nat}
    (hr : Room k X.A) (hg : Gl X "tuple") (hm : X.mg "tuple" = none) (hb : bootBuiltins "tuple" = some (.type "tuple")) (TB : GxR.TabB X.base X.mg c P) (hcode : X.env.code = .ref c) (S : GxR.GenS X.env scope x)
    (hi : PSrc X P iter ti) (hel : PElt X P scope x elt te) (hs : ∀ v, genFold iter X.env v = pure v)
    (he : starEach [.GeneratorExp elt [⟨.Name x px, iter, [], 0⟩] scope gpos] X.env = (false, eval (.GeneratorExp elt [⟨.Name x px, iter, [], 0⟩] scope gpos) X.env) :: starEach [] X.env := by rfl) :
    PE X (.Call (.Name "tuple" p) [.GeneratorExp elt [⟨.Name x px, iter, [], 0⟩] scope gpos] [] pos) (tTupG P ti te) := by
  refine ⟨fun pins s σ H Q I h => ?_⟩
  refine wpAny_Call_Name_kw (ld_blt I hg hm hb ?_)
  refine PyProof.Rows.callWith_type1 ?_ he (by rfl)
  rw [he]
  show wpAny _ _ (spliced ((false, eval (.GeneratorExp elt [⟨.Name x px, iter, [], 0⟩] scope gpos) X.env) :: backTo pos (starEach [] X.env))) _ _ s
  have h2 : ti σ H fun xs H1 => GxR.TabG H1 P ∧ (xs.length ≤ sizeLine ∧ ∃ ys : List V, ys.length = xs.length ∧ (∀ (i : Nat) (x : V), xs[i]? = some x → ∃ y, ys[i]? = some y ∧ te σ H1 x y) ∧ ∀ H2 p, GxR.Tabbed P H1 H2 → H2 p = none → Q (.ref p) (upd H2 p (.tup ys))) := h
  refine Calls.spliced_cons (gen_one (pins := pins) (σ := σ) hr TB hcode S hs (wpAny_mono (hi.run pins s σ H _ I h2) (fun xv s1 z => ?_) fun _ _ e => e))
  obtain ⟨H1, xs, J, ⟨ps, hP, trip⟩, ⟨lx, ys, ly, hys, q⟩, src⟩ := z
  refine ⟨H1, ps, xs.length, _, fun i u => ∃ y, ys[i]? = some y ∧ RelV y u, J, hP, trip, src, ?_, fun g s5 at5 => ?_⟩
  · intro cenv B E2 i v s2 m2 h1 h3 h4 h5 h6 hv h7 h8 h9
    obtain ⟨w1, ew, rw1⟩ := hv
    obtain ⟨y, ey, ty⟩ := hys i w1 ew
    exact wpAny_mono (hel.run pins s1 σ H1 J ⟨ps, hP, trip⟩ cenv B E2 s2 m2 w1 y v ⟨h1, h3, h4, h5, h6, h7, h9⟩ rw1 ty h8) (fun z s3 r => ⟨⟨y, ey, r.1⟩, r.2⟩) fun _ _ e => e
  · refine Calls.spliced_nil ?_
    obtain ⟨fp, wr, G, F', Z, W5, im, z0, hfp, hgf, hT, hinv⟩ := at5
    refine PySem.call_tuple_gen (n := xs.length) W5.in4_3 hT z0 hfp hgf (fun s' acc mv it => ?_) lx
    obtain ⟨H2, tb, J2⟩ := hinv s' mv
    have vs : Vals ys acc.toList := vals_of ys acc.toList (by rw [Array.length_toList, it.1, ly]) fun j u hj => im j u (it.2 j u (by simpa using hj))
    refine ⟨.ref s'.heap.objs.size, _, J2.laid (t' := s'.toks) (o := .tup ys) (fun b ob e => Heap.get?_push_of_some _ e) (Nat.le_refl _) ⟨by omega, acc.toList, vs, ?_⟩, rfl, q H2 _ tb (J2.hok.fresh (Nat.le_refl _))⟩
    have ea : acc.toList.toArray = acc := by simp
    rw [ea]
    exact IsTup.new _ _
/-- range(e) -/
theorem src_range {X : Cx} {P : Addr} {a : Expr} {ta : TA} {p pos : Pos} (hg : Gl X "range") (hm : X.mg "range" = none) (ha : PA X [a] ta) (hs : starEach [a] X.env = [(false, eval a X.env)] := by rfl) :
    PSrc X P (.Call (.Name "range" p) [a] [] pos) (fun σ H R => ta σ H fun vs H1 => ∃ n : Nat, vs = [.int (n : Nat)] ∧ n ≤ sizeLine ∧ R ((List.range n).map fun i => V.int (i : Nat)) H1) := by
  refine ⟨fun pins s σ H R I h => ?_⟩
  refine Call_ (ld_blt I hg hm boot_range (PyProof.Rows.callWith_type1 (thn (ha.run pos pins s σ H _ I h) fun us s1 ⟨vs, H1, J, r1, q1⟩ => ?_) hs rfl))
  obtain ⟨n, rfl, hn, tg, q⟩ := q1
  cases r1 with
  | cons r rr =>
    cases rr
    obtain ⟨t, rfl⟩ := r
    have hsl : sizeLine = 16777216 := by decide
    refine call_range_1 ⟨H1, _, J.kept fun b o e => Heap.get?_push_of_some _ e, tg, q, ?_⟩
    refine ⟨_, [], fun i h => IsRangeIter h (s1.heap.push { cls := .type "range", data := .fields #[.int 0 s1.toks, .int (n : Nat) t, .int 1 (s1.toks + 1)] }).objs.size ((0 : Int) + (i : Nat) * 1) ((n : Int) - (i : Nat)) 1, fun Q hQ => wpAny_pyIter_range (IsRange.new ..) (small_one (by omega) (by omega) (by omega) (by omega)) hQ, fun b hb => (by cases hb), fun B hB => ?_, ?_⟩
    · rw [List.length_map, List.length_range]
      have W0 := Walks.range (prog := X.prog) (w := X.w) (A := B) hB (s1.heap.push { cls := .type "range", data := .fields #[.int 0 s1.toks, .int (n : Nat) t, .int 1 (s1.toks + 1)] }).objs.size 0 1 n
      exact W0.mono_item fun i v hi hv => by
        obtain ⟨t2, rfl⟩ := hv
        refine ⟨.int (i : Nat), ?_, t2, by rw [Int.zero_add, Int.mul_one]⟩
        rw [List.getElem?_map, List.getElem?_range hi]
        rfl
    · show IsRangeIter _ _ ((0 : Int) + ((0 : Nat) : Int) * 1) ((n : Int) - ((0 : Nat) : Int)) 1
      have e2 : (n : Int) - ((0 : Nat) : Int) = Builtin.Range.rangeSize 0 (n : Int) 1 := by
        rw [rangeSize_one]
        split <;> omega
      rw [e2]
      exact Heap.get?_push_size _ rfl
theorem gs_free {cells : List (Str × Addr)} {names : List (Str × NameKind)} (h : (names.all fun y => y.2 != .free || (cells.lookup y.1).isSome) = true) : ∀ y ∈ names, y.2 = .free → ∃ c, cells.lookup y.1 = some c := fun y hy e => by
  have q := List.all_eq_true.mp h y hy
  rw [e] at q
  exact Option.isSome_iff_exists.mp (by simpa using q)
/-! elements -/
section
variable {X : Cx} {pins : List (Addr × Obj)} {σ : L2.St} {H : Hp} {s1 s2 : Shared} {P c : Addr} {scope : Scope} {cenv : Env} {B : Around} {m2 : Str → Option Value} {E2 : Value → Shared → Prop}
theorem ig_local {x : Str} {u : Value} {p : Pos} {W : Value → Shared → Prop} (g : InGen X P scope s1 cenv B s2 m2) (hk : scope.kind = .function) (hl : scope.names.lookup x = some .local) (hm : m2 x = some u) {s3 : Shared} (k3 : Keeps s2 s3) (h : W u s3)
    (hd : (x == ("__debug__" : Str)) = false := by decide) : wpAny (model X.prog X.w) B (eval (.Name x p) cenv) W E2 s3 := by
  obtain ⟨h3, tk, rfl, kp⟩ := k3
  exact wpAny_Name (wpAny_loadName_local (by rw [g.sc]; exact hk) (show cenv.scope.names.lookup x = some .local by rw [g.sc]; exact hl) (g.ns.keeps kp) hm h) hd
theorem ig_free {x : Str} {i : Nat} {v : V} {p : Pos} {W : Value → Shared → Prop} (I : Inv X pins σ H s1) (tg : GxR.TabG H P) (g : InGen X P scope s1 cenv B s2 m2) (hk : scope.kind = .function) (hl : scope.names.lookup x = some .free)
    (hN : X.N[i]? = some x) (hσ : σ[i]? = some (some v)) (hX : X.env.scope.names.lookup x = some .cell) (hcl : ∀ cells : List (Str × Addr), (cloFrom cells scope.names []).lookup x = some ((cells.lookup x).getD 0)) {s3 : Shared} (k3 : Keeps s2 s3)
    (h : ∀ u, RelV v u → W u s3) (hn : (x == ("__classdict__" : Str)) = false := by decide) (hd : (x == ("__debug__" : Str)) = false := by decide) : wpAny (model X.prog X.w) B (eval (.Name x p) cenv) W E2 s3 := by
  obtain ⟨h3, tk, rfl, kp⟩ := k3
  obtain ⟨m, _, hloc⟩ := I.loc
  obtain ⟨u, ru, lk⟩ := hloc i x v hN hσ (.inr (.inl hX))
  rcases lk with ⟨h1, _⟩ | ⟨_, cc, h2, ic⟩
  · have h1 : X.env.scope.names.lookup x = some .local := h1
    rw [hX] at h1
    cases h1
  · obtain ⟨ps, hP, _⟩ := tg
    have ncP : cc ≠ P := fun z => by
      have q := I.freeC x cc h2
      rw [z, hP] at q
      cases q
    obtain ⟨o, ho, hd2⟩ := ic
    have lk2 : cenv.cells.lookup x = some cc := by
      rw [g.cells, hcl, h2]
      rfl
    exact wpAny_Name (wpAny_loadName_free (by rw [g.sc]; exact hk) (show cenv.scope.names.lookup x = some .free by rw [g.sc]; exact hl) lk2 ⟨o, kp _ _ (g.keep _ _ ncP ho), hd2⟩ (h u ru) hn) hd
theorem ig_blt {x : Str} {u : Value} {p : Pos} {W : Value → Shared → Prop} (I : Inv X pins σ H s1) (tg : GxR.TabG H P) (TB : GxR.TabB X.base X.mg c P) (g : InGen X P scope s1 cenv B s2 m2) (hk : scope.kind = .function) (hl : scope.names.lookup x = some .globalImplicit)
    (hm : X.mg x = none) (hv : bootBuiltins x = some u) {s3 : Shared} (k3 : Keeps s2 s3) (h : W u s3) (hn : x ≠ "__name__" := by decide) (hd : (x == ("__debug__" : Str)) = false := by decide) : wpAny (model X.prog X.w) B (eval (.Name x p) cenv) W E2 s3 := by
  obtain ⟨h3, tk, rfl, kp⟩ := k3
  obtain ⟨mb, h1, h2⟩ := I.mod.blt
  obtain ⟨ps, hP, _⟩ := tg
  have hPs : s1.heap.get? P = some { cls := .none, data := .fields ps } := I.hok P _ hP
  have n1 : s1.heap.Ns mainGlobals X.mg := I.mod.glob.keeps I.bk
  have n2 : s1.heap.Ns builtinsNs mb := h1.keeps I.bk
  have up : ∀ {a : Addr} {m : Str → Option Value}, s1.heap.Ns a m → h3.Ns a m := fun {a m} ⟨o, es, ep, ho, hd1, r⟩ => by
    have na : a ≠ P := fun z => by
      rw [z, hPs] at ho
      cases ho
      cases hd1
    exact ⟨o, es, ep, kp _ _ (g.keep _ _ na ho), hd1, r⟩
  exact Calls.Name_function_global (by rw [g.sc]; exact hk) (show cenv.scope.names.lookup x = some .globalImplicit by rw [g.sc]; exact hl) (Calls.loadGlobal_builtin (by rw [g.glob, I.ok.glob]; exact up n1) hm (by rw [g.blt]; exact up n2) ((h2 x hn).trans hv) h) hd
theorem kp_tok {s3 : Shared} (k : Keeps s2 s3) (n : Nat) : Keeps s2 { s3 with toks := n } := by
  obtain ⟨h', tk, rfl, kp⟩ := k
  exact ⟨h', n, rfl, kp⟩
/-- a tracked tuple, read in the generator's frame -/
theorem ig_tup {a : Addr} {xs : List V} (I : Inv X pins σ H s1) (tg : GxR.TabG H P) (g : InGen X P scope s1 cenv B s2 m2) (ha : H a = some (.tup xs)) {s3 : Shared} (k3 : Keeps s2 s3) : ∃ its : List Value, Vals xs its ∧ IsTup s3.heap a its.toArray ∧ xs.length ≤ sizeLine := by
  obtain ⟨h3, tk, rfl, kp⟩ := k3
  obtain ⟨ps, hP, _⟩ := tg
  obtain ⟨hz, its, r, ⟨o, ho, rest⟩⟩ := I.hok a _ ha
  have naP : a ≠ P := ne_of ha hP (fun z => by cases z)
  exact ⟨its, r, ⟨o, kp _ _ (g.keep _ _ naP ho), rest⟩, hz⟩
end
/-- row[(at - by) % len(row)] -/
theorem elt_late {X : Cx} {P c : Addr} {scope : Scope} {i j : Nat} {xr xa xb : Str} {p1 p2 p3 p4 p5 p6 p7 p8 p9 : Pos} (TB : GxR.TabB X.base X.mg c P) (hk : scope.kind = .function) (l1 : scope.names.lookup xa = some .local) (l2 : scope.names.lookup xr = some .free) (l3 : scope.names.lookup xb = some .free)
    (l4 : scope.names.lookup ("len" : Str) = some .globalImplicit) (hm : X.mg "len" = none) (hNi : X.N[i]? = some xr) (hNj : X.N[j]? = some xb) (hXi : X.env.scope.names.lookup xr = some .cell) (hXj : X.env.scope.names.lookup xb = some .cell)
    (c1 : ∀ cells : List (Str × Addr), (cloFrom cells scope.names []).lookup xr = some ((cells.lookup xr).getD 0)) (c2 : ∀ cells : List (Str × Addr), (cloFrom cells scope.names []).lookup xb = some ((cells.lookup xb).getD 0))
    (n1 : (xr == ("__classdict__" : Str)) = false := by decide) (n2 : (xr == ("__debug__" : Str)) = false := by decide) (n3 : (xb == ("__classdict__" : Str)) = false := by decide) (n4 : (xb == ("__debug__" : Str)) = false := by decide) (n5 : (xa == ("__debug__" : Str)) = false := by decide) :
    PElt X P scope xa (.Subscript (.Name xr p1) (.BinOp (.BinOp (.Name xa p2) .Sub (.Name xb p3) p4) .Mod (.Call (.Name "len" p5) [.Name xr p6] [] p7) p8) p9)
      (fun σ H v y => ∃ (a : Addr) (xs : List V) (by_ : Int) (t : Nat), σ[i]? = some (some (.ref a)) ∧ H a = some (.tup xs) ∧ σ[j]? = some (some (.int by_)) ∧ v = .int (t : Nat) ∧ 0 < xs.length ∧ xs[(((t : Int) - by_) % (xs.length : Int)).toNat]? = some y) := by
  refine ⟨fun pins s1 σ H I tg cenv B E2 s2 m2 v y u g rv te hm2 => ?_⟩
  obtain ⟨a, xs, by_, t, h1, h2, h3, rfl, h4, h5⟩ := te
  obtain ⟨tk, rfl⟩ := (show ∃ tk, u = Value.int (t : Nat) tk from rv)
  refine Subscript_ (ig_free I tg g hk l2 hNi h1 hXi c1 (GxR.keeps_refl s2) (fun u1 r1 => ?_) n1 n2)
  obtain rfl : u1 = Value.ref a := r1
  refine wpAny_BinOp (wpAny_BinOp (ig_local g hk l1 hm2 (GxR.keeps_refl s2) ?_ n5))
  refine ig_free I tg g hk l3 hNj h3 hXj c2 (GxR.keeps_refl s2) (fun u2 r2 => ?_) n3 n4
  obtain ⟨tb, rfl⟩ := (show ∃ tb, u2 = Value.int by_ tb from r2)
  refine sub_int ?_
  refine wpAny_Call_Name_kw (ig_blt I tg TB g hk l4 hm PySem.boot_len (GxR.keeps_tok s2 _) ?_)
  refine PyProof.Rows.callWith_builtin1 ?_ rfl rfl
  refine Calls.spliced_cons (ig_free I tg g hk l2 hNi h1 hXi c1 (GxR.keeps_tok s2 _) (fun u3 r3 => ?_) n1 n2)
  obtain rfl : u3 = Value.ref a := r3
  refine Calls.spliced_nil ?_
  obtain ⟨its, rvs, it, hz⟩ := ig_tup I tg g h2 (GxR.keeps_tok s2 (s2.toks + 1))
  have hlen := rvs.length
  have hsl : sizeLine = 16777216 := by decide
  have hj : (((t : Int) - by_) % (xs.length : Int)).toNat < xs.length := (List.getElem?_eq_some_iff.mp h5).1
  refine len_tuple it (by simp only [List.size_toArray] <;> omega) ?_
  refine mod_int' (by rw [List.size_toArray, ← hlen]; omega) ?_
  rw [List.size_toArray, ← hlen, Int.fmod_eq_emod_of_nonneg _ (by omega)]
  have m0 := Int.emod_nonneg ((t : Int) - by_) (show (xs.length : Int) ≠ 0 by omega)
  obtain ⟨w1, ew, rw1⟩ := rvs.get h5
  have fin := GxR.keeps_tok s2 (s2.toks + 1 + 1 + 1 + 1)
  refine subscriptTail_builtinR (x := w1) it.typeIs slot_tuple_getitem.lookup (getItem_tuple (j := (((t : Int) - by_) % (xs.length : Int)).toNat) it (by omega) (by omega) ?_ (by simpa using ew) ⟨rfl, rw1, fin⟩)
  rw [List.size_toArray, ← hlen]


  exact seqIndex_of m0 (Int.emod_lt_of_pos _ (by omega))
/-- a list at hand -/
theorem src_list {X : Cx} {P : Addr} {e : Expr} {te : TE} (he : PE X e te) :
    PSrc X P e (fun σ H R => te σ H fun v H1 => ∃ (a : Addr) (xs : List V), v = .ref a ∧ H1 a = some (.lst xs) ∧ R xs H1) := by
  refine ⟨fun pins s σ H R I h => ?_⟩
  refine wpAny_mono (he.run pins s σ H _ I h) (fun u s1 z => ?_) fun _ _ e => e
  obtain ⟨v, H1, J, r1, a, xs, rfl, ha, tg, q⟩ := z
  obtain rfl : u = Value.ref a := r1
  obtain ⟨ps, hP, trip⟩ := tg
  have naP : a ≠ P := ne_of ha hP (fun z => by cases z)
  obtain ⟨hz, its, n, rv, hl, ho⟩ := J.lstM ha
  have isl : s1.heap.IsList a its.toArray := ⟨_, ho, rfl, n, rfl⟩
  have lta : a < s1.heap.objs.size := Heap.lt_size ho
  refine ⟨H1, xs, J, ⟨ps, hP, trip⟩, q, ?_⟩
  refine ⟨{ cls := .type "list_iterator", data := .fields #[.ref a, .int 0 0] }, [a], fun i h => h.IsListIter s1.heap.objs.size a i ∧ h.IsList a its.toArray, fun Q hQ => wpAny_pyIter_list isl hQ, fun b hb => ?_, fun B hB => ?_, ?_⟩
  · rw [List.mem_singleton.mp hb]
    exact ⟨lta, naP⟩
  · have W0 := Walks.list (prog := X.prog) (w := X.w) (A := B) hB s1.heap.objs.size a (Nat.ne_of_lt lta) its.toArray
    have en : its.toArray.size = xs.length := by rw [List.size_toArray, ← hl]
    rw [en] at W0
    exact W0.mono_item fun i v hi hv => by
      have gx : xs[i]? = some xs[i] := List.getElem?_eq_getElem hi
      obtain ⟨w1, ew, rw1⟩ := rv.get gx
      have z : its[i]? = some v := by simpa using hv
      rw [z] at ew
      cases ew
      exact ⟨_, gx, rw1⟩
  · exact ⟨⟨_, Heap.get?_push_size _ rfl, rfl, rfl⟩, isl.push _⟩
/-- 1 if number < k else 0 -/
theorem elt_below {X : Cx} {P : Addr} {scope : Scope} {j : Nat} {xa xb : Str} {p1 p2 p3 p4 p5 p6 : Pos} {k1 k2 : Nat} (hk : scope.kind = .function) (l1 : scope.names.lookup xa = some .local) (l3 : scope.names.lookup xb = some .free)
    (hNj : X.N[j]? = some xb) (hXj : X.env.scope.names.lookup xb = some .cell) (c2 : ∀ cells : List (Str × Addr), (cloFrom cells scope.names []).lookup xb = some ((cells.lookup xb).getD 0))
    (n3 : (xb == ("__classdict__" : Str)) = false := by decide) (n4 : (xb == ("__debug__" : Str)) = false := by decide) (n5 : (xa == ("__debug__" : Str)) = false := by decide) :
    PElt X P scope xa (.IfExp (.Compare (.Name xa p1) [.Lt] [.Name xb p2] p3) (.Constant (.int 1) k1 p4) (.Constant (.int 0) k2 p5) p6)
      (fun σ _ v y => ∃ b t : Int, σ[j]? = some (some (.int b)) ∧ v = .int t ∧ y = .int (if t < b then 1 else 0)) := by
  refine ⟨fun pins s1 σ H I tg cenv B E2 s2 m2 v y u g rv te hm2 => ?_⟩
  obtain ⟨b, t, h3, rfl, rfl⟩ := te
  obtain ⟨tk, rfl⟩ := (show ∃ tk, u = Value.int t tk from rv)
  refine wpAny_IfExp (wpAny_isTrue_Compare1 (ig_local g hk l1 hm2 (GxR.keeps_refl s2) ?_ n5) rfl)
  refine ig_free I tg g hk l3 hNj h3 hXj c2 (GxR.keeps_refl s2) (fun u2 r2 => ?_) n3 n4
  obtain ⟨tb, rfl⟩ := (show ∃ tb, u2 = Value.int b tb from r2)
  refine wpAny_lt_int (wpAny_truthy_bool ?_)
  by_cases e : t < b
  · rw [decide_eq_true e, if_pos rfl, if_pos e]
    exact wpAny_Constant_int ⟨⟨_, rfl⟩, GxR.keeps_tok s2 _⟩
  · rw [decide_eq_false e, if_neg Bool.false_ne_true, if_neg e]
    exact wpAny_Constant_int ⟨⟨_, rfl⟩, GxR.keeps_tok s2 _⟩
/-! rows of makers -/
def blw (k t : Int) : Int := if t < k then 1 else 0
theorem blw_bit (k t : Int) : blw k t = 0 ∨ blw k t = 1 := by
  unfold blw
  split
  · exact .inr rfl
  · exact .inl rfl
noncomputable def rowM (m : Mk) (k : Int) (n : Nat) : List Int := (List.range n).map fun (i : Nat) => blw k (m.val i)
theorem rowM_len (m : Mk) (k : Int) (n : Nat) : (rowM m k n).length = n := by
  unfold rowM
  rw [List.length_map, List.length_range]
theorem rowM_take (m : Mk) (k : Int) {n b : Nat} (h : b ≤ n) : (rowM m k n).take b = rowM m k b := by
  unfold rowM
  rw [← List.map_take, List.take_range, Nat.min_eq_left h]
theorem MkAt.sam {H H' : Hp} {m : Mk} {v : V} (h : MkAt H m v) (s : Sam H H') : MkAt H' m v := h.keep fun _ _ e => s.tup e
theorem MkAt.bus {H H' : Hp} {m : Mk} {v : V} {p : Addr} {n : Nat} (h : MkAt H m v) (B : Bx H p n) (s : Bus p H H') : MkAt H' m v := h.keep fun _ _ e => s.tup B e
def sp_row_below {K : PySem.W.Frag} {mg : Str → Option Value} (T : Defs K mg) : Sp := fun vs H Q _ => ∃ (a : Addr) (ns : List Int) (k : Int), vs = [.ref a, .int k] ∧ H a = some (.lst (ns.map V.int)) ∧ ns.length ≤ 100000 ∧ GxR.TabG H T.P_row_below ∧
  ∀ H' p, Sam H H' → H p = none → H' p = some (.tup ((ns.map (blw k)).map V.int)) → Q (.ref p) H'
theorem ok_row_below (T : Defs K mg) (TT : Tabs T base) : FnOk P w K mg base CX0 1 T.f_row_below T.fd_row_below ["numbers", "k"] (sp_row_below T) := by
  refine okC T.F_row_below T.k_row_below sc_row_below (fun vs H Q E h => ?_) (fun A outer s H vs Q E hr h => ?_)
  · obtain ⟨a, ns, k, rfl, ha, hl, tg, q⟩ := h
    rfl
  · obtain ⟨a, ns, k, rfl, ha, hl, tg, q⟩ := h
    refine ⟨_, PSs.nox (pss_one (ps_ret (pe_tupG hr (by rfl) T.m_tuple bt_tuple TT.t_row_below rfl ⟨rfl, rfl, by decide +kernel, rfl, rfl, gs_free rfl⟩ (src_list (pv 0)) (elt_below (j := 1) rfl rfl rfl rfl rfl (fun _ => rfl)) (fun _ => rfl)))), ?_⟩
    have hsl : sizeLine = 16777216 := by decide
    refine ⟨.ref a, rfl, a, _, rfl, ha, tg, by rw [List.length_map]; omega, (ns.map (blw k)).map V.int, ?_, ?_, ?_⟩
    · rw [List.length_map, List.length_map, List.length_map]
    · intro i x hx
      rw [List.getElem?_map] at hx
      obtain ⟨t, ht, rfl⟩ := Option.map_eq_some_iff.mp hx
      refine ⟨.int (blw k t), ?_, k, t, rfl, rfl, rfl⟩
      rw [List.getElem?_map, List.getElem?_map, ht]
      rfl
    · intro H2 p tb np
      have s2 := Sam.tabbed tg tb
      exact q _ p (sam_newer s2 (s2.free np)) (s2.free np) upd_same
def sp_row_of {K : PySem.W.Frag} {mg : Str → Option Value} (T : Defs K mg) : Sp := fun vs H Q _ => ∃ m v, ∃ (k : Int) (n : Nat), vs = [v, .int k, .int (n : Nat)] ∧ MkAt H m v ∧ m.Ok ∧ n ≤ 100000 ∧ GxR.TabG H T.P_row_below ∧
  ∀ H' p, Sam H H' → H p = none → H' p = some (.tup ((rowM m k n).map V.int)) → Q (.ref p) H'
theorem ok_row_of (T : Defs K mg) (TT : Tabs T base) : FnOk P w K mg base CX0 6 T.f_row_of T.fd_row_of ["maker", "k", "beats"] (sp_row_of T) := by
  have G_row_below : FnOk P w K mg base CX0 1 T.f_row_below T.fd_row_below ["numbers", "k"] (sp_row_below T) := ok_row_below T TT
  have G_values_of : FnOk P w K mg base CX0 5 T.f_values_of T.fd_values_of ["maker", "beats"] (sp_values_of K) := ok_values_of T TT
  refine T.F_row_of.ok sc_row_of (fun vs H Q E h => ?_) (fun cdv A outer s H vs Q E hr h => ?_)
  · obtain ⟨m, v, k, n, rfl, hm, ok, hn, tg, q⟩ := h
    rfl
  · obtain ⟨m, v, k, n, rfl, hm, ok, hn, tg, q⟩ := h
    refine ⟨_, PSs.nox (pss_one (ps_ret (pe_call G_row_below (hr.mono (by decide)) (by rfl) T.g_row_below T.F_row_below.kp T.b_row_below .nil pass0 (pa_cons (pe_call G_values_of (hr.mono (by decide)) (by rfl) T.g_values_of T.F_values_of.kp T.b_values_of .nil pass0 (pa_cons (pv 0) (pa_cons (pv 2) pa_nil))) (pa_cons (pv 1) pa_nil))))), ?_⟩
    refine ⟨v, rfl, .int (n : Nat), rfl, m, v, n, rfl, hm, ok, hn, fun H1 p1 s1 n1 h1 => ?_⟩
    refine ⟨.int k, rfl, p1, _, k, rfl, h1, by rw [List.length_map, List.length_range]; exact hn, (Sam.of s1).tabG tg, fun H2 p2 s2 n2 h2 => ?_⟩
    refine q H2 p2 ((Sam.of s1).trans s2) (s1.free n2) ?_
    have e : (List.map (blw k) (List.map (fun i : Nat => m.val i) (List.range n))) = rowM m k n := by
      unfold rowM
      rw [List.map_map]
      rfl
    rw [h2, e]
def sp_ones (_ : PySem.W.Frag) : Sp := fun vs H Q _ => ∃ (a : Addr) (rs : List Int), vs = [.ref a] ∧ H a = some (.tup (rs.map V.int)) ∧ Q (.int rs.sum) H
theorem s_len {n : Nat} (h : n ≤ 100000) : S 4000 (n : Int) := S.mono (n := 20) (show ((n : Int)).natAbs < 2 ^ 20 by omega) (by decide)
/-! an error that is caught, and kept beyond the suite -/
def ExK (cls : Value) (d : Option Addr) (a : Addr) : HO := .ext fun h => ∃ (oe : Obj) (vs : Array Value), h.get? a = some oe ∧ Zc cls d oe ∧ oe.data = .fields vs
theorem exK_in {P : Program} {w : World} {G : Hp} {h : Heap} {a : Addr} {cls : Value} {d : Option Addr} {oe : Obj} {vs : Array Value} (e : h.get? a = some oe) (z : Zc cls d oe) (f : oe.data = .fields vs) : ObjOk P w G h a (ExK cls d a) :=
  ⟨⟨oe, vs, e, z, f⟩, ⟨oe, e⟩, fun _ _ hh k => by
    obtain ⟨o, v, q, r⟩ := hh
    exact ⟨o, v, k o q, r⟩⟩
section
variable {X : Cx} {pins : List (Addr × Obj)} {σ : L2.St} {H : Hp} {s : Shared} {a : Addr} {oe : Obj} {vs : Array Value} {cls : Value} {d : Option Addr}
theorem keep_track (I : Inv (X.suite a ((a, oe) :: (X.pn ++ pins))) [] σ H s) (ok : X.Ok) (new : X.s_0.heap.get? a = none) (other : ∀ p, p ∈ X.pn ++ pins → p.1 ≠ a) (hz : Zc cls d oe) (hd : oe.data = .fields vs) :
    Inv X pins σ (upd H a (ExK cls d a)) s := by
  obtain ⟨hget, hnone, nloc, nfs, ncell⟩ := I.pin (a, oe) (List.mem_append_left _ List.mem_cons_self)
  have hne : ∀ {b : Addr} {o : HO}, H b = some o → b ≠ a := fun e => ne_of_none e hnone
  have up : ∀ {b : Addr} {o : HO}, H b = some o → (upd H a (ExK cls d a)) b = some o := fun e => by
    rw [upd_ne (hne e)]
    exact e
  refine ⟨ok, I.os, I.bare, ⟨I.base.keep, I.base.slot, fun b o e n x => ?_, I.base.there, fun b xs e => up (I.base.tups b xs e), fun b o u e => up (I.base.frzs b o u e), fun b ps e => ?_⟩, I.loc, I.cell, ?_, fun x c e => ?_, fun p hp => ?_, fun b u e => ?_, I.len⟩
  · have hb : b ≠ a := fun z => by
      rw [z, new] at e
      cases e
    rw [upd_ne hb]
    exact I.base.free b o e n x
  · obtain ⟨more, q⟩ := I.base.tbls b ps e
    exact ⟨more, up q⟩
  · rw [upd_ne (Ne.symm nloc)]
    exact I.free
  · have hc : c ≠ a := fun z => by
      obtain ⟨v, o, q, r⟩ := I.cell x c e
      rw [z, hget] at q
      cases q
      first
        | exact ncell _ r
        | exact ncell _ r.1
        | exact ncell _ r.2
    rw [upd_ne hc]
    exact I.freeC x c e
  · obtain ⟨q1, q2, q3, q4, q5⟩ := I.pin p (List.mem_append_left _ (List.mem_cons_of_mem _ hp))
    exact ⟨q1, by rw [upd_ne (other p hp)]; exact q2, q3, q4, q5⟩
  · by_cases hb : b = a
    · subst hb
      rw [upd_same] at e
      cases e
      exact exK_in hget hz hd
    · rw [upd_ne hb] at e
      exact (I.hok b u e).stay (fun _ _ _ q => q) (fun _ q => up q) fun _ _ q => up q
end
def wHeld (K : PySem.W.Frag) (c : Value) (i : Nat) (ts : Addr → Value → Option Addr → TS) (Wout : WX) (D : Ends) : WX := fun cls d σ H =>
  ∃ b, PySem.W.exmOne K cls c = some b ∧ (b = false → Wout cls d σ H) ∧
    (b = true → ∀ a, H a = none → ts a cls d { nx := fun σ' G => D.nx (σ'.set i none) (upd G a (ExK cls d a)), rt := fun _ _ => False, bk := fun _ _ => False, ct := fun _ _ => False } (σ.set i (some (.ref a))) H)
theorem ps_try_held {X : Cx} {x n : Str} {c : Value} {i : Nat} {body suite : List Stmt} {b₀ : Stmt} {np pos pos' : Pos} {tb : WX → TS} {ts : Addr → Value → Option Addr → TS} {Wout : WX} (hex : X.ex = []) (hs : X.stack = X.env :: X.outer) (hf : X.env.frame = some X.env.locals) (hN : X.N.Nodup) (hi : X.N[i]? = some n) (hln : X.env.kindOf n = some .local)
    (hc : Names X x c) (tk : Takes X Wout) (hb : ∀ (W : WX) (pn : List (Addr × Obj)) (xe : Value → Shared → Prop), Takes (X.tr pn xe) W → PassesOwn (model X.prog X.w) X.A X.env xe → PSs (X.tr pn xe) body (tb W))
    (hsu : ∀ (a : Addr) (oe : Obj) (cls : Value) (d : Option Addr) (pn : List (Addr × Obj)), Zc cls d oe → (∃ vs, oe.data = .fields vs) → PSs (X.suite a ((a, oe) :: pn)) (b₀ :: suite) (ts a cls d)) :
    PS X (.Try body [.ExceptHandler (some (.Name x np)) (some n) (b₀ :: suite) pos'] [] [] pos) (fun D σ H => tb (wHeld X.K c i ts Wout D) D σ H) := by
  refine ⟨fun pins s σ H D I h => ?_⟩
  have ok := I.ok
  have hA : X.A.frames = some (X.env :: X.outer) := by
    rw [ok.frames, hs]
  let catcher : Value → Shared → Prop := fun u s₁ => wpAny (model X.prog X.w) X.A (noteFrame u X.env) (fun _ s₂ => wpAny (model X.prog X.w) X.A (setFlight u none)
    (fun _ s₃ => wpAny (model X.prog X.w) X.A (handleBy u X.env [.ExceptHandler (some (.Name x np)) (some n) (b₀ :: suite) pos']) (SP X pins D) X.xe s₃) X.xe s₂) X.xe s₁
  have main := (hb (wHeld X.K c i ts Wout D) (X.pn ++ pins) catcher ?_ PassesOwn.looking).run [] s σ H D (I.toTry _) h
  · refine wpAny_Try_except (wpAny_mono main (fun fl s1 r => ?_) fun _ _ z => z)
    cases fl with
    | next =>
      obtain ⟨σ', G, J, q⟩ := r
      exact wpAny_execs_nil ⟨σ', G, J.ofTry ok, q⟩
    | brk =>
      obtain ⟨σ', G, J, q⟩ := r
      exact ⟨σ', G, J.ofTry ok, q⟩
    | cont =>
      obtain ⟨σ', G, J, q⟩ := r
      exact ⟨σ', G, J.ofTry ok, q⟩
    | ret u =>
      obtain ⟨v, σ', G, J, q⟩ := r
      exact ⟨v, σ', G, J.ofTry ok, q⟩
  intro u s' air
  obtain ⟨a, B, sI, ps, σ', G, cls, d, rfl, J', nb, up, sky, na, os, ag, b, eb, no, yes⟩ := air
  have J : Inv X pins σ' G sI := J'.ofTry ok
  rw [show (X.tr (X.pn ++ pins) catcher).stack = X.env :: X.outer from hs] at sky nb
  have nB : B.get? a = none := by
    rcases sky with k | k | k
    · exact k.2.1
    · exact k.2.1
    · exact k.2.1
  show wpAny (model X.prog X.w) X.A (noteFrame (.ref a) X.env) _ _ _
  refine Sky.land Zc.steady hA hf sky fun h3 f3 u3 => ?_
  have nb' : ∀ b o, sI.heap.get? b = some o → b ∉ frs X.stack → B.get? b = some o := by
    rw [hs]
    exact nb
  have J3 : Inv X pins σ' G { s' with heap := h3 } := J.landed nb' f3.1 (up.trans u3) os ag
  obtain ⟨o3, v3, g3, z3, d3⟩ := f3.there
  have nfr : a ∉ frs (X.env :: X.outer) := fun hm => by
    obtain ⟨_, o', e', nf⟩ := f3.2.2.1.mem hm
    rw [g3] at e'
    cases e'
    exact nf _ d3
  have nL : a ≠ X.env.locals := fun z => nfr (List.mem_filterMap.mpr ⟨_, List.mem_cons_self, by rw [hf, z]⟩)
  have nF : a ∉ X.fs := fun hm => by
    obtain ⟨v, hv, q⟩ := List.mem_filterMap.mp hm
    exact nfr (List.mem_filterMap.mpr ⟨v, List.mem_cons_of_mem _ hv, q⟩)
  have nI : sI.heap.get? a = none := by
    cases q : sI.heap.get? a with
    | none => rfl
    | some o =>
      have := nb a o q nfr
      rw [nB] at this
      cases this
  have n0 : X.s_0.heap.get? a = none := by
    cases q : X.s_0.heap.get? a with
    | none => rfl
    | some o =>
      obtain ⟨o', e'⟩ := J.base.there a o q (by rw [hex]; exact List.not_mem_nil)
      rw [nI] at e'
      cases e'
  have nP : ∀ p, p ∈ X.pn ++ pins → p.1 ≠ a := fun p hp z => by
    have e := (J.pin p hp).1
    rw [z, nI] at e
    cases e
  have S3 := J3.suite g3 d3 na nL nF
  refine wpAny_handleBy_cons (codeAny_handlers_test ?_) (fun q => by cases q)
  have look : PySem.W.Looks (model X.prog X.w) h3 (typeOf (.ref a)) cls := fun A' Q' E' t k q => wpAny_typeOf_ref (k _ _ g3) (by rw [z3.1]; exact q)
  have fits := PySem.W.exm_one (M := model X.prog X.w) J3.kIn look eb
  have asked : ∀ {Q' : Value → Shared → Prop} {E' : Value → Shared → Prop}, Q' c { s' with heap := h3 } → wpAny (model X.prog X.w) (X.A.mark (some (.ref a))) (eval (.Name x np) X.env) Q' E' { s' with heap := h3 } := fun q => by
    obtain ⟨g, dbg, m | ⟨m, v, nn⟩⟩ := hc
    · exact ld_glob (X := X.suite a ((a, o3) :: (X.pn ++ pins))) S3 g m q dbg
    · exact ld_blt (X := X.suite a ((a, o3) :: (X.pn ++ pins))) S3 g m v q nn dbg
  refine asked (fits.here ?_)
  cases b with
  | true =>
    refine codeAny_handlers_suite_as (HandSPX.lands_againZ f3 fun h4 f4 u4 => ?_)
    have J4 : Inv X pins σ' G { s' with heap := h4 } := J.landed nb' f4.1 ((up.trans u3).trans u4) os ag
    obtain ⟨o4, v4, g4, z4, d4⟩ := f4.there
    refine store_ok (X := X.suite a ((a, o4) :: (X.pn ++ pins))) (v := .ref a) (J4.suite g4 d4 na nL nF) hN hi (.inl hln) rfl (fun s5 S5 => ?_) (.inr hln)
    refine wpAny_mono ((hsu a o4 cls d (X.pn ++ pins) z4 ⟨_, d4⟩).run [] s5 _ G _ S5 (yes rfl a na)) (fun fl s6 r => ?_) fun _ _ z => z.elim
    cases fl with
    | next =>
      obtain ⟨σ6, G6, S6, q6⟩ := r
      exact gone_ok (keep_track S6 ok n0 nP z4 d4) hN hi hln fun s7 J7 => ⟨_, _, J7, q6⟩
    | brk =>
      obtain ⟨_, _, _, q6⟩ := r
      exact q6.elim
    | cont =>
      obtain ⟨_, _, _, q6⟩ := r
      exact q6.elim
    | ret u =>
      obtain ⟨_, _, _, _, _, q6⟩ := r
      exact q6.elim
  | false =>
    show wpAny _ X.A (handleBy (.ref a) X.env []) _ _ _
    refine wpAny_handleBy_nil ?_
    have f3' := f3
    obtain ⟨_, _, _, oe, ws, T, _, _, ge, _, de, te, _⟩ := f3'
    unfold PySem.passOn
    refine wpAny_bind (wpAny_field ge de te ?_)
    rw [if_neg (by simp)]
    have out : wpAny (model X.prog X.w) X.A (setFlight (.ref a) X.env.frame) (fun _ s4 => wpAny (model X.prog X.w) X.A (throw (.ref a) : Sem Flow) (SP X pins D) X.xe s4) X.xe { s' with heap := h3 } := by
      rw [hf]
      refine HandSPX.setFlight_upZ f3 fun h4 hold u4 => wpAny_throw (tk _ _ ?_)
      refine ⟨a, B, sI, pins, σ', G, cls, d, rfl, J, nb', (up.trans u3).trans u4, .inr (.inr ?_), na, os, ag, no rfl⟩
      rw [hs]
      exact hold
    first
      | exact wpAny_bind (wpAny_pure (wpAny_bind out))
      | exact wpAny_bind out
/-! isinstance of a kept error -/
theorem kit_kept {X : Cx} {pins : List (Addr × Obj)} {σ : L2.St} {H : Hp} {s : Shared} {a D : Addr} (I : Inv X pins σ H s) (C : ExcC X.K D) (e : H a = some (ExK (.ref D) none a)) : ∃ P : Heap → Prop, PySem.W.KitX X.K (.ref a) (.ref D) P ∧ P s.heap := by
  obtain ⟨⟨oe, vs, hg, hz, hd⟩, _, _⟩ := (show ObjOk X.prog X.w H s.heap a (ExK (.ref D) none a) from I.hok a _ e)
  have J : PySem.W.InstAt s.heap a oe D none := by
    obtain ⟨c1, c2, c3, c4⟩ := oe
    obtain ⟨z1, z2⟩ := hz
    dsimp only at z1 z2 hd
    subst z1 z2 hd
    exact ⟨hg, rfl, rfl, trivial⟩
  exact ⟨_, PySem.W.handS_kitx_exc C.hg C.hk C.hs C.hd C.ha C.hn C.ht C.hm, J⟩
def rIsK (K : PySem.W.Frag) : List V → Hp → VK → Prop := fun xs H Q => ∃ (a D : Addr) (c : V) (u : Value) (b : Bool), xs = [.ref a, c] ∧ H a = some (ExK (.ref D) none a) ∧ ExcC K D ∧ ClsV c u ∧ PySem.W.kitOne K (.ref D) u = some b ∧ Q (.bl b) H
theorem call_isK {X : Cx} : CallR X (.builtin "isinstance") (rIsK X.K) := by
  intro pins s σ H xs us Q I r h
  obtain ⟨a, D, c, u, b, rfl, ha, C, k, e, q⟩ := h
  obtain ⟨u1, u2, rfl, r1, r2⟩ := vals2 r
  cases (show u1 = Value.ref a from r1)
  cases k.eq r2
  obtain ⟨P, Z, p⟩ := kit_kept I C ha
  exact PySem.W.kia_one Z I.kIn p e (fun z => nomatch z) fun tk => ⟨.bl b, H, I.tok tk, rfl, q⟩
def rIsKT (K : PySem.W.Frag) : List V → Hp → VK → Prop := fun xs H Q => ∃ (a D tp : Addr) (cs : List V) (us : List Value) (b : Bool), xs = [.ref a, .ref tp] ∧ H a = some (ExK (.ref D) none a) ∧ ExcC K D ∧ H tp = some (.tup cs) ∧ Paired ClsV cs us ∧ PySem.W.kitAny K (.ref D) us = some b ∧ Q (.bl b) H
theorem call_isKT {X : Cx} : CallR X (.builtin "isinstance") (rIsKT X.K) := by
  intro pins s σ H xs us Q I r h
  obtain ⟨a, D, tp, cs, ws, b, rfl, ha, C, hT, k, e, q⟩ := h
  obtain ⟨u1, u2, rfl, r1, r2⟩ := vals2 r
  cases (show u1 = Value.ref a from r1)
  cases (show u2 = Value.ref tp from r2)
  obtain ⟨P, Z, p⟩ := kit_kept I C ha
  obtain ⟨_, its, rv, o, h1, h2, n, h3⟩ := (show ObjOk X.prog X.w H s.heap tp (.tup cs) from I.hok tp _ hT)
  cases ClsV.all k rv
  obtain ⟨oc, od, dt, sl⟩ := o
  simp only at h2 h3
  subst h2 h3
  exact PySem.W.kia_tup Z I.kIn p h1 e (fun z => nomatch z) fun tk => ⟨.bl b, H, I.tok tk, rfl, q⟩
theorem listK {X : Cx} {K : PySem.W.Frag} {tg e : Expr} {t : TE} (h : X.K = K) (he : PE X e t) : PI X tg e (iList K t) := by
  subst h
  exact pi_list he
theorem inK {X : Cx} {K : PySem.W.Frag} (h : X.K = K) : OpR X (compareOp .In) (rIn K false) := by
  subst h
  exact op_in_seq
/-! set(xs) of a list of numbers, with all that sorted() asks of it -/
abbrev noSet (w : World) : Obj := { cls := .type "set", dict := none, data := .set #[] 0 (.fresh 0 0 (!w.params.followText "set-order")) }
section
variable {P : Program} {w : World} {A : Around} {E : Value → Shared → Prop} {s : Shared}
theorem two_off {z l b : Nat} {h : Heap} {o : Obj} (hz : h.objs.size = z) (hb : b < z) : b ∉ [z, (h.push o).objs.size] := by
  rw [Heap.size_push, hz]
  intro hm
  rcases List.mem_cons.mp hm with e | hm
  · omega
  · have := List.mem_singleton.mp hm
    omega
set_option maxRecDepth 100000 in
set_option maxHeartbeats 3200000 in
theorem set_of_list {l : Addr} {xs : Array Value} (ns : List Int) {Q : Value → Shared → Prop} (hA : A.handled = none) (hl : s.heap.IsList l xs) (hi : IntsAre xs.toList ns) (hn : ns.length + 1 < scanBound)
    (fin : ∀ (h' : Heap) (tk c : Nat), SetR w h' s.heap.objs.size (fun j => decide (j ∈ ns)) c → c ≤ ns.length → (∀ b o, s.heap.get? b = some o → h'.get? b = some o) → Q (.ref s.heap.objs.size) { s with heap := h', toks := tk }) :
    wpAny (model P w) A (call (.type "set") [.ref l]) Q E s := by
  have size_eq : xs.size = ns.length := by
    have e := IntsAre.length hi
    rw [Array.length_toList] at e
    exact e
  obtain ⟨c₀, rest, mro₀⟩ := PySem.F.called_set.mro
  have made₀ := PySem.F.called_set.made
  have sub₀ := PySem.F.called_set.sub
  refine wpAny_call (codeAny_of_tree ?_)
  show wpAny _ _ (callAny (.type "set") _) _ _ _
  refine wpAny_pure ⟨Code.quiet_builtin _ (by decide +kernel), codeAny_builtin PySem.F.entry_type_call ?_⟩
  rw [Around.under_plain (weight_type_call_type "set" [.ref l] []) rfl]
  have nt₀ := PySem.F.called_set.notType
  have cc₀ := PySem.F.called_set.canCreate
  have tc₀ := PySem.F.typeCall_set_1 (.ref l)
  repeat (any_goals (first | assumption | wp_step))
  refine codeAny_mono (code_set_led1 (.ref l) (E := E) (Q₁ := fun obj t₁ => obj = .ref s.heap.objs.size ∧ t₁ = { s with heap := s.heap.push (noSet w) }) ⟨rfl, rfl⟩) fun r t₁ out => ?_
  cases r with
  | error e => exact out
  | ok fl =>
    cases fl with
    | ret obj =>
      obtain ⟨rfl, rfl⟩ := out
      have at₀ : (s.heap.push (noSet w)).get? s.heap.objs.size = some (noSet w) := Heap.get?_push_size _ rfl
      have ty₀ : Shared.TypeIs { s with heap := s.heap.push (noSet w) } (.ref s.heap.objs.size) "set" := ⟨_, at₀, rfl⟩
      have lk₀ := PySem.F.called_set.init.lookup
      have bd₀ := PySem.F.called_set.init.bind (.ref s.heap.objs.size)
      repeat (any_goals (first | assumption | wp_step))
      refine codeAny_mono (codeAny_call_builtin (R := wants (fun r t₂ => r = .none ∧ ∃ h' tk c, t₂ = { s with heap := h', toks := tk } ∧ SetR w h' s.heap.objs.size (fun j => decide (j ∈ ns)) c ∧ c ≤ ns.length ∧ (∀ b o, s.heap.get? b = some o → h'.get? b = some o)) E)
        PySem.F.called_set.init.plain PySem.F.entry_set_init (check_set_init_1 ty₀ ?_)) fun r₂ t₂ out₂ => ?_
      · obtain ⟨⟨kc, kd, kt, ks⟩, gl, cl, nl, dl⟩ := hl
        simp only at cl dl
        subst cl
        subst dl
        have lS : l < s.heap.objs.size := Heap.lt_size gl
        have gl' : (s.heap.push (noSet w)).get? l = some { cls := .type "list", dict := kd, data := .seq xs nl, slots := ks } := Heap.get?_push_of_some _ gl
        have no1 := PySem.F.sub_list_set
        have no2 := PySem.F.sub_list_frozenset
        have no3 : (Value.type "list" == Value.type "dict") = false := by decide
        have il : (s.heap.push (noSet w)).IsList l xs := ⟨_, gl', rfl, nl, rfl⟩
        unfold Builtin.«set.__init__» noKeywords Builtin.Frozenset.updateFrom
        generalize hPI : pyIter = PI
        wp_walk
        subst hPI
        refine wpAny_pyIter_list il (wpAny_bind (wpAny_runValue ?_))
        have hA3 : A.in1.in1.in1.handled = none := by simp [hA]
        have lI : l ≠ (s.heap.push (noSet w)).objs.size := by
          rw [Heap.size_push]
          exact Nat.ne_of_lt (Nat.lt_succ_of_lt lS)
        have offS : s.heap.objs.size ∉ [(s.heap.push (noSet w)).objs.size, l] := by
          rw [Heap.size_push]
          intro hm
          rcases List.mem_cons.mp hm with e | hm
          · exact absurd e (Nat.ne_of_lt (Nat.lt_succ_self _))
          · exact absurd (List.mem_singleton.mp hm) (Nat.ne_of_gt lS)
        have vals : ∀ (i : Nat) (v : Value), xs[i]? = some v → ∃ k t, ns[i]? = some k ∧ v = .int k t := fun i v hv => by
          have lt : i < ns.length := by
            rw [← size_eq]
            exact (Array.getElem?_eq_some_iff.mp hv).1
          obtain ⟨t, e⟩ := IntsAre.int_at hi i v (by rw [Array.getElem?_toList]; exact hv)
          exact ⟨ns.getD i 0, t, getD_at lt, e⟩
        refine set_update_ints ((Walks.list hA3 _ l lI xs).toS) s.heap.objs.size offS ns size_eq hn vals (xs.size - 0) 0 _ (by omega) (Nat.zero_le _) ⟨⟨_, Heap.get?_push_size _ rfl, rfl, rfl⟩, (il.push _)⟩
          ⟨0, Nat.le_refl 0, setR_new_at (Heap.get?_push_of_some _ at₀)⟩ fun t' c' moved small R' => ?_
        obtain ⟨h', g', d', tk', os'⟩ := t'
        have e1 : g' = s.gens := moved.gens
        have e2 : d' = s.drawn := moved.drawn
        have e3 : os' = s.os := moved.os
        subst e1
        subst e2
        subst e3
        show wpAny _ _ _ _ _ _
        refine wpAny_pure ?_
        show wpAny _ _ (ret Value.none) _ _ _
        rw [size_eq] at small
        exact wpAny_pure ⟨rfl, h', tk', c', rfl, R', small, fun b o e => moved.heap b o (two_off (l := l) rfl (Heap.lt_size e)) (Heap.get?_push_of_some _ (Heap.get?_push_of_some _ e))⟩
      · cases r₂ with
        | error e => exact out₂
        | ok fl₂ =>
          cases fl₂ with
          | ret r =>
            obtain ⟨rfl, h', tk, c', rfl, R', small, kept⟩ := out₂
            repeat (any_goals (first | assumption | wp_step))
            exact fin _ _ _ R' small kept
          | _ => exact out₂.elim
    | _ => exact out.elim
end
def rSetL (K : PySem.W.Frag) (w : World) : List V → Hp → VK → Prop := fun vs H Q => ∃ (l : Addr) (ns : List Int), vs = [V.ref l] ∧ SqL K H l (ns.map V.int) ∧ ns.length ≤ 1000 ∧ ∀ (p : Addr) (c : Nat), H p = none → c ≤ ns.length → Q (.ref p) (upd H p (SetO w p (fun j => decide (j ∈ ns)) c))
theorem cr_setL {X : Cx} (hc : X.calm = true) : CallR X (.type "set") (rSetL X.K X.w) := by
  intro pins s σ H xs us Q I r h
  obtain ⟨l, ns, rfl, hq, hl, q⟩ := h
  rw [Vals.ref1 r]
  obtain ⟨its, rv, pl, _⟩ := I.list hq
  refine set_of_list ns (I.ok.hd hc) pl.isList (by simpa using intsAre_of rv) (by unfold scanBound; omega) fun h' tk c R small kept => ?_
  exact ⟨.ref _, upd H s.heap.objs.size (SetO X.w s.heap.objs.size (fun j => decide (j ∈ ns)) c), I.laid (t' := tk) kept (Nat.le_refl _) (setO_new R), rfl, q _ c (I.hok.fresh (Nat.le_refl _)) small⟩
theorem setLW {X : Cx} {K : PySem.W.Frag} {w : World} (hK : X.K = K) (hw : X.w = w) (hc : X.calm = true) : CallR X (.type "set") (rSetL K w) := by
  subst hK hw
  exact cr_setL hc
theorem sortedW {X : Cx} {w : World} (hw : X.w = w) (hc : X.calm = true) : CallR X (.builtin "sorted") (rSortedSet w) := by
  subst hw
  exact cr_sortedSet hc
/-! len({len(row) for row in rows}) -/
def cnt (ls : List Int) : Nat := (ls.foldl (fun (st : List Int × Nat) k => (st.1 ++ [k], if k ∈ st.1 then st.2 else st.2 + 1)) ([], 0)).2
theorem cnt_fst (ls : List Int) : ∀ (a : List Int) (n : Nat), (ls.foldl (fun (st : List Int × Nat) k => (st.1 ++ [k], if k ∈ st.1 then st.2 else st.2 + 1)) (a, n)).1 = a ++ ls := by
  induction ls with
  | nil => intro a n; rw [List.append_nil]; rfl
  | cons x r ih =>
    intro a n
    rw [List.foldl_cons, ih, List.append_assoc]
    rfl
theorem cnt_snoc (ls : List Int) (k : Int) : cnt (ls ++ [k]) = if k ∈ ls then cnt ls else cnt ls + 1 := by
  unfold cnt
  rw [List.foldl_append]
  show (if k ∈ (ls.foldl _ ([], 0)).1 then _ else _) = _
  rw [cnt_fst]
  rfl
theorem cnt_le (ls : List Int) : cnt ls ≤ ls.length := by
  rw [← List.reverse_reverse ls]
  induction ls.reverse with
  | nil => exact Nat.le_refl 0
  | cons x r ih =>
    rw [List.reverse_cons, cnt_snoc, List.length_append]
    split
    · exact Nat.le_trans ih (Nat.le_add_right _ _)
    · exact Nat.succ_le_succ ih
theorem lenB : bootBuiltins "len" = some (.builtin "len") := PySem.boot_len
theorem pe_lenSC {X : Cx} {i : Nat} {x r : Str} {scope : Scope} {p1 p2 p3 p4 p5 p6 p7 p8 : Pos} (hgl : Gl X "len") (hm : X.mg "len" = none) (hc : X.calm = true) (hN : X.N[i]? = some r) (hv : Vis X.env.scope r) (hk : scope.kind = .function)
    (hcell : ∀ y ∈ scope.names, y.2 ≠ .cell) (hnm : ∀ y ∈ scope.names, y.2 = .local → scope.names.lookup y.1 = some .local) (hfr : ∀ y ∈ scope.names, y.2 ≠ .free) (hx : scope.names.lookup x = some .local) (hl : (relabel scope X.env).names.lookup ("len" : Str) = some .globalImplicit)
    (hd : (x == ("__debug__" : Str)) = false := by decide) (hd2 : (r == ("__debug__" : Str)) = false := by decide) (hd3 : (r == ("__classdict__" : Str)) = false := by decide)
    (he : starEach [.SetComp (.Call (.Name "len" p2) [.Name x p3] [] p4) [⟨.Name x p5, .Name r p6, [], 0⟩] scope p7] X.env = (false, eval (.SetComp (.Call (.Name "len" p2) [.Name x p3] [] p4) [⟨.Name x p5, .Name r p6, [], 0⟩] scope p7) X.env) :: starEach [] X.env := by rfl) :
    PE X (.Call (.Name "len" p1) [.SetComp (.Call (.Name "len" p2) [.Name x p3] [] p4) [⟨.Name x p5, .Name r p6, [], 0⟩] scope p7] [] p8)
      (fun σ H Q => ∃ (l : Addr) (as : List (Addr × List V)), σ[i]? = some (some (.ref l)) ∧ H l = some (.lst (as.map fun q => V.ref q.1)) ∧ as.length ≤ 8 ∧ (∀ q ∈ as, H q.1 = some (.tup q.2)) ∧ Q (.int ((cnt (as.map fun q => ((q.2.length : Nat) : Int)) : Nat))) H) := by
  refine ⟨fun pins s σ H Q I h => ?_⟩
  obtain ⟨l, as, hσ, hH, hln, hts, q⟩ := h
  have hh := I.ok.hd hc
  have hsl : sizeLine = 16777216 := by decide
  have hsb : 100 < scanBound := by decide
  refine wpAny_Call_Name_kw (ld_blt I hgl hm lenB ?_)
  refine PyProof.Rows.callWith_builtin1 ?_ he (by rfl)
  rw [he]
  show wpAny _ _ (spliced ((false, eval (.SetComp (.Call (.Name "len" p2) [.Name x p3] [] p4) [⟨.Name x p5, .Name r p6, [], 0⟩] scope p7) X.env) :: backTo p8 (starEach [] X.env))) _ _ s
  refine Calls.spliced_cons (SetComp_goes (closure_ok fun y hy e => absurd e (hfr y hy)) hcell hk hnm ?_ (by intro _; rfl))
  refine thn ((pe_var (pos := p6) hN hv hd2 hd3).run pins s σ H (fun v H1 => v = .ref l ∧ H1 = H) I ⟨_, hσ, rfl, rfl⟩) fun xv s1 ⟨v, H1, I1, r1, e1, e2⟩ => ?_
  subst e1 e2
  obtain rfl : xv = Value.ref l := r1
  obtain ⟨its, rv, pl, _⟩ := I1.list (show SqL X.K H1 l _ from .inl (.inl hH))
  have hIL := pl.isList
  have hlt : l < s1.heap.objs.size := by
    obtain ⟨o, ho, _⟩ := hIL
    exact Heap.lt_size ho
  refine wpAny_pyIter_list hIL ?_
  generalize hs2 : ({ s1 with heap := s1.heap.push { cls := .type "list_iterator", data := .fields #[.ref l, .int 0 0] } } : Shared) = s2
  have k12 : ∀ b o, s1.heap.get? b = some o → s2.heap.get? b = some o := fun b o e => by
    rw [← hs2]
    exact Heap.get?_push_of_some _ e
  have hit : s2.heap.IsListIter s1.heap.objs.size l 0 := by
    rw [← hs2]
    exact ⟨_, Heap.get?_push_size _ rfl, rfl, rfl⟩
  have z2 : s2.heap.objs.size = s1.heap.objs.size + 1 := by
    rw [← hs2]
    exact Heap.size_push ..
  have os2 : s2.os = s1.os ∧ s2.gens = s1.gens ∧ s2.drawn = s1.drawn := by
    rw [← hs2]
    exact ⟨rfl, rfl, rfl⟩
  have len : its.length = as.length := by rw [← rv.length, List.length_map]
  refine ⟨s1.heap.objs.size, _, _, _, _, _, rfl, Goes.list hh s1.heap.objs.size l (Nat.ne_of_lt hlt) its.toArray, ⟨hit, hIL.at fun o e => k12 _ o e⟩, fun D C s3 hB hD => ?_⟩
  obtain ⟨⟨h3, tk3, rfl⟩, old, nD, nC, hDC, hns⟩ := hB
  let ls : List Int := as.map fun q => ((q.2.length : Nat) : Int)
  have hls : ls.length = as.length := List.length_map ..
  have ltD : s1.heap.objs.size < D := by
    have h9 : s2.heap.objs.size ≤ D := nD
    exact Nat.lt_of_lt_of_le (by rw [z2]; exact Nat.lt_succ_self _) h9
  have ltC : s1.heap.objs.size < C := by
    have h9 : s2.heap.objs.size ≤ C := nC
    exact Nat.lt_of_lt_of_le (by rw [z2]; exact Nat.lt_succ_self _) h9
  refine ⟨fun i s' => ∃ h' tk m, s' = { s2 with heap := h', toks := tk } ∧ h'.Ns C m ∧ SetR X.w h' D (fun k => decide (k ∈ ls.take i)) (cnt (ls.take i)) ∧ ∀ b o, s1.heap.get? b = some o → h'.get? b = some o, ⟨h3, tk3, _, rfl, hns, ?_, fun b o e => old b o (k12 b o e)⟩, ?_, ?_, ?_⟩
  · refine ⟨_, #[], 0, _, hD, ⟨rfl, rfl, rfl⟩, rfl, (fun e he => by simp at he), (by simp), (fun k => by simp), (by decide), (by rfl), rfl, List.Pairwise.nil, ?_⟩
    show _ ∨ (!X.w.params.followText "set-order") = true
    cases X.w.params.followText "set-order" with
    | false => exact .inr rfl
    | true => exact .inl rfl
  · rintro i s' h' tk ⟨h4, tk4, m, rfl, n4, R4, k4⟩ hk' _
    have off : ∀ b : Addr, b ≠ s1.heap.objs.size → b ∉ [s1.heap.objs.size] := fun b hb hm => hb (List.mem_singleton.mp hm)
    exact ⟨h', tk, m, rfl, n4.at' fun o e => hk' _ o (off _ (Nat.ne_of_gt ltC)) e, R4.at fun o e => hk' _ o (off _ (Nat.ne_of_gt ltD)) e, fun b o e => hk' b o (off _ (Nat.ne_of_lt (Heap.lt_size e))) (k4 b o e)⟩
  · rintro i v s' hi hv st ⟨h4, tk4, m, rfl, n4, R4, k4⟩
    have hv2 : its[i]? = some v := by simpa using hv
    have hi2 : i < as.length := by
      have := (List.getElem?_eq_some_iff.mp hv2).1
      omega
    have ga : (as.map fun q => V.ref q.1)[i]? = some (V.ref as[i].1) := by
      rw [List.getElem?_map, List.getElem?_eq_getElem hi2]
      rfl
    obtain ⟨u, hu, ru⟩ := rv.get ga
    rw [hv2] at hu
    cases hu
    obtain rfl : v = Value.ref as[i].1 := ru
    have hti := hts as[i] (List.getElem_mem hi2)
    obtain ⟨its2, rv2, it2, hz2⟩ := I1.tuple (show SqT X.K H1 as[i].1 _ from .inl (.inl hti))
    have hkx : (compEnvC scope (cloFrom X.env.cells scope.names []) C X.env).kindOf x = some .local := lookup_relabel_local hx
    have hp : ((compEnvC scope (cloFrom X.env.cells scope.names []) C X.env).scope.kind == .class || ((compEnvC scope (cloFrom X.env.cells scope.names []) C X.env).scope.kind == .module && (compEnvC scope (cloFrom X.env.cells scope.names []) C X.env).locals != (compEnvC scope (cloFrom X.env.cells scope.names []) C X.env).globals)) = false := by
      show (scope.kind == .class || (scope.kind == .module && _)) = false
      rw [hk]
      rfl
    refine wpAny_assign_Name (wpAny_storeName_local hkx n4 (fun h5 n5 s5 => ?_) hp)
    have k5 : ∀ b o, b ≠ C → h4.get? b = some o → h5.get? b = some o := fun b o hb e => (s5.2 b hb).trans e
    have k15 : ∀ b o, s1.heap.get? b = some o → h5.get? b = some o := fun b o e => k5 b o (Nat.ne_of_lt (Nat.lt_trans (Heap.lt_size e) ltC)) (k4 b o e)
    refine wpAny_tests_nil ?_
    rw [if_pos rfl]
    obtain ⟨mb, b1, b2⟩ := I1.mod.blt
    have up : ∀ {a : Addr} {m : Str → Option Value}, X.base.Ns a m → h5.Ns a m := fun n => (n.keeps I1.bk).keeps k15
    refine wpAny_Call_Name_kw (Calls.Name_function_global hk hl (Calls.loadGlobal_builtin (show h5.Ns X.env.globals X.mg by rw [I1.ok.glob]; exact up I1.mod.glob) hm (show h5.Ns X.env.builtins mb by rw [I1.ok.blt]; exact up b1) ((b2 "len" (by decide)).trans lenB) ?_))
    refine PyProof.Rows.callWith_builtin1 ?_ rfl rfl
    refine Calls.spliced_cons (wpAny_Name (wpAny_loadName_local hk hkx n5 (by rw [if_pos rfl]) ?_) hd)
    refine Calls.spliced_nil ?_
    obtain ⟨ot, hot, rest⟩ := it2
    refine len_tuple (items := its2.toArray) ⟨ot, k15 _ _ hot, rest⟩ (by simp only [List.size_toArray]; have := rv2.length; omega) ?_
    have R5 : SetR X.w h5 D (fun k => decide (k ∈ ls.take i)) (cnt (ls.take i)) := R4.at fun o e => k5 _ o hDC e
    have gl : ls[i]? = some ((its2.toArray.size : Nat) : Int) := by
      show (as.map _)[i]? = _
      rw [List.getElem?_map, List.getElem?_eq_getElem hi2, List.size_toArray, ← rv2.length]
      rfl
    refine setR_add R5 ?_ fun h6 sb6 new => ?_
    · have := cnt_le (ls.take i)
      rw [List.length_take] at this
      omega
    · have tk1 : ls.take (i + 1) = ls.take i ++ [((its2.toArray.size : Nat) : Int)] := by
        rw [List.take_add_one, gl]
        rfl
      have k6 : ∀ b o, b ≠ D → h5.get? b = some o → h6.get? b = some o := fun b o hb e => (sb6.2 b hb).trans e
      refine ⟨⟨h6, _, _, rfl, n5.at' fun o e => k6 _ o (Ne.symm hDC) e, ?_, fun b o e => k6 b o (Nat.ne_of_lt (Nat.lt_trans (Heap.lt_size e) ltD)) (k15 b o e)⟩, ?_⟩
      · rw [tk1, cnt_snoc]
        have e1 : (if decide (((its2.toArray.size : Nat) : Int) ∈ ls.take i) = true then cnt (ls.take i) else cnt (ls.take i) + 1) = (if ((its2.toArray.size : Nat) : Int) ∈ ls.take i then cnt (ls.take i) else cnt (ls.take i) + 1) := by
          by_cases z : ((its2.toArray.size : Nat) : Int) ∈ ls.take i
          · rw [if_pos z, if_pos (decide_eq_true z)]
          · rw [if_neg z, if_neg (fun y => z (of_decide_eq_true y))]
        rw [← e1]
        refine new.congr fun k => ?_
        rw [Bool.eq_iff_iff]
        simp
      · have a1 : s1.heap.objs.size ≠ C := Nat.ne_of_lt ltC
        have a2 : s1.heap.objs.size ≠ D := Nat.ne_of_lt ltD
        have a3 : l ≠ C := Nat.ne_of_lt (Nat.lt_trans hlt ltC)
        have a4 : l ≠ D := Nat.ne_of_lt (Nat.lt_trans hlt ltD)
        exact ⟨st.1.at fun o e => k6 _ o a2 (k5 _ o a1 e), st.2.at fun o e => k6 _ o a4 (k5 _ o a3 e)⟩
  · rintro s' ⟨h4, tk4, m, rfl, n4, R4, k4⟩
    refine ⟨m, n4, fun h5 sb => ?_⟩
    refine Calls.spliced_nil ?_
    have k5 : ∀ b o, b ≠ C → h4.get? b = some o → h5.get? b = some o := fun b o hb e => (sb.2 b hb).trans e
    obtain ⟨o, es, ep, t, ho, hx9, hd9, _, _, _, hb9, hf9, hn9, _⟩ := R4
    have el : ls.take its.toArray.size = ls := List.take_of_length_le (by rw [List.size_toArray, len, hls]; exact Nat.le_refl _)
    rw [el] at hn9
    have sm := cnt_le ls
    refine call_len_set (k5 _ _ hDC ho) hx9 hd9 hf9 (by omega) ?_
    subst hs2
    refine ⟨.int _, H1, I1.kept fun b u e => k5 b u (Nat.ne_of_lt (Nat.lt_trans (Heap.lt_size e) ltC)) (k4 b u e), ⟨tk4 + 1, by rw [hn9]⟩, q⟩
/-! the program: rows of one length, or a refusal -/
theorem cnt_pos : ∀ (rs : List Int), rs ≠ [] → 1 ≤ cnt rs.reverse
  | [], h => absurd rfl h
  | x :: r, _ => by
    rw [List.reverse_cons, cnt_snoc]
    by_cases z : x ∈ r.reverse
    · rw [if_pos z]
      exact cnt_pos r fun e => by
        rw [e] at z
        cases z
    · rw [if_neg z]
      omega
theorem cnt_two : ∀ (rs : List Int) (c d : Int), c ∈ rs → d ∈ rs → c ≠ d → 2 ≤ cnt rs.reverse
  | [], _, _, h, _, _ => by cases h
  | x :: r, c, d, hc, hd, hne => by
    rw [List.reverse_cons, cnt_snoc]
    by_cases z : x ∈ r.reverse
    · rw [if_pos z]
      have inn : ∀ y, y ∈ x :: r → y ∈ r := fun y hy => by
        rcases List.mem_cons.mp hy with rfl | hy
        · exact List.mem_reverse.mp z
        · exact hy
      exact cnt_two r c d (inn c hc) (inn d hd) hne
    · rw [if_neg z]
      have hr : r ≠ [] := fun e => by
        subst e
        rw [List.mem_singleton.mp hc, List.mem_singleton.mp hd] at hne
        exact hne rfl
      have := cnt_pos r hr
      omega
theorem cnt_diff {ls : List Int} {c d : Int} (hc : c ∈ ls) (hd : d ∈ ls) (hne : c ≠ d) : 1 < cnt ls := by
  have := cnt_two ls.reverse c d (List.mem_reverse.mpr hc) (List.mem_reverse.mpr hd) hne
  rw [List.reverse_reverse] at this
  omega
theorem cnt_same {ls : List Int} {c : Int} (h : ∀ x, x ∈ ls → x = c) (hne : ls ≠ []) : cnt ls = 1 := by
  have aux : ∀ (rs : List Int), (∀ x, x ∈ rs → x = c) → rs ≠ [] → cnt rs.reverse = 1 := by
    intro rs
    induction rs with
    | nil => intro _ z; exact absurd rfl z
    | cons x r ih =>
      intro hr _
      rw [List.reverse_cons, cnt_snoc]
      by_cases z : r = []
      · subst z
        rfl
      · have hx : x = c := hr x List.mem_cons_self
        have h1 : ∀ y, y ∈ r → y = c := fun y hy => hr y (List.mem_cons_of_mem _ hy)
        obtain ⟨y, t, e⟩ : ∃ y t, r = y :: t := by
          cases r with
          | nil => exact absurd rfl z
          | cons y t => exact ⟨y, t, rfl⟩
        have hm : x ∈ r.reverse := by
          rw [List.mem_reverse, e, hx, ← h1 y (by rw [e]; exact List.mem_cons_self)]
          exact List.mem_cons_self
        rw [if_pos hm]
        exact ih h1 z
  have := aux ls.reverse (fun x hx => h x (List.mem_reverse.mp hx)) (fun z => hne (List.reverse_eq_nil_iff.mp z))
  rw [List.reverse_reverse] at this
  exact this
def sp_refuse_unlike {K : PySem.W.Frag} {mg : Str → Option Value} (T : Defs K mg) : Sp := fun vs H Q E => ∃ (l : Addr) (as : List (Addr × List V)), vs = [.ref l] ∧ H l = some (.lst (as.map fun q => V.ref q.1)) ∧ as.length ≤ 8 ∧ as ≠ [] ∧ (∀ q ∈ as, H q.1 = some (.tup q.2)) ∧
  (((∃ n : Nat, ∀ q ∈ as, q.2.length = n) ∧ Q .non H) ∨ ((∃ p q, p ∈ as ∧ q ∈ as ∧ p.2.length ≠ q.2.length) ∧ E (.ref T.C_Unlike) none H))
theorem ok_refuse_unlike (T : Defs K mg) (TT : Tabs T base) : FnOk P w K mg base (L2.CX P w) 1 T.f_refuse_unlike T.fd_refuse_unlike ["rows"] (sp_refuse_unlike T) := by
  refine okX T.F_refuse_unlike sc_refuse_unlike (fun vs H Q E h => ?_) (fun cdv A outer s H vs Q E hr h => ?_)
  · obtain ⟨l, as, rfl, hl, hn, hne, hts, h⟩ := h
    rfl
  · obtain ⟨l, as, rfl, hl, hn, hne, hts, h⟩ := h
    refine ⟨_, (pss_one (ps_if (pt_cmpR op_gt (pe_lenSC (i := 0) (by rfl) T.m_len rfl rfl (.inl rfl) rfl (by decide +kernel) (by decide +kernel) (by decide +kernel) rfl rfl) pe_int (nomark _)) (pss_one (ps_raise rfl (takes_of (E := E) rfl rfl rfl rfl) (pmk_own PySem.F.excBase_ValueError T.xi_Unlike T.g_Unlike T.xk_Unlike (raises_own T.xs_Unlike T.xt_Unlike) (by rfl)))) pss_nil)), ?_⟩
    refine ⟨l, as, rfl, hl, hn, hts, _, _, rfl, rfl, _, rfl, ?_⟩
    rcases h with ⟨⟨n, heq⟩, q⟩ | ⟨⟨p1, p2, m1, m2, hd⟩, q⟩
    · rw [cnt_same (c := (n : Int)) (fun x hx => by
        obtain ⟨p, hp, rfl⟩ := List.mem_map.mp hx
        rw [heq p hp]) (fun z => hne (List.map_eq_nil_iff.mp z))]
      exact iteF q
    · have big := cnt_diff (ls := as.map fun q => ((q.2.length : Nat) : Int)) (List.mem_map.mpr ⟨p1, m1, rfl⟩) (List.mem_map.mpr ⟨p2, m2, rfl⟩) (by omega)
      refine ite2 (fun _ => q) (fun z => absurd (decide_eq_true ?_) z)
      show (1 : Int) < _
      omega
theorem nx_via {t u : TS} {D : Ends} {r : VK} {k c : L2.St → Hp → Prop} {σ : L2.St} {H : Hp} (R : L2.St → Hp → Prop) (h1 : ∀ N : L2.St → Hp → Prop, (∀ σ H, R σ H → N σ H) → t { D with nx := N } σ H) (h2 : ∀ σ H, R σ H → u D σ H) : Ends.nx { nx := tSeq t u D, rt := r, bk := k, ct := c } σ H := h1 _ h2
theorem seq_via {t u : TS} {D : Ends} {σ : L2.St} {H : Hp} (R : L2.St → Hp → Prop) (h1 : ∀ N : L2.St → Hp → Prop, (∀ σ H, R σ H → N σ H) → t { D with nx := N } σ H) (h2 : ∀ σ H, R σ H → u D σ H) : tSeq t u D σ H := h1 _ h2
/-! the law's makers -/
theorem gcd_stepN (x y : Nat) : Nat.gcd y (x % y) = Nat.gcd x y := by
  rw [Nat.gcd_comm, ← Nat.gcd_rec, Nat.gcd_comm]
def sp__law_alone (_ : PySem.W.Frag) : Sp := fun vs H Q _ => ∃ a b : Nat, vs = [.int (a : Nat), .int (b : Nat)] ∧ Q (.bl (decide (V.int ((Nat.gcd a b : Nat) : Int) = V.int 1))) H
theorem ok__law_alone (T : Defs K mg) (TT : Tabs T base) : FnOk P w K mg base CX0 1 T.f__law_alone T.fd__law_alone ["_law_one", "_law_other"] (sp__law_alone K) := by
  refine T.F__law_alone.ok sc__law_alone (fun vs H Q E h => ?_) (fun cdv A outer s H vs Q E hr h => ?_)
  · obtain ⟨a, b, rfl, q⟩ := h
    rfl
  · obtain ⟨a, b, rfl, q⟩ := h
    refine ⟨_, PSs.nox (pss_cons (ps_while PassesOwn.never (pt_cmpR op_gt (pv 1) pe_int (nomark _)) (pss_one (ps_par (i := 0) (j := 1) (by rfl) sc__law_alone.nd rfl rfl (by decide) rfl rfl (pa_cons (pv 1) (pa_cons (pe_op op_mod (pv 0) (pv 1)) pa_nil)) (by rfl))))
    (pss_one (ps_ret (pe_cmpR op_eq (pv 0) pe_int (nomark _))))), ?_⟩
    refine while_by (fun σ H1 => H1 = H ∧ ∃ x y : Nat, σ = [some (.int (x : Nat)), some (.int (y : Nat))] ∧ Nat.gcd x y = Nat.gcd a b) (fun σ _ => match σ with | [_, some (.int y)] => y.toNat | _ => 0) ⟨rfl, a, b, rfl, rfl⟩ ?_ ?_
    · rintro σ H1 ⟨rfl, x, y, rfl, hg⟩
      refine ⟨.int (y : Nat), rfl, _, _, rfl, rfl, _, rfl, ite2 (fun e => ?_) (fun e => ?_)⟩
      · have hy : (0 : Int) < (y : Int) := of_decide_eq_true e
        refine ⟨.int (y : Nat), rfl, .int (x : Nat), rfl, .int (y : Nat), rfl, _, _, rfl, rfl, hy, _, _, rfl, ⟨rfl, y, x % y, ?_, ?_⟩, ?_⟩
        · rfl
        · rw [gcd_stepN, hg]
        · show ((x : Int) % (y : Int)).toNat < ((y : Int)).toNat
          have := Int.emod_lt_of_pos (x : Int) hy
          have := Int.emod_nonneg (x : Int) (show (y : Int) ≠ 0 by omega)
          omega
      · have hy : ¬ (0 : Int) < (y : Int) := fun z => e (decide_eq_true z)
        have y0 : y = 0 := by omega
        subst y0
        rw [Nat.gcd_zero_right] at hg
        subst hg
        exact ⟨_, rfl, rfl, q⟩
    · rintro σ H1 Q1 Q2 hQ ⟨v, hv, i, j, e1, e2, k, e3, h3⟩
      exact ⟨v, hv, i, j, e1, e2, k, e3, hQ _ _ h3⟩
def SV (D : Addr) (HX : Hp) (m i : Nat) (H1 : Hp) : Prop := ∃ ss : List Int, ss.length ≤ i ∧ (i = 0 ∨ 1 ≤ ss.length) ∧ (∀ x, x ∈ ss → 1 ≤ x ∧ x ≤ m) ∧ Same HX H1 ∧ H1 D = some (.lst (ss.map V.int))
theorem at_menuV {Pr : V → Prop} {xs : List V} {r : Int} (h0 : 0 ≤ r) (h1 : r < xs.length) (hx : ∀ x, x ∈ xs → Pr x) : ∃ v, atI xs r = some v ∧ Pr v := by
  obtain ⟨j, rfl⟩ := Int.eq_ofNat_of_zero_le h0
  have hj : j < xs.length := by omega
  exact ⟨xs[j], atI_nat (List.getElem?_eq_getElem hj), hx _ (List.getElem_mem hj)⟩
theorem i01b {c : Bool} : 0 ≤ (if c = true then (1 : Int) else 0) ∧ (if c = true then (1 : Int) else 0) < ((2 : Nat) : Int) := by
  cases c <;> decide
theorem word_menu {x : V} (hx : x ∈ [V.str "slow", .str "slip", .str "late"]) : ∃ z : Str, x = .str z ∧ (z = "slow" ∨ z = "slip" ∨ z = "late") := by
  rcases List.mem_cons.mp hx with rfl | hx
  · exact ⟨_, rfl, .inl rfl⟩
  rcases List.mem_cons.mp hx with rfl | hx
  · exact ⟨_, rfl, .inr (.inl rfl)⟩
  rcases List.mem_cons.mp hx with rfl | hx
  · exact ⟨_, rfl, .inr (.inr rfl)⟩
  · cases hx
theorem around_ok {H : Hp} {m : Mk} {x : V} {a : Addr} {z : Str} {n : Nat} (ha : H a = some (.tup [.str z, .int (n : Nat), x])) (hx : MkAt H m x) (ok : m.Ok) (hz : z = "slow" ∨ z = "slip" ∨ z = "late") (n2 : n ≤ 64) (n1 : z = "late" ∨ 1 ≤ n) :
    ∃ m', MkAt H m' (.ref a) ∧ m'.Ok ∧ m'.dep = m.dep + 1 ∧ m'.inn = m.inn ∧ m'.rnd ≤ 64 * m.rnd := by
  rcases hz with rfl | rfl | rfl
  · have n1 : 1 ≤ n := n1.resolve_left (by decide +kernel)
    exact ⟨.slow n m, ⟨a, x, rfl, ha, hx⟩, ⟨n1, n2, ok⟩, rfl, rfl, Nat.mul_le_mul_right _ n2⟩
  · have n1 : 1 ≤ n := n1.resolve_left (by decide +kernel)
    exact ⟨.slip n m, ⟨a, x, rfl, ha, hx⟩, ⟨n1, n2, ok⟩, rfl, rfl, Nat.le_trans (Nat.div_le_self _ _) (Nat.mul_le_mul_right _ n2)⟩
  · exact ⟨.late n m, ⟨a, x, rfl, ha, hx⟩, ⟨n2, ok⟩, rfl, rfl, Nat.le_mul_of_pos_left _ (by decide)⟩
def twos : List Int := [1, 2, 4, 8, 16, 32, 64]
theorem twos_at {w : Nat} (h : w ≤ 6) : (twos.map V.int)[w]? = some (.int ((2 ^ w : Nat) : Int)) := by
  have : w = 0 ∨ w = 1 ∨ w = 2 ∨ w = 3 ∨ w = 4 ∨ w = 5 ∨ w = 6 := by omega
  rcases this with rfl | rfl | rfl | rfl | rfl | rfl | rfl <;> rfl
theorem rnd_plainM {m : Mk} (h : m.dep = 0) : m.rnd = m.pl.length := by
  cases m with
  | slow n m => cases h
  | slip n m => cases h
  | late n m => cases h
  | _ => rfl
def spr__law_maker (d : Nat) (_ : PySem.W.Frag) : Sp := fun vs H Q _ => ∃ (p : Addr) (M : Int) (n k : Nat), vs = [.ref p, .int (k : Nat), .int M] ∧ Bx H p n ∧ n + 400 * d < 1000000000 ∧ k < d ∧ d ≤ 3 ∧ 1 ≤ M ∧ M ≤ 64 ∧
  ∀ H' v m, But p H H' → Bx H' p (n + 400 * d) → MkAt H' m v → m.Ok → m.dep ≤ k → m.rnd ≤ 64 ^ (k + 1) → Q v H'
theorem no__law_maker {K : PySem.W.Frag} {vs : List V} {H : Hp} {Q : VK} {E : XK} (h : spr__law_maker 0 K vs H Q E) : False := by
  obtain ⟨p, M, n, k, _, _, _, z, _⟩ := h
  exact Nat.not_lt_zero _ z
theorem okr__law_maker (T : Defs K mg) (TT : Tabs T base) : ∀ d : Nat, FnOk P w K mg base CX0 (1 + d) T.f__law_maker T.fd__law_maker ["_law_box_here", "_law_deep", "_law_most"] (spr__law_maker d K)
  | 0 => ⟨fun _ _ _ _ z => (no__law_maker z).elim, fun _ _ _ _ _ _ _ _ _ _ _ _ _ z => (no__law_maker z).elim⟩
  | d + 1 => by
    have G__law_take : FnOk P w K mg base CX0 1 T.f__law_take T.fd__law_take ["_law_box_here", "_law_many"] (sp__law_take K) := ok__law_take T TT
    have G__law_maker : FnOk P w K mg base CX0 (1 + d) T.f__law_maker T.fd__law_maker ["_law_box_here", "_law_deep", "_law_most"] (spr__law_maker d K) := okr__law_maker T TT d
    have G__law_alone : FnOk P w K mg base CX0 1 T.f__law_alone T.fd__law_alone ["_law_one", "_law_other"] (sp__law_alone K) := ok__law_alone T TT
    show FnOk P w K mg base CX0 ((1 + d) + 1) T.f__law_maker T.fd__law_maker ["_law_box_here", "_law_deep", "_law_most"] (spr__law_maker (d + 1) K)
    refine T.F__law_maker.ok sc__law_maker (fun vs H Q E h => ?_) (fun cdv A outer s H vs Q E hr h => ?_)
    · obtain ⟨p, M, n, k, rfl, hB, hn, hk, hd3, M1, M2, q⟩ := h
      rfl
    · obtain ⟨p, M, n, k, rfl, hB, hn, hk, hd3, M1, M2, q⟩ := h
      refine ⟨_, PSs.nox (pss_cons (ps_asg (pe_tup (pa_cons (pe_call G__law_take (hr.mono (by omega)) (by rfl) T.g__law_take T.F__law_take.kp T.b__law_take .nil pass0 (pa_cons (pv 0) (pa_cons pe_int pa_nil))) (pa_cons (pe_op op_add pe_int (pe_call G__law_take (hr.mono (by omega)) (by rfl) T.g__law_take T.F__law_take.kp T.b__law_take .nil pass0 (pa_cons (pv 0) (pa_cons (pv 2) pa_nil)))) pa_nil))) (pg_tup rfl (pgs_cons (pg_name (i := 3) sc__law_maker.nd rfl (.inl rfl)) (pgs_cons (pg_name (i := 4) sc__law_maker.nd rfl (.inr rfl)) pgs_nil))))
    (pss_cons (ps_if (PW.pt (pw_and (pt_cmpR op_gt (pv 3) pe_int (nomark _)) (pw_and1 (pt_cmpR op_gt (pv 1) pe_int (nomark _))))) (pss_cons (ps_set (i := 5) sc__law_maker.nd rfl (.inl rfl) (pe_ix ix_list (pe_lst (pa_cons pe_str (pa_cons pe_str (pa_cons pe_str pa_nil)))) (pe_op op_sub (pv 3) pe_int) (fun _ _ => rfl)))
    (pss_one (ps_ret (pe_tup (pa_cons (pv 5) (pa_cons (pe_ix ix_list (pe_lst (pa_cons (pe_op op_add pe_int (pe_call G__law_take (hr.mono (by omega)) (by rfl) T.g__law_take T.F__law_take.kp T.b__law_take .nil pass0 (pa_cons (pv 0) (pa_cons pe_int pa_nil)))) (pa_cons (pe_call G__law_take (hr.mono (by omega)) (by rfl) T.g__law_take T.F__law_take.kp T.b__law_take .nil pass0 (pa_cons (pv 0) (pa_cons pe_int pa_nil))) pa_nil))) (pe_callTy call_int1 (by rfl) T.m_int bt_int (pa_cons (pe_cmpR op_eq (pv 5) pe_str (nomark _)) pa_nil)) (fun _ _ => rfl)) (pa_cons (pe_call G__law_maker (hr.mono (by omega)) (by rfl) T.g__law_maker T.F__law_maker.kp T.b__law_maker .nil pass0 (pa_cons (pv 0) (pa_cons (pe_op op_sub (pv 1) pe_int) (pa_cons (pv 2) pa_nil)))) pa_nil))))))) pss_nil)
    (pss_cons (ps_set (i := 6) sc__law_maker.nd rfl (.inr rfl) (pe_lst (pa_cons pe_int (pa_cons pe_int (pa_cons pe_int (pa_cons pe_int (pa_cons pe_int (pa_cons pe_int (pa_cons pe_int pa_nil)))))))))
    (pss_cons (ps_setLc (i := 7) (own := [("_law_wide", 8)]) (g := gName 8) rfl sc__law_maker.nd rfl rfl (sw_true rfl rfl rfl (by decide +kernel)) (pi_range2 (by rfl) T.m_range (pa_cons pe_int (pa_cons pe_int pa_nil))) (blkOk_by (N := N__law_maker) (sc := defScope s__law_maker) (by decide +kernel)) (fun _ _ _ _ _ => (pg_name (i := 8) sc__law_maker.nd rfl (.inl rfl))) (fun _ _ _ _ _ => pts_one (pt_cmpR op_le (pe_ix (ixlK (K := K) rfl) (pv 6) (pv 8) (fun _ _ => rfl)) (pe_callB (call_max2 rfl) (by rfl) T.m_max bt_max (pa_cons (pv 2) (pa_cons pe_int pa_nil))) (nomark _))) (fun _ _ _ _ _ => (pv 8)))
    (pss_cons (ps_set (i := 8) sc__law_maker.nd rfl (.inl rfl) (pe_ix ix_list (pv 7) (pe_call G__law_take (hr.mono (by omega)) (by rfl) T.g__law_take T.F__law_take.kp T.b__law_take .nil pass0 (pa_cons (pv 0) (pa_cons (pe_callB call_len_seq (by rfl) T.m_len bt_len (pa_cons (pv 7) pa_nil)) pa_nil))) (fun _ _ => rfl)))
    (pss_cons (ps_if (pt_cmpR op_eq (pv 3) pe_int (nomark _)) (pss_one (ps_ret (pe_tup (pa_cons pe_str (pa_cons (pv 8) (pa_cons (pe_call G__law_take (hr.mono (by omega)) (by rfl) T.g__law_take T.F__law_take.kp T.b__law_take .nil pass0 (pa_cons (pv 0) (pa_cons (pe_ix ix_list (pv 6) (pv 8) (fun _ _ => rfl)) pa_nil))) pa_nil)))))) pss_nil)
    (pss_cons (ps_if (PW.pt (pw_and (pt_cmpR op_eq (pv 3) pe_int (nomark _)) (pw_and1 (pt_cmpR op_gt (pv 8) pe_int (nomark _))))) (pss_cons (ps_set (i := 9) sc__law_maker.nd rfl (.inl rfl) (pe_op op_add (pe_ix ix_list (pv 6) (pe_op op_sub (pv 8) pe_int) (fun _ _ => rfl)) (pe_call G__law_take (hr.mono (by omega)) (by rfl) T.g__law_take T.F__law_take.kp T.b__law_take .nil pass0 (pa_cons (pv 0) (pa_cons (pe_ix ix_list (pv 6) (pe_op op_sub (pv 8) pe_int) (fun _ _ => rfl)) pa_nil)))))
    (pss_one (ps_ret (pe_tup (pa_cons pe_str (pa_cons (pv 8) (pa_cons (pv 9) (pa_cons (pe_op op_add pe_int (pe_call G__law_take (hr.mono (by omega)) (by rfl) T.g__law_take T.F__law_take.kp T.b__law_take .nil pass0 (pa_cons (pv 0) (pa_cons (pe_op op_sub (pe_ix ix_list (pv 6) (pv 8) (fun _ _ => rfl)) pe_int) pa_nil)))) pa_nil)))))))) pss_nil)
    (pss_cons (ps_if (pt_cmpR op_eq (pv 3) pe_int (nomark _)) (pss_one (ps_ret (pe_tup (pa_cons pe_str (pa_cons (pe_callTy call_tuple_of (by rfl) T.m_tuple bt_tuple (pa_cons (pe_lc (own := [("_law_k", 11)]) (g := gName 11) (tt := tYes) rfl sc__law_maker.nd (pi_range1 (by rfl) T.m_range (pa_cons (pv 4) pa_nil)) (blkOk_by (N := N__law_maker) (sc := defScope s__law_maker) (by decide +kernel)) (fun _ _ _ _ _ => (pg_name (i := 11) sc__law_maker.nd rfl (.inl rfl))) (fun _ _ _ _ _ => pts_nil) (fun _ _ _ _ _ => (pe_call G__law_take (hr.mono (by omega)) (by rfl) T.g__law_take T.F__law_take.kp T.b__law_take .nil pass0 (pa_cons (pv 0) (pa_cons (pe_ix (ixlK (K := K) rfl) (pe_lst (pa_cons pe_int (pa_cons pe_int pa_nil))) (pe_call G__law_take (hr.mono (by omega)) (by rfl) T.g__law_take T.F__law_take.kp T.b__law_take .nil pass0 (pa_cons (pv 0) (pa_cons pe_int pa_nil))) (fun _ _ => rfl)) pa_nil))))) pa_nil)) pa_nil))))) pss_nil)
    (pss_cons (ps_setLc (i := 10) (own := [("_law_step", 12)]) (g := gName 12) rfl sc__law_maker.nd rfl rfl (sw_true rfl rfl rfl (by decide +kernel)) (pi_range2 (by rfl) T.m_range (pa_cons pe_int (pa_cons (pe_op op_add (pv 4) pe_int) pa_nil))) (blkOk_by (N := N__law_maker) (sc := defScope s__law_maker) (by decide +kernel)) (fun _ _ _ _ _ => (pg_name (i := 12) sc__law_maker.nd rfl (.inl rfl))) (fun _ _ _ _ _ => pts_one (pt_val (pe_call G__law_alone (hr.mono (by omega)) (by rfl) T.g__law_alone T.F__law_alone.kp T.b__law_alone .nil pass0 (pa_cons (pv 12) (pa_cons (pv 4) pa_nil))))) (fun _ _ _ _ _ => (pv 12)))
    (pss_one (ps_ret (pe_tup (pa_cons pe_str (pa_cons (pv 4) (pa_cons (pe_ix ix_list (pv 10) (pe_call G__law_take (hr.mono (by omega)) (by rfl) T.g__law_take T.F__law_take.kp T.b__law_take .nil pass0 (pa_cons (pv 0) (pa_cons (pe_callB call_len_seq (by rfl) T.m_len bt_len (pa_cons (pv 10) pa_nil)) pa_nil))) (fun _ _ => rfl)) (pa_cons (pe_call G__law_take (hr.mono (by omega)) (by rfl) T.g__law_take T.F__law_take.kp T.b__law_take .nil pass0 (pa_cons (pv 0) (pa_cons (pv 4) pa_nil))) pa_nil)))))))))))))))), ?_⟩
      have hsl : sizeLine = 16777216 := by decide
      have pl_q : ∀ H' v m, But p H H' → Bx H' p (n + 350) → MkAt H' m v → m.dep = 0 → m.Pl → Q v H' := fun H' v m b B hm d0 pl => by
        refine q H' v m b (B.mono (by omega)) hm ?_ (by omega) ?_
        · cases m with
          | slow n k => cases d0
          | slip n k => cases d0
          | late n k => cases d0
          | _ => exact pl
        · rw [rnd_plainM d0]
          have := pl.len
          have : 64 ^ 1 ≤ 64 ^ (k + 1) := Nat.pow_le_pow_right (by decide) (by omega)
          omega
      refine ⟨.ref p, rfl, p, 9, n, rfl, hB, by decide, by decide, by omega, fun H1 way c1 B1 l1 u1 => ?_⟩
      refine ⟨.ref p, rfl, .int M, rfl, p, M, n + 1, rfl, B1, by omega, by omega, by omega, fun H2 r2 c2 B2 l2 u2 => ⟨_, _, rfl, rfl, (show 2 ≤ sizeLine by decide), fun t nt => ⟨t, _, rfl, SqT.mk upd_same, rfl, _, _, rfl, _, _, rfl, rfl, ?_⟩⟩⟩
      obtain ⟨mn, hmn⟩ := nat_of (show 0 ≤ 1 + r2 by omega)
      try dsimp only
      rw [hmn]
      have b2 : But p H (upd H2 t (.tup [.int way, .int (mn : Nat)])) := (c1.trans c2).new nt
      have B3 := B2.new (o := .tup [.int way, .int (mn : Nat)]) nt
      generalize upd H2 t (.tup [.int way, .int (mn : Nat)]) = G0 at b2 B3 ⊢
      have m1 : 1 ≤ mn := by omega
      have m2 : mn ≤ 64 := by omega
      clear c1 c2 B1 B2 nt l2 u2 hmn
      refine seq_via (fun σ G => σ = [some (.ref p), some (.int (k : Nat)), some (.int M), some (.int way), some (.int (mn : Nat)), none, none, none, none, none, none, none, none] ∧ G = G0) (fun N key => ?_) ?_
      · refine ⟨.int way, rfl, _, _, rfl, rfl, _, rfl, ite2 (fun e => ?_) (fun e => iteF (key _ _ ⟨rfl, rfl⟩))⟩
        have hw : (5 : Int) < way := of_decide_eq_true e
        refine ⟨.int (k : Nat), rfl, _, _, rfl, rfl, _, rfl, ite2 (fun e => ?_) (fun e => key _ _ ⟨rfl, rfl⟩)⟩
        have hk0 : (0 : Int) < (k : Int) := of_decide_eq_true e
        refine ⟨(show 3 ≤ sizeLine by decide), fun l nl => ⟨.int way, rfl, _, _, rfl, rfl, ?_⟩⟩
        obtain ⟨wd, ew, z, rfl, hz⟩ := at_menuV (Pr := fun x => ∃ z : Str, x = .str z ∧ (z = "slow" ∨ z = "slip" ∨ z = "late")) (xs := [.str "slow", .str "slip", .str "late"]) (r := way - 6) (by omega) (show way - 6 < 3 by omega) (fun x hx => word_menu hx)
        refine ⟨l, _, _, _, rfl, rfl, SqL.mk upd_same, ew, ?_⟩
        have b4 := b2.new (o := .lst [.str "slow", .str "slip", .str "late"]) nl
        have B4 := B3.new (o := .lst [.str "slow", .str "slip", .str "late"]) nl
        generalize upd G0 l (.lst [.str "slow", .str "slip", .str "late"]) = G1 at b4 B4 ⊢
        refine ⟨.str z, rfl, .ref p, rfl, p, 4, _, rfl, B4, by decide, by decide, by omega, fun F1 r3 c3 B5 l3 u3 => ⟨_, _, rfl, rfl, ?_⟩⟩
        refine ⟨.ref p, rfl, p, 65, _, rfl, B5, by decide, by decide, by omega, fun F2 r4 c4 B6 l4 u4 => ⟨(show 2 ≤ sizeLine by decide), fun l2 nl2 => ?_⟩⟩
        obtain ⟨v, ev, hv⟩ : ∃ v, atI ([1 + r3, r4].map V.int) (if decide (V.str z = V.str "late") = true then (1 : Int) else 0) = some (.int v) ∧ (z = "late" ∨ 1 ≤ v) ∧ 0 ≤ v ∧ v ≤ 64 := by
          by_cases c : V.str z = V.str "late"
          · rw [decide_eq_true c, if_pos rfl]
            exact ⟨r4, atI_nat (j := 1) rfl, .inl (V.str.inj c), l4, by omega⟩
          · rw [decide_eq_false c, if_neg Bool.false_ne_true]
            exact ⟨1 + r3, atI_nat (j := 0) rfl, .inr (by omega), by omega, by omega⟩
        obtain ⟨N', rfl⟩ := nat_of hv.2.1
        refine ⟨.str z, rfl, rfl, .inr ⟨_, rfl, l2, _, _, _, rfl, rfl, SqL.mk upd_same, ev, ?_⟩⟩
        have b6 := (b4.trans (c3.trans c4)).new (o := .lst [.int (1 + r3), .int r4]) nl2
        have B7 := B6.new (o := .lst [.int (1 + r3), .int r4]) nl2
        generalize upd F2 l2 (.lst [.int (1 + r3), .int r4]) = G2 at b6 B7 ⊢
        obtain ⟨k', rfl⟩ : ∃ k', k = k' + 1 := ⟨k - 1, by omega⟩
        refine ⟨.ref p, rfl, .int ((k' + 1 : Nat) : Int), rfl, _, _, rfl, rfl, .int M, rfl, p, M, _, k', ?_, B7, by omega, by omega, by omega, M1, M2, fun G3 x m c5 B8 hm ok dp rm => ⟨(show 3 ≤ sizeLine by decide), fun tg ntg => ?_⟩⟩
        · have e : ((k' + 1 : Nat) : Int) - 1 = (k' : Int) := by omega
          show [V.ref p, V.int (((k' + 1 : Nat) : Int) - 1), V.int M] ++ [] = _
          rw [e]
          rfl
        obtain ⟨m', hm', ok', dp', _, rd'⟩ := around_ok (H := upd G3 tg (.tup [.str z, .int (N' : Nat), x])) upd_same (hm.same (same_upd ntg)) ok hz (by omega) (hv.1.imp id (by omega))
        refine q _ (.ref tg) m' ((b6.trans c5).new ntg) ((B8.new ntg).mono (by omega)) hm' ok' (by omega) ?_
        rw [show 64 ^ (k' + 1 + 1) = 64 * 64 ^ (k' + 1) by rw [Nat.pow_succ 64 (k' + 1), Nat.mul_comm]]
        exact Nat.le_trans rd' (Nat.mul_le_mul_left _ rm)
      rintro σ G ⟨rfl, rfl⟩
      -- a plain one
      refine ⟨(show 7 ≤ sizeLine by decide), fun tw ntw => ?_⟩
      have htw : (upd G tw (.lst [.int 1, .int 2, .int 4, .int 8, .int 16, .int 32, .int 64])) tw = some (.lst (twos.map V.int)) := upd_same
      have b4 := b2.new (o := .lst [.int 1, .int 2, .int 4, .int 8, .int 16, .int 32, .int 64]) ntw
      have B4 := B3.new (o := .lst [.int 1, .int 2, .int 4, .int 8, .int 16, .int 32, .int 64]) ntw
      have twp : tw ≠ p := ne_new B3 ntw
      generalize upd G tw (.lst [.int 1, .int 2, .int 4, .int 8, .int 16, .int 32, .int 64]) = G1 at htw b4 B4 ⊢
      refine ⟨1, 7, rfl, ⟨by decide, by decide, by decide, by decide⟩, fun D nD => ?_⟩
      refine lc_range (lo := 1) (n := 6) (SV D G1 6) ⟨[], Nat.le_refl 0, .inl rfl, fun _ h => (by cases h), same_upd nD, upd_same⟩ (fun i F hi h => ?_) (fun F h => ?_)
      · obtain ⟨ss, e1, e2, e3, sF, hD⟩ := h
        refine ⟨rfl, .ref tw, rfl, _, rfl, tw, _, _, .int ((2 ^ (1 + i) : Nat) : Int), rfl, rfl, SqL.mk (sF _ _ htw), ?_, .int M, rfl, _, _, rfl, _, _, rfl, rfl, _, rfl, ?_⟩
        · rw [show (1 : Int) + (i : Int) = ((1 + i : Nat) : Int) by omega]
          exact atI_nat (twos_at (by omega))
        refine ite2 (fun e => ?_) (fun e => ?_)
        · refine ⟨_, rfl, _, hD, by rw [List.length_map]; omega, ss ++ [1 + (i : Int)], by rw [List.length_append]; exact Nat.add_le_add_right e1 1, .inr (by rw [List.length_append]; exact Nat.le_add_left _ _), fun x hx => ?_, same_newer sF nD, by rw [upd_same, List.map_append]; rfl⟩
          rcases List.mem_append.mp hx with hx | hx
          · exact e3 x hx
          · rw [List.mem_singleton.mp hx]
            omega
        · refine ⟨ss, by omega, .inr ?_, e3, sF, hD⟩
          rcases e2 with rfl | e2
          · exfalso
            refine e (decide_eq_true ?_)
            show (2 : Int) ≤ if (4 : Int) > M then 4 else M
            split <;> omega
          · exact e2
      obtain ⟨ss, e1, e2, e3, sF, hD⟩ := h
      have e2 : 1 ≤ ss.length := by omega
      have e1 : ss.length ≤ 6 := by omega
      have bF := b4.trans (same_but (p := p) sF)
      have BF := B4.same sF
      have Db : D ≠ p := ne_new B4 nD
      refine ⟨.ref D, rfl, .ref p, rfl, .ref D, rfl, D, _, rfl, .inl (SqL.mk hD), p, ss.length, _, by rw [List.length_map]; rfl, BF, by omega, by omega, by omega, fun F3 r5 c5 B6 l5 u5 => ?_⟩
      obtain ⟨wd, ev2, hv2⟩ := at_menu (Pr := fun v => 1 ≤ v ∧ v ≤ 6) (xs := ss) l5 u5 e3
      refine ⟨D, _, _, _, rfl, rfl, SqL.mk (c5 _ _ Db hD), ev2, ?_⟩
      obtain ⟨w', rfl⟩ := nat_of (show 0 ≤ wd by omega)
      have w1 : 1 ≤ w' := by omega
      have w2 : w' ≤ 6 := by omega
      have htw3 := c5 _ _ twp (sF _ _ htw)
      have b5 := bF.trans c5
      have tp := two_pow6 w2
      clear ev2 hD BF bF sF e3 e1 e2 htw B4 b4 b2 B3 c5 l5 u5
      refine ⟨.int way, rfl, rfl, _, rfl, ite2 (fun _ => ?_) (fun _ => ?_)⟩
      · refine ⟨.int (w' : Nat), rfl, .ref p, rfl, .ref tw, rfl, .int (w' : Nat), rfl, tw, _, _, _, rfl, rfl, SqL.mk htw3, atI_nat (twos_at w2), p, _, _, rfl, B6, by omega, by omega, by omega, fun F4 r6 c6 B7 l6 u6 => ⟨(show 3 ≤ sizeLine by decide), fun mk nmk => ?_⟩⟩
        obtain ⟨s', rfl⟩ := nat_of l6
        exact pl_q _ (.ref mk) (.turned w' s') ((b5.trans c6).new nmk) ((B7.new nmk).mono (by omega)) ⟨mk, rfl, upd_same⟩ rfl ⟨w1, w2, by omega⟩
      refine nx_via (fun σ G => σ = [some (.ref p), some (.int (k : Nat)), some (.int M), some (.int way), some (.int (mn : Nat)), none, some (.ref tw), some (.ref D), some (.int (w' : Nat)), none, none, none, none] ∧ G = F3) (fun N key => ?_) ?_
      · refine ⟨.int way, rfl, rfl, _, rfl, ite2 (fun e => ?_) (fun e => iteF (key _ _ ⟨rfl, rfl⟩))⟩
        refine ⟨.int (w' : Nat), rfl, _, _, rfl, rfl, _, rfl, ite2 (fun e => ?_) (fun e => key _ _ ⟨rfl, rfl⟩)⟩
        have w3 : 2 ≤ w' := by
          have : (1 : Int) < (w' : Int) := of_decide_eq_true e
          omega
        have ew1 : (w' : Int) - 1 = ((w' - 1 : Nat) : Int) := by omega
        have at1 : atI (twos.map V.int) ((w' : Int) - 1) = some (.int ((2 ^ (w' - 1) : Nat) : Int)) := by
          rw [ew1]
          exact atI_nat (twos_at (by omega))
        have tq := two_pow6 (show w' - 1 ≤ 6 by omega)
        have en : 2 ^ w' = 2 * 2 ^ (w' - 1) := by
          rw [show 2 * 2 ^ (w' - 1) = 2 ^ (w' - 1 + 1) by rw [Nat.pow_succ, Nat.mul_comm], show w' - 1 + 1 = w' by omega]
        obtain ⟨h2, hh2⟩ : ∃ h2, 2 ^ (w' - 1) = h2 := ⟨_, rfl⟩
        obtain ⟨nn, hn2⟩ : ∃ nn, 2 ^ w' = nn := ⟨_, rfl⟩
        rw [hh2] at at1 tq en
        rw [hn2] at tp en
        refine ⟨.ref tw, rfl, .int (w' : Nat), rfl, _, _, rfl, rfl, tw, _, _, _, rfl, rfl, SqL.mk htw3, at1, .ref p, rfl, .ref tw, rfl, .int (w' : Nat), rfl, _, _, rfl, rfl, tw, _, _, _, rfl, rfl, SqL.mk htw3, at1, p, _, _, rfl, B6, by omega, by omega, by omega, fun F4 r6 c6 B7 l6 u6 => ⟨_, _, rfl, rfl, ?_⟩⟩
        obtain ⟨p', hp'⟩ : ∃ p' : Nat, (h2 : Int) + r6 = p' := ⟨((h2 : Int) + r6).toNat, by omega⟩
        refine ⟨.int (w' : Nat), rfl, _, rfl, .ref p, rfl, .ref tw, rfl, .int (w' : Nat), rfl, tw, _, _, .int (nn : Nat), rfl, rfl, SqL.mk (c6 _ _ twp htw3), ?_, _, _, rfl, rfl, p, _, _, rfl, B7, by omega, by omega, by omega, fun F5 r7 c7 B8 l7 u7 => ⟨_, _, rfl, rfl, (show 4 ≤ sizeLine by decide), fun mk nmk => ?_⟩⟩
        · rw [← hn2]
          exact atI_nat (twos_at w2)
        obtain ⟨t, ht⟩ : ∃ t : Nat, 1 + r7 = t := ⟨(1 + r7).toNat, by omega⟩
        refine pl_q _ (.ref mk) (.register w' p' t) ((b5.trans (c6.trans c7)).new nmk) ((B8.new nmk).mono (by omega)) ⟨mk, rfl, ?_⟩ rfl ⟨⟨w3, w2, by rw [hh2]; omega, by rw [hn2]; omega⟩, by omega, by rw [hn2]; omega⟩
        rw [upd_same]
        try dsimp only
        rw [hp', ht]
      rintro σ G ⟨rfl, rfl⟩
      refine ⟨.int way, rfl, rfl, _, rfl, ite2 (fun _ => ?_) (fun _ => ?_)⟩
      · -- a table
        refine ⟨.int (mn : Nat), rfl, _, rfl, by omega, by omega, fun E nE => ?_⟩
        refine lc_range (fun i F => ∃ rs : List Int, rs.length = i ∧ (∀ x, x ∈ rs → 0 ≤ x ∧ x < 64) ∧ But p G F ∧ Bx F p (n + 20 + 2 * i) ∧ F E = some (.lst (rs.map V.int))) ⟨[], rfl, fun _ h => (by cases h), (But.refl p G).new nE, (B6.new nE).mono (by omega), upd_same⟩ (fun i F hi h => ?_) (fun F h => ?_)
        · obtain ⟨rs, hl, hb, bF, BF, hE⟩ := h
          refine ⟨rfl, yes_ite ?_⟩
          refine ⟨.ref p, rfl, (show 2 ≤ sizeLine by decide), fun l nl => ⟨.ref p, rfl, p, 2, _, rfl, BF.new nl, by decide, by decide, by omega, fun F1 r1 c1 B1 l1 u1 => ?_⟩⟩
          obtain ⟨ms, ev, hv⟩ := at_menu (Pr := fun v => 4 ≤ v ∧ v ≤ 64) (xs := [4, 64]) l1 u1 (fun x hx => by
            simp only [List.mem_cons, List.not_mem_nil, or_false] at hx
            omega)
          refine ⟨l, _, _, _, rfl, rfl, SqL.mk (c1 _ _ (ne_new BF nl) upd_same), ev, p, ms, _, rfl, B1, by omega, by omega, by omega, fun F2 r2 c2 B2 l2 u2 => ?_⟩
          have Ep : E ≠ p := ne_new B6 nE
          have hE2 := c2 _ _ Ep (c1 _ _ Ep ((same_upd nl) _ _ hE))
          refine ⟨_, hE2, by rw [List.length_map]; omega, rs ++ [r2], by rw [List.length_append, hl]; rfl, fun x hx => ?_, but_newer (((bF.new nl).trans c1).trans c2) nE, (B2.other Ep).mono (by omega), by rw [upd_same, List.map_append]; rfl⟩
          rcases List.mem_append.mp hx with hx | hx
          · exact hb x hx
          · rw [List.mem_singleton.mp hx]
            omega
        obtain ⟨rs, hl, hb, bF, BF, hE⟩ := h
        rw [Int.toNat_natCast] at hl BF
        refine ⟨E, _, rfl, .inl ⟨SqL.mk hE, fun tb ntb => ⟨(show 2 ≤ sizeLine by decide), fun mk nmk => ?_⟩⟩⟩
        exact pl_q _ (.ref mk) (.table rs) (b5.trans ((bF.new ntb).new nmk)) (((BF.new ntb).new nmk).mono (by omega)) ⟨mk, tb, rfl, upd_same, (same_upd nmk) _ _ upd_same⟩ rfl ⟨by omega, by omega, fun x hx => by have := hb x hx; omega⟩
      -- a counter
      refine ⟨.int (mn : Nat), rfl, _, _, rfl, rfl, 1, _, rfl, ⟨by decide, by decide, by omega, by omega⟩, fun E nE => ?_⟩
      have en : ((mn : Int) + 1 - 1).toNat = mn := by omega
      rw [en]
      refine lc_range (lo := 1) (n := mn) (SV E G mn) ⟨[], Nat.le_refl 0, .inl rfl, fun _ h => (by cases h), same_upd nE, upd_same⟩ (fun i F hi h => ?_) (fun F h => ?_)
      · obtain ⟨ss, e1, e2, e3, sF, hE⟩ := h
        refine ⟨rfl, _, rfl, .int (mn : Nat), rfl, 1 + i, mn, ?_, _, rfl, ?_⟩
        · rw [show (1 : Int) + (i : Int) = ((1 + i : Nat) : Int) by omega]
          rfl
        refine ite2 (fun e => ?_) (fun e => ?_)
        · refine ⟨_, rfl, _, hE, by rw [List.length_map]; omega, ss ++ [1 + (i : Int)], by rw [List.length_append]; exact Nat.add_le_add_right e1 1, .inr (by rw [List.length_append]; exact Nat.le_add_left _ _), fun x hx => ?_, same_newer sF nE, by rw [upd_same, List.map_append]; rfl⟩
          rcases List.mem_append.mp hx with hx | hx
          · exact e3 x hx
          · rw [List.mem_singleton.mp hx]
            omega
        · refine ⟨ss, by omega, .inr ?_, e3, sF, hE⟩
          rcases e2 with rfl | e2
          · exfalso
            refine e (decide_eq_true ?_)
            rw [show Nat.gcd (1 + 0) mn = 1 from Nat.gcd_one_left mn]
            rfl
          · exact e2
      obtain ⟨ss, e1, e2, e3, sF, hE⟩ := h
      have e2 : 1 ≤ ss.length := by omega
      have e1 : ss.length ≤ 64 := by omega
      have bF := b5.trans (same_but (p := p) sF)
      have BF := B6.same sF
      have Eb : E ≠ p := ne_new B6 nE
      refine ⟨.int (mn : Nat), rfl, .ref E, rfl, .ref p, rfl, .ref E, rfl, E, _, rfl, .inl (SqL.mk hE), p, ss.length, _, by rw [List.length_map]; rfl, BF, by omega, by omega, by omega, fun F5 r7 c7 B7 l7 u7 => ?_⟩
      obtain ⟨sp, ev3, hv3⟩ := at_menu (Pr := fun v => 1 ≤ v ∧ v ≤ (mn : Int)) (xs := ss) l7 u7 e3
      refine ⟨E, _, _, _, rfl, rfl, SqL.mk (c7 _ _ Eb hE), ev3, .ref p, rfl, .int (mn : Nat), rfl, p, mn, _, rfl, B7, by omega, by omega, by omega, fun F6 r8 c8 B8 l8 u8 => ⟨(show 4 ≤ sizeLine by decide), fun mk nmk => ?_⟩⟩
      obtain ⟨sp, rfl⟩ := nat_of (show 0 ≤ sp by omega)
      obtain ⟨t, rfl⟩ := nat_of l8
      exact pl_q _ (.ref mk) (.counter mn sp t) ((bF.trans (c7.trans c8)).new nmk) ((B8.new nmk).mono (by omega)) ⟨mk, rfl, upd_same⟩ rfl ⟨by omega, by omega, by omega, by omega⟩
def sp__law_maker (K : PySem.W.Frag) : Sp := spr__law_maker 3 K
theorem ok__law_maker (T : Defs K mg) (TT : Tabs T base) : FnOk P w K mg base CX0 4 T.f__law_maker T.fd__law_maker ["_law_box_here", "_law_deep", "_law_most"] (sp__law_maker K) := okr__law_maker T TT 3
/-! a keeper: what it holds -/
structure KS where
  most : Int
  at_ : Int
  ups : Int
  downs : Int
  beats : Int
def flds (k : KS) : List (Str × V) := [("most", .int k.most), ("at", .int k.at_), ("ups_lost", .int k.ups), ("downs_lost", .int k.downs), ("beats", .int k.beats)]
theorem fl_most (k : KS) : (flds k).lookup ("most" : Str) = some (.int k.most) := by kernel_rfl
theorem fl_at (k : KS) : (flds k).lookup ("at" : Str) = some (.int k.at_) := by kernel_rfl
theorem fl_ups (k : KS) : (flds k).lookup ("ups_lost" : Str) = some (.int k.ups) := by kernel_rfl
theorem fl_downs (k : KS) : (flds k).lookup ("downs_lost" : Str) = some (.int k.downs) := by kernel_rfl
theorem fl_beats (k : KS) : (flds k).lookup ("beats" : Str) = some (.int k.beats) := by kernel_rfl
theorem fl_nobeat (k : KS) : (flds k).lookup ("beat" : Str) = none := by kernel_rfl
theorem fl_noat (k : KS) : (flds k).lookup ("at_now" : Str) = none := by kernel_rfl
theorem fl_nolost (k : KS) : (flds k).lookup ("lost_now" : Str) = none := by kernel_rfl
theorem fl_nobeats (k : KS) : (flds k).lookup ("beats_now" : Str) = none := by kernel_rfl
theorem pf_at (k : KS) (x : Int) : putF "at" (.int x) (flds k) = flds { k with at_ := x } := by kernel_rfl
theorem pf_ups (k : KS) (x : Int) : putF "ups_lost" (.int x) (flds k) = flds { k with ups := x } := by kernel_rfl
theorem pf_downs (k : KS) (x : Int) : putF "downs_lost" (.int x) (flds k) = flds { k with downs := x } := by kernel_rfl
theorem pf_beats (k : KS) (x : Int) : putF "beats" (.int x) (flds k) = flds { k with beats := x } := by kernel_rfl
theorem pf_init (m a : Int) : putF "beats" (.int 0) (putF "downs_lost" (.int 0) (putF "ups_lost" (.int 0) (putF "at" (.int a) (putF "most" (.int m) [])))) = flds ⟨m, a, 0, 0, 0⟩ := by kernel_rfl
theorem fl_len (k : KS) : (flds k).length < 1000 := (by decide : 5 < 1000)
def KAt (C : Addr) (H : Hp) (x : Addr) (k : KS) : Prop := ∃ dx, H x = some (.ins C dx (flds k))
theorem KAt.but {C : Addr} {H H' : Hp} {x p : Addr} {k : KS} (h : KAt C H x k) (c : But p H H') (n : x ≠ p) : KAt C H' x k := let ⟨dx, e⟩ := h; ⟨dx, c _ _ n e⟩
theorem KAt.same {C : Addr} {H H' : Hp} {x : Addr} {k : KS} (h : KAt C H x k) (s : Same H H') : KAt C H' x k := let ⟨dx, e⟩ := h; ⟨dx, s _ _ e⟩
/-- what is held behind a beat -/
def mvd (m a u d : Int) : Int := if d < u then (if m ≤ a then a else a + 1) else if u < d then (if a ≤ 0 then a else a - 1) else a
def Bt (u : Int) : Prop := u = 0 ∨ u = 1
def KS.beat (k : KS) (u d : Int) : KS :=
  { most := k.most, at_ := mvd k.most k.at_ u d, ups := if d < u ∧ mvd k.most k.at_ u d = k.at_ then k.ups + 1 else k.ups, downs := if u < d ∧ mvd k.most k.at_ u d = k.at_ then k.downs + 1 else k.downs, beats := k.beats + 1 }
def sp_moved (_ : PySem.W.Frag) : Sp := fun vs H Q _ => ∃ m a u d : Int, vs = [.int m, .int a, .int u, .int d] ∧ Bt u ∧ Bt d ∧ Q (.int (mvd m a u d)) H
theorem ok_moved (T : Defs K mg) (TT : Tabs T base) : FnOk P w K mg base CX0 1 T.f_moved T.fd_moved ["most", "at", "up", "down"] (sp_moved K) := by
  refine T.F_moved.ok sc_moved (fun vs H Q E h => ?_) (fun cdv A outer s H vs Q E hr h => ?_)
  · obtain ⟨m, a, u, d, rfl, hu, hd, q⟩ := h
    rfl
  · obtain ⟨m, a, u, d, rfl, hu, hd, q⟩ := h
    refine ⟨_, PSs.nox (pss_cons (ps_if (PW.pt (pw_or (PW.pt (pw_and (pt_cmpR op_gt (pv 2) (pv 3) (nomark _)) (pw_and1 (pt_cmpR op_ge (pv 1) (pv 0) (nomark _))))) (pw_or1 (PW.pt (pw_and (pt_cmpR op_lt (pv 2) (pv 3) (nomark _)) (pw_and1 (pt_cmpR op_le (pv 1) pe_int (nomark _)))))))) (pss_one (ps_ret (pv 1))) pss_nil)
    (pss_one (ps_ret (pe_op op_sub (pe_op op_add (pv 1) (pv 2)) (pv 3))))), ?_⟩
    unfold mvd at q
    have bu : -(2 ^ 64) < u ∧ u < 2 ^ 64 := by rcases hu with rfl | rfl <;> omega
    have fin : ∀ x : Int, (if d < u then (if m ≤ a then a else a + 1) else if u < d then (if a ≤ 0 then a else a - 1) else a) = x → Q (.int x) H := fun x e => by rw [← e]; exact q
    refine ⟨_, rfl, _, rfl, _, _, rfl, rfl, _, rfl, ite2 (fun e1 => ?_) (fun e1 => ?_)⟩
    · have l : d < u := of_decide_eq_true e1
      refine ⟨_, rfl, _, rfl, _, _, rfl, rfl, _, rfl, ite2 (fun e2 => ?_) (fun e2 => ?_)⟩
      · have l2 : m ≤ a := of_decide_eq_true e2
        exact ⟨_, rfl, fin _ (by rw [if_pos l, if_pos l2])⟩
      · have l2 : ¬ m ≤ a := fun z => e2 (decide_eq_true z)
        refine ⟨_, rfl, _, rfl, _, _, rfl, rfl, _, rfl, ite2 (fun e3 => ?_) (fun e3 => ?_)⟩
        · have : u < d := of_decide_eq_true e3
          omega
        · refine iteF ⟨_, rfl, _, rfl, _, _, rfl, rfl, _, rfl, _, _, rfl, rfl, fin _ ?_⟩
          rw [if_pos l, if_neg l2]
          rcases hu with rfl | rfl <;> rcases hd with rfl | rfl <;> omega
    · have l : ¬ d < u := fun z => e1 (decide_eq_true z)
      refine ⟨_, rfl, _, rfl, _, _, rfl, rfl, _, rfl, ite2 (fun e3 => ?_) (fun e3 => ?_)⟩
      · have l3 : u < d := of_decide_eq_true e3
        refine ⟨_, rfl, _, _, rfl, rfl, _, rfl, ite2 (fun e2 => ?_) (fun e2 => ?_)⟩
        · have l2 : a ≤ 0 := of_decide_eq_true e2
          exact ⟨_, rfl, fin _ (by rw [if_neg l, if_pos l3, if_pos l2])⟩
        · have l2 : ¬ a ≤ 0 := fun z => e2 (decide_eq_true z)
          refine ⟨_, rfl, _, rfl, _, _, rfl, rfl, _, rfl, _, _, rfl, rfl, fin _ ?_⟩
          rw [if_neg l, if_pos l3, if_neg l2]
          rcases hu with rfl | rfl <;> rcases hd with rfl | rfl <;> omega
      · have l3 : ¬ u < d := fun z => e3 (decide_eq_true z)
        refine iteF ⟨_, rfl, _, rfl, _, _, rfl, rfl, _, rfl, _, _, rfl, rfl, fin _ ?_⟩
        rw [if_neg l, if_neg l3]
        omega
def sp_Keeper___init__ {K : PySem.W.Frag} {mg : Str → Option Value} (T : Defs K mg) : Sp := fun vs H Q _ => ∃ (x dx : Addr) (m a : Int), vs = [.ref x, .int m, .int a] ∧ H x = some (.ins T.C_Keeper dx []) ∧ ∀ H', But x H H' → KAt T.C_Keeper H' x ⟨m, a, 0, 0, 0⟩ → Q .non H'
theorem ok_Keeper___init__ (T : Defs K mg) (TT : Tabs T base) : FnOk P w K mg base CX0 1 T.f_Keeper___init__ T.fd_Keeper___init__ ["self", "most", "at"] (sp_Keeper___init__ T) := by
  refine T.F_Keeper___init__.ok sc_Keeper___init__ (fun vs H Q E h => ?_) (fun cdv A outer s H vs Q E hr h => ?_)
  · obtain ⟨x, dx, m, a, rfl, hx, q⟩ := h
    rfl
  · obtain ⟨x, dx, m, a, rfl, hx, q⟩ := h
    refine ⟨_, PSs.nox (pss_cons (ps_fld (pv 0) (pv 1) rfl)
    (pss_cons (ps_fld (pv 0) (pv 2) rfl)
    (pss_cons (ps_fld (pv 0) pe_int rfl)
    (pss_cons (ps_fld (pv 0) pe_int rfl)
    (pss_one (ps_fld (pv 0) pe_int rfl)))))), ?_⟩
    refine ⟨_, rfl, _, rfl, x, _, dx, [], rfl, hx, T.cl_Keeper, T.na_Keeper_most, (by decide : 0 < 1000), ?_⟩
    refine ⟨_, rfl, _, rfl, x, _, dx, _, rfl, upd_same, T.cl_Keeper, T.na_Keeper_at, (by decide : 1 < 1000), ?_⟩
    refine ⟨_, rfl, x, _, dx, _, rfl, upd_same, T.cl_Keeper, T.na_Keeper_ups_lost, (by decide : 2 < 1000), ?_⟩
    refine ⟨_, rfl, x, _, dx, _, rfl, upd_same, T.cl_Keeper, T.na_Keeper_downs_lost, (by decide : 3 < 1000), ?_⟩
    refine ⟨_, rfl, x, _, dx, _, rfl, upd_same, T.cl_Keeper, T.na_Keeper_beats, (by decide : 4 < 1000), ?_⟩
    refine q _ (fun c o hc e => ?_) ⟨dx, ?_⟩
    · rw [upd_ne hc, upd_ne hc, upd_ne hc, upd_ne hc, upd_ne hc]
      exact e
    · rw [upd_same, pf_init]
theorem fA {k : KS} {x : Int} {f : Str} {fs : List (Str × V)} (e : putF f (.int x) (flds k) = fs) {C dx : Addr} : some (HO.ins C dx (putF f (.int x) (flds k))) = some (HO.ins C dx fs) := by rw [e]
def sp_Keeper_beat {K : PySem.W.Frag} {mg : Str → Option Value} (T : Defs K mg) : Sp := fun vs H Q _ => ∃ (x : Addr) (k : KS) (u d : Int), vs = [.ref x, .int u, .int d] ∧ KAt T.C_Keeper H x k ∧ Bt u ∧ Bt d ∧ ∀ H', But x H H' → KAt T.C_Keeper H' x (k.beat u d) → Q (.int (k.beat u d).at_) H'
theorem but_upd {x : Addr} {H : Hp} {o : HO} : But x H (upd H x o) := fun c p hc e => by rw [upd_ne hc]; exact e
theorem ok_Keeper_beat (T : Defs K mg) (TT : Tabs T base) : FnOk P w K mg base CX0 2 T.f_Keeper_beat T.fd_Keeper_beat ["self", "up", "down"] (sp_Keeper_beat T) := by
  have G_moved : FnOk P w K mg base CX0 1 T.f_moved T.fd_moved ["most", "at", "up", "down"] (sp_moved K) := ok_moved T TT
  refine T.F_Keeper_beat.ok sc_Keeper_beat (fun vs H Q E h => ?_) (fun cdv A outer s H vs Q E hr h => ?_)
  · obtain ⟨x, k, u, d, rfl, ⟨dx, hx⟩, hu, hd, q⟩ := h
    rfl
  · obtain ⟨x, k, u, d, rfl, ⟨dx, hx⟩, hu, hd, q⟩ := h
    refine ⟨_, PSs.nox (pss_cons (ps_set (i := 3) sc_Keeper_beat.nd rfl (.inl rfl) (pe_call G_moved (hr.mono (by decide)) (by rfl) T.g_moved T.F_moved.kp T.b_moved .nil pass0 (pa_cons (pe_fld (pv 0) rfl) (pa_cons (pe_fld (pv 0) rfl) (pa_cons (pv 1) (pa_cons (pv 2) pa_nil))))))
    (pss_cons (ps_if (PW.pt (pw_and (pt_cmpR op_gt (pv 1) (pv 2) (nomark _)) (pw_and1 (pt_cmpR op_eq (pv 3) (pe_fld (pv 0) rfl) (nomark _))))) (pss_one (ps_fldaug (pv 0) pe_int in_add)) pss_nil)
    (pss_cons (ps_if (PW.pt (pw_and (pt_cmpR op_lt (pv 1) (pv 2) (nomark _)) (pw_and1 (pt_cmpR op_eq (pv 3) (pe_fld (pv 0) rfl) (nomark _))))) (pss_one (ps_fldaug (pv 0) pe_int in_add)) pss_nil)
    (pss_cons (ps_fld (pv 0) (pv 3) rfl)
    (pss_cons (ps_fldaug (pv 0) pe_int in_add)
    (pss_one (ps_ret (pv 3)))))))), ?_⟩
    refine ⟨_, rfl, x, _, dx, _, _, rfl, hx, T.cl_Keeper, T.na_Keeper_most, fl_most k, _, rfl, x, _, dx, _, _, rfl, hx, T.cl_Keeper, T.na_Keeper_at, fl_at k, _, rfl, _, rfl, _, _, u, d, rfl, hu, hd, ?_⟩
    obtain ⟨hv, ehv⟩ : ∃ hv, mvd k.most k.at_ u d = hv := ⟨_, rfl⟩
    have eb : k.beat u d = { most := k.most, at_ := hv, ups := if d < u ∧ hv = k.at_ then k.ups + 1 else k.ups, downs := if u < d ∧ hv = k.at_ then k.downs + 1 else k.downs, beats := k.beats + 1 } := by
      unfold KS.beat
      rw [ehv]
    rw [eb] at q
    rw [ehv]
    refine nx_via (fun σ G => σ = [some (.ref x), some (.int u), some (.int d), some (.int hv)] ∧ But x H G ∧ G x = some (.ins T.C_Keeper dx (flds { k with ups := if d < u ∧ hv = k.at_ then k.ups + 1 else k.ups }))) (fun N key => ?_) ?_
    · refine ⟨_, rfl, _, rfl, _, _, rfl, rfl, _, rfl, ite2 (fun e1 => ?_) (fun e1 => iteF ?_)⟩
      · have l : d < u := of_decide_eq_true e1
        refine ⟨_, rfl, _, rfl, x, _, dx, _, _, rfl, hx, T.cl_Keeper, T.na_Keeper_at, fl_at k, rfl, _, rfl, ite2 (fun e2 => ?_) (fun e2 => ?_)⟩
        · have l2 : hv = k.at_ := V.int.inj (of_decide_eq_true e2)
          refine ⟨_, rfl, x, _, dx, _, _, rfl, hx, T.cl_Keeper, T.na_Keeper_ups_lost, fl_ups k, _, _, rfl, rfl, dx, _, hx, fl_len k, ?_⟩
          refine key _ _ ⟨rfl, but_upd, ?_⟩
          rw [upd_same, if_pos ⟨l, l2⟩]
          exact fA (pf_ups k _)
        · have l2 : ¬ hv = k.at_ := fun z => e2 (decide_eq_true (by rw [z]))
          refine key _ _ ⟨rfl, But.refl x H, ?_⟩
          rw [if_neg (fun z => l2 z.2)]
          exact hx
      · have l : ¬ d < u := fun z => e1 (decide_eq_true z)
        refine key _ _ ⟨rfl, But.refl x H, ?_⟩
        rw [if_neg (fun z => l z.1)]
        exact hx
    rintro σ G ⟨rfl, bG, hG⟩
    obtain ⟨k1, ek1⟩ : ∃ k1 : KS, { k with ups := if d < u ∧ hv = k.at_ then k.ups + 1 else k.ups } = k1 := ⟨_, rfl⟩
    have a1 : k1.at_ = k.at_ := by rw [← ek1]
    have d1 : k1.downs = k.downs := by rw [← ek1]
    rw [ek1] at hG
    refine seq_via (fun σ F => σ = [some (.ref x), some (.int u), some (.int d), some (.int hv)] ∧ But x H F ∧ F x = some (.ins T.C_Keeper dx (flds { k1 with downs := if u < d ∧ hv = k.at_ then k.downs + 1 else k.downs }))) (fun N key => ?_) ?_
    · refine ⟨_, rfl, _, rfl, _, _, rfl, rfl, _, rfl, ite2 (fun e1 => ?_) (fun e1 => iteF ?_)⟩
      · have l : u < d := of_decide_eq_true e1
        refine ⟨_, rfl, _, rfl, x, _, dx, _, _, rfl, hG, T.cl_Keeper, T.na_Keeper_at, fl_at k1, rfl, _, rfl, ite2 (fun e2 => ?_) (fun e2 => ?_)⟩
        · have l2 : hv = k.at_ := by
            have := V.int.inj (of_decide_eq_true e2)
            rw [a1] at this
            exact this
          refine ⟨_, rfl, x, _, dx, _, _, rfl, hG, T.cl_Keeper, T.na_Keeper_downs_lost, fl_downs k1, _, _, rfl, rfl, dx, _, hG, fl_len k1, ?_⟩
          refine key _ _ ⟨rfl, bG.trans but_upd, ?_⟩
          rw [upd_same, if_pos ⟨l, l2⟩, ← d1]
          exact fA (pf_downs k1 _)
        · have l2 : ¬ hv = k.at_ := fun z => e2 (decide_eq_true (by rw [z, a1]))
          refine key _ _ ⟨rfl, bG, ?_⟩
          rw [if_neg (fun z => l2 z.2), ← d1]
          exact hG
      · have l : ¬ u < d := fun z => e1 (decide_eq_true z)
        refine key _ _ ⟨rfl, bG, ?_⟩
        rw [if_neg (fun z => l z.1), ← d1]
        exact hG
    clear bG hG
    rintro σ G ⟨rfl, bG, hG⟩
    subst ek1
    refine ⟨_, rfl, _, rfl, x, _, dx, _, rfl, hG, T.cl_Keeper, T.na_Keeper_at, fl_len _, ?_⟩
    rw [pf_at]
    refine ⟨_, rfl, x, _, dx, _, _, rfl, upd_same, T.cl_Keeper, T.na_Keeper_beats, fl_beats _, _, _, rfl, rfl, dx, _, upd_same, fl_len _, ?_⟩
    rw [pf_beats]
    exact ⟨_, rfl, q _ (bG.trans (but_upd.trans but_upd)) ⟨dx, upd_same⟩⟩
def sp_Keeper_at_now {K : PySem.W.Frag} {mg : Str → Option Value} (T : Defs K mg) : Sp := fun vs H Q _ => ∃ (x : Addr) (k : KS), vs = [.ref x] ∧ KAt T.C_Keeper H x k ∧ Q (.int k.at_) H
theorem ok_Keeper_at_now (T : Defs K mg) (TT : Tabs T base) : FnOk P w K mg base CX0 1 T.f_Keeper_at_now T.fd_Keeper_at_now ["self"] (sp_Keeper_at_now T) := by
  refine T.F_Keeper_at_now.ok sc_Keeper_at_now (fun vs H Q E h => ?_) (fun cdv A outer s H vs Q E hr h => ?_)
  · obtain ⟨x, k, rfl, ⟨dx, hx⟩, q⟩ := h
    rfl
  · obtain ⟨x, k, rfl, ⟨dx, hx⟩, q⟩ := h
    refine ⟨_, PSs.nox (pss_one (ps_ret (pe_fld (pv 0) rfl))), ?_⟩
    exact ⟨_, rfl, x, _, dx, _, _, rfl, hx, T.cl_Keeper, T.na_Keeper_at, fl_at k, q⟩
def sp_Keeper_lost_now {K : PySem.W.Frag} {mg : Str → Option Value} (T : Defs K mg) : Sp := fun vs H Q _ => ∃ (x : Addr) (k : KS), vs = [.ref x] ∧ KAt T.C_Keeper H x k ∧ ∀ H' t, Same H H' → H t = none → H' t = some (.tup [.int k.ups, .int k.downs]) → Q (.ref t) H'
theorem ok_Keeper_lost_now (T : Defs K mg) (TT : Tabs T base) : FnOk P w K mg base CX0 1 T.f_Keeper_lost_now T.fd_Keeper_lost_now ["self"] (sp_Keeper_lost_now T) := by
  refine T.F_Keeper_lost_now.ok sc_Keeper_lost_now (fun vs H Q E h => ?_) (fun cdv A outer s H vs Q E hr h => ?_)
  · obtain ⟨x, k, rfl, ⟨dx, hx⟩, q⟩ := h
    rfl
  · obtain ⟨x, k, rfl, ⟨dx, hx⟩, q⟩ := h
    refine ⟨_, PSs.nox (pss_one (ps_ret (pe_tup (pa_cons (pe_fld (pv 0) rfl) (pa_cons (pe_fld (pv 0) rfl) pa_nil))))), ?_⟩
    exact ⟨_, rfl, x, _, dx, _, _, rfl, hx, T.cl_Keeper, T.na_Keeper_ups_lost, fl_ups k, _, rfl, x, _, dx, _, _, rfl, hx, T.cl_Keeper, T.na_Keeper_downs_lost, fl_downs k, (show 2 ≤ sizeLine by decide), fun t nt => q _ t (same_upd nt) nt upd_same⟩
def sp_Keeper_beats_now {K : PySem.W.Frag} {mg : Str → Option Value} (T : Defs K mg) : Sp := fun vs H Q _ => ∃ (x : Addr) (k : KS), vs = [.ref x] ∧ KAt T.C_Keeper H x k ∧ Q (.int k.beats) H
theorem ok_Keeper_beats_now (T : Defs K mg) (TT : Tabs T base) : FnOk P w K mg base CX0 1 T.f_Keeper_beats_now T.fd_Keeper_beats_now ["self"] (sp_Keeper_beats_now T) := by
  refine T.F_Keeper_beats_now.ok sc_Keeper_beats_now (fun vs H Q E h => ?_) (fun cdv A outer s H vs Q E hr h => ?_)
  · obtain ⟨x, k, rfl, ⟨dx, hx⟩, q⟩ := h
    rfl
  · obtain ⟨x, k, rfl, ⟨dx, hx⟩, q⟩ := h
    refine ⟨_, PSs.nox (pss_one (ps_ret (pe_fld (pv 0) rfl))), ?_⟩
    exact ⟨_, rfl, x, _, dx, _, _, rfl, hx, T.cl_Keeper, T.na_Keeper_beats, fl_beats k, q⟩
/-! a keeper that is fed back: beat by beat -/
def KS.Ok (k : KS) : Prop := 0 ≤ k.at_ ∧ k.at_ ≤ k.most ∧ 1 ≤ k.most ∧ k.most ≤ 64
theorem KS.Ok.beat {k : KS} (h : k.Ok) {u d : Int} (hu : Bt u) (hd : Bt d) : (k.beat u d).Ok := by
  obtain ⟨h1, h2, h3, h4⟩ := h
  have e : (k.beat u d).at_ = mvd k.most k.at_ u d := rfl
  have e2 : (k.beat u d).most = k.most := rfl
  unfold KS.Ok
  rw [e, e2]
  unfold mvd
  repeat' split
  all_goals omega
theorem mvd_up {m a u d : Int} (h : d < u) (o : a ≤ m) : mvd m a u d = if a + 1 < m then a + 1 else m := by
  unfold mvd
  rw [if_pos h]
  split <;> split <;> omega
theorem mvd_dn {m a u d : Int} (h : u < d) (o : 0 ≤ a) : mvd m a u d = if a - 1 > 0 then a - 1 else 0 := by
  unfold mvd
  rw [if_neg (by omega), if_pos h]
  split <;> split <;> omega
theorem mvd_eq {m a u d : Int} (h : ¬ d < u) (h2 : ¬ u < d) : mvd m a u d = a := by
  unfold mvd
  rw [if_neg h, if_neg h2]
theorem beat_up {k : KS} (h : k.Ok) {u d : Int} (l : d < u) : (k.beat u d).ups = k.ups + (if k.at_ = k.most then 1 else 0) ∧ (k.beat u d).downs = k.downs ∧ (k.beat u d).at_ = if k.at_ + 1 < k.most then k.at_ + 1 else k.most := by
  obtain ⟨h1, h2, h3, h4⟩ := h
  have e := mvd_up (m := k.most) l h2
  refine ⟨?_, ?_, e⟩
  · show (if d < u ∧ mvd k.most k.at_ u d = k.at_ then k.ups + 1 else k.ups) = _
    rw [e]
    by_cases z : k.at_ = k.most
    · rw [if_pos z, if_pos ⟨l, by rw [if_neg (by omega)]; exact z.symm⟩]
    · rw [if_neg z, if_neg (fun y => by
        have := y.2
        split at this <;> omega)]
      omega
  · show (if u < d ∧ _ then k.downs + 1 else k.downs) = _
    rw [if_neg (fun z => by have := z.1; omega)]
theorem beat_dn {k : KS} (h : k.Ok) {u d : Int} (l : u < d) : (k.beat u d).ups = k.ups ∧ (k.beat u d).downs = k.downs + (if k.at_ = 0 then 1 else 0) ∧ (k.beat u d).at_ = if k.at_ - 1 > 0 then k.at_ - 1 else 0 := by
  obtain ⟨h1, h2, h3, h4⟩ := h
  have e := mvd_dn (m := k.most) l h1
  refine ⟨?_, ?_, e⟩
  · show (if d < u ∧ _ then k.ups + 1 else k.ups) = _
    rw [if_neg (fun z => by have := z.1; omega)]
  · show (if u < d ∧ mvd k.most k.at_ u d = k.at_ then k.downs + 1 else k.downs) = _
    rw [e]
    by_cases z : k.at_ = 0
    · rw [if_pos z, if_pos ⟨l, by rw [if_neg (by omega)]; exact z.symm⟩]
    · rw [if_neg z, if_neg (fun y => by
        have := y.2
        split at this <;> omega)]
      omega
theorem beat_eq {k : KS} {u d : Int} (l : ¬ d < u) (l2 : ¬ u < d) : (k.beat u d).ups = k.ups ∧ (k.beat u d).downs = k.downs ∧ (k.beat u d).at_ = k.at_ :=
  ⟨if_neg (fun z => l z.1), if_neg (fun z => l2 z.1), mvd_eq l l2⟩
theorem beat_sum {k : KS} (h : k.Ok) {u d : Int} (hu : Bt u) (hd : Bt d) : u - d = (k.beat u d).at_ - k.at_ + ((k.beat u d).ups - k.ups) - ((k.beat u d).downs - k.downs) := by
  have ok := h
  obtain ⟨h1, h2, h3, h4⟩ := h
  by_cases l : d < u
  · obtain ⟨e1, e2, e3⟩ := beat_up ok l
    rw [e1, e2, e3]
    rcases hu with rfl | rfl <;> rcases hd with rfl | rfl <;> split <;> split <;> omega
  · by_cases l2 : u < d
    · obtain ⟨e1, e2, e3⟩ := beat_dn ok l2
      rw [e1, e2, e3]
      rcases hu with rfl | rfl <;> rcases hd with rfl | rfl <;> split <;> split <;> omega
    · obtain ⟨e1, e2, e3⟩ := beat_eq (k := k) l l2
      rw [e1, e2, e3]
      omega
structure FB where
  out : List Int
  fed : List Int
  k : KS
  ah : Int
def fb1 (v r : Int) (y : Option Int) (s : FB) : FB :=
  ⟨s.out ++ [if v < s.k.at_ then 1 else 0], s.fed ++ [(if v < s.k.at_ then 1 else 0) * y.getD s.ah], s.k.beat r ((if v < s.k.at_ then 1 else 0) * y.getD s.ah), if v < s.k.at_ then 1 else 0⟩
def fbN (f : Nat → Int) (rs : List Int) (y : Option (List Int)) (k0 : KS) : Nat → FB
  | 0 => ⟨[], [], k0, 0⟩
  | t + 1 => fb1 (f t) (rs.getD t 0) (y.map fun ys => ys.getD t 0) (fbN f rs y k0 t)
theorem bt_get {rs : List Int} (h : Bits rs) (i : Nat) : Bt (rs.getD i 0) := by
  rw [List.getD_eq_getElem?_getD]
  cases e : rs[i]? with
  | none => exact .inl rfl
  | some x => exact h x (List.mem_of_getElem? e)
theorem bt_if {c : Prop} [Decidable c] : Bt (if c then 1 else 0) := by
  split
  · exact .inr rfl
  · exact .inl rfl
theorem bt_mul {a b : Int} (ha : Bt a) (hb : Bt b) : Bt (a * b) := by
  rcases ha with rfl | rfl <;> rcases hb with rfl | rfl
  · exact .inl rfl
  · exact .inl rfl
  · exact .inl rfl
  · exact .inr rfl
def YOk (y : Option (List Int)) : Prop := ∀ ys, y = some ys → Bits ys
theorem bt_y {y : Option (List Int)} (hy : YOk y) {a : Int} (ha : Bt a) (t : Nat) : Bt ((y.map fun ys => ys.getD t 0).getD a) := by
  cases y with
  | none => exact ha
  | some ys => exact bt_get (hy ys rfl) t
section
variable {f : Nat → Int} {rs : List Int} {y : Option (List Int)} {k0 : KS}
theorem fbN_len : ∀ t, (fbN f rs y k0 t).out.length = t ∧ (fbN f rs y k0 t).fed.length = t
  | 0 => ⟨rfl, rfl⟩
  | t + 1 => by
    obtain ⟨h1, h2⟩ := fbN_len t
    exact ⟨by show (_ ++ [_]).length = _; rw [List.length_append, h1]; rfl, by show (_ ++ [_]).length = _; rw [List.length_append, h2]; rfl⟩
theorem fbN_bits (hy : YOk y) : ∀ t, Bits (fbN f rs y k0 t).out ∧ Bits (fbN f rs y k0 t).fed ∧ Bt (fbN f rs y k0 t).ah
  | 0 => ⟨fun x h => (by cases h), fun x h => (by cases h), .inl rfl⟩
  | t + 1 => by
    obtain ⟨h1, h2, h3⟩ := fbN_bits hy t
    exact ⟨h1.snoc bt_if, h2.snoc (bt_mul bt_if (bt_y hy h3 t)), bt_if⟩
theorem fbN_ok (hr : Bits rs) (hy : YOk y) (h0 : k0.Ok) : ∀ t, (fbN f rs y k0 t).k.Ok
  | 0 => h0
  | t + 1 => (fbN_ok hr hy h0 t).beat (bt_get hr t) (bt_mul bt_if (bt_y hy (fbN_bits hy t).2.2 t))
theorem fbN_most : ∀ t, (fbN f rs y k0 t).k.most = k0.most
  | 0 => rfl
  | t + 1 => fbN_most t
theorem fbN_ah (t : Nat) : (fbN f rs y k0 t).ah = if t = 0 then 0 else (fbN f rs y k0 t).out.getD (t - 1) 0 := by
  cases t with
  | zero => rfl
  | succ t =>
    rw [if_neg (by omega)]
    show (if f t < (fbN f rs y k0 t).k.at_ then 1 else 0) = ((fbN f rs y k0 t).out ++ [if f t < (fbN f rs y k0 t).k.at_ then 1 else 0]).getD t 0
    rw [List.getD_eq_getElem?_getD, List.getElem?_append_right (by rw [(fbN_len t).1]; exact Nat.le_refl t), (fbN_len t).1, Nat.sub_self]
    rfl
theorem sum_snoc (xs : List Int) (x : Int) : (xs ++ [x]).sum = xs.sum + x := by
  induction xs with
  | nil => simp
  | cons a r ih => rw [List.cons_append, List.sum_cons, List.sum_cons, ih]; omega
theorem fbN_sum (hr : Bits rs) (hy : YOk y) (h0 : k0.Ok) : ∀ t, t ≤ rs.length → (rs.take t).sum - (fbN f rs y k0 t).fed.sum = (fbN f rs y k0 t).k.at_ - k0.at_ + ((fbN f rs y k0 t).k.ups - k0.ups) - ((fbN f rs y k0 t).k.downs - k0.downs)
  | 0, _ => by
    show (0 : Int) - 0 = k0.at_ - k0.at_ + (k0.ups - k0.ups) - (k0.downs - k0.downs)
    omega
  | t + 1, ht => by
    have ih := fbN_sum hr hy h0 t (by omega)
    have hb := bt_mul (bt_if (c := f t < (fbN f rs y k0 t).k.at_)) (bt_y hy (fbN_bits (f := f) (rs := rs) (k0 := k0) hy t).2.2 t)
    have st := beat_sum (fbN_ok (f := f) hr hy h0 t) (bt_get hr t) hb
    rw [List.take_add_one, show rs[t]? = some (rs.getD t 0) by rw [List.getD_eq_getElem?_getD, List.getElem?_eq_getElem (by omega)]; rfl]
    show ((rs.take t) ++ [rs.getD t 0]).sum - ((fbN f rs y k0 t).fed ++ [_]).sum = ((fbN f rs y k0 t).k.beat _ _).at_ - k0.at_ + (((fbN f rs y k0 t).k.beat _ _).ups - k0.ups) - (((fbN f rs y k0 t).k.beat _ _).downs - k0.downs)
    rw [sum_snoc, sum_snoc]
    omega
/-- what went out is the begin of what goes out -/
theorem fbN_out_take : ∀ d t, (fbN f rs y k0 (t + d)).out.take t = (fbN f rs y k0 t).out
  | 0, t => by rw [List.take_of_length_le (by rw [(fbN_len _).1]; exact Nat.le_refl _)]; rfl
  | d + 1, t => by
    show ((fbN f rs y k0 (t + d)).out ++ [_]).take t = _
    rw [List.take_append_of_le_length (by rw [(fbN_len _).1]; omega)]
    exact fbN_out_take d t
theorem fbN_fed_take : ∀ d t, (fbN f rs y k0 (t + d)).fed.take t = (fbN f rs y k0 t).fed
  | 0, t => by rw [List.take_of_length_le (by rw [(fbN_len _).2]; exact Nat.le_refl _)]; rfl
  | d + 1, t => by
    show ((fbN f rs y k0 (t + d)).fed ++ [_]).take t = _
    rw [List.take_append_of_le_length (by rw [(fbN_len _).2]; omega)]
    exact fbN_fed_take d t
theorem fbN_out_get {t n : Nat} (h : t ≤ n) {i : Nat} (hi : i < t) : (fbN f rs y k0 n).out.getD i 0 = (fbN f rs y k0 t).out.getD i 0 := by
  obtain ⟨d, rfl⟩ : ∃ d, n = t + d := ⟨n - t, by omega⟩
  rw [← fbN_out_take d t, List.getD_eq_getElem?_getD, List.getD_eq_getElem?_getD, List.getElem?_take_of_lt hi]
theorem fbN_fed_get {t n : Nat} (h : t ≤ n) {i : Nat} (hi : i < t) : (fbN f rs y k0 n).fed.getD i 0 = (fbN f rs y k0 t).fed.getD i 0 := by
  obtain ⟨d, rfl⟩ : ∃ d, n = t + d := ⟨n - t, by omega⟩
  rw [← fbN_fed_take d t, List.getD_eq_getElem?_getD, List.getD_eq_getElem?_getD, List.getElem?_take_of_lt hi]
theorem dl_get (o : List Int) {i : Nat} (h : i + 1 < o.length) : (0 :: o.dropLast).getD (i + 1) 0 = o.getD i 0 := by
  rw [List.getD_cons_succ, List.getD_eq_getElem?_getD, List.getD_eq_getElem?_getD, List.getElem?_dropLast, if_pos (by omega)]
/-- fed by its own bits, each a beat late -/
theorem fbN_self {n : Nat} : ∀ t, t ≤ n → fbN f rs (some (0 :: (fbN f rs none k0 n).out.dropLast)) k0 t = fbN f rs none k0 t
  | 0, _ => rfl
  | t + 1, h => by
    show fb1 _ _ (some _) (fbN f rs (some (0 :: (fbN f rs none k0 n).out.dropLast)) k0 t) = fb1 _ _ none (fbN f rs none k0 t)
    rw [fbN_self t (by omega)]
    have e : (0 :: (fbN f rs none k0 n).out.dropLast).getD t 0 = (fbN f rs none k0 t).ah := by
      cases t with
      | zero => rfl
      | succ t =>
        rw [dl_get _ (by rw [(fbN_len n).1]; omega), fbN_ah, if_neg (by omega)]
        exact fbN_out_get (by omega) (by omega)
    unfold fb1
    simp only [Option.getD_some, Option.getD_none]
    rw [e]
theorem take_get (xs : List Int) {n t : Nat} (h : t < n) : (xs.take n).getD t 0 = xs.getD t 0 := by
  rw [List.getD_eq_getElem?_getD, List.getD_eq_getElem?_getD, List.getElem?_take_of_lt h]
theorem fbN_cut {n : Nat} : ∀ t, t ≤ n → fbN f (rs.take n) (y.map fun ys => ys.take n) k0 t = fbN f rs y k0 t
  | 0, _ => rfl
  | t + 1, h => by
    show fb1 _ _ _ (fbN f (rs.take n) (y.map fun ys => ys.take n) k0 t) = fb1 _ _ _ (fbN f rs y k0 t)
    rw [fbN_cut t (by omega), take_get rs (by omega)]
    cases y with
    | none => rfl
    | some ys =>
      show fb1 _ _ (some ((ys.take n).getD t 0)) _ = fb1 _ _ (some (ys.getD t 0)) _
      rw [take_get ys (by omega)]
end
/-! more of a keeper that is fed back -/
section
variable {f : Nat → Int} {rs : List Int} {y : Option (List Int)} {k0 : KS}
theorem fbN_k_succ {t n : Nat} (h : t < n) : (fbN f rs y k0 (t + 1)).k = (fbN f rs y k0 t).k.beat (rs.getD t 0) ((fbN f rs y k0 n).fed.getD t 0) := by
  have e : (fbN f rs y k0 n).fed.getD t 0 = (if f t < (fbN f rs y k0 t).k.at_ then 1 else 0) * (y.map fun ys => ys.getD t 0).getD (fbN f rs y k0 t).ah := by
    rw [fbN_fed_get (show t + 1 ≤ n from h) (Nat.lt_succ_self t)]
    show ((fbN f rs y k0 t).fed ++ [_]).getD t 0 = _
    rw [List.getD_eq_getElem?_getD, List.getElem?_append_right (by rw [(fbN_len t).2]; exact Nat.le_refl t), (fbN_len t).2, Nat.sub_self]
    rfl
  rw [e]
  rfl
theorem fbN_beats : ∀ t : Nat, (fbN f rs y k0 t).k.beats = k0.beats + (t : Int)
  | 0 => by show k0.beats = _; omega
  | t + 1 => by
    show (fbN f rs y k0 t).k.beats + 1 = _
    rw [fbN_beats t]
    omega
def Rch (f : Nat → Int) (rs : List Int) (y : Option (List Int)) (k0 : KS) (t : Nat) : Prop := ∃ s, s ≤ t ∧ ((fbN f rs y k0 s).k.at_ = 0 ∨ (fbN f rs y k0 s).k.at_ = k0.most)
theorem rch_succ {t : Nat} : Rch f rs y k0 (t + 1) ↔ Rch f rs y k0 t ∨ ((fbN f rs y k0 (t + 1)).k.at_ = 0 ∨ (fbN f rs y k0 (t + 1)).k.at_ = k0.most) := by
  constructor
  · rintro ⟨s, hs, h⟩
    by_cases z : s = t + 1
    · subst z
      exact .inr h
    · exact .inl ⟨s, by omega, h⟩
  · rintro (⟨s, hs, h⟩ | h)
    · exact ⟨s, by omega, h⟩
    · exact ⟨t + 1, Nat.le_refl _, h⟩
theorem fbN_none_lost (hr : Bits rs) (hy : YOk y) (h0 : k0.Ok) : ∀ t, ¬ Rch f rs y k0 t → (fbN f rs y k0 t).k.ups = k0.ups ∧ (fbN f rs y k0 t).k.downs = k0.downs
  | 0, _ => ⟨rfl, rfl⟩
  | t + 1, h => by
    have h1 : ¬ Rch f rs y k0 t := fun z => h (rch_succ.mpr (.inl z))
    obtain ⟨i1, i2⟩ := fbN_none_lost hr hy h0 t h1
    have ok := fbN_ok (f := f) hr hy h0 t
    have mo := fbN_most (f := f) (rs := rs) (y := y) (k0 := k0) t
    have n0 : (fbN f rs y k0 t).k.at_ ≠ 0 := fun z => h1 ⟨t, Nat.le_refl t, .inl z⟩
    have nm : (fbN f rs y k0 t).k.at_ ≠ (fbN f rs y k0 t).k.most := fun z => h1 ⟨t, Nat.le_refl t, .inr (z.trans mo)⟩
    rw [fbN_k_succ (Nat.lt_succ_self t)]
    generalize rs.getD t 0 = u
    generalize (fbN f rs y k0 (t + 1)).fed.getD t 0 = d
    by_cases l : d < u
    · obtain ⟨e1, e2, _⟩ := beat_up ok l
      rw [e1, e2, if_neg nm, i1, i2]
      exact ⟨Int.add_zero _, rfl⟩
    · by_cases l2 : u < d
      · obtain ⟨e1, e2, _⟩ := beat_dn ok l2
        rw [e1, e2, if_neg n0, i1, i2]
        exact ⟨rfl, Int.add_zero _⟩
      · obtain ⟨e1, e2, _⟩ := beat_eq (k := (fbN f rs y k0 t).k) l l2
        rw [e1, e2, i1, i2]
        exact ⟨rfl, rfl⟩
end
theorem rep_getD {n t : Nat} {x : Int} (h : t < n) : (List.replicate n x).getD t 0 = x := by
  rw [List.getD_eq_getElem?_getD, List.getElem?_replicate, if_pos h]
  rfl
theorem fb_full {f : Nat → Int} {n : Nat} {M A : Int} (h0 : KS.Ok ⟨M, A, 0, 0, 0⟩) : ∀ t : Nat, t ≤ n → (fbN f (List.replicate n 1) (some (List.replicate n 0)) ⟨M, A, 0, 0, 0⟩ t).fed.sum = 0 ∧ (fbN f (List.replicate n 1) (some (List.replicate n 0)) ⟨M, A, 0, 0, 0⟩ t).k.at_ = (if A + t ≤ M then A + t else M) ∧ (fbN f (List.replicate n 1) (some (List.replicate n 0)) ⟨M, A, 0, 0, 0⟩ t).k.ups = (if A + t ≤ M then 0 else A + t - M) ∧ (fbN f (List.replicate n 1) (some (List.replicate n 0)) ⟨M, A, 0, 0, 0⟩ t).k.downs = 0
  | 0, _ => by
    obtain ⟨h1, h2, h3, h4⟩ := h0
    dsimp only at h1 h2 h3 h4
    refine ⟨rfl, ?_, ?_, rfl⟩
    · show A = _
      rw [if_pos (by omega)]
      omega
    · show (0 : Int) = _
      rw [if_pos (by omega)]
  | t + 1, ht => by
    have ok0 := h0
    obtain ⟨h1, h2, h3, h4⟩ := h0
    dsimp only at h1 h2 h3 h4
    obtain ⟨i1, i2, i3, i4⟩ := fb_full (f := f) (n := n) ok0 t (by omega)
    have ok := fbN_ok (f := f) (rs := List.replicate n 1) (y := some (List.replicate n 0)) (fun x hx => .inr (List.eq_of_mem_replicate hx)) (fun ys e x hx => by
      cases e
      exact .inl (List.eq_of_mem_replicate hx)) ok0 t
    have mo := fbN_most (f := f) (rs := List.replicate n 1) (y := some (List.replicate n 0)) (k0 := ⟨M, A, 0, 0, 0⟩) t
    dsimp only at mo
    have e : ∀ b : Int, b * (Option.map (fun ys : List Int => ys.getD t 0) (some (List.replicate n 0))).getD (fbN f (List.replicate n 1) (some (List.replicate n 0)) ⟨M, A, 0, 0, 0⟩ t).ah = 0 := fun b => by
      show b * (List.replicate n (0 : Int)).getD t 0 = 0
      rw [rep_getD (by omega)]
      omega
    have er : (List.replicate n (1 : Int)).getD t 0 = 1 := rep_getD (by omega)
    obtain ⟨b1, b2, b3⟩ := beat_up (k := (fbN f (List.replicate n 1) (some (List.replicate n 0)) ⟨M, A, 0, 0, 0⟩ t).k) ok (u := 1) (d := 0) (by decide)
    refine ⟨?_, ?_, ?_, ?_⟩
    · show (_ ++ [_ * _]).sum = 0
      rw [sum_snoc, e, i1]
      rfl
    · show ((fbN f _ _ _ t).k.beat ((List.replicate n (1 : Int)).getD t 0) (_ * _)).at_ = _
      rw [e, er, b3, i2, mo]
      repeat' split
      all_goals omega
    · show ((fbN f _ _ _ t).k.beat ((List.replicate n (1 : Int)).getD t 0) (_ * _)).ups = _
      rw [e, er, b1, i2, i3, mo]
      repeat' split
      all_goals omega
    · show ((fbN f _ _ _ t).k.beat ((List.replicate n (1 : Int)).getD t 0) (_ * _)).downs = _
      rw [e, er, b2, i4]
/-! a keeper that is fed back -/
theorem and_bit {a b : Int} (ha : Bt a) (hb : Bt b) : Builtin.bitAnd a b = a * b := by
  rcases ha with rfl | rfl <;> rcases hb with rfl | rfl <;> rfl
theorem dec_if {c : Prop} [Decidable c] : (if decide c = true then (1 : Int) else 0) = if c then 1 else 0 := by
  simp only [decide_eq_true_eq]
def FAt (H : Hp) (p : Addr) (s : FB) : Prop := ∃ o d l, H p = some (.tup [.ref o, .ref d, .int s.k.at_, .ref l]) ∧ H o = some (.tup (s.out.map V.int)) ∧ H d = some (.tup (s.fed.map V.int)) ∧ H l = some (.tup [.int s.k.ups, .int s.k.downs])
theorem FAt.same {H H' : Hp} {p : Addr} {s : FB} (h : FAt H p s) (e : Same H H') : FAt H' p s := by
  obtain ⟨o, d, l, h1, h2, h3, h4⟩ := h
  exact ⟨o, d, l, e _ _ h1, e _ _ h2, e _ _ h3, e _ _ h4⟩
theorem FAt.but {H H' : Hp} {p b : Addr} {n : Nat} {s : FB} (h : FAt H p s) (B : Bx H b n) (e : But b H H') : FAt H' p s := by
  obtain ⟨o, d, l, h1, h2, h3, h4⟩ := h
  exact ⟨o, d, l, e _ _ (B.ne_tup h1) h1, e _ _ (B.ne_tup h2) h2, e _ _ (B.ne_tup h3) h3, e _ _ (B.ne_tup h4) h4⟩
def YAt (H : Hp) (v : V) (y : Option (List Int)) (n : Nat) : Prop := (v = .non ∧ y = none) ∨ ∃ b ys, v = .ref b ∧ y = some ys ∧ H b = some (.tup (ys.map V.int)) ∧ Bits ys ∧ n ≤ ys.length
theorem YAt.same {H H' : Hp} {v : V} {y : Option (List Int)} {n : Nat} (h : YAt H v y n) (e : Same H H') : YAt H' v y n := by
  rcases h with h | ⟨b, ys, h1, h2, h3, h4⟩
  · exact .inl h
  · exact .inr ⟨b, ys, h1, h2, e _ _ h3, h4⟩
theorem YAt.ok {H : Hp} {v : V} {y : Option (List Int)} {n : Nat} (h : YAt H v y n) : YOk y := fun zs e => by
  rcases h with ⟨_, h⟩ | ⟨b, ys, _, h2, _, h4, _⟩
  · rw [h] at e
    cases e
  · rw [h2] at e
    cases e
    exact h4
theorem KAt.upd {C : Addr} {H : Hp} {x l : Addr} {k : KS} {zs : List V} {o : HO} (h : KAt C H x k) (e : H l = some (.lst zs)) : KAt C (upd H l o) x k := by
  obtain ⟨dx, hx⟩ := h
  refine ⟨dx, ?_⟩
  rw [upd_ne (ne_of hx e (by intro z; cases z))]
  exact hx
theorem KAt.ne {C : Addr} {H : Hp} {x p : Addr} {k : KS} {zs : List V} (h : KAt C H x k) (e : H p = some (.lst zs)) : p ≠ x := by
  obtain ⟨dx, hx⟩ := h
  exact ne_of e hx (by intro z; cases z)
theorem map_snoc (xs : List Int) (x : Int) : xs.map V.int ++ [V.int x] = (xs ++ [x]).map V.int := by rw [List.map_append]; rfl
theorem rng_get {f : Nat → Int} {n i : Nat} (h : i < n) : (((List.range n).map f).map V.int)[i]? = some (V.int (f i)) := by
  rw [List.getElem?_map, List.getElem?_map, List.getElem?_range h]
  rfl
theorem ints_get {rs : List Int} {i : Nat} (h : i < rs.length) : (rs.map V.int)[i]? = some (V.int (rs.getD i 0)) := by
  rw [List.getElem?_map, getD_at h]
  rfl
def sp_fed_back {K : PySem.W.Frag} {mg : Str → Option Value} (_ : Defs K mg) : Sp := fun vs H Q _ => ∃ (a : Addr) (rs : List Int) (yv : V) (y : Option (List Int)) (m : Mk) (mv : V) (M A : Int), vs = [.ref a, yv, mv, .int M, .int A] ∧ H a = some (.tup (rs.map V.int)) ∧ Bits rs ∧ rs.length ≤ 100000 ∧ YAt H yv y rs.length ∧ MkAt H m mv ∧ m.Ok ∧
  ∀ H' p, Same H H' → FAt H' p (fbN (fun i => m.val i) rs y ⟨M, A, 0, 0, 0⟩ rs.length) → Q (.ref p) H'
theorem ok_fed_back (T : Defs K mg) (TT : Tabs T base) : FnOk P w K mg base CX0 6 T.f_fed_back T.fd_fed_back ["row", "by", "maker", "most", "at"] (sp_fed_back T) := by
  have G_Keeper___init__ : FnOk P w K mg base CX0 1 T.f_Keeper___init__ T.fd_Keeper___init__ ["self", "most", "at"] (sp_Keeper___init__ T) := ok_Keeper___init__ T TT
  have G_values_of : FnOk P w K mg base CX0 5 T.f_values_of T.fd_values_of ["maker", "beats"] (sp_values_of K) := ok_values_of T TT
  have G_Keeper_beat : FnOk P w K mg base CX0 2 T.f_Keeper_beat T.fd_Keeper_beat ["self", "up", "down"] (sp_Keeper_beat T) := ok_Keeper_beat T TT
  have G_Keeper_at_now : FnOk P w K mg base CX0 1 T.f_Keeper_at_now T.fd_Keeper_at_now ["self"] (sp_Keeper_at_now T) := ok_Keeper_at_now T TT
  have G_Keeper_lost_now : FnOk P w K mg base CX0 1 T.f_Keeper_lost_now T.fd_Keeper_lost_now ["self"] (sp_Keeper_lost_now T) := ok_Keeper_lost_now T TT
  refine T.F_fed_back.ok sc_fed_back (fun vs H Q E h => ?_) (fun cdv A outer s H vs Q E hr h => ?_)
  · obtain ⟨a, rs, yv, y, m, mv, M, A, rfl, ha, brs, hl, hy, hm, ok, q⟩ := h
    rfl
  · obtain ⟨a, rs, yv, y, m, mv, M, A, rfl, ha, brs, hl, hy, hm, ok, q⟩ := h
    refine ⟨_, PSs.nox (pss_cons (ps_set (i := 5) sc_fed_back.nd rfl (.inl rfl) (pe_make T.mk_Keeper G_Keeper___init__ (hr.mono (by decide)) (by rfl) T.g_Keeper T.b_Keeper___init__ .nil pass0 (pa_cons (pv 3) (pa_cons (pv 4) pa_nil))))
    (pss_cons (ps_set (i := 6) sc_fed_back.nd rfl (.inl rfl) (pe_lst pa_nil))
    (pss_cons (ps_set (i := 7) sc_fed_back.nd rfl (.inl rfl) (pe_lst pa_nil))
    (pss_cons (ps_set (i := 8) sc_fed_back.nd rfl (.inl rfl) pe_int)
    (pss_cons (ps_for PassesOwn.never rfl (pi_enum (by rfl) T.m_enumerate (pa_cons (pe_call G_values_of (hr.mono (by decide)) (by rfl) T.g_values_of T.F_values_of.kp T.b_values_of .nil pass0 (pa_cons (pv 2) (pa_cons (pe_callB call_len_seq (by rfl) T.m_len bt_len (pa_cons (pv 0) pa_nil)) pa_nil))) pa_nil)) (pg_tup rfl (pgs_cons (pg_name (i := 9) sc_fed_back.nd rfl (.inl rfl)) (pgs_cons (pg_name (i := 10) sc_fed_back.nd rfl (.inl rfl)) pgs_nil))) (pss_cons (ps_set (i := 11) sc_fed_back.nd rfl (.inl rfl) (pe_ifExp (pt_cmpR op_lt (pv 10) (pe_meth0 (pv 5) T.cl_Keeper T.mt_Keeper_at_now G_Keeper_at_now (hr.mono (by decide)) T.b_Keeper_at_now .nil pass0) (nomark _)) pe_int pe_int))
    (pss_cons (ps_set (i := 12) sc_fed_back.nd rfl (.inl rfl) (pe_op op_and (pv 11) (pe_ifExp (pt_cmpR op_isN (pv 1) pe_non (nomark _)) (pv 8) (pe_ix ix_tup (pv 1) (pv 9) (fun _ _ => rfl)))))
    (pss_cons (ps_expr (pe_meth (pv 5) T.cl_Keeper T.mt_Keeper_beat G_Keeper_beat (hr.mono (by decide)) T.b_Keeper_beat .nil pass0 (pa_cons (pe_ix ix_tup (pv 0) (pv 9) (fun _ _ => rfl)) (pa_cons (pv 12) pa_nil))))
    (pss_cons (ps_expr (pe_bm PySem.F.plainAttrs_list PySem.F.slot_list_append PySem.F.type_list_append mt_append (pv 6) (pa_cons (pv 11) pa_nil)))
    (pss_cons (ps_expr (pe_bm PySem.F.plainAttrs_list PySem.F.slot_list_append PySem.F.type_list_append mt_append (pv 7) (pa_cons (pv 12) pa_nil)))
    (pss_one (ps_set (i := 8) sc_fed_back.nd rfl (.inl rfl) (pv 11)))))))))
    (pss_one (ps_ret (pe_tup (pa_cons (pe_callTy call_tuple_of (by rfl) T.m_tuple bt_tuple (pa_cons (pv 6) pa_nil)) (pa_cons (pe_callTy call_tuple_of (by rfl) T.m_tuple bt_tuple (pa_cons (pv 7) pa_nil)) (pa_cons (pe_meth0 (pv 5) T.cl_Keeper T.mt_Keeper_at_now G_Keeper_at_now (hr.mono (by decide)) T.b_Keeper_at_now .nil pass0) (pa_cons (pe_meth0 (pv 5) T.cl_Keeper T.mt_Keeper_lost_now G_Keeper_lost_now (hr.mono (by decide)) T.b_Keeper_lost_now .nil pass0) pa_nil)))))))))))), ?_⟩
    have hsl : sizeLine = 16777216 := by decide
    refine ⟨_, rfl, _, rfl, fun x dx nx ndx ne => ⟨x, dx, M, A, rfl, upd_same, fun E bE kE => ⟨rfl, ?_⟩⟩⟩
    have sE : Same H E := fun p o e => bE _ _ (ne_of_none e nx) (by rw [upd_ne (ne_of_none e nx), upd_ne (ne_of_none e ndx)]; exact e)
    refine ⟨(show 0 ≤ sizeLine by decide), fun l1 nl1 => ⟨(show 0 ≤ sizeLine by decide), fun l2 nl2 => ?_⟩⟩
    have f1 := same_upd nl1 (o := .lst [])
    have f2 := same_upd nl2 (o := .lst [])
    have e1 : (upd (upd E l1 (.lst [])) l2 (.lst [])) l1 = some (.lst []) := f2 _ _ upd_same
    have e2 : (upd (upd E l1 (.lst [])) l2 (.lst [])) l2 = some (.lst []) := upd_same
    have k1 := kE.same (f1.trans f2)
    have s1 : Same H (upd (upd E l1 (.lst [])) l2 (.lst [])) := sE.trans (f1.trans f2)
    have n1 : H l1 = none := sE.free nl1
    have n2 : H l2 = none := sE.free (f1.free nl2)
    have n12 : l1 ≠ l2 := fun z => by
      rw [← z, upd_same] at nl2
      cases nl2
    generalize upd (upd E l1 (.lst [])) l2 (.lst []) = F at e1 e2 k1 s1 ⊢
    clear f1 f2 nl1 nl2 kE bE sE ndx ne
    refine ⟨_, rfl, _, rfl, a, _, rfl, .inr (SqT.mk (s1 _ _ ha)), m, mv, _, rfl, hm.same s1, ok, by rw [List.length_map]; exact hl, fun G L sG nL hL => ?_⟩
    rw [List.length_map] at hL
    have nL1 : L ≠ l1 := fun z => by
      rw [z, e1] at nL
      cases nL
    have nL2 : L ≠ l2 := fun z => by
      rw [z, e2] at nL
      cases nL
    obtain ⟨f, hf⟩ : ∃ f : Nat → Int, (fun (i : Nat) => m.val i) = f := ⟨_, rfl⟩
    rw [hf] at hL q
    have yok := hy.ok
    refine ⟨L, _, rfl, SqL.mk hL, for_it (walk_enum (xs := ((List.range rs.length).map f).map V.int)) (fun i σ G' => ∃ y9 y10 y11 y12, σ = [some (.ref a), some yv, some mv, some (.int M), some (.int A), some (.ref x), some (.ref l1), some (.ref l2), some (.int (fbN f rs y ⟨M, A, 0, 0, 0⟩ i).ah), y9, y10, y11, y12] ∧ Same H G' ∧ KAt T.C_Keeper G' x (fbN f rs y ⟨M, A, 0, 0, 0⟩ i).k ∧ G' l1 = some (.lst ((fbN f rs y ⟨M, A, 0, 0, 0⟩ i).out.map V.int)) ∧ G' l2 = some (.lst ((fbN f rs y ⟨M, A, 0, 0, 0⟩ i).fed.map V.int)) ∧ G' L = some (.lst (((List.range rs.length).map f).map V.int))) ⟨none, none, none, none, rfl, s1.trans sG, k1.same sG, sG _ _ e1, sG _ _ e2, hL⟩ ?_ ?_ ?_⟩
    · rintro i σ G1 hi ⟨y9, y10, y11, y12, rfl, sH, kx, h1, h2, h3⟩
      exact SqL.mk h3
    · rintro i xx σ G1 G2 hi ⟨y9, y10, y11, y12, rfl, sH, kx, h1, h2, h3⟩ ⟨t, x1, x2, rfl, nt, rfl, ex1, ex2⟩
      rw [List.length_map, List.length_map, List.length_range] at hi
      have ev1 : x1 = .int (i : Nat) := (Option.some.inj ex1).symm
      have ev2 : x2 = .int (f i) := by
        have ex2 : (((List.range rs.length).map f).map V.int)[i]? = some x2 := ex2
        rw [rng_get hi] at ex2
        exact (Option.some.inj ex2).symm
      subst ev1 ev2
      have st := same_upd nt (o := .tup [.int (i : Nat), .int (f i)])
      have sH2 := sH.trans st
      have kx2 := kx.same st
      have g1 := st _ _ h1
      have g2 := st _ _ h2
      have g3 := st _ _ h3
      refine ⟨t, _, rfl, SqT.mk upd_same, rfl, _, _, rfl, _, _, rfl, rfl, ?_⟩
      generalize upd G1 t (.tup [.int (i : Nat), .int (f i)]) = G2 at sH2 kx2 g1 g2 g3 ⊢
      clear st sH kx h1 h2 h3 nt
      have hS : fbN f rs y ⟨M, A, 0, 0, 0⟩ (i + 1) = fb1 (f i) (rs.getD i 0) (y.map fun ys => ys.getD i 0) (fbN f rs y ⟨M, A, 0, 0, 0⟩ i) := rfl
      have hah := (fbN_bits (f := f) (rs := rs) (k0 := ⟨M, A, 0, 0, 0⟩) yok i).2.2
      have ln := fbN_len (f := f) (rs := rs) (y := y) (k0 := ⟨M, A, 0, 0, 0⟩) i
      rw [hS]
      generalize fbN f rs y ⟨M, A, 0, 0, 0⟩ i = S at kx2 g1 g2 hah ln ⊢
      obtain ⟨dx2, hx2⟩ := id kx2
      refine seq_via (fun σ G => σ = [some (.ref a), some yv, some mv, some (.int M), some (.int A), some (.ref x), some (.ref l1), some (.ref l2), some (.int S.ah), some (.int (i : Nat)), some (.int (f i)), some (.int (if f i < S.k.at_ then 1 else 0)), y12] ∧ G = G2) (fun N key => ?_) ?_
      · refine ⟨_, rfl, _, rfl, x, dx2, _, rfl, hx2, fl_noat S.k, x, S.k, rfl, kx2, _, _, rfl, rfl, _, rfl, ite2 (fun e => ?_) (fun e => ?_)⟩
        · have l : f i < S.k.at_ := of_decide_eq_true e
          refine key _ _ ⟨?_, rfl⟩
          rw [if_pos l]
          rfl
        · have l : ¬ f i < S.k.at_ := fun z => e (decide_eq_true z)
          refine key _ _ ⟨?_, rfl⟩
          rw [if_neg l]
          rfl
      rintro σ G ⟨rfl, rfl⟩
      unfold fb1
      dsimp only
      have hbit : Bt (if f i < S.k.at_ then 1 else 0) := bt_if
      generalize (if f i < S.k.at_ then (1 : Int) else 0) = bit at hbit ⊢
      have hyv := bt_y yok hah i
      refine seq_via (fun σ F => σ = [some (.ref a), some yv, some mv, some (.int M), some (.int A), some (.ref x), some (.ref l1), some (.ref l2), some (.int S.ah), some (.int (i : Nat)), some (.int (f i)), some (.int bit), some (.int (bit * (y.map fun ys => ys.getD i 0).getD S.ah))] ∧ F = G) (fun N key => ?_) ?_
      · rcases hy with ⟨rfl, rfl⟩ | ⟨b, ys, rfl, rfl, hb, by_, hyl⟩
        · refine ⟨_, rfl, _, rfl, rfl, _, rfl, iteT ⟨_, rfl, _, _, rfl, rfl, ?_⟩⟩
          refine key _ _ ⟨?_, rfl⟩
          rw [← and_bit hbit hyv]
          rfl
        · refine ⟨_, rfl, _, rfl, rfl, _, rfl, iteF ⟨_, rfl, _, rfl, b, _, _, .int (ys.getD i 0), rfl, rfl, SqT.mk (sH2 _ _ hb), atI_nat (ints_get (by omega)), _, _, rfl, rfl, ?_⟩⟩
          refine key _ _ ⟨?_, rfl⟩
          rw [← and_bit hbit hyv]
          rfl
      rintro σ F ⟨rfl, rfl⟩
      have hbk := bt_mul hbit hyv
      generalize (bit * (y.map fun ys => ys.getD i 0).getD S.ah) = back at hbk ⊢
      refine ⟨_, rfl, x, dx2, _, rfl, hx2, fl_nobeat S.k, _, rfl, _, rfl, a, _, _, .int (rs.getD i 0), rfl, rfl, SqT.mk (sH2 _ _ ha), atI_nat (ints_get hi), _, rfl, x, S.k, rs.getD i 0, back, rfl, kx2, bt_get brs i, hbk, fun W bW kW => ?_⟩
      have w1 := bW _ _ (kx2.ne g1) g1
      have w2 := bW _ _ (kx2.ne g2) g2
      have w3 := bW _ _ (kx2.ne g3) g3
      have sW : Same H W := But.same nx sH2 bW
      refine ⟨.ref l1, rfl, .inl ⟨rfl, _, SqL.mk w1⟩, _, rfl, l1, _, _, rfl, rfl, w1, by rw [List.length_map, ln.1]; omega, ?_⟩
      have v2 : (upd W l1 (.lst (S.out.map V.int ++ [.int bit]))) l2 = some (.lst (S.fed.map V.int)) := by rw [upd_ne n12.symm]; exact w2
      refine ⟨.ref l2, rfl, .inl ⟨rfl, _, SqL.mk v2⟩, _, rfl, l2, _, _, rfl, rfl, v2, by rw [List.length_map, ln.2]; omega, ?_⟩
      refine ⟨_, rfl, _, _, _, _, rfl, same_newer (same_newer sW n1) n2, (kW.upd w1).upd v2, ?_, ?_, ?_⟩
      · rw [upd_ne n12, upd_same, map_snoc]
      · rw [upd_same, map_snoc]
      · rw [upd_ne nL2, upd_ne nL1]
        exact w3
    · rintro σ G1 ⟨y9, y10, y11, y12, rfl, sH, kx, h1, h2, h3⟩
      rw [List.length_map, List.length_map, List.length_range] at kx h1 h2
      generalize fbN f rs y ⟨M, A, 0, 0, 0⟩ rs.length = S at kx h1 h2 q
      obtain ⟨dx2, hx2⟩ := id kx
      refine ⟨.ref l1, rfl, l1, _, rfl, .inl ⟨SqL.mk h1, fun o no => ?_⟩⟩
      have so := same_upd no (o := .tup (S.out.map V.int))
      refine ⟨.ref l2, rfl, l2, _, rfl, .inl ⟨SqL.mk (so _ _ h2), fun d nd => ?_⟩⟩
      have sd := same_upd nd (o := .tup (S.fed.map V.int))
      have sod := so.trans sd
      refine ⟨_, rfl, x, dx2, _, rfl, sod _ _ hx2, fl_noat S.k, x, S.k, rfl, kx.same sod, _, rfl, x, dx2, _, rfl, sod _ _ hx2, fl_nolost S.k, x, S.k, rfl, kx.same sod, fun G4 l s4 nl hl4 => ⟨(show 4 ≤ sizeLine by decide), fun p np => ?_⟩⟩
      have sp := same_upd np (o := .tup [.ref o, .ref d, .int S.k.at_, .ref l])
      refine q _ p (sH.trans (sod.trans (s4.trans sp))) ⟨o, d, l, upd_same, sp _ _ (s4 _ _ (sd _ _ upd_same)), sp _ _ (s4 _ _ upd_same), sp _ _ hl4⟩
def sp_rooted {K : PySem.W.Frag} {mg : Str → Option Value} (_ : Defs K mg) : Sp := fun vs H Q _ => ∃ (a : Addr) (rs : List Int) (m : Mk) (mv : V) (M A : Int), vs = [.ref a, mv, .int M, .int A] ∧ H a = some (.tup (rs.map V.int)) ∧ Bits rs ∧ rs.length ≤ 100000 ∧ MkAt H m mv ∧ m.Ok ∧
  ∀ H' p, Same H H' → FAt H' p (fbN (fun i => m.val i) rs none ⟨M, A, 0, 0, 0⟩ rs.length) → Q (.ref p) H'
theorem ok_rooted (T : Defs K mg) (TT : Tabs T base) : FnOk P w K mg base CX0 7 T.f_rooted T.fd_rooted ["row", "maker", "most", "at"] (sp_rooted T) := by
  have G_fed_back : FnOk P w K mg base CX0 6 T.f_fed_back T.fd_fed_back ["row", "by", "maker", "most", "at"] (sp_fed_back T) := ok_fed_back T TT
  refine T.F_rooted.ok sc_rooted (fun vs H Q E h => ?_) (fun cdv A outer s H vs Q E hr h => ?_)
  · obtain ⟨a, rs, m, mv, M, A, rfl, ha, brs, hl, hm, ok, q⟩ := h
    rfl
  · obtain ⟨a, rs, m, mv, M, A, rfl, ha, brs, hl, hm, ok, q⟩ := h
    refine ⟨_, PSs.nox (pss_one (ps_ret (pe_call G_fed_back (hr.mono (by decide)) (by rfl) T.g_fed_back T.F_fed_back.kp T.b_fed_back .nil pass0 (pa_cons (pv 0) (pa_cons pe_non (pa_cons (pv 1) (pa_cons (pv 2) (pa_cons (pv 3) pa_nil)))))))), ?_⟩
    exact ⟨_, rfl, _, rfl, _, rfl, _, rfl, a, rs, .non, none, m, mv, M, A, rfl, ha, brs, hl, .inl ⟨rfl, rfl⟩, hm, ok, q⟩
def sp_divided {K : PySem.W.Frag} {mg : Str → Option Value} (T : Defs K mg) : Sp := fun vs H Q E => ∃ (a b : Addr) (rs ys : List Int) (m : Mk) (mv : V) (M A : Int), vs = [.ref a, .ref b, mv, .int M, .int A] ∧ H a = some (.tup (rs.map V.int)) ∧ H b = some (.tup (ys.map V.int)) ∧ Bits rs ∧ Bits ys ∧ rs.length ≤ 100000 ∧ MkAt H m mv ∧ m.Ok ∧
  ((rs.length = ys.length ∧ ∀ H' p, Same H H' → FAt H' p (fbN (fun i => m.val i) rs (some ys) ⟨M, A, 0, 0, 0⟩ rs.length) → Q (.ref p) H') ∨ (rs.length ≠ ys.length ∧ ∀ H', Same H H' → E (.ref T.C_Unlike) none H'))
theorem ok_divided (T : Defs K mg) (TT : Tabs T base) : FnOk P w K mg base (L2.CX P w) 7 T.f_divided T.fd_divided ["row", "by", "maker", "most", "at"] (sp_divided T) := by
  have G_refuse_unlike : FnOk P w K mg base (L2.CX P w) 1 T.f_refuse_unlike T.fd_refuse_unlike ["rows"] (sp_refuse_unlike T) := ok_refuse_unlike T TT
  have G_fed_back : FnOk P w K mg base CX0 6 T.f_fed_back T.fd_fed_back ["row", "by", "maker", "most", "at"] (sp_fed_back T) := ok_fed_back T TT
  refine okX T.F_divided sc_divided (fun vs H Q E h => ?_) (fun cdv A outer s H vs Q E hr h => ?_)
  · obtain ⟨a, b, rs, ys, m, mv, M, A, rfl, ha, hb, brs, hs, hl, hm, ok, h⟩ := h
    rfl
  · obtain ⟨a, b, rs, ys, m, mv, M, A, rfl, ha, hb, brs, hs, hl, hm, ok, h⟩ := h
    refine ⟨_, (pss_cons (ps_expr (pe_call (E := E) G_refuse_unlike (hr.mono (by decide)) (by rfl) T.g_refuse_unlike T.F_refuse_unlike.kp T.b_refuse_unlike .nil (passes_call (takes_of rfl rfl rfl rfl) (fun _ _ _ _ h => h)) (pa_cons (pe_lst (pa_cons (pv 0) (pa_cons (pv 1) pa_nil))) pa_nil)))
    (pss_one (ps_ret (pe_call G_fed_back (hr.mono (by decide)) (by rfl) T.g_fed_back T.F_fed_back.kp T.b_fed_back .nil pass0 (pa_cons (pv 0) (pa_cons (pv 1) (pa_cons (pv 2) (pa_cons (pv 3) (pa_cons (pv 4) pa_nil))))))))), ?_⟩
    refine ⟨_, rfl, _, rfl, (show 2 ≤ sizeLine by decide), fun l nl => ?_⟩
    have s1 := same_upd nl (o := .lst [.ref a, .ref b])
    refine ⟨l, [(a, rs.map V.int), (b, ys.map V.int)], rfl, upd_same, (show 2 ≤ 8 by decide), (by intro z; cases z), fun q hq => ?_, ?_⟩
    · rcases List.mem_cons.mp hq with rfl | hq
      · exact s1 _ _ ha
      · rw [List.mem_singleton.mp hq]
        exact s1 _ _ hb
    rcases h with ⟨he, q⟩ | ⟨he, q⟩
    · refine .inl ⟨⟨rs.length, fun z hz => ?_⟩, ?_⟩
      · rcases List.mem_cons.mp hz with rfl | hz
        · exact List.length_map _
        · rw [List.mem_singleton.mp hz]
          show (ys.map V.int).length = _
          rw [List.length_map, he]
      · exact ⟨_, rfl, _, rfl, _, rfl, _, rfl, _, rfl, a, rs, .ref b, some ys, m, mv, M, A, rfl, s1 _ _ ha, brs, hl, .inr ⟨b, ys, rfl, rfl, s1 _ _ hb, hs, by omega⟩, hm.same s1, ok, fun H' p s' hp => q H' p (s1.trans s') hp⟩
    · refine .inr ⟨⟨_, _, List.mem_cons_self, List.mem_cons_of_mem _ List.mem_cons_self, ?_⟩, q _ s1⟩
      show (rs.map V.int).length ≠ (ys.map V.int).length
      rw [List.length_map, List.length_map]
      exact he
/-! two lists of the same numbers -/
theorem dp_ints {K : PySem.W.Frag} {H : Hp} : ∀ ns : List Int, DpAll K H (ns.map V.int) (ns.map PyData.int)
  | [] => .nil
  | x :: r => .cons (.int x) (dp_ints r)
theorem sh_ints (ns : List Int) : SeqAt.shaped (.list (ns.map PyData.int)) = true := by
  have h1 : PyData.canLayAll0 (ns.map PyData.int) = true := by
    induction ns with
    | nil => rfl
    | cons x r ih =>
      show (PyData.canLay0 (.int x) && PyData.canLayAll0 (r.map PyData.int)) = true
      rw [ih]
      rfl
  have h2 : PyData.depthAll (ns.map PyData.int) = 0 := by
    induction ns with
    | nil => rfl
    | cons x r ih =>
      show max (PyData.depth (.int x)) (PyData.depthAll (r.map PyData.int)) = 0
      rw [ih (by
        have : (PyData.canLay0 (.int x) && PyData.canLayAll0 (r.map PyData.int)) = true := h1
        exact (Bool.and_eq_true_iff.mp this).2)]
      rfl
  show (PyData.canLayAll0 (ns.map PyData.int) && decide (PyData.depthAll (ns.map PyData.int) + 1 ≤ 64)) = true
  rw [h1, h2]
  rfl
theorem eqv_ints (ns : List Int) : PyData.eqv (.list (ns.map PyData.int)) (.list (ns.map PyData.int)) = true := by
  have : PyData.eqvAll (ns.map PyData.int) (ns.map PyData.int) = true := by
    induction ns with
    | nil => rfl
    | cons x r ih =>
      show (PyData.eqv (.int x) (.int x) && PyData.eqvAll (r.map PyData.int) (r.map PyData.int)) = true
      rw [ih]
      show ((x == x) && true) = true
      simp
  exact this
theorem neL {K : PySem.W.Frag} {H : Hp} {a b : Addr} {ns ms : List Int} (ha : H a = some (.lst (ns.map V.int))) (hb : H b = some (.lst (ms.map V.int))) (e : ns = ms) {Q : VK} (q : Q (.bl false) H) : rNeD K (.ref a) (.ref b) H Q := by
  subst e
  refine ⟨_, _, .lst (SqL.mk ha) (dp_ints ns), .lst (SqL.mk hb) (dp_ints ns), sh_ints ns, sh_ints ns, ?_⟩
  rw [eqv_ints]
  exact q
theorem lay_ints (ns : List Int) : PyData.canLayAll0 (ns.map PyData.int) = true := by
  induction ns with
  | nil => rfl
  | cons x r ih =>
    show (PyData.canLay0 (.int x) && PyData.canLayAll0 (r.map PyData.int)) = true
    rw [ih]
    rfl
theorem dep_ints (ns : List Int) : PyData.depthAll (ns.map PyData.int) = 0 := by
  induction ns with
  | nil => rfl
  | cons x r ih =>
    show max (PyData.depth (.int x)) (PyData.depthAll (r.map PyData.int)) = 0
    rw [ih]
    rfl
theorem eqvA_ints (ns : List Int) : PyData.eqvAll (ns.map PyData.int) (ns.map PyData.int) = true := eqv_ints ns
def dFB (s : FB) : PyData := .tuple [.tuple (s.out.map PyData.int), .tuple (s.fed.map PyData.int), .int s.k.at_, .tuple ([s.k.ups, s.k.downs].map PyData.int)]
theorem dFB_sh (s : FB) : SeqAt.shaped (dFB s) = true := by
  show ((PyData.canLayAll0 (s.out.map PyData.int) && (PyData.canLayAll0 (s.fed.map PyData.int) && (true && (PyData.canLayAll0 ([s.k.ups, s.k.downs].map PyData.int) && true)))) && decide (max (PyData.depthAll (s.out.map PyData.int) + 1) (max (PyData.depthAll (s.fed.map PyData.int) + 1) (max 0 (max (PyData.depthAll ([s.k.ups, s.k.downs].map PyData.int) + 1) 0))) + 1 ≤ 64)) = true
  rw [lay_ints, lay_ints, lay_ints, dep_ints, dep_ints, dep_ints]
  rfl
theorem dFB_eqv (s : FB) : PyData.eqv (dFB s) (dFB s) = true := by
  show (PyData.eqvAll (s.out.map PyData.int) (s.out.map PyData.int) && (PyData.eqvAll (s.fed.map PyData.int) (s.fed.map PyData.int) && ((s.k.at_ == s.k.at_) && (PyData.eqvAll ([s.k.ups, s.k.downs].map PyData.int) ([s.k.ups, s.k.downs].map PyData.int) && true)))) = true
  rw [eqvA_ints, eqvA_ints, eqvA_ints]
  simp
theorem FAt.dp {K : PySem.W.Frag} {H : Hp} {p : Addr} {s : FB} (h : FAt H p s) : Dp K H (.ref p) (dFB s) := by
  obtain ⟨o, d, l, h1, h2, h3, h4⟩ := h
  exact .tup (SqT.mk h1) (.cons (.tup (SqT.mk h2) (dp_ints _)) (.cons (.tup (SqT.mk h3) (dp_ints _)) (.cons (.int _) (.cons (.tup (SqT.mk h4) (dp_ints [s.k.ups, s.k.downs])) .nil))))
theorem FAt.ne {K : PySem.W.Frag} {H : Hp} {p q : Addr} {s : FB} (h : FAt H p s) (g : FAt H q s) {Q : VK} (k : Q (.bl false) H) : rNeD K (.ref p) (.ref q) H Q := by
  refine ⟨_, _, h.dp, g.dp, dFB_sh s, dFB_sh s, ?_⟩
  rw [dFB_eqv]
  exact k
theorem neI2 {K : PySem.W.Frag} {H : Hp} {p r : Addr} {a b a' b' : Int} (hp : H p = some (.tup [.int a, .int b])) (hr : H r = some (.tup [.int a', .int b'])) (ea : a = a') (eb : b = b') {Q : VK} (q : Q (.bl false) H) : rNeD K (.ref p) (.ref r) H Q := by
  subst ea eb
  refine ⟨_, _, .tup (SqT.mk hp) (.cons (.int a) (.cons (.int b) .nil)), .tup (SqT.mk hr) (.cons (.int a) (.cons (.int b) .nil)), rfl, rfl, ?_⟩
  have e : PyData.eqv (.tuple [.int a, .int b]) (.tuple [.int a, .int b]) = true := by
    simp [PyData.eqv, PyData.eqvAll]
  rw [e]
  exact q
theorem eqI2 {K : PySem.W.Frag} {H : Hp} {p r : Addr} {a b a' b' : Int} (hp : H p = some (.tup [.int a, .int b])) (hr : H r = some (.tup [.int a', .int b'])) (ea : a = a') (eb : b = b') {Q : VK} (q : Q (.bl true) H) : rEqD K (.ref p) (.ref r) H Q := by
  subst ea eb
  refine ⟨_, _, .tup (SqT.mk hp) (.cons (.int a) (.cons (.int b) .nil)), .tup (SqT.mk hr) (.cons (.int a) (.cons (.int b) .nil)), rfl, rfl, ?_⟩
  have e : PyData.eqv (.tuple [.int a, .int b]) (.tuple [.int a, .int b]) = true := by
    simp [PyData.eqv, PyData.eqvAll]
  rw [e]
  exact q
theorem eqIP {K : PySem.W.Frag} {H : Hp} {t t' p p' : Addr} {x a b : Int} (ht : H t = some (.tup [.int x, .ref p])) (ht' : H t' = some (.tup [.int x, .ref p'])) (hp : H p = some (.tup [.int a, .int b])) (hp' : H p' = some (.tup [.int a, .int b])) {Q : VK} (q : Q (.bl true) H) : rEqD K (.ref t) (.ref t') H Q := by
  refine ⟨_, _, .tup (SqT.mk ht) (.cons (.int x) (.cons (.tup (SqT.mk hp) (.cons (.int a) (.cons (.int b) .nil))) .nil)), .tup (SqT.mk ht') (.cons (.int x) (.cons (.tup (SqT.mk hp') (.cons (.int a) (.cons (.int b) .nil))) .nil)), rfl, rfl, ?_⟩
  have e : PyData.eqv (.tuple [.int x, .tuple [.int a, .int b]]) (.tuple [.int x, .tuple [.int a, .int b]]) = true := by
    simp [PyData.eqv, PyData.eqvAll]
  rw [e]
  exact q
theorem in2 (x a b : Int) : inV (.int x) [.int a, .int b] = decide (x = a ∨ x = b) := by
  rw [show [V.int a, V.int b] = [a, b].map V.int from rfl, in_ints]
  simp
theorem tup_but {H H' : Hp} {b a : Addr} {n : Nat} {xs : List V} (h : H a = some (.tup xs)) (B : Bx H b n) (c : But b H H') : H' a = some (.tup xs) := c _ _ (B.ne_tup h) h
theorem slice_takeI {K : PySem.W.Frag} {H : Hp} {a : Addr} {rs : List Int} {b : Nat} {v : Int} {Q : VK} (hv : v = (b : Nat)) (ha : H a = some (.tup (rs.map V.int))) (hb : b ≤ rs.length)
    (q : ∀ H' p, Same H H' → H' p = some (.tup ((rs.take b).map V.int)) → Q (.ref p) H') : rSlA K (.ref a) none (some v) H Q := by
  subst hv
  exact slice_take ha hb q
def sp__law_sums (_ : PySem.W.Frag) : Sp := fun vs H Q _ => ∃ (a p : Addr) (rs : List Int) (s : FB) (A : Int) (n : Nat), vs = [.ref a, .ref p, .int A, .int (n : Nat)] ∧ H a = some (.tup (rs.map V.int)) ∧ FAt H p s ∧ n ≤ rs.length ∧ s.out.length = n ∧ (rs.take n).sum - s.fed.sum = s.k.at_ - A + s.k.ups - s.k.downs ∧ ∀ H', Same H H' → Q (.bl true) H'
theorem ok__law_sums (T : Defs K mg) (TT : Tabs T base) : FnOk P w K mg base CX0 1 T.f__law_sums T.fd__law_sums ["_law_row", "_law_found", "_law_at", "_law_n"] (sp__law_sums K) := by
  refine T.F__law_sums.ok sc__law_sums (fun vs H Q E h => ?_) (fun cdv A outer s H vs Q E hr h => ?_)
  · obtain ⟨a, p, rs, s, A, n, rfl, ha, ⟨o, d, l, h1, h2, h3, h4⟩, hn, hln, he, q⟩ := h
    rfl
  · obtain ⟨a, p, rs, s, A, n, rfl, ha, ⟨o, d, l, h1, h2, h3, h4⟩, hn, hln, he, q⟩ := h
    refine ⟨_, PSs.nox (pss_cons (ps_asg (pv 1) (pg_tup rfl (pgs_cons (pg_name (i := 4) sc__law_sums.nd rfl (.inl rfl)) (pgs_cons (pg_name (i := 5) sc__law_sums.nd rfl (.inl rfl)) (pgs_cons (pg_name (i := 6) sc__law_sums.nd rfl (.inl rfl)) (pgs_cons (pg_name (i := 7) sc__law_sums.nd rfl (.inl rfl)) pgs_nil))))))
    (pss_one (ps_ret (pe_and (pe_cmpR op_eq (pe_callB call_len_seq (by rfl) T.m_len bt_len (pa_cons (pv 4) pa_nil)) (pv 3) (nomark _)) (pe_one (pe_cmpR op_eq (pe_op op_sub (pe_callB (cr_sumT rfl) (by rfl) T.m_sum bt_sum (pa_cons (pe_slice sl_tupA (pv 0) po_none (po_some (pv 3))) pa_nil)) (pe_callB (cr_sumT rfl) (by rfl) T.m_sum bt_sum (pa_cons (pv 5) pa_nil))) (pe_op op_sub (pe_op op_add (pe_op op_sub (pv 6) (pv 2)) (pe_ix ix_tup (pv 7) pe_int (fun _ _ => rfl))) (pe_ix ix_tup (pv 7) pe_int (fun _ _ => rfl))) (nomark _))))))), ?_⟩
    refine ⟨_, rfl, p, _, rfl, SqT.mk h1, rfl, _, _, rfl, _, _, rfl, _, _, rfl, _, _, rfl, rfl, ?_⟩
    refine ⟨_, rfl, o, _, rfl, .inr (SqT.mk h2), _, rfl, rfl, _, rfl, ?_⟩
    rw [List.length_map, hln, decide_eq_true rfl]
    refine iteT ⟨_, rfl, _, rfl, _, rfl, slice_take ha hn fun G1 r s1 hr1 => ?_⟩
    refine ⟨r, rs.take n, rfl, SqT.mk hr1, _, rfl, d, s.fed, rfl, SqT.mk (s1 _ _ h3), _, _, rfl, rfl, _, rfl, _, rfl, _, _, rfl, rfl, _, rfl, l, _, 0, _, rfl, rfl, SqT.mk (s1 _ _ h4), atI_nat (j := 0) rfl, _, _, rfl, rfl, _, rfl, l, _, 1, _, rfl, rfl, SqT.mk (s1 _ _ h4), atI_nat (j := 1) rfl, _, _, rfl, rfl, rfl, ?_⟩
    rw [show (fun i j => V.int (i - j)) (rs.take n).sum s.fed.sum = (fun i j => V.int (i - j)) (s.k.at_ - A + s.k.ups) s.k.downs from congrArg V.int he, decide_eq_true rfl]
    exact q _ s1
/-- what the law is given: two rows, a maker and a keeper's bounds -/
structure Given (H : Hp) (a b t : Addr) (rs ys : List Int) (m : Mk) (M A : Int) : Prop where
  ha : H a = some (.tup (rs.map V.int))
  hb : H b = some (.tup (ys.map V.int))
  br : Bits rs
  by_ : Bits ys
  ln : rs.length = ys.length
  sm : rs.length ≤ 10000
  hmk : ∃ mv, H t = some (.tup [mv, .int M, .int A]) ∧ MkAt H m mv
  ok : m.Ok
  kok : KS.Ok ⟨M, A, 0, 0, 0⟩
theorem Given.same {H H' : Hp} {a b t : Addr} {rs ys : List Int} {m : Mk} {M A : Int} (g : Given H a b t rs ys m M A) (s : Same H H') : Given H' a b t rs ys m M A := by
  obtain ⟨mv, h1, h2⟩ := g.hmk
  exact ⟨s _ _ g.ha, s _ _ g.hb, g.br, g.by_, g.ln, g.sm, ⟨mv, s _ _ h1, h2.same s⟩, g.ok, g.kok⟩
def yOf (way : Int) (ys : List Int) : Option (List Int) := if way = 0 then none else some ys
def sp__law_whole {K : PySem.W.Frag} {mg : Str → Option Value} (_ : Defs K mg) : Sp := fun vs H Q _ => ∃ (way : Int) (a b t : Addr) (rs ys : List Int) (m : Mk) (M A : Int) (n : Nat), vs = [.int way, .ref a, .ref b, .ref t, .int (n : Nat)] ∧ Given H a b t rs ys m M A ∧ n ≤ rs.length ∧
  ∀ H' p, Same H H' → FAt H' p (fbN (fun i => m.val i) rs (yOf way ys) ⟨M, A, 0, 0, 0⟩ n) → Q (.ref p) H'
theorem bits_take {rs : List Int} (h : Bits rs) (n : Nat) : Bits (rs.take n) := fun x hx => h x (List.mem_of_mem_take hx)
theorem ok__law_whole (T : Defs K mg) (TT : Tabs T base) : FnOk P w K mg base CX0 8 T.f__law_whole T.fd__law_whole ["_law_way", "_law_row", "_law_by", "_law_made", "_law_n"] (sp__law_whole T) := by
  have G_divided : FnOk P w K mg base (L2.CX P w) 7 T.f_divided T.fd_divided ["row", "by", "maker", "most", "at"] (sp_divided T) := ok_divided T TT
  have G_rooted : FnOk P w K mg base CX0 7 T.f_rooted T.fd_rooted ["row", "maker", "most", "at"] (sp_rooted T) := ok_rooted T TT
  refine T.F__law_whole.ok sc__law_whole (fun vs H Q E h => ?_) (fun cdv A outer s H vs Q E hr h => ?_)
  · obtain ⟨way, a, b, t, rs, ys, m, M, A, n, rfl, g, hn, q⟩ := h
    rfl
  · obtain ⟨way, a, b, t, rs, ys, m, M, A, n, rfl, g, hn, q⟩ := h
    refine ⟨_, PSs.nox (pss_cons (ps_if (pt_cmpR op_eq (pv 0) pe_int (nomark _)) (pss_one (ps_ret (pe_call G_rooted (hr.mono (by decide)) (by rfl) T.g_rooted T.F_rooted.kp T.b_rooted .nil pass0 (pa_cons (pe_slice sl_tupA (pv 1) po_none (po_some (pv 4))) (pa_cons (pe_ix ix_tup (pv 3) pe_int (fun _ _ => rfl)) (pa_cons (pe_ix ix_tup (pv 3) pe_int (fun _ _ => rfl)) (pa_cons (pe_ix ix_tup (pv 3) pe_int (fun _ _ => rfl)) pa_nil))))))) pss_nil)
    (pss_one (ps_ret (pe_call G_divided (hr.mono (by decide)) (by rfl) T.g_divided T.F_divided.kp T.b_divided .nil passL (pa_cons (pe_slice sl_tupA (pv 1) po_none (po_some (pv 4))) (pa_cons (pe_slice sl_tupA (pv 2) po_none (po_some (pv 4))) (pa_cons (pe_ix ix_tup (pv 3) pe_int (fun _ _ => rfl)) (pa_cons (pe_ix ix_tup (pv 3) pe_int (fun _ _ => rfl)) (pa_cons (pe_ix ix_tup (pv 3) pe_int (fun _ _ => rfl)) pa_nil))))))))), ?_⟩
    obtain ⟨mv, ht, hm⟩ := g.hmk
    have hsm := g.sm
    have hln := g.ln
    have l1 : (rs.take n).length = n := by rw [List.length_take]; omega
    have l2 : (ys.take n).length = n := by rw [List.length_take]; omega
    refine ⟨_, rfl, rfl, _, rfl, ite2 (fun e => ?_) (fun e => ?_)⟩
    · have ew : way = 0 := V.int.inj (of_decide_eq_true e)
      refine ⟨_, rfl, _, rfl, _, rfl, slice_take g.ha hn fun G1 r s1 hr1 => ?_⟩
      have ht1 := s1 _ _ ht
      refine ⟨_, rfl, t, _, 0, _, rfl, rfl, SqT.mk ht1, atI_nat (j := 0) rfl, _, rfl, t, _, 1, _, rfl, rfl, SqT.mk ht1, atI_nat (j := 1) rfl, _, rfl, t, _, 2, _, rfl, rfl, SqT.mk ht1, atI_nat (j := 2) rfl, r, rs.take n, m, mv, M, A, rfl, hr1, bits_take g.br n, by omega, hm.same s1, g.ok, fun G2 p s2 hp => ?_⟩
      refine q _ p (s1.trans s2) ?_
      rw [l1] at hp
      have := fbN_cut (f := fun (i : Nat) => m.val i) (rs := rs) (y := none) (k0 := ⟨M, A, 0, 0, 0⟩) n (Nat.le_refl n)
      rw [show yOf way ys = none from if_pos ew, ← this]
      exact hp
    · have ew : ¬ way = 0 := fun z => e (decide_eq_true (by rw [z]))
      refine ⟨_, rfl, _, rfl, _, rfl, slice_take g.ha hn fun G1 r s1 hr1 => ?_⟩
      refine ⟨_, rfl, _, rfl, _, rfl, slice_take (s1 _ _ g.hb) (by omega) fun G2 r2 s2 hr2 => ?_⟩
      have s12 := s1.trans s2
      have ht1 := s12 _ _ ht
      refine ⟨_, rfl, t, _, 0, _, rfl, rfl, SqT.mk ht1, atI_nat (j := 0) rfl, _, rfl, t, _, 1, _, rfl, rfl, SqT.mk ht1, atI_nat (j := 1) rfl, _, rfl, t, _, 2, _, rfl, rfl, SqT.mk ht1, atI_nat (j := 2) rfl, r, r2, rs.take n, ys.take n, m, mv, M, A, rfl, s2 _ _ hr1, hr2, bits_take g.br n, bits_take g.by_ n, by omega, hm.same s12, g.ok, .inl ⟨by omega, fun G3 p s3 hp => ?_⟩⟩
      refine q _ p (s12.trans s3) ?_
      rw [l1] at hp
      have := fbN_cut (f := fun (i : Nat) => m.val i) (rs := rs) (y := some ys) (k0 := ⟨M, A, 0, 0, 0⟩) n (Nat.le_refl n)
      rw [show yOf way ys = some ys from if_neg ew, ← this]
      exact hp
def sp__law_right {K : PySem.W.Frag} {mg : Str → Option Value} (_ : Defs K mg) : Sp := fun vs H Q _ => ∃ (a b t : Addr) (way : Int) (rs ys : List Int) (m : Mk) (M A : Int), vs = [.ref a, .ref b, .ref t, .int way] ∧ Given H a b t rs ys m M A ∧ ∀ H', Same H H' → Q (.bl true) H'
theorem ok__law_right (T : Defs K mg) (TT : Tabs T base) : FnOk P w K mg base CX0 9 T.f__law_right T.fd__law_right ["_law_row", "_law_by", "_law_made", "_law_way"] (sp__law_right T) := by
  have G__law_whole : FnOk P w K mg base CX0 8 T.f__law_whole T.fd__law_whole ["_law_way", "_law_row", "_law_by", "_law_made", "_law_n"] (sp__law_whole T) := ok__law_whole T TT
  have G_Keeper___init__ : FnOk P w K mg base CX0 1 T.f_Keeper___init__ T.fd_Keeper___init__ ["self", "most", "at"] (sp_Keeper___init__ T) := ok_Keeper___init__ T TT
  have G_Keeper_beat : FnOk P w K mg base CX0 2 T.f_Keeper_beat T.fd_Keeper_beat ["self", "up", "down"] (sp_Keeper_beat T) := ok_Keeper_beat T TT
  have G_Keeper_beats_now : FnOk P w K mg base CX0 1 T.f_Keeper_beats_now T.fd_Keeper_beats_now ["self"] (sp_Keeper_beats_now T) := ok_Keeper_beats_now T TT
  have G_Keeper_lost_now : FnOk P w K mg base CX0 1 T.f_Keeper_lost_now T.fd_Keeper_lost_now ["self"] (sp_Keeper_lost_now T) := ok_Keeper_lost_now T TT
  have G_Keeper_at_now : FnOk P w K mg base CX0 1 T.f_Keeper_at_now T.fd_Keeper_at_now ["self"] (sp_Keeper_at_now T) := ok_Keeper_at_now T TT
  have G__law_sums : FnOk P w K mg base CX0 1 T.f__law_sums T.fd__law_sums ["_law_row", "_law_found", "_law_at", "_law_n"] (sp__law_sums K) := ok__law_sums T TT
  refine T.F__law_right.ok sc__law_right (fun vs H Q E h => ?_) (fun cdv A outer s H vs Q E hr h => ?_)
  · obtain ⟨a, b, t, way, rs, ys, m, M, A, rfl, g, q⟩ := h
    rfl
  · obtain ⟨a, b, t, way, rs, ys, m, M, A, rfl, g, q⟩ := h
    refine ⟨_, PSs.nox (pss_cons (ps_asg (pe_call G__law_whole (hr.mono (by decide)) (by rfl) T.g__law_whole T.F__law_whole.kp T.b__law_whole .nil pass0 (pa_cons (pv 3) (pa_cons (pv 0) (pa_cons (pv 1) (pa_cons (pv 2) (pa_cons (pe_callB call_len_seq (by rfl) T.m_len bt_len (pa_cons (pv 0) pa_nil)) pa_nil)))))) (pg_tup rfl (pgs_cons (pg_name (i := 4) sc__law_right.nd rfl (.inl rfl)) (pgs_cons (pg_name (i := 5) sc__law_right.nd rfl (.inl rfl)) (pgs_cons (pg_name (i := 6) sc__law_right.nd rfl (.inl rfl)) (pgs_cons (pg_name (i := 7) sc__law_right.nd rfl (.inl rfl)) pgs_nil))))))
    (pss_cons (ps_par (i := 8) (j := 9) (by rfl) sc__law_right.nd rfl rfl (by decide) rfl rfl (pa_cons (pe_make T.mk_Keeper G_Keeper___init__ (hr.mono (by decide)) (by rfl) T.g_Keeper T.b_Keeper___init__ .nil pass0 (pa_cons (pe_ix ix_tup (pv 2) pe_int (fun _ _ => rfl)) (pa_cons (pe_ix ix_tup (pv 2) pe_int (fun _ _ => rfl)) pa_nil))) (pa_cons (pe_cmpR op_in_seq (pe_ix ix_tup (pv 2) pe_int (fun _ _ => rfl)) (pe_tup (pa_cons pe_int (pa_cons (pe_ix ix_tup (pv 2) pe_int (fun _ _ => rfl)) pa_nil))) rfl) pa_nil)) (by rfl))
    (pss_cons (ps_for PassesOwn.never rfl (pi_range2 (by rfl) T.m_range (pa_cons pe_int (pa_cons (pe_op op_add (pe_callB call_len_seq (by rfl) T.m_len bt_len (pa_cons (pv 0) pa_nil)) pe_int) pa_nil))) (pg_name (i := 10) sc__law_right.nd rfl (.inl rfl)) (pss_cons (ps_set (i := 11) sc__law_right.nd rfl (.inl rfl) (pe_meth (pv 8) T.cl_Keeper T.mt_Keeper_beat G_Keeper_beat (hr.mono (by decide)) T.b_Keeper_beat .nil pass0 (pa_cons (pe_ix ix_tup (pv 0) (pe_op op_sub (pv 10) pe_int) (fun _ _ => rfl)) (pa_cons (pe_ix ix_tup (pv 5) (pe_op op_sub (pv 10) pe_int) (fun _ _ => rfl)) pa_nil))))
    (pss_cons (ps_set (i := 9) sc__law_right.nd rfl (.inl rfl) (pe_or (pv 9) (pe_one (pe_cmpR op_in_seq (pv 11) (pe_tup (pa_cons pe_int (pa_cons (pe_ix ix_tup (pv 2) pe_int (fun _ _ => rfl)) pa_nil))) rfl))))
    (pss_cons (ps_if (PW.pt (pw_and (pt_not (pt_val (pv 9))) (pw_and1 (pt_cmpR (op_neD hr.units) (pe_meth0 (pv 8) T.cl_Keeper T.mt_Keeper_lost_now G_Keeper_lost_now (hr.mono (by decide)) T.b_Keeper_lost_now .nil pass0) (pe_tup (pa_cons pe_int (pa_cons pe_int pa_nil))) (nomark _))))) (pss_one (ps_ret pe_bl)) pss_nil)
    (pss_one (ps_if (PW.pt (pw_or (pt_cmpR op_eq (pe_op op_mod (pv 10) pe_int) pe_int (nomark _)) (pw_or1 (pt_cmpR op_in_seq (pv 10) (pe_tup (pa_cons pe_int (pa_cons (pe_callB call_len_seq (by rfl) T.m_len bt_len (pa_cons (pv 0) pa_nil)) pa_nil))) rfl)))) (pss_cons (ps_set (i := 12) sc__law_right.nd rfl (.inl rfl) (pe_call G__law_whole (hr.mono (by decide)) (by rfl) T.g__law_whole T.F__law_whole.kp T.b__law_whole .nil pass0 (pa_cons (pv 3) (pa_cons (pv 0) (pa_cons (pv 1) (pa_cons (pv 2) (pa_cons (pv 10) pa_nil)))))))
    (pss_one (ps_if (PW.pt (pw_or (pt_cmpR (op_neD hr.units) (pv 12) (pe_tup (pa_cons (pe_slice sl_tupA (pv 4) po_none (po_some (pv 10))) (pa_cons (pe_slice sl_tupA (pv 5) po_none (po_some (pv 10))) (pa_cons (pv 11) (pa_cons (pe_meth0 (pv 8) T.cl_Keeper T.mt_Keeper_lost_now G_Keeper_lost_now (hr.mono (by decide)) T.b_Keeper_lost_now .nil pass0) pa_nil))))) (nomark _)) (pw_or1 (pt_not (pt_val (pe_call G__law_sums (hr.mono (by decide)) (by rfl) T.g__law_sums T.F__law_sums.kp T.b__law_sums .nil pass0 (pa_cons (pv 0) (pa_cons (pv 12) (pa_cons (pe_ix ix_tup (pv 2) pe_int (fun _ _ => rfl)) (pa_cons (pv 10) pa_nil)))))))))) (pss_one (ps_ret pe_bl)) pss_nil))) pss_nil))))))
    (pss_one (ps_ret (pe_and (pe_cmpR (op_eqD hr.units) (pe_tup (pa_cons (pv 6) (pa_cons (pv 7) pa_nil))) (pe_tup (pa_cons (pe_meth0 (pv 8) T.cl_Keeper T.mt_Keeper_at_now G_Keeper_at_now (hr.mono (by decide)) T.b_Keeper_at_now .nil pass0) (pa_cons (pe_meth0 (pv 8) T.cl_Keeper T.mt_Keeper_lost_now G_Keeper_lost_now (hr.mono (by decide)) T.b_Keeper_lost_now .nil pass0) pa_nil))) (nomark _)) (pe_one (pe_cmpR op_eq (pe_meth0 (pv 8) T.cl_Keeper T.mt_Keeper_beats_now G_Keeper_beats_now (hr.mono (by decide)) T.b_Keeper_beats_now .nil pass0) (pe_callB call_len_seq (by rfl) T.m_len bt_len (pa_cons (pv 0) pa_nil)) (nomark _))))))))), ?_⟩
    have hsl : sizeLine = 16777216 := by decide
    have hsm := g.sm
    have yok : YOk (yOf way ys) := fun zs e => by
      unfold yOf at e
      split at e
      · cases e
      · cases e
        exact g.by_
    refine ⟨_, rfl, _, rfl, _, rfl, _, rfl, _, rfl, a, _, rfl, .inr (SqT.mk g.ha), way, a, b, t, rs, ys, m, M, A, _, rfl, g, Nat.le_of_eq (List.length_map _), fun G1 p s1 hp => ?_⟩
    rw [List.length_map] at hp
    obtain ⟨o, d, lo, h1, h2, h3, h4⟩ := id hp
    refine ⟨p, _, rfl, SqT.mk h1, rfl, _, _, rfl, _, _, rfl, _, _, rfl, _, _, rfl, rfl, ?_⟩
    obtain ⟨mv, ht0, hm0⟩ := g.hmk
    have ht1 := s1 _ _ ht0
    refine ⟨_, rfl, t, _, 1, _, rfl, rfl, SqT.mk ht1, atI_nat (j := 1) rfl, _, rfl, t, _, 2, _, rfl, rfl, SqT.mk ht1, atI_nat (j := 2) rfl, fun x dx nx ndx ne => ⟨x, dx, M, A, rfl, upd_same, fun E bE kE => ⟨rfl, ?_⟩⟩⟩
    have sE : Same G1 E := fun p o e => bE _ _ (ne_of_none e nx) (by rw [upd_ne (ne_of_none e nx), upd_ne (ne_of_none e ndx)]; exact e)
    have htE := sE _ _ ht1
    refine ⟨_, rfl, t, _, 2, _, rfl, rfl, SqT.mk htE, atI_nat (j := 2) rfl, _, rfl, t, _, 1, _, rfl, rfl, SqT.mk htE, atI_nat (j := 1) rfl, (show 2 ≤ sizeLine by decide), fun tp ntp => ⟨tp, _, rfl, .inr (SqT.mk upd_same), rfl, rfl, _, _, rfl, ?_⟩⟩
    rw [if_neg Bool.false_ne_true, in2]
    have sT := same_upd ntp (o := .tup [.int 0, .int M])
    have kT := kE.same sT
    have sGT := sE.trans sT
    have gT := g.same (s1.trans sGT)
    generalize upd E tp (.tup [.int 0, .int M]) = G2 at kT sGT gT ⊢
    clear sT kE bE sE ntp ndx ne htE
    obtain ⟨f, hf⟩ : ∃ f : Nat → Int, (fun (i : Nat) => m.val i) = f := ⟨_, rfl⟩
    obtain ⟨y, ey⟩ : ∃ y, yOf way ys = y := ⟨_, rfl⟩
    rw [hf, ey] at hp h1 h2 h3 h4 ⊢
    rw [ey] at yok
    have hr0 : (decide (A = 0 ∨ A = M)) = true ↔ Rch f rs y ⟨M, A, 0, 0, 0⟩ 0 := by
      rw [decide_eq_true_iff]
      refine ⟨fun z => ⟨0, Nat.le_refl 0, z⟩, fun z => ?_⟩
      obtain ⟨s, hs, z⟩ := z
      obtain rfl : s = 0 := by omega
      exact z
    have ln := fbN_len (f := f) (rs := rs) (y := y) (k0 := ⟨M, A, 0, 0, 0⟩)
    refine ⟨_, rfl, a, _, rfl, .inr (SqT.mk gT.ha), _, _, rfl, rfl, _, _, rfl, ⟨by decide, by decide, by rw [List.length_map]; omega, by rw [List.length_map]; omega⟩, ?_⟩
    refine for_range (fun i σ G => ∃ y10 y11 y12, ∃ rb : Bool, σ = [some (.ref a), some (.ref b), some (.ref t), some (.int way), some (.ref o), some (.ref d), some (.int (fbN f rs y ⟨M, A, 0, 0, 0⟩ rs.length).k.at_), some (.ref lo), some (.ref x), some (.bl rb), y10, y11, y12] ∧ (rb = true ↔ Rch f rs y ⟨M, A, 0, 0, 0⟩ i) ∧ Same G1 G ∧ KAt T.C_Keeper G x (fbN f rs y ⟨M, A, 0, 0, 0⟩ i).k) ⟨none, none, none, _, rfl, hr0, sGT, kT⟩ ?_ ?_
    · rintro i σ G hi ⟨y10, y11, y12, rb, rfl, hrb, sG, kG⟩
      have hi2 : i < rs.length := by
        rw [List.length_map] at hi
        omega
      have gG := g.same (s1.trans sG)
      obtain ⟨dx2, hx2⟩ := id kG
      have iv : ∀ (zs : List Int), rs.length ≤ zs.length → atI (zs.map V.int) (1 + (i : Int) - 1) = some (.int (zs.getD i 0)) := fun zs hz => by
        rw [show (1 + (i : Int) - 1) = (i : Nat) by omega]
        exact atI_nat (ints_get (by omega))
      have fb : Bits (fbN f rs y ⟨M, A, 0, 0, 0⟩ rs.length).fed := (fbN_bits yok rs.length).2.1
      refine ⟨_, rfl, x, dx2, _, rfl, hx2, fl_nobeat _, _, rfl, _, rfl, _, _, rfl, rfl, a, _, _, _, rfl, rfl, SqT.mk gG.ha, iv rs (Nat.le_refl _), _, rfl, _, rfl, _, _, rfl, rfl, d, _, _, _, rfl, rfl, SqT.mk (sG _ _ h3), iv _ (by rw [(ln _).2]; exact Nat.le_refl _), x, _, _, _, rfl, kG, bt_get g.br i, bt_get fb i, fun W bW kW => ?_⟩
      rw [← fbN_k_succ hi2] at kW ⊢
      have sW : Same G1 W := But.same nx sG bW
      have gW := g.same (s1.trans sW)
      obtain ⟨mvW, htW, _⟩ := gW.hmk
      refine nx_via (fun σ F => ∃ rb : Bool, σ = [some (.ref a), some (.ref b), some (.ref t), some (.int way), some (.ref o), some (.ref d), some (.int (fbN f rs y ⟨M, A, 0, 0, 0⟩ rs.length).k.at_), some (.ref lo), some (.ref x), some (.bl rb), some (.int (1 + (i : Int))), some (.int (fbN f rs y ⟨M, A, 0, 0, 0⟩ (i + 1)).k.at_), y12] ∧ (rb = true ↔ Rch f rs y ⟨M, A, 0, 0, 0⟩ (i + 1)) ∧ Same W F) (fun N key => ?_) ?_
      · refine ⟨_, rfl, rb, rfl, ite2 (fun e => ?_) (fun e => ?_)⟩
        · exact key _ _ ⟨true, rfl, ⟨fun _ => rch_succ.mpr (.inl (hrb.mp e)), fun _ => rfl⟩, Same.refl W⟩
        · refine ⟨_, rfl, _, rfl, t, _, 1, _, rfl, rfl, SqT.mk htW, atI_nat (j := 1) rfl, (show 2 ≤ sizeLine by decide), fun tp ntp => ⟨tp, _, rfl, .inr (SqT.mk upd_same), rfl, rfl, ?_⟩⟩
          rw [if_neg Bool.false_ne_true, in2]
          refine key _ _ ⟨_, rfl, ?_, same_upd ntp⟩
          rw [decide_eq_true_iff, rch_succ]
          exact ⟨.inr, fun z => z.resolve_left (fun w => e (hrb.mpr w))⟩
      clear hrb rb
      rintro σ F ⟨rb, rfl, hrb, sF⟩
      have sHF := sW.trans sF
      have kF := kW.same sF
      obtain ⟨dx3, hx3⟩ := id kF
      have hlost := fbN_none_lost (f := f) g.br yok g.kok (i + 1)
      dsimp only at hlost
      refine seq_via (fun σ F2 => σ = [some (.ref a), some (.ref b), some (.ref t), some (.int way), some (.ref o), some (.ref d), some (.int (fbN f rs y ⟨M, A, 0, 0, 0⟩ rs.length).k.at_), some (.ref lo), some (.ref x), some (.bl rb), some (.int (1 + (i : Int))), some (.int (fbN f rs y ⟨M, A, 0, 0, 0⟩ (i + 1)).k.at_), y12] ∧ Same F F2) (fun N key => ?_) ?_
      · refine ⟨_, rfl, _, rfl, ite2 (fun e => ?_) (fun e => ?_)⟩
        · have nr : ¬ Rch f rs y ⟨M, A, 0, 0, 0⟩ (i + 1) := fun z => by
            rw [hrb.mpr z] at e
            cases e
          obtain ⟨z1, z2⟩ := hlost nr
          refine ⟨_, rfl, x, dx3, _, rfl, hx3, fl_nolost _, x, _, rfl, kF, fun F1 tl sl nl htl => ⟨(show 2 ≤ sizeLine by decide), fun tz ntz => ?_⟩⟩
          have sz := same_upd ntz (o := .tup [.int 0, .int 0])
          refine neI2 (sz _ _ htl) upd_same z1 z2 ⟨_, rfl, iteF ?_⟩
          exact key _ _ ⟨rfl, sl.trans sz⟩
        · exact key _ _ ⟨rfl, Same.refl F⟩
      clear hlost
      rintro σ F2 ⟨rfl, sF2⟩
      have sH2 := sHF.trans sF2
      have k2 := kF.same sF2
      have g2 := g.same (s1.trans sH2)
      obtain ⟨mv2, ht2, _⟩ := g2.hmk
      have h22 := sH2 _ _ h2
      have h32 := sH2 _ _ h3
      have sm := fbN_sum (f := f) g.br yok g.kok (i + 1) hi2
      dsimp only at sm
      obtain ⟨dd, hdd⟩ : ∃ dd, rs.length = (i + 1) + dd := ⟨rs.length - (i + 1), by omega⟩
      have eo : (fbN f rs y ⟨M, A, 0, 0, 0⟩ rs.length).out.take (i + 1) = (fbN f rs y ⟨M, A, 0, 0, 0⟩ (i + 1)).out := by
        rw [hdd]
        exact fbN_out_take dd (i + 1)
      have ef : (fbN f rs y ⟨M, A, 0, 0, 0⟩ rs.length).fed.take (i + 1) = (fbN f rs y ⟨M, A, 0, 0, 0⟩ (i + 1)).fed := by
        rw [hdd]
        exact fbN_fed_take dd (i + 1)
      refine ⟨_, rfl, _, _, rfl, rfl, (show (0 : Int) < 7 by decide), rfl, _, rfl, ite2 (fun e => ?_) (fun e => ?_)⟩
      · have s3 : Same F2 F2 := Same.refl F2
        have ht3 := s3 _ _ ht2
        have h13 : ((1 : Int) + (i : Int)) = ((i + 1 : Nat) : Int) := by omega
        refine ⟨_, rfl, _, rfl, _, rfl, _, rfl, _, rfl, way, a, b, t, rs, ys, m, M, A, i + 1, by rw [← h13]; rfl, g2.same s3, hi2, fun F4 p4 s4 hp4 => ?_⟩
        rw [hf, ey] at hp4
        have s34 := s3.trans s4
        refine ⟨_, rfl, _, rfl, _, rfl, _, rfl, slice_takeI h13 (s34 _ _ h22) (by rw [(ln _).1]; exact hi2) fun F5 r5 s5 hr5 => ?_⟩
        have s35 := s34.trans s5
        refine ⟨_, rfl, _, rfl, _, rfl, slice_takeI h13 (s35 _ _ h32) (by rw [(ln _).2]; exact hi2) fun F6 r6 s6 hr6 => ?_⟩
        have s36 := s35.trans s6
        rw [eo] at hr5
        rw [ef] at hr6
        have k6 := k2.same s36
        obtain ⟨dx6, hx6⟩ := id k6
        refine ⟨_, rfl, _, rfl, x, dx6, _, rfl, hx6, fl_nolost _, x, _, rfl, k6, fun F7 tl sl nl htl => ⟨(show 4 ≤ sizeLine by decide), fun tq ntq => ?_⟩⟩
        have sq := same_upd ntq (o := .tup [.ref r5, .ref r6, .int (fbN f rs y ⟨M, A, 0, 0, 0⟩ (i + 1)).k.at_, .ref tl])
        have s67 := s6.trans (sl.trans sq)
        have s57 := s5.trans s67
        have sAll := s4.trans s57
        have s3A := s3.trans sAll
        refine FAt.ne (hp4.same s57) ⟨r5, r6, tl, upd_same, s67 _ _ hr5, (sl.trans sq) _ _ hr6, sq _ _ htl⟩ ⟨_, rfl, iteF ?_⟩
        refine ⟨_, rfl, _, rfl, _, rfl, t, _, 2, _, rfl, rfl, SqT.mk (s3A _ _ ht2), atI_nat (j := 2) rfl, _, rfl, a, p4, rs, fbN f rs y ⟨M, A, 0, 0, 0⟩ (i + 1), A, i + 1, by rw [← h13]; rfl, s3A _ _ g2.ha, hp4.same s57, hi2, (ln _).1, by omega, fun F8 s8 => ⟨_, rfl, iteF ?_⟩⟩
        exact ⟨_, _, _, rb, rfl, hrb, sH2.trans (s3A.trans s8), k2.same (s3A.trans s8)⟩
      refine ⟨_, rfl, _, rfl, a, _, rfl, .inr (SqT.mk g2.ha), (show 2 ≤ sizeLine by decide), fun tp ntp => ⟨tp, _, rfl, .inr (SqT.mk upd_same), rfl, rfl, _, rfl, ite2 (fun e => ?_) (fun _ => ?_)⟩⟩
      · have s3 := same_upd ntp (o := .tup [.int 1, .int (((rs.map V.int).length : Nat) : Int)])
        have ht3 := s3 _ _ ht2
        have h13 : ((1 : Int) + (i : Int)) = ((i + 1 : Nat) : Int) := by omega
        refine ⟨_, rfl, _, rfl, _, rfl, _, rfl, _, rfl, way, a, b, t, rs, ys, m, M, A, i + 1, by rw [← h13]; rfl, g2.same s3, hi2, fun F4 p4 s4 hp4 => ?_⟩
        rw [hf, ey] at hp4
        have s34 := s3.trans s4
        refine ⟨_, rfl, _, rfl, _, rfl, _, rfl, slice_takeI h13 (s34 _ _ h22) (by rw [(ln _).1]; exact hi2) fun F5 r5 s5 hr5 => ?_⟩
        have s35 := s34.trans s5
        refine ⟨_, rfl, _, rfl, _, rfl, slice_takeI h13 (s35 _ _ h32) (by rw [(ln _).2]; exact hi2) fun F6 r6 s6 hr6 => ?_⟩
        have s36 := s35.trans s6
        rw [eo] at hr5
        rw [ef] at hr6
        have k6 := k2.same s36
        obtain ⟨dx6, hx6⟩ := id k6
        refine ⟨_, rfl, _, rfl, x, dx6, _, rfl, hx6, fl_nolost _, x, _, rfl, k6, fun F7 tl sl nl htl => ⟨(show 4 ≤ sizeLine by decide), fun tq ntq => ?_⟩⟩
        have sq := same_upd ntq (o := .tup [.ref r5, .ref r6, .int (fbN f rs y ⟨M, A, 0, 0, 0⟩ (i + 1)).k.at_, .ref tl])
        have s67 := s6.trans (sl.trans sq)
        have s57 := s5.trans s67
        have sAll := s4.trans s57
        have s3A := s3.trans sAll
        refine FAt.ne (hp4.same s57) ⟨r5, r6, tl, upd_same, s67 _ _ hr5, (sl.trans sq) _ _ hr6, sq _ _ htl⟩ ⟨_, rfl, iteF ?_⟩
        refine ⟨_, rfl, _, rfl, _, rfl, t, _, 2, _, rfl, rfl, SqT.mk (s3A _ _ ht2), atI_nat (j := 2) rfl, _, rfl, a, p4, rs, fbN f rs y ⟨M, A, 0, 0, 0⟩ (i + 1), A, i + 1, by rw [← h13]; rfl, s3A _ _ g2.ha, hp4.same s57, hi2, (ln _).1, by omega, fun F8 s8 => ⟨_, rfl, iteF ?_⟩⟩
        exact ⟨_, _, _, rb, rfl, hrb, sH2.trans (s3A.trans s8), k2.same (s3A.trans s8)⟩
      · have s3 := same_upd ntp (o := .tup [.int 1, .int (((rs.map V.int).length : Nat) : Int)])
        exact ⟨_, _, _, rb, rfl, hrb, sH2.trans s3, k2.same s3⟩
    · rintro σ G ⟨y10, y11, y12, rb, rfl, hrb, sG, kG⟩
      rw [show ((((rs.map V.int).length : Nat) : Int) + 1 - 1).toNat = rs.length by rw [List.length_map]; omega] at kG
      have bts := fbN_beats (f := f) (rs := rs) (y := y) (k0 := ⟨M, A, 0, 0, 0⟩) rs.length
      dsimp only at bts
      have gG := g.same (s1.trans sG)
      refine ⟨_, rfl, _, rfl, (show 2 ≤ sizeLine by decide), fun t1 n1 => ?_⟩
      have st1 := same_upd n1 (o := .tup [.int (fbN f rs y ⟨M, A, 0, 0, 0⟩ rs.length).k.at_, .ref lo])
      have k1 := kG.same st1
      obtain ⟨dx2, hx2⟩ := id k1
      refine ⟨_, rfl, x, dx2, _, rfl, hx2, fl_noat _, x, _, rfl, k1, _, rfl, x, dx2, _, rfl, hx2, fl_nolost _, x, _, rfl, k1, fun F1 tl sl nl htl => ⟨(show 2 ≤ sizeLine by decide), fun t2 n2 => ?_⟩⟩
      have st2 := same_upd n2 (o := .tup [.int (fbN f rs y ⟨M, A, 0, 0, 0⟩ rs.length).k.at_, .ref tl])
      have s12 := sl.trans st2
      have s02 := st1.trans s12
      refine eqIP (s12 _ _ upd_same) upd_same (s02 _ _ (sG _ _ h4)) (st2 _ _ htl) ⟨_, rfl, iteT ?_⟩
      have k2 := kG.same s02
      obtain ⟨dx3, hx3⟩ := id k2
      refine ⟨_, rfl, x, dx3, _, rfl, hx3, fl_nobeats _, x, _, rfl, k2, _, rfl, a, _, rfl, .inr (SqT.mk (s02 _ _ gG.ha)), rfl, ?_⟩
      rw [bts, List.length_map, Int.zero_add, decide_eq_true rfl]
      exact q _ (s1.trans (sG.trans s02))
def sp__law_full_right {K : PySem.W.Frag} {mg : Str → Option Value} (_ : Defs K mg) : Sp := fun vs H Q _ => ∃ (t : Addr) (n : Nat) (m : Mk) (mv : V) (M A : Int), vs = [.ref t, .int (n : Nat)] ∧ H t = some (.tup [mv, .int M, .int A]) ∧ MkAt H m mv ∧ m.Ok ∧ KS.Ok ⟨M, A, 0, 0, 0⟩ ∧ n ≤ 10000 ∧ ∀ H', Same H H' → Q (.bl true) H'
theorem dI {a b : Int} (h : a = b) : decide (V.int a = V.int b) = true := decide_eq_true (by rw [h])
theorem ok__law_full_right (T : Defs K mg) (TT : Tabs T base) : FnOk P w K mg base CX0 8 T.f__law_full_right T.fd__law_full_right ["_law_made", "_law_beats"] (sp__law_full_right T) := by
  have G_divided : FnOk P w K mg base (L2.CX P w) 7 T.f_divided T.fd_divided ["row", "by", "maker", "most", "at"] (sp_divided T) := ok_divided T TT
  refine T.F__law_full_right.ok sc__law_full_right (fun vs H Q E h => ?_) (fun cdv A outer s H vs Q E hr h => ?_)
  · obtain ⟨t, n, m, mv, M, A, rfl, ht, hm, ok, kok, hn, q⟩ := h
    rfl
  · obtain ⟨t, n, m, mv, M, A, rfl, ht, hm, ok, kok, hn, q⟩ := h
    refine ⟨_, PSs.nox (pss_cons (ps_asg (pe_call G_divided (hr.mono (by decide)) (by rfl) T.g_divided T.F_divided.kp T.b_divided .nil passL (pa_cons (pe_op op_repB (pe_tup (pa_cons pe_int pa_nil)) (pv 1)) (pa_cons (pe_op op_repB (pe_tup (pa_cons pe_int pa_nil)) (pv 1)) (pa_cons (pe_ix ix_tup (pv 0) pe_int (fun _ _ => rfl)) (pa_cons (pe_ix ix_tup (pv 0) pe_int (fun _ _ => rfl)) (pa_cons (pe_ix ix_tup (pv 0) pe_int (fun _ _ => rfl)) pa_nil)))))) (pg_tup rfl (pgs_cons (pg_name (i := 2) sc__law_full_right.nd rfl (.inl rfl)) (pgs_cons (pg_name (i := 3) sc__law_full_right.nd rfl (.inl rfl)) (pgs_cons (pg_name (i := 4) sc__law_full_right.nd rfl (.inl rfl)) (pgs_cons (pg_name (i := 5) sc__law_full_right.nd rfl (.inl rfl)) pgs_nil))))))
    (pss_cons (ps_set (i := 6) sc__law_full_right.nd rfl (.inl rfl) (pe_callB (call_min2 rfl) (by rfl) T.m_min bt_min (pa_cons (pv 1) (pa_cons (pe_op op_sub (pe_ix ix_tup (pv 0) pe_int (fun _ _ => rfl)) (pe_ix ix_tup (pv 0) pe_int (fun _ _ => rfl))) pa_nil))))
    (pss_one (ps_ret (pe_and (pe_cmpR op_eq (pe_callB (cr_sumT rfl) (by rfl) T.m_sum bt_sum (pa_cons (pv 3) pa_nil)) pe_int (nomark _)) (pe_and (pe_cmpR op_eq (pv 4) (pe_op op_add (pe_ix ix_tup (pv 0) pe_int (fun _ _ => rfl)) (pv 6)) (nomark _)) (pe_and (pe_cmpR (op_eqD hr.units) (pv 5) (pe_tup (pa_cons (pe_op op_sub (pv 1) (pv 6)) (pa_cons pe_int pa_nil))) (nomark _)) (pe_one (pe_cmpR op_eq (pe_callB call_len_seq (by rfl) T.m_len bt_len (pa_cons (pv 2) pa_nil)) (pv 1) (nomark _)))))))))), ?_⟩
    refine ⟨(show 1 ≤ sizeLine by decide), fun t1 n1 => ⟨_, rfl, rep_go (k := n) rfl upd_same (by omega) fun G1 p1 s1 hp1 => ?_⟩⟩
    have u1 := (same_upd n1 (o := .tup [.int 1])).trans s1
    refine ⟨(show 1 ≤ sizeLine by decide), fun t2 n2 => ⟨_, rfl, rep_go (k := n) rfl upd_same (by omega) fun G2 p2 s2 hp2 => ?_⟩⟩
    have u2 := (same_upd n2 (o := .tup [.int 0])).trans s2
    have u12 := u1.trans u2
    have ht2 := u12 _ _ ht
    refine ⟨_, rfl, t, _, 0, _, rfl, rfl, SqT.mk ht2, atI_nat (j := 0) rfl, _, rfl, t, _, 1, _, rfl, rfl, SqT.mk ht2, atI_nat (j := 1) rfl, _, rfl, t, _, 2, _, rfl, rfl, SqT.mk ht2, atI_nat (j := 2) rfl, p1, p2, List.replicate n 1, List.replicate n 0, m, mv, M, A, rfl, u2 _ _ hp1, hp2, fun x hx => .inr (List.eq_of_mem_replicate hx), fun x hx => .inl (List.eq_of_mem_replicate hx), by rw [List.length_replicate]; omega, hm.same u12, ok, .inl ⟨by rw [List.length_replicate, List.length_replicate], fun G3 p s3 hp => ?_⟩⟩
    rw [List.length_replicate] at hp
    obtain ⟨z1, z2, z3, z4⟩ := fb_full (f := fun (i : Nat) => m.val i) (n := n) kok n (Nat.le_refl n)
    have ln := (fbN_len (f := fun (i : Nat) => m.val i) (rs := List.replicate n 1) (y := some (List.replicate n 0)) (k0 := ⟨M, A, 0, 0, 0⟩) n).1
    obtain ⟨o, d, lo, h1, h2, h3, h4⟩ := hp
    generalize fbN (fun (i : Nat) => m.val i) (List.replicate n 1) (some (List.replicate n 0)) ⟨M, A, 0, 0, 0⟩ n = S at h1 h2 h3 h4 z1 z2 z3 z4 ln
    obtain ⟨o1, o2, o3, o4⟩ := kok
    dsimp only at o1 o2 o3 o4
    have ht3 := s3 _ _ ht2
    refine ⟨p, _, rfl, SqT.mk h1, rfl, _, _, rfl, _, _, rfl, _, _, rfl, _, _, rfl, rfl, ?_⟩
    refine ⟨_, rfl, _, rfl, t, _, 1, _, rfl, rfl, SqT.mk ht3, atI_nat (j := 1) rfl, _, rfl, t, _, 2, _, rfl, rfl, SqT.mk ht3, atI_nat (j := 2) rfl, _, _, rfl, rfl, _, _, rfl, ?_⟩
    refine ⟨_, rfl, d, S.fed, rfl, SqT.mk h3, rfl, _, rfl, ite2 (fun _ => ?_) (fun e => absurd (dI z1) e)⟩
    refine ⟨_, rfl, _, rfl, t, _, 2, _, rfl, rfl, SqT.mk ht3, atI_nat (j := 2) rfl, _, rfl, _, _, rfl, rfl, rfl, _, rfl, ite2 (fun _ => ?_) (fun e => absurd (dI ?_) e)⟩
    rotate_left
    · rw [z2]
      repeat' split
      all_goals omega
    refine ⟨_, rfl, _, rfl, _, rfl, _, _, rfl, rfl, (show 2 ≤ sizeLine by decide), fun tz ntz => ?_⟩
    have sz := same_upd ntz (o := .tup [.int ((n : Int) - (if M - A < (n : Int) then M - A else (n : Int))), .int 0])
    refine eqI2 (sz _ _ h4) upd_same ?_ z4 ⟨_, rfl, iteT ?_⟩
    · rw [z3]
      repeat' split
      all_goals omega
    refine ⟨_, rfl, o, _, rfl, .inr (SqT.mk (sz _ _ h2)), _, rfl, rfl, ?_⟩
    rw [List.length_map, ln, decide_eq_true rfl]
    exact q _ (u12.trans (s3.trans sz))
def Rows (n : Nat) (H : Hp) (qs : List (Addr × List Int)) : Prop := ∀ q, q ∈ qs → H q.1 = some (.tup (q.2.map V.int)) ∧ Bits q.2 ∧ q.2.length = n
theorem Rows.keep {n : Nat} {H H' : Hp} {qs : List (Addr × List Int)} (h : Rows n H qs) (s : ∀ a xs, H a = some (.tup xs) → H' a = some (.tup xs)) : Rows n H' qs := fun q hq => ⟨s _ _ (h q hq).1, (h q hq).2⟩
theorem rowM_bits (m : Mk) (k : Int) (n : Nat) : Bits (rowM m k n) := fun x hx => by
  unfold rowM at hx
  obtain ⟨i, _, rfl⟩ := List.mem_map.mp hx
  exact blw_bit k _
theorem upd_tup {H : Hp} {l a : Addr} {zs xs : List V} {o : HO} (hl : H l = some (.lst zs)) (h : H a = some (.tup xs)) : (upd H l o) a = some (.tup xs) := by
  rw [upd_ne (ne_of h hl (by intro z; cases z))]
  exact h
def sp_law {K : PySem.W.Frag} {mg : Str → Option Value} (T : Defs K mg) : Sp := fun vs H Q _ => ∃ (a : Addr) (ns : List Int), vs = [.ref a] ∧ SqL K H a (ns.map V.int) ∧ ns.length ≤ 63 ∧ (GxR.TabG H T.P_row_below ∧ True) ∧ ∀ H', Q (.bl true) H'
theorem ok_law (T : Defs K mg) (TT : Tabs T base) : FnOk P w K mg base CX0 10 T.f_law T.fd_law ["_law_script"] (sp_law T) := by
  have G__law_folded : FnOk P w K mg base CX0 1 T.f__law_folded T.fd__law_folded ["_law_script", "_law_many"] (sp__law_folded K) := ok__law_folded T TT
  have G__law_box : FnOk P w K mg base CX0 1 T.f__law_box T.fd__law_box ["_law_script", "_law_k"] (sp__law_box K) := ok__law_box T TT
  have G__law_take : FnOk P w K mg base CX0 1 T.f__law_take T.fd__law_take ["_law_box_here", "_law_many"] (sp__law_take K) := ok__law_take T TT
  have G__law_maker : FnOk P w K mg base CX0 4 T.f__law_maker T.fd__law_maker ["_law_box_here", "_law_deep", "_law_most"] (sp__law_maker K) := ok__law_maker T TT
  have G__law_full_right : FnOk P w K mg base CX0 8 T.f__law_full_right T.fd__law_full_right ["_law_made", "_law_beats"] (sp__law_full_right T) := ok__law_full_right T TT
  have G_row_of : FnOk P w K mg base CX0 6 T.f_row_of T.fd_row_of ["maker", "k", "beats"] (sp_row_of T) := ok_row_of T TT
  have G__law_right : FnOk P w K mg base CX0 9 T.f__law_right T.fd__law_right ["_law_row", "_law_by", "_law_made", "_law_way"] (sp__law_right T) := ok__law_right T TT
  refine T.F_law.ok sc_law (fun vs H Q E h => ?_) (fun cdv A outer s H vs Q E hr h => ?_)
  · obtain ⟨a, ns, rfl, hS, hlen, ⟨tg, _⟩, q⟩ := h
    rfl
  · obtain ⟨a, ns, rfl, hS, hlen, ⟨tg, _⟩, q⟩ := h
    refine ⟨_, PSs.nox (pss_cons (ps_set (i := 1) sc_law.nd rfl (.inl rfl) (pe_call G__law_folded (hr.mono (by decide)) (by rfl) T.g__law_folded T.F__law_folded.kp T.b__law_folded .nil pass0 (pa_cons (pv 0) (pa_cons pe_int pa_nil))))
    (pss_cons (ps_for PassesOwn.never rfl (pi_range1 (by rfl) T.m_range (pa_cons (pe_callB (call_max2 rfl) (by rfl) T.m_max bt_max (pa_cons pe_int (pa_cons (pe_callB call_len_seq (by rfl) T.m_len bt_len (pa_cons (pv 1) pa_nil)) pa_nil))) pa_nil)) (pg_name (i := 2) sc_law.nd rfl (.inl rfl)) (pss_cons (ps_set (i := 3) sc_law.nd rfl (.inl rfl) (pe_call G__law_box (hr.mono (by decide)) (by rfl) T.g__law_box T.F__law_box.kp T.b__law_box .nil pass0 (pa_cons (pv 1) (pa_cons (pv 2) pa_nil))))
    (pss_cons (ps_set (i := 4) sc_law.nd rfl (.inl rfl) (pe_op op_add pe_int (pe_call G__law_take (hr.mono (by decide)) (by rfl) T.g__law_take T.F__law_take.kp T.b__law_take .nil pass0 (pa_cons (pv 3) (pa_cons (pe_ifExp (pt_cmpR op_eq (pe_call G__law_take (hr.mono (by decide)) (by rfl) T.g__law_take T.F__law_take.kp T.b__law_take .nil pass0 (pa_cons (pv 3) (pa_cons pe_int pa_nil))) pe_int (nomark _)) pe_int pe_int) pa_nil)))))
    (pss_cons (ps_set (i := 5) sc_law.nd rfl (.inl rfl) (pe_lst pa_nil))
    (pss_cons (ps_for PassesOwn.never rfl (pi_range1 (by rfl) T.m_range (pa_cons pe_int pa_nil)) (pg_name (i := 6) sc_law.nd rfl (.inl rfl)) (pss_one (ps_expr (pe_bm PySem.F.plainAttrs_list PySem.F.slot_list_append PySem.F.type_list_append mt_append (pv 5) (pa_cons (pe_call G_row_of (hr.mono (by decide)) (by rfl) T.g_row_of T.F_row_of.kp T.b_row_of .nil pass0 (pa_cons (pe_call G__law_maker (hr.mono (by decide)) (by rfl) T.g__law_maker T.F__law_maker.kp T.b__law_maker .nil pass0 (pa_cons (pv 3) (pa_cons (pe_call G__law_take (hr.mono (by decide)) (by rfl) T.g__law_take T.F__law_take.kp T.b__law_take .nil pass0 (pa_cons (pv 3) (pa_cons pe_int pa_nil))) (pa_cons pe_int pa_nil)))) (pa_cons (pe_call G__law_take (hr.mono (by decide)) (by rfl) T.g__law_take T.F__law_take.kp T.b__law_take .nil pass0 (pa_cons (pv 3) (pa_cons pe_int pa_nil))) (pa_cons (pv 4) pa_nil)))) pa_nil)))))
    (pss_cons (ps_set (i := 7) sc_law.nd rfl (.inl rfl) (pe_ix ix_list (pe_lst (pa_cons pe_int (pa_cons pe_int (pa_cons pe_int (pa_cons (pe_op op_add pe_int (pe_call G__law_take (hr.mono (by decide)) (by rfl) T.g__law_take T.F__law_take.kp T.b__law_take .nil pass0 (pa_cons (pv 3) (pa_cons pe_int pa_nil)))) pa_nil))))) (pe_call G__law_take (hr.mono (by decide)) (by rfl) T.g__law_take T.F__law_take.kp T.b__law_take .nil pass0 (pa_cons (pv 3) (pa_cons pe_int pa_nil))) (fun _ _ => rfl)))
    (pss_cons (ps_set (i := 8) sc_law.nd rfl (.inl rfl) (pe_tup (pa_cons (pe_call G__law_maker (hr.mono (by decide)) (by rfl) T.g__law_maker T.F__law_maker.kp T.b__law_maker .nil pass0 (pa_cons (pv 3) (pa_cons (pe_call G__law_take (hr.mono (by decide)) (by rfl) T.g__law_take T.F__law_take.kp T.b__law_take .nil pass0 (pa_cons (pv 3) (pa_cons pe_int pa_nil))) (pa_cons pe_int pa_nil)))) (pa_cons (pv 7) (pa_cons (pe_ix ix_list (pe_lst (pa_cons pe_int (pa_cons (pv 7) (pa_cons (pe_call G__law_take (hr.mono (by decide)) (by rfl) T.g__law_take T.F__law_take.kp T.b__law_take .nil pass0 (pa_cons (pv 3) (pa_cons (pe_op op_add (pv 7) pe_int) pa_nil))) pa_nil)))) (pe_call G__law_take (hr.mono (by decide)) (by rfl) T.g__law_take T.F__law_take.kp T.b__law_take .nil pass0 (pa_cons (pv 3) (pa_cons pe_int pa_nil))) (fun _ _ => rfl)) pa_nil)))))
    (pss_cons (ps_for PassesOwn.never rfl (pi_range1 (by rfl) T.m_range (pa_cons pe_int pa_nil)) (pg_name (i := 9) sc_law.nd rfl (.inl rfl)) (pss_one (ps_if (pt_not (pt_val (pe_call G__law_right (hr.mono (by decide)) (by rfl) T.g__law_right T.F__law_right.kp T.b__law_right .nil pass0 (pa_cons (pe_ix ix_list (pv 5) pe_int (fun _ _ => rfl)) (pa_cons (pe_ix ix_list (pv 5) pe_int (fun _ _ => rfl)) (pa_cons (pv 8) (pa_cons (pv 9) pa_nil))))))) (pss_one (ps_ret pe_bl)) pss_nil)))
    (pss_one (ps_if (pt_not (pt_val (pe_call G__law_full_right (hr.mono (by decide)) (by rfl) T.g__law_full_right T.F__law_full_right.kp T.b__law_full_right .nil pass0 (pa_cons (pv 8) (pa_cons (pv 4) pa_nil))))) (pss_one (ps_ret pe_bl)) pss_nil))))))))))
    (pss_one (ps_ret pe_bl)))), ?_⟩
    have hsl : sizeLine = 16777216 := by decide
    refine ⟨.ref a, rfl, a, ns, 3, rfl, hS, hlen, by decide, by decide, fun H1 c cs s1 nc hc lc => ?_⟩
    have tg1 := (Sam.of s1).tabG tg
    have hn : (if (((cs.map V.int).length : Nat) : Int) > 2 then (((cs.map V.int).length : Nat) : Int) else 2) ≤ 3 ∧ 0 ≤ (if (((cs.map V.int).length : Nat) : Int) > 2 then (((cs.map V.int).length : Nat) : Int) else 2) := by
      rw [List.length_map]
      split <;> omega
    refine ⟨.ref c, rfl, c, _, rfl, .inl (SqL.mk hc), _, _, rfl, _, rfl, by omega, by omega, for_range (fun i σ H2 => ∃ y2 y3 y4 y5 y6 y7 y8 y9, σ = [some (.ref a), some (.ref c), y2, y3, y4, y5, y6, y7, y8, y9] ∧ Sam H1 H2) ⟨none, none, none, none, none, none, none, none, rfl, Sam.refl H1⟩ ?_ ?_⟩
    rotate_left
    · rintro σ H2 ⟨y2, y3, y4, y5, y6, y7, y8, y9, rfl, s2⟩
      exact q _
    rintro i σ H2 hi ⟨y2, y3, y4, y5, y6, y7, y8, y9, rfl, s2⟩
    have hi2 : i < 1000 := by omega
    refine ⟨.ref c, rfl, .int (0 + (i : Int)), rfl, c, cs, i, by rw [Int.zero_add]; rfl, SqL.mk (s2.lst hc), hi2, fun H3 b s3 nb hB => ?_⟩
    have nb1 : H1 b = none := s2.free nb
    have s13 := s2.trans (Sam.of s3)
    have tg3 := s13.tabG tg1
    refine nx_via (fun σ G => ∃ n : Nat, σ = [some (.ref a), some (.ref c), some (.int (0 + (i : Int))), some (.ref b), some (.int (n : Nat)), y5, y6, y7, y8, y9] ∧ But b H3 G ∧ Bx G b 10 ∧ 1 ≤ n ∧ n ≤ 300) (fun N key => ?_) ?_
    · refine ⟨.ref b, rfl, .ref b, rfl, b, 8, _, rfl, hB, by decide, by decide, by omega, fun G1 r1 c1 B1 d1 u1 => ⟨rfl, _, rfl, ite2 (fun _ => ?_) (fun _ => ?_)⟩⟩
      · refine ⟨b, 300, _, rfl, B1, by decide, by decide, by omega, fun G2 r2 c2 B2 d2 u2 => ⟨_, _, rfl, rfl, ?_⟩⟩
        obtain ⟨n, hn⟩ := nat_of (show 0 ≤ 1 + r2 by omega)
        refine key _ _ ⟨n, ?_, c1.trans c2, B2.mono (by omega), by omega, by omega⟩
        rw [← hn]
        rfl
      · refine ⟨b, 60, _, rfl, B1, by decide, by decide, by omega, fun G2 r2 c2 B2 d2 u2 => ⟨_, _, rfl, rfl, ?_⟩⟩
        obtain ⟨n, hn⟩ := nat_of (show 0 ≤ 1 + r2 by omega)
        refine key _ _ ⟨n, ?_, c1.trans c2, B2.mono (by omega), by omega, by omega⟩
        rw [← hn]
        rfl
    rintro σ G ⟨n, rfl, bG, BG, hn1, hn2⟩
    refine ⟨(show 0 ≤ sizeLine by decide), fun l nl => ?_⟩
    have nlb : l ≠ b := ne_new BG nl
    have b4 : Bus b H3 (upd G l (.lst [])) := (Bus.of bG).new nl
    have B4 := BG.new nl (o := .lst [])
    have hl4 : (upd G l (.lst [])) l = some (.lst []) := upd_same
    have nl3 : H3 l = none := (Bus.of bG).free hB ⟨_, BG⟩ nl
    generalize upd G l (.lst []) = G4 at b4 B4 hl4 ⊢
    clear bG BG nl
    refine ⟨2, rfl, by decide, by decide, for_range (n := 2) (fun j σ F => ∃ y6, ∃ qs : List (Addr × List Int), σ = [some (.ref a), some (.ref c), some (.int (0 + (i : Int))), some (.ref b), some (.int (n : Nat)), some (.ref l), y6, y7, y8, y9] ∧ Bus b H3 F ∧ Bx F b (10 + 2000 * j) ∧ qs.length = j ∧ F l = some (.lst (qs.map fun q => V.ref q.1)) ∧ Rows n F qs) ⟨_, [], rfl, b4, B4, rfl, hl4, fun q hq => (by cases hq)⟩ ?_ ?_⟩
    · rintro j σ F hj ⟨y6, qs, rfl, bF, BF, lq, hl, hq⟩
      refine ⟨.ref l, rfl, .inl ⟨rfl, _, SqL.mk hl⟩, .ref b, rfl, .ref b, rfl, b, 3, _, rfl, BF, by decide, by decide, by omega, fun F1 r1 c1 B1 d1 u1 => ?_⟩
      obtain ⟨k, rfl⟩ := nat_of d1
      refine ⟨b, 16, _, k, rfl, B1, by omega, by omega, by decide, by decide, by decide, fun F2 mv m c2 B2 hm ok _ _ => ?_⟩
      refine ⟨.ref b, rfl, b, 17, _, rfl, B2, by decide, by decide, by omega, fun F3 r3 c3 B3 d3 u3 => ?_⟩
      have cc := c1.trans (c2.trans c3)
      have bF3 := bF.trans (.of cc)
      refine ⟨_, rfl, m, mv, r3, n, rfl, hm.but B2 c3, ok, by omega, bF3.tabG hB tg3, fun F4 p4 s4 np4 hp4 => ?_⟩
      have kp : ∀ x xs, F x = some (.tup xs) → F4 x = some (.tup xs) := fun x xs e => s4.tup (cc _ _ (BF.ne_tup e) e)
      have hl4 : F4 l = _ := s4.lst (cc _ _ nlb hl)
      refine ⟨l, _, _, rfl, rfl, hl4, by rw [List.length_map]; omega, ?_⟩
      refine ⟨_, qs ++ [(p4, rowM m r3 n)], rfl, bus_newer (bF3.trans (.sam s4)) nl3, ((B3.sam s4).other nlb).mono (by omega), by rw [List.length_append, lq]; rfl, by rw [upd_same, List.map_append]; rfl, fun q hq' => ?_⟩
      rcases List.mem_append.mp hq' with z | z
      · exact ⟨upd_tup hl4 (kp _ _ (hq q z).1), (hq q z).2⟩
      · rw [List.mem_singleton.mp z]
        exact ⟨upd_tup hl4 hp4, rowM_bits m r3 n, rowM_len m r3 n⟩
    clear b4 B4 hl4 G4
    rintro σ F ⟨y6, qs, rfl, bF, BF, lq, hl, hq⟩
    obtain ⟨⟨a0, rs⟩, ⟨a1, ys⟩, rfl⟩ : ∃ q0 q1, qs = [q0, q1] := by
      match qs, lq with
      | [q0, q1], _ => exact ⟨q0, q1, rfl⟩
    obtain ⟨ha0, br, lr⟩ := hq _ List.mem_cons_self
    obtain ⟨ha1, by_, ly⟩ := hq _ (List.mem_cons_of_mem _ List.mem_cons_self)
    dsimp only at ha0 ha1 br by_ lr ly
    clear hq
    refine ⟨.ref b, rfl, b, 64, _, rfl, BF, by decide, by decide, by omega, fun G1 r1 c1 B1 d1 u1 => ⟨_, _, rfl, rfl, (show 4 ≤ sizeLine by decide), fun l2 nl2 => ?_⟩⟩
    refine ⟨.ref b, rfl, b, 4, _, rfl, B1.new nl2, by decide, by decide, by omega, fun G2 r2 c2 B2 d2 u2 => ?_⟩
    obtain ⟨M, ev, hM⟩ := at_menu (Pr := fun v => 1 ≤ v ∧ v ≤ 64) (xs := [1, 2, 64, 1 + r1]) d2 u2 (fun x hx => by
      simp only [List.mem_cons, List.not_mem_nil, or_false] at hx
      omega)
    refine ⟨l2, _, _, _, rfl, rfl, SqL.mk (c2 _ _ (ne_new B1 nl2) upd_same), ev, ?_⟩
    have c02 : But b F G2 := ((c1.new nl2).trans c2)
    clear c1 c2 B1 nl2 ev
    refine ⟨.ref b, rfl, .ref b, rfl, b, 3, _, rfl, B2, by decide, by decide, by omega, fun G3 r3 c3 B3 d3 u3 => ?_⟩
    obtain ⟨k, rfl⟩ := nat_of d3
    refine ⟨b, 16, _, k, rfl, B3, by omega, by omega, by decide, by decide, by decide, fun G4 mv m c4 B4 hm ok _ _ => ?_⟩
    have c04 := c02.trans (c3.trans c4)
    clear c02 c3 c4 B2 B3
    refine ⟨_, rfl, _, rfl, .ref b, rfl, _, rfl, _, _, rfl, rfl, b, M + 1, _, rfl, B4, by omega, by omega, by omega, fun G5 r5 c5 B5 d5 u5 => ⟨(show 3 ≤ sizeLine by decide), fun l3 nl3' => ?_⟩⟩
    refine ⟨.ref b, rfl, b, 3, _, rfl, B5.new nl3', by decide, by decide, by omega, fun G6 r6 c6 B6 d6 u6 => ?_⟩
    obtain ⟨At, ev, hA⟩ := at_menu (Pr := fun v => 0 ≤ v ∧ v ≤ M) (xs := [0, M, r5]) d6 u6 (fun x hx => by
      simp only [List.mem_cons, List.not_mem_nil, or_false] at hx
      omega)
    refine ⟨l3, _, _, _, rfl, rfl, SqL.mk (c6 _ _ (ne_new B5 nl3') upd_same), ev, (show 3 ≤ sizeLine by decide), fun t nt => ?_⟩
    have c46 : But b G4 G6 := ((c5.new nl3').trans c6)
    have c06 := c04.trans c46
    have hm6 := hm.but B4 c46
    have st := same_upd nt (o := .tup [mv, .int M, .int At])
    have kok : KS.Ok ⟨M, At, 0, 0, 0⟩ := ⟨hA.1, hA.2, hM.1, hM.2⟩
    have ht7 : (upd G6 t (.tup [mv, .int M, .int At])) t = some (.tup [mv, .int M, .int At]) := upd_same
    have hm7 := hm6.same st
    have hl7 := st _ _ (c06 _ _ nlb hl)
    have b7 := (bF.trans (.of c06)).trans (.sam (.of st))
    have B7 := B6.same st
    have g7 : Given (upd G6 t (.tup [mv, .int M, .int At])) a0 a1 t rs ys m M At := ⟨st _ _ (c06 _ _ (BF.ne_tup ha0) ha0), st _ _ (c06 _ _ (BF.ne_tup ha1) ha1), br, by_, by omega, by omega, ⟨mv, ht7, hm7⟩, ok, kok⟩
    generalize upd G6 t (.tup [mv, .int M, .int At]) = G7 at ht7 hm7 hl7 b7 B7 g7 ⊢
    clear st nt c46 c06 c04 c5 c6 B4 B5 B6 hm hm6 nl3' ev bF BF ha0 ha1 hl
    refine ⟨2, rfl, by decide, by decide, for_range (n := 2) (fun j σ E => ∃ y9, σ = [some (.ref a), some (.ref c), some (.int (0 + (i : Int))), some (.ref b), some (.int (n : Nat)), some (.ref l), y6, some (.int M), some (.ref t), y9] ∧ Same G7 E) ⟨_, rfl, Same.refl G7⟩ ?_ ?_⟩
    · rintro j σ E hj ⟨y9, rfl, sE⟩
      refine ⟨_, rfl, l, _, 0, _, rfl, rfl, SqL.mk (sE _ _ hl7), atI_nat (j := 0) rfl, _, rfl, l, _, 1, _, rfl, rfl, SqL.mk (sE _ _ hl7), atI_nat (j := 1) rfl, _, rfl, _, rfl, a0, a1, t, _, rs, ys, m, M, At, rfl, g7.same sE, fun E2 s2 => ⟨_, rfl, iteF ?_⟩⟩
      exact ⟨_, rfl, sE.trans s2⟩
    rintro σ E ⟨y9, rfl, sE⟩
    refine ⟨_, rfl, _, rfl, t, n, m, mv, M, At, rfl, sE _ _ ht7, hm7.same sE, ok, kok, by omega, fun E2 s2 => ⟨_, rfl, iteF ?_⟩⟩
    exact ⟨_, _, _, _, _, _, _, _, rfl, bus_same nb1 s13 (b7.trans (.sam (.of (sE.trans s2))))⟩
end
def d_refuse_unlike : He.DefD := ⟨("refuse_unlike", none), "refuse_unlike", "refuse_unlike", defArgs s_refuse_unlike, defBody s_refuse_unlike, defScope s_refuse_unlike, [], []⟩
def d_counter_round : He.DefD := ⟨("counter_round", none), "counter_round", "counter_round", defArgs s_counter_round, defBody s_counter_round, defScope s_counter_round, [], []⟩
def d_last_for_first : He.DefD := ⟨("last_for_first", none), "last_for_first", "last_for_first", defArgs s_last_for_first, defBody s_last_for_first, defScope s_last_for_first, [], []⟩
def d_size_of : He.DefD := ⟨("size_of", none), "size_of", "size_of", defArgs s_size_of, defBody s_size_of, defScope s_size_of, [], []⟩
def d_turned_round : He.DefD := ⟨("turned_round", none), "turned_round", "turned_round", defArgs s_turned_round, defBody s_turned_round, defScope s_turned_round, [], []⟩
def d_odd_ones : He.DefD := ⟨("odd_ones", none), "odd_ones", "odd_ones", defArgs s_odd_ones, defBody s_odd_ones, defScope s_odd_ones, [], []⟩
def d_held_round : He.DefD := ⟨("held_round", none), "held_round", "held_round", defArgs s_held_round, defBody s_held_round, defScope s_held_round, [], []⟩
def d_plain_round : He.DefD := ⟨("plain_round", none), "plain_round", "plain_round", defArgs s_plain_round, defBody s_plain_round, defScope s_plain_round, [], []⟩
def d_innermost : He.DefD := ⟨("innermost", none), "innermost", "innermost", defArgs s_innermost, defBody s_innermost, defScope s_innermost, [], []⟩
def d_inner_beat : He.DefD := ⟨("inner_beat", none), "inner_beat", "inner_beat", defArgs s_inner_beat, defBody s_inner_beat, defScope s_inner_beat, [], []⟩
def d_values_at : He.DefD := ⟨("values_at", none), "values_at", "values_at", defArgs s_values_at, defBody s_values_at, defScope s_values_at, [], []⟩
def d_values_of : He.DefD := ⟨("values_of", none), "values_of", "values_of", defArgs s_values_of, defBody s_values_of, defScope s_values_of, [], []⟩
def d_row_below : He.DefD := ⟨("row_below", none), "row_below", "row_below", defArgs s_row_below, defBody s_row_below, defScope s_row_below, [], []⟩
def d_row_of : He.DefD := ⟨("row_of", none), "row_of", "row_of", defArgs s_row_of, defBody s_row_of, defScope s_row_of, [], []⟩
def d_moved : He.DefD := ⟨("moved", none), "moved", "moved", defArgs s_moved, defBody s_moved, defScope s_moved, [], []⟩
def d_Keeper___init__ : He.DefD := ⟨("Keeper", some "__init__"), "__init__", "Keeper.__init__", defArgs s_Keeper___init__, defBody s_Keeper___init__, defScope s_Keeper___init__, [], []⟩
def d_Keeper_beat : He.DefD := ⟨("Keeper", some "beat"), "beat", "Keeper.beat", defArgs s_Keeper_beat, defBody s_Keeper_beat, defScope s_Keeper_beat, [], []⟩
def d_Keeper_at_now : He.DefD := ⟨("Keeper", some "at_now"), "at_now", "Keeper.at_now", defArgs s_Keeper_at_now, defBody s_Keeper_at_now, defScope s_Keeper_at_now, [], []⟩
def d_Keeper_lost_now : He.DefD := ⟨("Keeper", some "lost_now"), "lost_now", "Keeper.lost_now", defArgs s_Keeper_lost_now, defBody s_Keeper_lost_now, defScope s_Keeper_lost_now, [], []⟩
def d_Keeper_beats_now : He.DefD := ⟨("Keeper", some "beats_now"), "beats_now", "Keeper.beats_now", defArgs s_Keeper_beats_now, defBody s_Keeper_beats_now, defScope s_Keeper_beats_now, [], []⟩
def d_fed_back : He.DefD := ⟨("fed_back", none), "fed_back", "fed_back", defArgs s_fed_back, defBody s_fed_back, defScope s_fed_back, [], []⟩
def d_divided : He.DefD := ⟨("divided", none), "divided", "divided", defArgs s_divided, defBody s_divided, defScope s_divided, [], []⟩
def d_rooted : He.DefD := ⟨("rooted", none), "rooted", "rooted", defArgs s_rooted, defBody s_rooted, defScope s_rooted, [], []⟩
def d__law_box : He.DefD := ⟨("_law_box", none), "_law_box", "_law_box", defArgs s__law_box, defBody s__law_box, defScope s__law_box, [], []⟩
def d__law_take : He.DefD := ⟨("_law_take", none), "_law_take", "_law_take", defArgs s__law_take, defBody s__law_take, defScope s__law_take, [], []⟩
def d__law_folded : He.DefD := ⟨("_law_folded", none), "_law_folded", "_law_folded", defArgs s__law_folded, defBody s__law_folded, defScope s__law_folded, [], []⟩
def d__law_alone : He.DefD := ⟨("_law_alone", none), "_law_alone", "_law_alone", defArgs s__law_alone, defBody s__law_alone, defScope s__law_alone, [], []⟩
def d__law_maker : He.DefD := ⟨("_law_maker", none), "_law_maker", "_law_maker", defArgs s__law_maker, defBody s__law_maker, defScope s__law_maker, [], []⟩
def d__law_sums : He.DefD := ⟨("_law_sums", none), "_law_sums", "_law_sums", defArgs s__law_sums, defBody s__law_sums, defScope s__law_sums, [], []⟩
def d__law_whole : He.DefD := ⟨("_law_whole", none), "_law_whole", "_law_whole", defArgs s__law_whole, defBody s__law_whole, defScope s__law_whole, [], []⟩
def d__law_right : He.DefD := ⟨("_law_right", none), "_law_right", "_law_right", defArgs s__law_right, defBody s__law_right, defScope s__law_right, [], []⟩
def d__law_full_right : He.DefD := ⟨("_law_full_right", none), "_law_full_right", "_law_full_right", defArgs s__law_full_right, defBody s__law_full_right, defScope s__law_full_right, [], []⟩
def d_law : He.DefD := ⟨("law", none), "law", "law", defArgs s_law, defBody s_law, defScope s_law, [], []⟩
def hfn : List He.DefD := [d_refuse_unlike, d_counter_round, d_last_for_first, d_size_of, d_turned_round, d_odd_ones, d_held_round, d_plain_round, d_innermost, d_inner_beat, d_values_at, d_values_of, d_row_below, d_row_of, d_moved, d_Keeper___init__, d_Keeper_beat, d_Keeper_at_now, d_Keeper_lost_now, d_Keeper_beats_now, d_fed_back, d_divided, d_rooted, d__law_box, d__law_take, d__law_folded, d__law_alone, d__law_maker, d__law_sums, d__law_whole, d__law_right, d__law_full_right, d_law]
def hfa : List He.Fa := [.glo "refuse_unlike", .glo "counter_round", .glo "last_for_first", .glo "size_of", .glo "turned_round", .glo "odd_ones", .glo "held_round", .glo "plain_round", .glo "innermost", .glo "inner_beat", .glo "values_at", .glo "values_of", .glo "row_below", .glo "row_of", .glo "moved", .keep "Keeper", .keep "Keeper", .keep "Keeper", .keep "Keeper", .keep "Keeper", .glo "fed_back", .glo "divided", .glo "rooted", .glo "_law_box", .glo "_law_take", .glo "_law_folded", .glo "_law_alone", .glo "_law_maker", .glo "_law_sums", .glo "_law_whole", .glo "_law_right", .glo "_law_full_right", .glo "law", .free "ValueError", .free "abs", .free "divmod", .free "enumerate", .free "int", .free "len", .free "list", .free "max", .free "min", .free "range", .free "sum", .free "tuple", .glo "OnesError", .glo "Unlike", .exc "Unlike", .exm "Unlike" "OnesError" true, .glo "Keeper", .cls "Keeper", .mkr "Keeper", .noat "Keeper" "at", .noat "Keeper" "beats", .noat "Keeper" "downs_lost", .noat "Keeper" "most", .noat "Keeper" "ups_lost", .meth "Keeper" "beat", .meth "Keeper" "at_now", .meth "Keeper" "lost_now", .meth "Keeper" "beats_now"]
def htf : List He.Defn := [("row_below", none)]
abbrev Hex (K : PySem.W.Frag) : Prop := (PySem.W.findIn K (.ref (He.ga K "Unlike")) "__getattribute__" = some (some (.builtin "BaseException.__getattribute__"))) ∧ (PySem.W.findIn K (.ref (He.ga K "Unlike")) "__getattr__" = some none) ∧ (PySem.W.subIn K (.ref (He.ga K "Unlike")) (.type "BaseException") = some true) ∧ (PySem.W.hasDictIn K (He.ga K "Unlike") = true) ∧ (PySem.W.findIn K (.ref (He.ga K "Unlike")) "__class__" = some (some (.builtin "object.__class__"))) ∧ (PySem.W.specialIn K (.builtin "object.__class__") "__get__" = some (some (.builtin "getset_descriptor.__get__"))) ∧ (PySem.W.takesIn K (.builtin "object.__class__") = some true) ∧ (PySem.W.mroIn K (He.ga K "Unlike") (.type "object") = some true) ∧ (PySem.W.kitOne K (.ref (He.ga K "Unlike")) (.ref (He.ga K "OnesError")) = some true) ∧ (PySem.W.kitOne K (.ref (He.ga K "Unlike")) (.ref (He.ga K "Unlike")) = some true) ∧ (PySem.W.kitOne K (.ref (He.ga K "Unlike")) (.type "ValueError") = some true)
instance (K : PySem.W.Frag) : Decidable (Hex K) := inferInstance
def hex : PySem.W.Frag → Bool := fun K => decide (Hex K)
abbrev R : PySem.W.OpenRow := PySem.W.OpenLaw.row PySem.Challenge.rw_shareones_k74_whole_keepers_add_up
abbrev hk : PySem.W.Hook := He.hookX 4 hfa hfn [] htf hex
def ob (s : PySem.W.SharedT) : He.AlX := He.obsX 4 hfa hfn [] htf hex (HandSHeadRun.getT s)
theorem ob_eq (s : PySem.W.SharedT) : ob s = hk.obs s.abs := He.obsX_eq (HandSHeadRun.getT_eq s)
def loose : List Str := "refuse_unlike" :: "counter_round" :: "last_for_first" :: "size_of" :: "turned_round" :: "odd_ones" :: "held_round" :: "plain_round" :: "innermost" :: "inner_beat" :: "values_at" :: "values_of" :: "row_below" :: "row_of" :: "moved" :: "fed_back" :: "divided" :: "rooted" :: "_law_box" :: "_law_take" :: "_law_folded" :: "_law_alone" :: "_law_maker" :: "_law_sums" :: "_law_whole" :: "_law_right" :: "_law_full_right" :: "OnesError" :: "Unlike" :: "Keeper" :: []
theorem run (w : World) : HandSHeadRun.RunEq R (PySem.W.view R.prog [35]) hk ob 6000 loose w := by
  intro os
  kernel_rfl
theorem codeAt {K : PySem.W.Frag} {p : He.Defn} : CodeAt K (He.fAd K p) (He.cT K p).1 := fun oc od fd osl lk b e => (He.codeOf_eq lk e).symm
theorem facts {l : PySem.W.OpenLaw} {w : World} {K : PySem.W.Frag} {h : Heap} {mg : Str → Option Value} {f : Addr} (X : K.In h) (G : h.Ns mainGlobals mg) (hfa_ : mg ("law" : Str) = some (.ref f)) (cc : He.SaysX hfa hfn [] htf hex w h K) :
    LamX.LawAtS l w K CX0 10 63 "_law_script" mg f h := by
  have c : He.SaysD hfa hfn K := congrArg (fun z : He.AlT => z.1) cc.t
  obtain ⟨fd_refuse_unlike, F_refuse_unlike⟩ := c.def_ 0 (d := d_refuse_unlike) rfl
  obtain ⟨fd_counter_round, F_counter_round⟩ := c.def_ 1 (d := d_counter_round) rfl
  obtain ⟨fd_last_for_first, F_last_for_first⟩ := c.def_ 2 (d := d_last_for_first) rfl
  obtain ⟨fd_size_of, F_size_of⟩ := c.def_ 3 (d := d_size_of) rfl
  obtain ⟨fd_turned_round, F_turned_round⟩ := c.def_ 4 (d := d_turned_round) rfl
  obtain ⟨fd_odd_ones, F_odd_ones⟩ := c.def_ 5 (d := d_odd_ones) rfl
  obtain ⟨fd_held_round, F_held_round⟩ := c.def_ 6 (d := d_held_round) rfl
  obtain ⟨fd_plain_round, F_plain_round⟩ := c.def_ 7 (d := d_plain_round) rfl
  obtain ⟨fd_innermost, F_innermost⟩ := c.def_ 8 (d := d_innermost) rfl
  obtain ⟨fd_inner_beat, F_inner_beat⟩ := c.def_ 9 (d := d_inner_beat) rfl
  obtain ⟨fd_values_at, F_values_at⟩ := c.def_ 10 (d := d_values_at) rfl
  obtain ⟨fd_values_of, F_values_of⟩ := c.def_ 11 (d := d_values_of) rfl
  obtain ⟨fd_row_below, F_row_below⟩ := c.def_ 12 (d := d_row_below) rfl
  obtain ⟨fd_row_of, F_row_of⟩ := c.def_ 13 (d := d_row_of) rfl
  obtain ⟨fd_moved, F_moved⟩ := c.def_ 14 (d := d_moved) rfl
  obtain ⟨fd_Keeper___init__, F_Keeper___init__⟩ := c.def_ 15 (d := d_Keeper___init__) rfl
  obtain ⟨fd_Keeper_beat, F_Keeper_beat⟩ := c.def_ 16 (d := d_Keeper_beat) rfl
  obtain ⟨fd_Keeper_at_now, F_Keeper_at_now⟩ := c.def_ 17 (d := d_Keeper_at_now) rfl
  obtain ⟨fd_Keeper_lost_now, F_Keeper_lost_now⟩ := c.def_ 18 (d := d_Keeper_lost_now) rfl
  obtain ⟨fd_Keeper_beats_now, F_Keeper_beats_now⟩ := c.def_ 19 (d := d_Keeper_beats_now) rfl
  obtain ⟨fd_fed_back, F_fed_back⟩ := c.def_ 20 (d := d_fed_back) rfl
  obtain ⟨fd_divided, F_divided⟩ := c.def_ 21 (d := d_divided) rfl
  obtain ⟨fd_rooted, F_rooted⟩ := c.def_ 22 (d := d_rooted) rfl
  obtain ⟨fd__law_box, F__law_box⟩ := c.def_ 23 (d := d__law_box) rfl
  obtain ⟨fd__law_take, F__law_take⟩ := c.def_ 24 (d := d__law_take) rfl
  obtain ⟨fd__law_folded, F__law_folded⟩ := c.def_ 25 (d := d__law_folded) rfl
  obtain ⟨fd__law_alone, F__law_alone⟩ := c.def_ 26 (d := d__law_alone) rfl
  obtain ⟨fd__law_maker, F__law_maker⟩ := c.def_ 27 (d := d__law_maker) rfl
  obtain ⟨fd__law_sums, F__law_sums⟩ := c.def_ 28 (d := d__law_sums) rfl
  obtain ⟨fd__law_whole, F__law_whole⟩ := c.def_ 29 (d := d__law_whole) rfl
  obtain ⟨fd__law_right, F__law_right⟩ := c.def_ 30 (d := d__law_right) rfl
  obtain ⟨fd__law_full_right, F__law_full_right⟩ := c.def_ 31 (d := d__law_full_right) rfl
  obtain ⟨fd_law, F_law⟩ := c.def_ 32 (d := d_law) rfl
  have e := hfa_.symm.trans (He.glo_ok X G (c.fact 32 (f := .glo "law") rfl))
  cases e
  have b := FunD.bindsA (ps := ["_law_script"]) F_law fun _ _ _ _ _ _ us hl => match us, hl with | [_], _ => rfl
  have hm : Hex K := of_decide_eq_true cc.more
  obtain ⟨h0, h1, h2, h3, h4, h5, h6, h7, h8, h9, h10⟩ := hm
  let T : Defs K mg := ⟨_, fd_refuse_unlike, F_refuse_unlike, (He.glo_ok X G (c.fact 0 (f := .glo "refuse_unlike") rfl)), (FunD.bindsN F_refuse_unlike fun _ _ _ _ _ _ us hl => match us, hl with | [_], _ => rfl), _, fd_counter_round, F_counter_round, (He.glo_ok X G (c.fact 1 (f := .glo "counter_round") rfl)), (FunD.bindsN F_counter_round fun _ _ _ _ _ _ us hl => match us, hl with | [_, _, _], _ => rfl), _, fd_last_for_first, F_last_for_first, (He.glo_ok X G (c.fact 2 (f := .glo "last_for_first") rfl)), (FunD.bindsN F_last_for_first fun _ _ _ _ _ _ us hl => match us, hl with | [_, _], _ => rfl), _, fd_size_of, F_size_of, (He.glo_ok X G (c.fact 3 (f := .glo "size_of") rfl)), (FunD.bindsN F_size_of fun _ _ _ _ _ _ us hl => match us, hl with | [_], _ => rfl), _, fd_turned_round, F_turned_round, (He.glo_ok X G (c.fact 4 (f := .glo "turned_round") rfl)), (FunD.bindsN F_turned_round fun _ _ _ _ _ _ us hl => match us, hl with | [_, _], _ => rfl), _, fd_odd_ones, F_odd_ones, (He.glo_ok X G (c.fact 5 (f := .glo "odd_ones") rfl)), (FunD.bindsN F_odd_ones fun _ _ _ _ _ _ us hl => match us, hl with | [_], _ => rfl), _, fd_held_round, F_held_round, (He.glo_ok X G (c.fact 6 (f := .glo "held_round") rfl)), (FunD.bindsN F_held_round fun _ _ _ _ _ _ us hl => match us, hl with | [_, _, _], _ => rfl), _, fd_plain_round, F_plain_round, (He.glo_ok X G (c.fact 7 (f := .glo "plain_round") rfl)), (FunD.bindsN F_plain_round fun _ _ _ _ _ _ us hl => match us, hl with | [_], _ => rfl), _, fd_innermost, F_innermost, (He.glo_ok X G (c.fact 8 (f := .glo "innermost") rfl)), (FunD.bindsN F_innermost fun _ _ _ _ _ _ us hl => match us, hl with | [_], _ => rfl), _, fd_inner_beat, F_inner_beat, (He.glo_ok X G (c.fact 9 (f := .glo "inner_beat") rfl)), (FunD.bindsN F_inner_beat fun _ _ _ _ _ _ us hl => match us, hl with | [_, _], _ => rfl), _, fd_values_at, F_values_at, (He.glo_ok X G (c.fact 10 (f := .glo "values_at") rfl)), (FunD.bindsN F_values_at fun _ _ _ _ _ _ us hl => match us, hl with | [_, _], _ => rfl), _, fd_values_of, F_values_of, (He.glo_ok X G (c.fact 11 (f := .glo "values_of") rfl)), (FunD.bindsN F_values_of fun _ _ _ _ _ _ us hl => match us, hl with | [_, _], _ => rfl), _, fd_row_below, F_row_below, (He.glo_ok X G (c.fact 12 (f := .glo "row_below") rfl)), (FunD.bindsN F_row_below fun _ _ _ _ _ _ us hl => match us, hl with | [_, _], _ => rfl), _, fd_row_of, F_row_of, (He.glo_ok X G (c.fact 13 (f := .glo "row_of") rfl)), (FunD.bindsN F_row_of fun _ _ _ _ _ _ us hl => match us, hl with | [_, _, _], _ => rfl), _, fd_moved, F_moved, (He.glo_ok X G (c.fact 14 (f := .glo "moved") rfl)), (FunD.bindsN F_moved fun _ _ _ _ _ _ us hl => match us, hl with | [_, _, _, _], _ => rfl), _, fd_Keeper___init__, F_Keeper___init__, (FunD.bindsN F_Keeper___init__ fun _ _ _ _ _ _ us hl => match us, hl with | [_, _, _], _ => rfl), _, fd_Keeper_beat, F_Keeper_beat, (FunD.bindsN F_Keeper_beat fun _ _ _ _ _ _ us hl => match us, hl with | [_, _, _], _ => rfl), _, fd_Keeper_at_now, F_Keeper_at_now, (FunD.bindsN F_Keeper_at_now fun _ _ _ _ _ _ us hl => match us, hl with | [_], _ => rfl), _, fd_Keeper_lost_now, F_Keeper_lost_now, (FunD.bindsN F_Keeper_lost_now fun _ _ _ _ _ _ us hl => match us, hl with | [_], _ => rfl), _, fd_Keeper_beats_now, F_Keeper_beats_now, (FunD.bindsN F_Keeper_beats_now fun _ _ _ _ _ _ us hl => match us, hl with | [_], _ => rfl), _, fd_fed_back, F_fed_back, (He.glo_ok X G (c.fact 20 (f := .glo "fed_back") rfl)), (FunD.bindsN F_fed_back fun _ _ _ _ _ _ us hl => match us, hl with | [_, _, _, _, _], _ => rfl), _, fd_divided, F_divided, (He.glo_ok X G (c.fact 21 (f := .glo "divided") rfl)), (FunD.bindsN F_divided fun _ _ _ _ _ _ us hl => match us, hl with | [_, _, _, _, _], _ => rfl), _, fd_rooted, F_rooted, (He.glo_ok X G (c.fact 22 (f := .glo "rooted") rfl)), (FunD.bindsN F_rooted fun _ _ _ _ _ _ us hl => match us, hl with | [_, _, _, _], _ => rfl), _, fd__law_box, F__law_box, (He.glo_ok X G (c.fact 23 (f := .glo "_law_box") rfl)), (FunD.bindsN F__law_box fun _ _ _ _ _ _ us hl => match us, hl with | [_, _], _ => rfl), _, fd__law_take, F__law_take, (He.glo_ok X G (c.fact 24 (f := .glo "_law_take") rfl)), (FunD.bindsN F__law_take fun _ _ _ _ _ _ us hl => match us, hl with | [_, _], _ => rfl), _, fd__law_folded, F__law_folded, (He.glo_ok X G (c.fact 25 (f := .glo "_law_folded") rfl)), (FunD.bindsN F__law_folded fun _ _ _ _ _ _ us hl => match us, hl with | [_, _], _ => rfl), _, fd__law_alone, F__law_alone, (He.glo_ok X G (c.fact 26 (f := .glo "_law_alone") rfl)), (FunD.bindsN F__law_alone fun _ _ _ _ _ _ us hl => match us, hl with | [_, _], _ => rfl), _, fd__law_maker, F__law_maker, (He.glo_ok X G (c.fact 27 (f := .glo "_law_maker") rfl)), (FunD.bindsN F__law_maker fun _ _ _ _ _ _ us hl => match us, hl with | [_, _, _], _ => rfl), _, fd__law_sums, F__law_sums, (He.glo_ok X G (c.fact 28 (f := .glo "_law_sums") rfl)), (FunD.bindsN F__law_sums fun _ _ _ _ _ _ us hl => match us, hl with | [_, _, _, _], _ => rfl), _, fd__law_whole, F__law_whole, (He.glo_ok X G (c.fact 29 (f := .glo "_law_whole") rfl)), (FunD.bindsN F__law_whole fun _ _ _ _ _ _ us hl => match us, hl with | [_, _, _, _, _], _ => rfl), _, fd__law_right, F__law_right, (He.glo_ok X G (c.fact 30 (f := .glo "_law_right") rfl)), (FunD.bindsN F__law_right fun _ _ _ _ _ _ us hl => match us, hl with | [_, _, _, _], _ => rfl), _, fd__law_full_right, F__law_full_right, (He.glo_ok X G (c.fact 31 (f := .glo "_law_full_right") rfl)), (FunD.bindsN F__law_full_right fun _ _ _ _ _ _ us hl => match us, hl with | [_, _], _ => rfl), _, fd_law, F_law, (He.glo_ok X G (c.fact 32 (f := .glo "law") rfl)), (FunD.bindsN F_law fun _ _ _ _ _ _ us hl => match us, hl with | [_], _ => rfl), _, (He.glo_ok X G (c.fact 49 (f := .glo "Keeper") rfl)), (He.cls_ok (c.fact 50 (f := .cls "Keeper") rfl)), (He.mkr_ok (c.fact 51 (f := .mkr "Keeper") rfl)), (He.noat_ok (c.fact 52 (f := .noat "Keeper" "at") rfl)), (He.noat_ok (c.fact 53 (f := .noat "Keeper" "beats") rfl)), (He.noat_ok (c.fact 54 (f := .noat "Keeper" "downs_lost") rfl)), (He.noat_ok (c.fact 55 (f := .noat "Keeper" "most") rfl)), (He.noat_ok (c.fact 56 (f := .noat "Keeper" "ups_lost") rfl)), (He.meth_ok (c.fact 57 (f := .meth "Keeper" "beat") rfl)), (He.meth_ok (c.fact 58 (f := .meth "Keeper" "at_now") rfl)), (He.meth_ok (c.fact 59 (f := .meth "Keeper" "lost_now") rfl)), (He.meth_ok (c.fact 60 (f := .meth "Keeper" "beats_now") rfl)), (He.cT K ("row_below", none)).1, (He.cT K ("row_below", none)).2, codeAt, _, (He.glo_ok X G (c.fact 45 (f := .glo "OnesError") rfl)), _, (He.glo_ok X G (c.fact 46 (f := .glo "Unlike") rfl)), (He.exc_ok (c.fact 47 (f := .exc "Unlike") rfl)).1, (He.exc_ok (c.fact 47 (f := .exc "Unlike") rfl)).2.1, (He.exc_ok (c.fact 47 (f := .exc "Unlike") rfl)).2.2.1, (He.exc_ok (c.fact 47 (f := .exc "Unlike") rfl)).2.2.2, ⟨h0, h1, h2, h3, h4, h5, h6, h7⟩, (He.exm_ok (c.fact 48 (f := .exm "Unlike" "OnesError" true) rfl)), h8, h9, h10, (He.free_ok X G (c.fact 33 (f := .free "ValueError") rfl)), (He.free_ok X G (c.fact 34 (f := .free "abs") rfl)), (He.free_ok X G (c.fact 35 (f := .free "divmod") rfl)), (He.free_ok X G (c.fact 36 (f := .free "enumerate") rfl)), (He.free_ok X G (c.fact 37 (f := .free "int") rfl)), (He.free_ok X G (c.fact 38 (f := .free "len") rfl)), (He.free_ok X G (c.fact 39 (f := .free "list") rfl)), (He.free_ok X G (c.fact 40 (f := .free "max") rfl)), (He.free_ok X G (c.fact 41 (f := .free "min") rfl)), (He.free_ok X G (c.fact 42 (f := .free "range") rfl)), (He.free_ok X G (c.fact 43 (f := .free "sum") rfl)), (He.free_ok X G (c.fact 44 (f := .free "tuple") rfl))⟩
  refine ⟨fd_law, htf.map (He.cT K), sp_law T, fun p hp => ?_, fun p hp => ?_, fun p hp => ?_, fun s v => b s [v] rfl, fun H a ns hl _ hH hS => ⟨a, ns, rfl, hS, hl, ?_, fun _ => rfl⟩, fun base _ _ TB => ok_law T ?_⟩
  · obtain ⟨q, hq, rfl⟩ := List.mem_map.mp hp
    exact cc.empty q hq
  · obtain ⟨q, hq, rfl⟩ := List.mem_map.mp hp
    exact cc.out q hq
  · obtain ⟨q, hq, rfl⟩ := List.mem_map.mp hp
    exact PySem.W.codeHd_of_K X (cc.hd q hq)
  · exact ⟨⟨#[], hH _ (List.mem_map.mpr ⟨_, List.mem_cons_self, rfl⟩), trip0⟩, trivial⟩
  · exact ⟨⟨(TB _ (List.mem_map.mpr ⟨_, List.mem_cons_self, rfl⟩)).code, (TB _ (List.mem_map.mpr ⟨_, List.mem_cons_self, rfl⟩)).bm, (TB _ (List.mem_map.mpr ⟨_, List.mem_cons_self, rfl⟩)).gP⟩⟩
end Fq
open PySem PySem.W PySem.Calls PyProof.Rows
set_option maxHeartbeats 0 in
theorem PySem.Challenge.cw_shareones_k74_whole_keepers_add_up_holds : PySem.Challenge.rw_shareones_k74_whole_keepers_add_up.Holds := by
  w_on; o_law
  refine HandSHeadRun.head_any (r := OpenLaw.row PySem.Challenge.rw_shareones_k74_whole_keepers_add_up) (q := view (OpenLaw.row PySem.Challenge.rw_shareones_k74_whole_keepers_add_up).prog [35]) (H := Fq.hk) (ob := Fq.ob) (M := 6000) (loose := Fq.loose) (d := HandSHeadRun.topDef (OpenLaw.row PySem.Challenge.rw_shareones_k74_whole_keepers_add_up).prog 35) (kwd := []) Fq.ob_eq
    (by kernel_rfl) (fun s => by kernel_rfl) Fq.run (by kernel_rfl) (by kernel_rfl) (by kernel_rfl) (by rfl) (by first | assumption | decide +kernel) (by decide +kernel) ⟨rfl, rfl, rfl, rfl, rfl, by decide +kernel⟩ ?hw ?hc
  case hw => w_witness2
  case hc =>
    refine LamX.walk_ofTsE (l := PySem.Challenge.rw_shareones_k74_whole_keepers_add_up) (n := 63) (k := 10) (x := "_law_script") (CX := fun _ => L2.CX0) rfl (by decide) (by kernel_rfl) ⟨rfl, by decide, by decide⟩ ?F (fun _ _ _ _ _ z => z)
    intro w mg fa h Y G hmg0
    obtain ⟨K, KX, c⟩ := Y
    have hmg : mg ("law" : PySem.Str) = some (.ref fa) := by
      have e : (HandSHeadRun.topDef (OpenLaw.row PySem.Challenge.rw_shareones_k74_whole_keepers_add_up).prog 35).name = ("law" : PySem.Str) := by kernel_rfl
      rw [← e]
      exact hmg0
    exact ⟨K, KX, Fq.facts KX G hmg c⟩
