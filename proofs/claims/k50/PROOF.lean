import PyProof.Rows.All
import Wide.All
import OpenK.AllK
import Wide.FinOn
import KE.KStateDown
import Lean
import HandS.ForMost
import HandS.Wide
import HandS.WideBits
import HandS.IsInst
import HandS.Walk
import HandS.Evl
import HandS.Style
import HandS.NoneIn
import HandS.Defaults
import HandS.Head0
import HandS.Head1
import HandS.Head2
import HandS.HeadEnd
import HandS.HeadHook1
import HandS.HeadHook2
import HandS.AnyAll
import HandS.Comp
import HandS.Conv
import HandS.Deep
import HandS.Dict
import HandS.DictComp
import HandS.EndTab
import HandS.Exc
import HandS.ExcIs
import HandS.ExcOwn
import HandS.Flow
import HandS.ForDict
import HandS.GenBody
import HandS.GenList
import HandS.GenOver
import HandS.HeadHook3
import HandS.HeadHook4
import HandS.HeadWalk
import HandS.Iter
import HandS.Keys
import HandS.MethStar
import HandS.More
import HandS.Set
import HandS.SetBool
import HandS.SetFor
import HandS.Small
import HandS.SortInts
import HandS.SortKw
import HandS.SortRule
import HandS.Star
import HandS.Strs
import HandS.Style
import HandS.Text
import HandS.TryOnly
import HandS.TupAny
import HandS.TupLen
import HandS.TupMul
import HandS.Walk
import HandS.WordsDict
import HandS.WordsExc
import HandS.Zip
import KE.DataMinMax
import KE.GoesEnum
import KE.GoesMore
import KE.GoesSet
import KE.GoesZip
import KE.KDictKeyed
import KE.KDictWalk
import KE.KDictZip
import KE.KNest
import KE.KStar
import KE.KeyNested
import PyProof.ConsumeS
import PyProof.GenArm
import PyProof.GenComp
import PyProof.GenCompT
import PyProof.GenQ
import PyProof.ReprLen
import PyProof.ReprRoads
import PyProof.Rows.MatchSeqLen
import PyProof.RulesMatch
import PyProof.RulesMatchSeq
import PyProof.TupleOfGen
import PySem.Challenge.RW_shareones_k50_from_when_it_goes_round
set_option Elab.async false
set_option pp.maxSteps 250
set_option linter.all false
set_option maxRecDepth 100000
set_option maxHeartbeats 4000000
namespace Fq
open PySem PySem.Spec PyProof.Rows L2
/-! a dict of the program's top, texts to numbers -/
def entI (e : DictEntry) : Option (Str × Int) := match e.key, e.val with
  | .str x _, .int i _ => some (x, i)
  | _, _ => none
def dicB (K : PySem.W.Frag) (a : Addr) (kvs : List (Str × Int)) : Bool := match K.lookup a with
  | some ⟨_, _, .dict es _, _⟩ => decide (es.toList.map entI = kvs.map some)
  | _ => false
def dl_ASKED : List (Str × Int) := [("make", 0), ("less", 1), ("both", 2), ("either", 2), ("oneof", 2), ("pick", 3), ("keep", 2), ("late", 1), ("keeper", 2)]
class DW (K : PySem.W.Frag) (w : World) : Prop where
  k_ASKED : ∃ es n, KDict K w (He.ga K "ASKED") es n
  v_ASKED : dicB K (He.ga K "ASKED") dl_ASKED = true
section
variable {P : Program} {w : World} {K : PySem.W.Frag} {mg : Str → Option Value} {base : Heap} [DW K w]
def topS (i : Nat) : Stmt := PySem.Challenge.pw_shareones_k50_from_when_it_goes_round.main.body.getD i (.Pass ⟨0, 0, 0, 0⟩)
abbrev FnP (K : PySem.W.Frag) (x : Str) (st : Stmt) (f : Addr) (fd : FuncData) : Prop := FunD K x x (defArgs st) (defBody st) (defScope st) [] [] f fd
abbrev s__wall : Stmt := topS 0
abbrev N__wall : List Str := ["k"]
theorem sc__wall : FnScope N__wall ["k"] (defScope s__wall) := ⟨rfl, rfl, rfl, by decide +kernel, rfl, by decide +kernel, by decide +kernel⟩
abbrev s_common_divisor : Stmt := topS 2
abbrev N_common_divisor : List Str := ["one", "other"]
theorem sc_common_divisor : FnScope N_common_divisor ["one", "other"] (defScope s_common_divisor) := ⟨rfl, rfl, rfl, by decide +kernel, rfl, by decide +kernel, by decide +kernel⟩
abbrev s_counter_round : Stmt := topS 4
abbrev N_counter_round : List Str := ["size", "step", "start", "t"]
theorem sc_counter_round : FnScope N_counter_round ["size", "step", "start"] (defScope s_counter_round) := ⟨rfl, rfl, rfl, by decide +kernel, rfl, by decide +kernel, by decide +kernel⟩
abbrev s_last_for_first : Stmt := topS 5
abbrev N_last_for_first : List Str := ["number", "wide", "told", "at"]
theorem sc_last_for_first : FnScope N_last_for_first ["number", "wide"] (defScope s_last_for_first) := ⟨rfl, rfl, rfl, by decide +kernel, rfl, by decide +kernel, by decide +kernel⟩
abbrev s_size_of : Stmt := topS 6
abbrev N_size_of : List Str := ["wide"]
theorem sc_size_of : FnScope N_size_of ["wide"] (defScope s_size_of) := ⟨rfl, rfl, rfl, by decide +kernel, rfl, by decide +kernel, by decide +kernel⟩
abbrev s_turned_round : Stmt := topS 7
abbrev N_turned_round : List Str := ["wide", "start", "size", "t"]
theorem sc_turned_round : FnScope N_turned_round ["wide", "start"] (defScope s_turned_round) := ⟨rfl, rfl, rfl, by decide +kernel, rfl, by decide +kernel, by decide +kernel⟩
abbrev s_odd_ones : Stmt := topS 8
abbrev N_odd_ones : List Str := ["number", "odd"]
theorem sc_odd_ones : FnScope N_odd_ones ["number"] (defScope s_odd_ones) := ⟨rfl, rfl, rfl, by decide +kernel, rfl, by decide +kernel, by decide +kernel⟩
abbrev s_held_round : Stmt := topS 9
abbrev N_held_round : List Str := ["wide", "taps", "start", "size", "told", "held"]
theorem sc_held_round : FnScope N_held_round ["wide", "taps", "start"] (defScope s_held_round) := ⟨rfl, rfl, rfl, by decide +kernel, rfl, by decide +kernel, by decide +kernel⟩
abbrev s_plain_round : Stmt := topS 10
abbrev N_plain_round : List Str := ["maker", "size", "step", "start", "wide", "taps", "numbers"]
theorem sc_plain_round : FnScope N_plain_round ["maker"] (defScope s_plain_round) := ⟨rfl, rfl, rfl, by decide +kernel, rfl, by decide +kernel, by decide +kernel⟩
abbrev s_round_of : Stmt := topS 11
abbrev N_round_of : List Str := ["maker", "many", "inner", "length", "by"]
theorem sc_round_of : FnScope N_round_of ["maker"] (defScope s_round_of) := ⟨rfl, rfl, rfl, by decide +kernel, rfl, by decide +kernel, by decide +kernel⟩
abbrev s_innermost : Stmt := topS 12
abbrev N_innermost : List Str := ["maker"]
theorem sc_innermost : FnScope N_innermost ["maker"] (defScope s_innermost) := ⟨rfl, rfl, rfl, by decide +kernel, rfl, by decide +kernel, by decide +kernel⟩
abbrev s_inner_beat : Stmt := topS 13
abbrev N_inner_beat : List Str := ["maker", "t", "word", "many", "inner"]
theorem sc_inner_beat : FnScope N_inner_beat ["maker", "t"] (defScope s_inner_beat) := ⟨rfl, rfl, rfl, by decide +kernel, rfl, by decide +kernel, by decide +kernel⟩
abbrev s_values_at : Stmt := topS 14
abbrev N_values_at : List Str := ["maker", "beats", "numbers", "t"]
theorem sc_values_at : FnScope N_values_at ["maker", "beats"] (defScope s_values_at) := ⟨rfl, rfl, rfl, by decide +kernel, rfl, by decide +kernel, by decide +kernel⟩
abbrev s_values_of : Stmt := topS 15
abbrev N_values_of : List Str := ["maker", "beats"]
theorem sc_values_of : FnScope N_values_of ["maker", "beats"] (defScope s_values_of) := ⟨rfl, rfl, rfl, by decide +kernel, rfl, by decide +kernel, by decide +kernel⟩
abbrev s_moved : Stmt := topS 17
abbrev N_moved : List Str := ["most", "at", "up", "down"]
theorem sc_moved : FnScope N_moved ["most", "at", "up", "down"] (defScope s_moved) := ⟨rfl, rfl, rfl, by decide +kernel, rfl, by decide +kernel, by decide +kernel⟩
abbrev s_asks_of : Stmt := topS 21
abbrev N_asks_of : List Str := ["piece"]
theorem sc_asks_of : FnScope N_asks_of ["piece"] (defScope s_asks_of) := ⟨rfl, rfl, rfl, by decide +kernel, rfl, by decide +kernel, by decide +kernel⟩
abbrev s_round_numbers : Stmt := topS 22
abbrev N_round_numbers : List Str := ["maker"]
theorem sc_round_numbers : FnScope N_round_numbers ["maker"] (defScope s_round_numbers) := ⟨rfl, rfl, rfl, by decide +kernel, rfl, by decide +kernel, by decide +kernel⟩
abbrev s_numbers_of : Stmt := topS 23
abbrev N_numbers_of : List Str := ["piece", "maker", "k", "a", "b", "most", "at"]
theorem sc_numbers_of : FnScope N_numbers_of ["piece"] (defScope s_numbers_of) := ⟨rfl, rfl, rfl, by decide +kernel, rfl, by decide +kernel, by decide +kernel⟩
abbrev s_common_length : Stmt := topS 24
abbrev N_common_length : List Str := ["lists", "common", "numbers"]
theorem sc_common_length : FnScope N_common_length ["lists"] (defScope s_common_length) := ⟨rfl, rfl, rfl, by decide +kernel, rfl, by decide +kernel, by decide +kernel⟩
abbrev s_held_first : Stmt := topS 25
abbrev N_held_first : List Str := ["piece", "a", "b", "first", "ahead", "maker", "most", "at"]
theorem sc_held_first : FnScope N_held_first ["piece"] (defScope s_held_first) := ⟨rfl, rfl, rfl, by decide +kernel, rfl, by decide +kernel, by decide +kernel⟩
abbrev s_bits_asked : Stmt := topS 26
abbrev N_bits_asked : List Str := ["asks", "bits", "asked"]
theorem sc_bits_asked : FnScope N_bits_asked ["asks", "bits"] (defScope s_bits_asked) := ⟨rfl, rfl, rfl, by decide +kernel, rfl, by decide +kernel, by decide +kernel⟩
abbrev s_bit_of : Stmt := topS 27
abbrev N_bit_of : List Str := ["piece", "number", "held", "asked", "a", "b", "c"]
theorem sc_bit_of : FnScope N_bit_of ["piece", "number", "held", "asked"] (defScope s_bit_of) := ⟨rfl, rfl, rfl, by decide +kernel, rfl, by decide +kernel, by decide +kernel⟩
abbrev s_held_behind : Stmt := topS 28
abbrev N_held_behind : List Str := ["piece", "held", "own", "asked", "a", "b", "up", "down"]
theorem sc_held_behind : FnScope N_held_behind ["piece", "held", "own", "asked"] (defScope s_held_behind) := ⟨rfl, rfl, rfl, by decide +kernel, rfl, by decide +kernel, by decide +kernel⟩
abbrev s_Machine___init__ : Stmt := inClass (topS 29) 0
abbrev N_Machine___init__ : List Str := ["self", "pieces", "piece", "at"]
theorem sc_Machine___init__ : FnScope N_Machine___init__ ["self", "pieces"] (defScope s_Machine___init__) := ⟨rfl, rfl, rfl, by decide +kernel, rfl, by decide +kernel, by decide +kernel⟩
abbrev s_Machine_beat : Stmt := inClass (topS 29) 1
abbrev N_Machine_beat : List Str := ["self", "bits", "at", "piece", "number", "asked"]
theorem sc_Machine_beat : FnScope N_Machine_beat ["self"] (defScope s_Machine_beat) := ⟨rfl, rfl, rfl, by decide +kernel, rfl, by decide +kernel, by decide +kernel⟩
abbrev s_Machine_beats_now : Stmt := inClass (topS 29) 2
abbrev N_Machine_beats_now : List Str := ["self"]
theorem sc_Machine_beats_now : FnScope N_Machine_beats_now ["self"] (defScope s_Machine_beats_now) := ⟨rfl, rfl, rfl, by decide +kernel, rfl, by decide +kernel, by decide +kernel⟩
abbrev s_Machine_ones_now : Stmt := inClass (topS 29) 3
abbrev N_Machine_ones_now : List Str := ["self"]
theorem sc_Machine_ones_now : FnScope N_Machine_ones_now ["self"] (defScope s_Machine_ones_now) := ⟨rfl, rfl, rfl, by decide +kernel, rfl, by decide +kernel, by decide +kernel⟩
abbrev s_Machine_held_now : Stmt := inClass (topS 29) 4
abbrev N_Machine_held_now : List Str := ["self"]
theorem sc_Machine_held_now : FnScope N_Machine_held_now ["self"] (defScope s_Machine_held_now) := ⟨rfl, rfl, rfl, by decide +kernel, rfl, by decide +kernel, by decide +kernel⟩
abbrev s_run_to_settle : Stmt := topS 30
abbrev N_run_to_settle : List Str := ["pieces", "machine", "seen", "told", "held"]
theorem sc_run_to_settle : FnScope N_run_to_settle ["pieces"] (defScope s_run_to_settle) := ⟨rfl, rfl, rfl, by decide +kernel, rfl, by decide +kernel, by decide +kernel⟩
abbrev s_settles : Stmt := topS 31
abbrev N_settles : List Str := ["pieces", "settled", "ahead", "told"]
theorem sc_settles : FnScope N_settles ["pieces"] (defScope s_settles) := ⟨rfl, rfl, rfl, by decide +kernel, rfl, by decide +kernel, by decide +kernel⟩
abbrev s__law_box : Stmt := topS 33
abbrev N__law_box : List Str := ["_law_script", "_law_k", "_law_cell"]
theorem sc__law_box : FnScope N__law_box ["_law_script", "_law_k"] (defScope s__law_box) := ⟨rfl, rfl, rfl, by decide +kernel, rfl, by decide +kernel, by decide +kernel⟩
abbrev s__law_take : Stmt := topS 34
abbrev N__law_take : List Str := ["_law_box_here", "_law_many", "_law_found", "_law_once"]
theorem sc__law_take : FnScope N__law_take ["_law_box_here", "_law_many"] (defScope s__law_take) := ⟨rfl, rfl, rfl, by decide +kernel, rfl, by decide +kernel, by decide +kernel⟩
abbrev s__law_folded : Stmt := topS 35
abbrev N__law_folded : List Str := ["_law_script", "_law_many", "_law_cells", "_law_k", "_law_cell"]
theorem sc__law_folded : FnScope N__law_folded ["_law_script", "_law_many"] (defScope s__law_folded) := ⟨rfl, rfl, rfl, by decide +kernel, rfl, by decide +kernel, by decide +kernel⟩
abbrev s__law_alone : Stmt := topS 36
abbrev N__law_alone : List Str := ["_law_one", "_law_other"]
theorem sc__law_alone : FnScope N__law_alone ["_law_one", "_law_other"] (defScope s__law_alone) := ⟨rfl, rfl, rfl, by decide +kernel, rfl, by decide +kernel, by decide +kernel⟩
abbrev s__law_maker : Stmt := topS 37
abbrev N__law_maker : List Str := ["_law_box_here", "_law_deep", "_law_most", "_law_way", "_law_many", "_law_word", "_law_twos", "_law_wides", "_law_wide", "_law_taps", "_law_steps", "_law_k", "_law_step"]
theorem sc__law_maker : FnScope N__law_maker ["_law_box_here", "_law_deep", "_law_most"] (defScope s__law_maker) := ⟨rfl, rfl, rfl, by decide +kernel, rfl, by decide +kernel, by decide +kernel⟩
abbrev s__law_machine : Stmt := topS 38
abbrev N__law_machine : List Str := ["_law_box_here", "_law_many", "_law_most", "_law_loops", "_law_pieces", "_law_bare", "_law_number", "_law_way", "_law_top", "_law_a", "_law_b", "_law_c", "_law_some", "_law_size", "_law_high", "_law_maker_here", "_law_turn"]
theorem sc__law_machine : FnScope N__law_machine ["_law_box_here", "_law_many", "_law_most", "_law_loops"] (defScope s__law_machine) := ⟨rfl, rfl, rfl, by decide +kernel, rfl, by decide +kernel, by decide +kernel⟩
abbrev s__law_bits : Stmt := topS 39
abbrev N__law_bits : List Str := ["_law_pieces", "_law_beats", "_law_told", "_law_held", "_law_makers", "_law_rounds", "_law_beat", "_law_bits_here", "_law_number", "_law_piece", "_law_more", "_law_one", "_law_some"]
theorem sc__law_bits : FnScope N__law_bits ["_law_pieces", "_law_beats"] (defScope s__law_bits) := ⟨rfl, rfl, rfl, by decide +kernel, rfl, by decide +kernel, by decide +kernel⟩
abbrev s__law_bit : Stmt := topS 40
abbrev N__law_bit : List Str := ["_law_piece", "_law_bits_here", "_law_told", "_law_number", "_law_held", "_law_word", "_law_some", "_law_back", "_law_due", "_law_place"]
theorem sc__law_bit : FnScope N__law_bit ["_law_piece", "_law_bits_here", "_law_told", "_law_number", "_law_held"] (defScope s__law_bit) := ⟨rfl, rfl, rfl, by decide +kernel, rfl, by decide +kernel, by decide +kernel⟩
abbrev s__law_holds : Stmt := topS 41
abbrev N__law_holds : List Str := ["_law_pieces", "_law_beats", "_law_told", "_law_found", "_law_held", "_law_rounds", "_law_piece", "_law_at", "_law_lates", "_law_beat", "_law_coming", "_law_number", "_law_step", "_law_more", "_law_many"]
theorem sc__law_holds : FnScope N__law_holds ["_law_pieces", "_law_beats"] (defScope s__law_holds) := ⟨rfl, rfl, rfl, by decide +kernel, rfl, by decide +kernel, by decide +kernel⟩
abbrev s__law_late : Stmt := topS 42
abbrev N__law_late : List Str := ["_law_piece", "_law_told", "_law_beat", "_law_back"]
theorem sc__law_late : FnScope N__law_late ["_law_piece", "_law_told", "_law_beat"] (defScope s__law_late) := ⟨rfl, rfl, rfl, by decide +kernel, rfl, by decide +kernel, by decide +kernel⟩
abbrev s__law_settled : Stmt := topS 43
abbrev N__law_settled : List Str := ["_law_pieces", "_law_beats", "_law_first", "_law_beat", "_law_state", "_law_mark"]
theorem sc__law_settled : FnScope N__law_settled ["_law_pieces", "_law_beats"] (defScope s__law_settled) := ⟨rfl, rfl, rfl, by decide +kernel, rfl, by decide +kernel, by decide +kernel⟩
abbrev s__law_long_right : Stmt := topS 44
abbrev N__law_long_right : List Str := ["_law_box_here", "_law_inner", "_law_many", "_law_pieces", "_law_found"]
theorem sc__law_long_right : FnScope N__law_long_right ["_law_box_here"] (defScope s__law_long_right) := ⟨rfl, rfl, rfl, by decide +kernel, rfl, by decide +kernel, by decide +kernel⟩
abbrev s_law : Stmt := topS 45
abbrev N_law : List Str := ["_law_script", "_law_cells", "_law_k", "_law_box_here", "_law_turn", "_law_beats", "_law_most", "_law_pieces", "_law_due", "_law_turn_more", "_law_found"]
theorem sc_law : FnScope N_law ["_law_script"] (defScope s_law) := ⟨rfl, rfl, rfl, by decide +kernel, rfl, by decide +kernel, by decide +kernel⟩
theorem pe_globI {X : Cx} {x : Str} {i : Int} {pos : Pos} (hg : Gl X x) (hm : ∃ t, X.mg x = some (.int i t)) (hd : (x == ("__debug__" : Str)) = false := by decide) : PE X (.Name x pos) (tC (.int i)) := by
  obtain ⟨t, h⟩ := hm
  exact pe_glob hg h ⟨_, rfl⟩ hd
structure Defs (K : PySem.W.Frag) (mg : Str → Option Value) where
  f__wall : Addr
  fd__wall : FuncData
  F__wall : FnP K "_wall" s__wall f__wall fd__wall
  g__wall : mg "_wall" = some (.ref f__wall)
  b__wall : Binds K fd__wall ["k"] []
  f_common_divisor : Addr
  fd_common_divisor : FuncData
  F_common_divisor : FnP K "common_divisor" s_common_divisor f_common_divisor fd_common_divisor
  g_common_divisor : mg "common_divisor" = some (.ref f_common_divisor)
  b_common_divisor : Binds K fd_common_divisor ["one", "other"] []
  f_counter_round : Addr
  fd_counter_round : FuncData
  F_counter_round : FnP K "counter_round" s_counter_round f_counter_round fd_counter_round
  g_counter_round : mg "counter_round" = some (.ref f_counter_round)
  b_counter_round : Binds K fd_counter_round ["size", "step", "start"] []
  f_last_for_first : Addr
  fd_last_for_first : FuncData
  F_last_for_first : FnP K "last_for_first" s_last_for_first f_last_for_first fd_last_for_first
  g_last_for_first : mg "last_for_first" = some (.ref f_last_for_first)
  b_last_for_first : Binds K fd_last_for_first ["number", "wide"] []
  f_size_of : Addr
  fd_size_of : FuncData
  F_size_of : FnP K "size_of" s_size_of f_size_of fd_size_of
  g_size_of : mg "size_of" = some (.ref f_size_of)
  b_size_of : Binds K fd_size_of ["wide"] []
  f_turned_round : Addr
  fd_turned_round : FuncData
  F_turned_round : FnP K "turned_round" s_turned_round f_turned_round fd_turned_round
  g_turned_round : mg "turned_round" = some (.ref f_turned_round)
  b_turned_round : Binds K fd_turned_round ["wide", "start"] []
  f_odd_ones : Addr
  fd_odd_ones : FuncData
  F_odd_ones : FnP K "odd_ones" s_odd_ones f_odd_ones fd_odd_ones
  g_odd_ones : mg "odd_ones" = some (.ref f_odd_ones)
  b_odd_ones : Binds K fd_odd_ones ["number"] []
  f_held_round : Addr
  fd_held_round : FuncData
  F_held_round : FnP K "held_round" s_held_round f_held_round fd_held_round
  g_held_round : mg "held_round" = some (.ref f_held_round)
  b_held_round : Binds K fd_held_round ["wide", "taps", "start"] []
  f_plain_round : Addr
  fd_plain_round : FuncData
  F_plain_round : FnP K "plain_round" s_plain_round f_plain_round fd_plain_round
  g_plain_round : mg "plain_round" = some (.ref f_plain_round)
  b_plain_round : Binds K fd_plain_round ["maker"] []
  f_round_of : Addr
  fd_round_of : FuncData
  F_round_of : FnP K "round_of" s_round_of f_round_of fd_round_of
  g_round_of : mg "round_of" = some (.ref f_round_of)
  b_round_of : Binds K fd_round_of ["maker"] []
  f_innermost : Addr
  fd_innermost : FuncData
  F_innermost : FnP K "innermost" s_innermost f_innermost fd_innermost
  g_innermost : mg "innermost" = some (.ref f_innermost)
  b_innermost : Binds K fd_innermost ["maker"] []
  f_inner_beat : Addr
  fd_inner_beat : FuncData
  F_inner_beat : FnP K "inner_beat" s_inner_beat f_inner_beat fd_inner_beat
  g_inner_beat : mg "inner_beat" = some (.ref f_inner_beat)
  b_inner_beat : Binds K fd_inner_beat ["maker", "t"] []
  f_values_at : Addr
  fd_values_at : FuncData
  F_values_at : FnP K "values_at" s_values_at f_values_at fd_values_at
  g_values_at : mg "values_at" = some (.ref f_values_at)
  b_values_at : Binds K fd_values_at ["maker", "beats"] []
  f_values_of : Addr
  fd_values_of : FuncData
  F_values_of : FnP K "values_of" s_values_of f_values_of fd_values_of
  g_values_of : mg "values_of" = some (.ref f_values_of)
  b_values_of : Binds K fd_values_of ["maker", "beats"] []
  f_moved : Addr
  fd_moved : FuncData
  F_moved : FnP K "moved" s_moved f_moved fd_moved
  g_moved : mg "moved" = some (.ref f_moved)
  b_moved : Binds K fd_moved ["most", "at", "up", "down"] []
  f_asks_of : Addr
  fd_asks_of : FuncData
  F_asks_of : FnP K "asks_of" s_asks_of f_asks_of fd_asks_of
  g_asks_of : mg "asks_of" = some (.ref f_asks_of)
  b_asks_of : Binds K fd_asks_of ["piece"] []
  f_round_numbers : Addr
  fd_round_numbers : FuncData
  F_round_numbers : FnP K "round_numbers" s_round_numbers f_round_numbers fd_round_numbers
  g_round_numbers : mg "round_numbers" = some (.ref f_round_numbers)
  b_round_numbers : Binds K fd_round_numbers ["maker"] []
  f_numbers_of : Addr
  fd_numbers_of : FuncData
  F_numbers_of : FnP K "numbers_of" s_numbers_of f_numbers_of fd_numbers_of
  g_numbers_of : mg "numbers_of" = some (.ref f_numbers_of)
  b_numbers_of : Binds K fd_numbers_of ["piece"] []
  f_common_length : Addr
  fd_common_length : FuncData
  F_common_length : FnP K "common_length" s_common_length f_common_length fd_common_length
  g_common_length : mg "common_length" = some (.ref f_common_length)
  b_common_length : Binds K fd_common_length ["lists"] []
  f_held_first : Addr
  fd_held_first : FuncData
  F_held_first : FnP K "held_first" s_held_first f_held_first fd_held_first
  g_held_first : mg "held_first" = some (.ref f_held_first)
  b_held_first : Binds K fd_held_first ["piece"] []
  f_bits_asked : Addr
  fd_bits_asked : FuncData
  F_bits_asked : FnP K "bits_asked" s_bits_asked f_bits_asked fd_bits_asked
  g_bits_asked : mg "bits_asked" = some (.ref f_bits_asked)
  b_bits_asked : Binds K fd_bits_asked ["asks", "bits"] []
  f_bit_of : Addr
  fd_bit_of : FuncData
  F_bit_of : FnP K "bit_of" s_bit_of f_bit_of fd_bit_of
  g_bit_of : mg "bit_of" = some (.ref f_bit_of)
  b_bit_of : Binds K fd_bit_of ["piece", "number", "held", "asked"] []
  f_held_behind : Addr
  fd_held_behind : FuncData
  F_held_behind : FnP K "held_behind" s_held_behind f_held_behind fd_held_behind
  g_held_behind : mg "held_behind" = some (.ref f_held_behind)
  b_held_behind : Binds K fd_held_behind ["piece", "held", "own", "asked"] []
  f_Machine___init__ : Addr
  fd_Machine___init__ : FuncData
  F_Machine___init__ : FunD K "__init__" "Machine.__init__" (defArgs s_Machine___init__) (defBody s_Machine___init__) (defScope s_Machine___init__) [] [] f_Machine___init__ fd_Machine___init__
  b_Machine___init__ : Binds K fd_Machine___init__ ["self", "pieces"] []
  f_Machine_beat : Addr
  fd_Machine_beat : FuncData
  F_Machine_beat : FunD K "beat" "Machine.beat" (defArgs s_Machine_beat) (defBody s_Machine_beat) (defScope s_Machine_beat) [] [] f_Machine_beat fd_Machine_beat
  b_Machine_beat : Binds K fd_Machine_beat ["self"] []
  f_Machine_beats_now : Addr
  fd_Machine_beats_now : FuncData
  F_Machine_beats_now : FunD K "beats_now" "Machine.beats_now" (defArgs s_Machine_beats_now) (defBody s_Machine_beats_now) (defScope s_Machine_beats_now) [] [] f_Machine_beats_now fd_Machine_beats_now
  b_Machine_beats_now : Binds K fd_Machine_beats_now ["self"] []
  f_Machine_ones_now : Addr
  fd_Machine_ones_now : FuncData
  F_Machine_ones_now : FunD K "ones_now" "Machine.ones_now" (defArgs s_Machine_ones_now) (defBody s_Machine_ones_now) (defScope s_Machine_ones_now) [] [] f_Machine_ones_now fd_Machine_ones_now
  b_Machine_ones_now : Binds K fd_Machine_ones_now ["self"] []
  f_Machine_held_now : Addr
  fd_Machine_held_now : FuncData
  F_Machine_held_now : FunD K "held_now" "Machine.held_now" (defArgs s_Machine_held_now) (defBody s_Machine_held_now) (defScope s_Machine_held_now) [] [] f_Machine_held_now fd_Machine_held_now
  b_Machine_held_now : Binds K fd_Machine_held_now ["self"] []
  f_run_to_settle : Addr
  fd_run_to_settle : FuncData
  F_run_to_settle : FnP K "run_to_settle" s_run_to_settle f_run_to_settle fd_run_to_settle
  g_run_to_settle : mg "run_to_settle" = some (.ref f_run_to_settle)
  b_run_to_settle : Binds K fd_run_to_settle ["pieces"] []
  f_settles : Addr
  fd_settles : FuncData
  F_settles : FnP K "settles" s_settles f_settles fd_settles
  g_settles : mg "settles" = some (.ref f_settles)
  b_settles : Binds K fd_settles ["pieces"] []
  f__law_box : Addr
  fd__law_box : FuncData
  F__law_box : FnP K "_law_box" s__law_box f__law_box fd__law_box
  g__law_box : mg "_law_box" = some (.ref f__law_box)
  b__law_box : Binds K fd__law_box ["_law_script", "_law_k"] []
  f__law_take : Addr
  fd__law_take : FuncData
  F__law_take : FnP K "_law_take" s__law_take f__law_take fd__law_take
  g__law_take : mg "_law_take" = some (.ref f__law_take)
  b__law_take : Binds K fd__law_take ["_law_box_here", "_law_many"] []
  f__law_folded : Addr
  fd__law_folded : FuncData
  F__law_folded : FnP K "_law_folded" s__law_folded f__law_folded fd__law_folded
  g__law_folded : mg "_law_folded" = some (.ref f__law_folded)
  b__law_folded : Binds K fd__law_folded ["_law_script", "_law_many"] []
  f__law_alone : Addr
  fd__law_alone : FuncData
  F__law_alone : FnP K "_law_alone" s__law_alone f__law_alone fd__law_alone
  g__law_alone : mg "_law_alone" = some (.ref f__law_alone)
  b__law_alone : Binds K fd__law_alone ["_law_one", "_law_other"] []
  f__law_maker : Addr
  fd__law_maker : FuncData
  F__law_maker : FnP K "_law_maker" s__law_maker f__law_maker fd__law_maker
  g__law_maker : mg "_law_maker" = some (.ref f__law_maker)
  b__law_maker : Binds K fd__law_maker ["_law_box_here", "_law_deep", "_law_most"] []
  f__law_machine : Addr
  fd__law_machine : FuncData
  F__law_machine : FnP K "_law_machine" s__law_machine f__law_machine fd__law_machine
  g__law_machine : mg "_law_machine" = some (.ref f__law_machine)
  b__law_machine : Binds K fd__law_machine ["_law_box_here", "_law_many", "_law_most", "_law_loops"] []
  f__law_bits : Addr
  fd__law_bits : FuncData
  F__law_bits : FnP K "_law_bits" s__law_bits f__law_bits fd__law_bits
  g__law_bits : mg "_law_bits" = some (.ref f__law_bits)
  b__law_bits : Binds K fd__law_bits ["_law_pieces", "_law_beats"] []
  f__law_bit : Addr
  fd__law_bit : FuncData
  F__law_bit : FnP K "_law_bit" s__law_bit f__law_bit fd__law_bit
  g__law_bit : mg "_law_bit" = some (.ref f__law_bit)
  b__law_bit : Binds K fd__law_bit ["_law_piece", "_law_bits_here", "_law_told", "_law_number", "_law_held"] []
  f__law_holds : Addr
  fd__law_holds : FuncData
  F__law_holds : FnP K "_law_holds" s__law_holds f__law_holds fd__law_holds
  g__law_holds : mg "_law_holds" = some (.ref f__law_holds)
  b__law_holds : Binds K fd__law_holds ["_law_pieces", "_law_beats"] []
  f__law_late : Addr
  fd__law_late : FuncData
  F__law_late : FnP K "_law_late" s__law_late f__law_late fd__law_late
  g__law_late : mg "_law_late" = some (.ref f__law_late)
  b__law_late : Binds K fd__law_late ["_law_piece", "_law_told", "_law_beat"] []
  f__law_settled : Addr
  fd__law_settled : FuncData
  F__law_settled : FnP K "_law_settled" s__law_settled f__law_settled fd__law_settled
  g__law_settled : mg "_law_settled" = some (.ref f__law_settled)
  b__law_settled : Binds K fd__law_settled ["_law_pieces", "_law_beats"] []
  f__law_long_right : Addr
  fd__law_long_right : FuncData
  F__law_long_right : FnP K "_law_long_right" s__law_long_right f__law_long_right fd__law_long_right
  g__law_long_right : mg "_law_long_right" = some (.ref f__law_long_right)
  b__law_long_right : Binds K fd__law_long_right ["_law_box_here"] []
  f_law : Addr
  fd_law : FuncData
  F_law : FnP K "law" s_law f_law fd_law
  g_law : mg "law" = some (.ref f_law)
  b_law : Binds K fd_law ["_law_script"] []
  C_Machine : Addr
  g_Machine : mg "Machine" = some (.ref C_Machine)
  cl_Machine : Cls K C_Machine
  mk_Machine : L2.Mk K C_Machine f_Machine___init__
  na_Machine_asks : NoAttr K C_Machine "asks"
  na_Machine_beats : NoAttr K C_Machine "beats"
  na_Machine_common : NoAttr K C_Machine "common"
  na_Machine_counts : NoAttr K C_Machine "counts"
  na_Machine_held : NoAttr K C_Machine "held"
  na_Machine_holding : NoAttr K C_Machine "holding"
  na_Machine_numbers : NoAttr K C_Machine "numbers"
  na_Machine_pieces : NoAttr K C_Machine "pieces"
  mt_Machine_beat : Meth K C_Machine "beat" f_Machine_beat
  mt_Machine_beats_now : Meth K C_Machine "beats_now" f_Machine_beats_now
  mt_Machine_ones_now : Meth K C_Machine "ones_now" f_Machine_ones_now
  mt_Machine_held_now : Meth K C_Machine "held_now" f_Machine_held_now
  C_ASKED : Addr
  g_ASKED : mg "ASKED" = some (.ref C_ASKED)
  e_ASKED : C_ASKED = He.ga K "ASKED"
  m_abs : mg "abs" = none
  m_divmod : mg "divmod" = none
  m_enumerate : mg "enumerate" = none
  m_int : mg "int" = none
  m_isinstance : mg "isinstance" = none
  m_len : mg "len" = none
  m_list : mg "list" = none
  m_max : mg "max" = none
  m_min : mg "min" = none
  m_range : mg "range" = none
  m_str : mg "str" = none
  m_sum : mg "sum" = none
  m_tuple : mg "tuple" = none
  i_MOST_SETTLING : ∃ t, mg "MOST_SETTLING" = some (.int 8192 t)
theorem bt_abs : bootBuiltins "abs" = some (.builtin "abs") := by decide +kernel
theorem bt_divmod : bootBuiltins "divmod" = some (.builtin "divmod") := by decide +kernel
theorem bt_enumerate : bootBuiltins "enumerate" = some (.type "enumerate") := by decide +kernel
theorem bt_int : bootBuiltins "int" = some (.type "int") := by decide +kernel
theorem bt_isinstance : bootBuiltins "isinstance" = some (.builtin "isinstance") := by decide +kernel
theorem bt_len : bootBuiltins "len" = some (.builtin "len") := by decide +kernel
theorem bt_list : bootBuiltins "list" = some (.type "list") := by decide +kernel
theorem bt_max : bootBuiltins "max" = some (.builtin "max") := by decide +kernel
theorem bt_min : bootBuiltins "min" = some (.builtin "min") := by decide +kernel
theorem bt_range : bootBuiltins "range" = some (.type "range") := by decide +kernel
theorem bt_str : bootBuiltins "str" = some (.type "str") := by decide +kernel
theorem bt_sum : bootBuiltins "sum" = some (.builtin "sum") := by decide +kernel
theorem bt_tuple : bootBuiltins "tuple" = some (.type "tuple") := by decide +kernel
def frT (t b : Int) : Int := (b.sign * t) / (Int.gcd t b : Int)
def frB (t b : Int) : Int := (b.natAbs : Int) / (Int.gcd t b : Int)
theorem fr_ex (t : Int) {b : Int} (hb : b ≠ 0) : ∃ (g : Nat) (x y : Int), 0 < g ∧ Int.gcd t b = g ∧ t = (g : Int) * x ∧ b = (g : Int) * y ∧ y ≠ 0 ∧ Int.gcd x y = 1 := by
  have hg : 0 < Int.gcd t b := Int.gcd_pos_of_ne_zero_right t hb
  obtain ⟨x, hx⟩ := Int.gcd_dvd_left t b
  obtain ⟨y, hy⟩ := Int.gcd_dvd_right t b
  refine ⟨Int.gcd t b, x, y, hg, rfl, hx, hy, fun e => hb (by rw [hy, e, Int.mul_zero]), ?_⟩
  generalize eg : Int.gcd t b = g at hg hx hy
  have e : g = g * Int.gcd x y := by
    rw [← eg]
    conv => lhs; rw [hx, hy, Int.gcd_mul_left]
    rw [Int.natAbs_natCast, eg]
  exact Nat.eq_of_mul_eq_mul_left hg (by rw [← e, Nat.mul_one])
theorem sgn {b : Int} {g : Nat} {y : Int} (hg : 0 < g) (hb : b = (g : Int) * y) : b.sign = y.sign := by
  rw [hb, Int.sign_mul, Int.sign_eq_one_of_pos (by omega), Int.one_mul]
theorem fr_vals {t b : Int} {g : Nat} {x y : Int} (hg : 0 < g) (eg : Int.gcd t b = g) (ht : t = (g : Int) * x) (hb : b = (g : Int) * y) : frT t b = y.sign * x ∧ frB t b = (y.natAbs : Int) := by
  have g0 : (g : Int) ≠ 0 := by omega
  constructor
  · unfold frT
    rw [eg, sgn hg hb, ht, show y.sign * ((g : Int) * x) = (g : Int) * (y.sign * x) by rw [Int.mul_left_comm]]
    exact Int.mul_ediv_cancel_left _ g0
  · unfold frB
    rw [eg, hb, Int.natAbs_mul, Int.natAbs_natCast, Int.natCast_mul]
    exact Int.mul_ediv_cancel_left _ g0
theorem sgn_abs {y : Int} (hy : y ≠ 0) : y.sign.natAbs = 1 := Int.natAbs_sign_of_ne_zero hy
theorem fr_pos (t : Int) {b : Int} (hb : b ≠ 0) : 0 < frB t b := by
  obtain ⟨g, x, y, hg, eg, ht, hy, hy0, h1⟩ := fr_ex t hb
  rw [(fr_vals hg eg ht hy).2]
  omega
theorem fr_gcd (t : Int) {b : Int} (hb : b ≠ 0) : Int.gcd (frT t b) (frB t b) = 1 := by
  obtain ⟨g, x, y, hg, eg, ht, hy, hy0, h1⟩ := fr_ex t hb
  rw [(fr_vals hg eg ht hy).1, (fr_vals hg eg ht hy).2]
  show Nat.gcd (y.sign * x).natAbs ((y.natAbs : Int)).natAbs = 1
  rw [Int.natAbs_mul, sgn_abs hy0, Nat.one_mul, Int.natAbs_natCast]
  exact h1
theorem fr_eq (t : Int) {b : Int} (hb : b ≠ 0) : frT t b * b = t * frB t b := by
  obtain ⟨g, x, y, hg, eg, ht, hy, hy0, h1⟩ := fr_ex t hb
  rw [(fr_vals hg eg ht hy).1, (fr_vals hg eg ht hy).2]
  rw [ht, hy]
  have e : y * y.sign = (y.natAbs : Int) := Int.mul_sign_self y
  rw [← e]
  simp only [Int.mul_comm, Int.mul_left_comm, Int.mul_assoc]
theorem fr_absT (t : Int) {b : Int} (hb : b ≠ 0) : (frT t b).natAbs ≤ t.natAbs := by
  obtain ⟨g, x, y, hg, eg, ht, hy, hy0, h1⟩ := fr_ex t hb
  rw [(fr_vals hg eg ht hy).1, ht, Int.natAbs_mul, sgn_abs hy0, Nat.one_mul, Int.natAbs_mul, Int.natAbs_natCast]
  exact Nat.le_mul_of_pos_left _ hg
theorem fr_absB (t : Int) {b : Int} (hb : b ≠ 0) : (frB t b).natAbs ≤ b.natAbs := by
  obtain ⟨g, x, y, hg, eg, ht, hy, hy0, h1⟩ := fr_ex t hb
  rw [(fr_vals hg eg ht hy).2, hy, Int.natAbs_mul, Int.natAbs_natCast, Int.natAbs_natCast]
  exact Nat.le_mul_of_pos_left _ hg
theorem fr_negT (t b : Int) : frT (-t) (-b) = frT t b := by
  unfold frT
  rw [Int.sign_neg, Int.neg_mul_neg, Int.gcd_neg, Int.neg_gcd]
theorem fr_negB (t b : Int) : frB (-t) (-b) = frB t b := by
  unfold frB
  rw [Int.natAbs_neg, Int.gcd_neg, Int.neg_gcd]
/-- what the program's two ways reckon -/
theorem fd_pos {g : Nat} {x : Int} (hg : 0 < g) : ((g : Int) * x).fdiv (g : Int) = x := by
  rw [Int.fdiv_eq_ediv_of_nonneg _ (by omega)]
  exact Int.mul_ediv_cancel_left _ (by omega)
theorem fd_neg {g : Nat} {x : Int} (hg : 0 < g) : ((g : Int) * x).fdiv (-(g : Int)) = -x := by
  rw [show (g : Int) * x = -(g : Int) * (-x) by rw [Int.neg_mul_neg]]
  exact Int.mul_fdiv_cancel_left _ (by omega)
theorem fr_lt (t : Int) {b : Int} (hb : b < 0) : t.fdiv (-(Int.gcd t b : Int)) = frT t b ∧ b.fdiv (-(Int.gcd t b : Int)) = frB t b := by
  obtain ⟨g, x, y, hg, eg, ht, hy, hy0, h1⟩ := fr_ex t (show b ≠ 0 by omega)
  rw [(fr_vals hg eg ht hy).1, (fr_vals hg eg ht hy).2, eg]
  have yn : y < 0 := by
    rw [hy] at hb
    exact Int.neg_of_mul_neg_right hb (by omega)
  constructor
  · conv => lhs; rw [ht]
    rw [fd_neg hg, Int.sign_eq_neg_one_of_neg yn]
    omega
  · conv => lhs; rw [hy]
    rw [fd_neg hg]
    omega
theorem fr_ge (t : Int) {b : Int} (hb : 0 < b) : t.fdiv (Int.gcd t b : Int) = frT t b ∧ b.fdiv (Int.gcd t b : Int) = frB t b := by
  obtain ⟨g, x, y, hg, eg, ht, hy, hy0, h1⟩ := fr_ex t (show b ≠ 0 by omega)
  rw [(fr_vals hg eg ht hy).1, (fr_vals hg eg ht hy).2, eg]
  have yn : 0 < y := by
    rw [hy] at hb
    exact Int.pos_of_mul_pos_right hb (by omega)
  constructor
  · conv => lhs; rw [ht]
    rw [fd_pos hg, Int.sign_eq_one_of_pos yn]
    omega
  · conv => lhs; rw [hy]
    rw [fd_pos hg]
    omega
/-! sizes -/
def S (n : Nat) (x : Int) : Prop := x.natAbs < 2 ^ n
theorem S.mono {n m : Nat} {x : Int} (h : S n x) (l : n ≤ m) : S m x := Nat.lt_of_lt_of_le h (Nat.pow_le_pow_right (by decide) l)
theorem S.mul {n m : Nat} {x y : Int} (h : S n x) (k : S m y) : S (n + m) (x * y) := by
  unfold S at *
  rw [Int.natAbs_mul, Nat.pow_add]
  exact Nat.mul_lt_mul'' h k
theorem S.add {n : Nat} {x y : Int} (h : S n x) (k : S n y) : S (n + 1) (x + y) := by
  unfold S at *
  rw [Nat.pow_succ]
  omega
theorem S.sub {n : Nat} {x y : Int} (h : S n x) (k : S n y) : S (n + 1) (x - y) := by
  unfold S at *
  rw [Nat.pow_succ]
  omega
theorem S.frT {n : Nat} {t b : Int} (h : S n t) (hb : b ≠ 0) : S n (frT t b) := Nat.lt_of_le_of_lt (fr_absT t hb) h
theorem S.frB {n : Nat} {t b : Int} (h : S n b) (hb : b ≠ 0) : S n (frB t b) := Nat.lt_of_le_of_lt (fr_absB t hb) h
theorem abs_eq (i : Int) : (if i < 0 then -i else i) = (i.natAbs : Int) := by
  split <;> omega
/-! the same rules with the written part by its name: for the inside of comprehensions -/
theorem pg_tupK {X : Cx} {K : PySem.W.Frag} {es : List Expr} {k n : Nat} {pos : Pos} {t : TGs} (h : X.K = K) (hc : X.calm = true) (hg : PGs X es t) (hn : (assignEach es X.env).length = n := by rfl) (hst : (assignEach es X.env).findIdx? (·.1) = none := by rfl) : PG X (.Tuple es k pos) (gTup K n t) := by
  subst h
  exact pg_tup hc hg hn hst
theorem isiK {X : Cx} {K : PySem.W.Frag} (h : X.K = K) : CallR X (.builtin "isinstance") (rIsi K) := by
  subst h
  exact call_isi
theorem ixlK {X : Cx} {K : PySem.W.Frag} (h : X.K = K) : IxR X (rIxL K) := by
  subst h
  exact ix_list
theorem ixtK {X : Cx} {K : PySem.W.Frag} (h : X.K = K) : IxR X (rIxT K) := by
  subst h
  exact ix_tup
theorem lenK {X : Cx} {K : PySem.W.Frag} (h : X.K = K) : CallR X (.builtin "len") (fun xs H Q => ∃ p ys, xs = [.ref p] ∧ (SqL K H p ys ∨ SqT K H p ys) ∧ Q (.int ys.length) H) := by
  subst h
  exact call_len_seq
theorem sumK {X : Cx} {K : PySem.W.Frag} (h : X.K = K) (hc : X.calm = true) : CallR X (.builtin "sum") (rSum K) := by
  subst h
  exact cr_sum hc
theorem yes_ite {σ : L2.St} {H : Hp} {A B : Hp → Prop} (h : A H) : tYes σ H (fun b H3 => if b = true then A H3 else B H3) := by
  show if true = true then A H else B H
  rw [if_pos rfl]
  exact h
/-! heaps -/
theorem same_upd {H : Hp} {p : Addr} {o : HO} (h : H p = none) : Same H (upd H p o) := fun b x e => by
  rw [upd_ne (ne_of_none e h)]
  exact e
def But (p : Addr) (H H' : Hp) : Prop := ∀ b o, b ≠ p → H b = some o → H' b = some o
theorem But.trans {p : Addr} {H H1 H2 : Hp} (a : But p H H1) (b : But p H1 H2) : But p H H2 := fun c o n e => b c o n (a c o n e)
theorem But.refl (p : Addr) (H : Hp) : But p H H := fun _ _ _ e => e
theorem But.put {p : Addr} {H H' : Hp} {o : HO} (a : But p H H') : But p H (L2.upd H' p o) := fun c x n e => by
  rw [upd_ne n]
  exact a c x n e
theorem same_but {p : Addr} {H H' : Hp} (a : Same H H') : But p H H' := fun c x _ e => a c x e
theorem But.new {p q : Addr} {H H' : Hp} {o : HO} (a : But p H H') (n : H' q = none) : But p H (upd H' q o) := fun c x hn e => by
  have e2 := a c x hn e
  rw [upd_ne (ne_of_none e2 n)]
  exact e2
/-- objects made since H may change: what H has stays -/
theorem same_newer {H H' : Hp} {q : Addr} {o : HO} (a : Same H H') (n : H q = none) : Same H (upd H' q o) := fun c x e => by
  rw [upd_ne (ne_of_none e n)]
  exact a c x e
theorem But.same {p : Addr} {H H1 H2 : Hp} (n : H p = none) (a : Same H H1) (b : But p H1 H2) : Same H H2 := fun c x e =>
  b c x (ne_of_none e n) (a c x e)
/-- the box: a rest, a begin, how often -/
def Bx (H : Hp) (p : Addr) (n : Nat) : Prop := ∃ a b c : Int, H p = some (.lst [.int a, .int b, .int c]) ∧ 0 ≤ a ∧ 0 ≤ b ∧ b < 2147483647 ∧ 0 ≤ c ∧ c ≤ n
theorem Bx.same {H H' : Hp} {p : Addr} {n : Nat} (h : Bx H p n) (s : Same H H') : Bx H' p n := by
  obtain ⟨a, b, c, hp, r⟩ := h
  exact ⟨a, b, c, s _ _ hp, r⟩
theorem Bx.mono {H : Hp} {p : Addr} {n m : Nat} (h : Bx H p n) (l : n ≤ m) : Bx H p m := by
  obtain ⟨a, b, c, hp, h1, h2, h3, h4, h5⟩ := h
  exact ⟨a, b, c, hp, h1, h2, h3, h4, by omega⟩
theorem Bx.new {H : Hp} {p q : Addr} {n : Nat} {o : HO} (h : Bx H p n) (nq : H q = none) : Bx (L2.upd H q o) p n := h.same (same_upd nq)
theorem Bx.ne_tup {H : Hp} {p q : Addr} {n : Nat} {xs : List V} (h : Bx H p n) (e : H q = some (.tup xs)) : q ≠ p := by
  obtain ⟨a, b, c, hp, _⟩ := h
  exact ne_of e hp (fun z => by cases z)
/-- an item of a menu of numbers -/
theorem at_menu {Pr : Int → Prop} {xs : List Int} {r : Int} (h0 : 0 ≤ r) (h1 : r < xs.length) (hx : ∀ x, x ∈ xs → Pr x) : ∃ v, atI (xs.map V.int) r = some (V.int v) ∧ Pr v := by
  obtain ⟨j, rfl⟩ := Int.eq_ofNat_of_zero_le h0
  have hj : j < xs.length := by omega
  refine ⟨xs[j], atI_nat (by rw [List.getElem?_map, List.getElem?_eq_getElem hj]; rfl), hx _ (List.getElem_mem hj)⟩
theorem SqL.mk {K : PySem.W.Frag} {H : Hp} {a : Addr} {xs : List V} (h : H a = some (.lst xs)) : SqL K H a xs := .inl (.inl h)
theorem SqT.mk {K : PySem.W.Frag} {H : Hp} {a : Addr} {xs : List V} (h : H a = some (.tup xs)) : SqT K H a xs := .inl (.inl h)
theorem same_tup {K : PySem.W.Frag} {H H' : Hp} {a : Addr} {xs : List V} (e : Same H H') (h : SqT K H a xs) : SqT K H' a xs := by
  rcases h with (h | ⟨o, h⟩) | h
  · exact .inl (.inl (e _ _ h))
  · exact .inl (.inr ⟨o, e _ _ h⟩)
  · exact .inr h
theorem ixn {n j : Nat} (hj : j < n) : ixN n (j : Int) = some j := by
  unfold ixN
  rw [if_pos (by omega), if_pos (by omega)]
  simp
theorem cdivP {a m : Int} (h0 : 0 < m) (h1 : m < 2 ^ 60) : CDivP a m := ⟨h0, PyProof.noPylong_of_log2 (wide_div (i := a) (b := 60) h0 (by omega) (by decide) (by decide)).2⟩
theorem i01 {c : Prop} [Decidable c] : -(2 ^ 64) < (if c then (1 : Int) else 0) ∧ (if c then (1 : Int) else 0) < 2 ^ 64 := by
  split <;> decide
theorem i01n {c : Prop} [Decidable c] : 0 ≤ (if c then (1 : Int) else 0) := by
  split <;> decide
theorem absn (i : Int) : 0 ≤ (if i < 0 then -i else i) := by
  split <;> omega
/-! the box of a cell -/
def sp__law_box (K : PySem.W.Frag) : Sp := fun vs H Q _ => ∃ (a : Addr) (ns : List Int) (k : Nat), vs = [.ref a, .int (k : Nat)] ∧ SqL K H a (ns.map V.int) ∧ k < 1000 ∧
  ∀ H' p, Same H H' → H p = none → Bx H' p 0 → Q (.ref p) H'
theorem ok__law_box (T : Defs K mg) : FnOk P w K mg base CX0 1 T.f__law_box T.fd__law_box ["_law_script", "_law_k"] (sp__law_box K) := by
  refine T.F__law_box.ok sc__law_box (fun vs H Q E h => ?_) (fun cdv A outer s H vs Q E hr h => ?_)
  · obtain ⟨a, ns, k, rfl, hS, hk, q⟩ := h
    rfl
  · obtain ⟨a, ns, k, rfl, hS, hk, q⟩ := h
    refine ⟨_, PSs.nox (pss_cons (ps_set (i := 2) sc__law_box.nd rfl (.inl rfl) pe_int)
    (pss_cons (ps_if (pt_cmpR op_lt (pv 1) (pe_callB call_len_seq (by rfl) T.m_len bt_len (pa_cons (pv 0) pa_nil)) (nomark _)) (pss_one (ps_set (i := 2) sc__law_box.nd rfl (.inl rfl) (pe_ix ix_list (pv 0) (pv 1) (fun _ _ => rfl)))) pss_nil)
    (pss_one (ps_ret (pe_lst (pa_cons (pe_op op_mul (pe_callB call_abs (by rfl) T.m_abs bt_abs (pa_cons (pv 2) pa_nil)) (pe_callTy call_int1 (by rfl) T.m_int bt_int (pa_cons (pe_cmpR op_ge (pe_callB call_abs (by rfl) T.m_abs bt_abs (pa_cons (pv 2) pa_nil)) (pe_op op_pow pe_int pe_int) (nomark _)) pa_nil))) (pa_cons (pe_op op_mod (pe_op op_add (pv 2) (pe_op op_mul (pe_op op_mul pe_int (pv 1)) (pv 1))) pe_int) (pa_cons pe_int pa_nil)))))))), ?_⟩
    refine ⟨.int k, rfl, .ref a, rfl, a, _, rfl, .inl hS, _, _, rfl, rfl, _, rfl, ite2 (fun e => ?_) (fun e => ?_)⟩
    · have hl : (k : Int) < ((ns.map V.int).length : Nat) := of_decide_eq_true e
      rw [List.length_map] at hl
      have hj : k < ns.length := by omega
      refine ⟨.ref a, rfl, .int k, rfl, a, _, _, .int ns[k], rfl, rfl, hS, atI_nat (by rw [List.getElem?_map, List.getElem?_eq_getElem hj]; rfl), ?_⟩
      refine ⟨_, rfl, _, rfl, _, rfl, _, rfl, _, _, rfl, rfl, ⟨by decide, by decide, by decide⟩, _, _, rfl, rfl, .inr ⟨_, rfl, _, _, rfl, rfl, .inr i01, _, rfl, .int k, rfl, _, _, rfl, rfl, .inl ⟨by decide, by decide⟩, .int k, rfl, _, _, rfl, rfl, .inr ⟨by omega, by omega⟩, _, _, rfl, rfl, _, _, rfl, rfl, (show (0 : Int) < 2147483647 by decide), (show 3 ≤ sizeLine by decide), fun p np => ?_⟩⟩
      refine q _ p (same_upd np) np ⟨_, _, _, upd_same, ?_, Int.emod_nonneg _ (by decide), Int.emod_lt_of_pos _ (by decide), Int.le_refl 0, Int.le_refl 0⟩
      exact Int.mul_nonneg (absn _) i01n
    · refine ⟨_, rfl, _, rfl, _, rfl, _, rfl, _, _, rfl, rfl, ⟨by decide, by decide, by decide⟩, _, _, rfl, rfl, .inr ⟨_, rfl, _, _, rfl, rfl, .inr i01, _, rfl, .int k, rfl, _, _, rfl, rfl, .inl ⟨by decide, by decide⟩, .int k, rfl, _, _, rfl, rfl, .inr ⟨by omega, by omega⟩, _, _, rfl, rfl, _, _, rfl, rfl, (show (0 : Int) < 2147483647 by decide), (show 3 ≤ sizeLine by decide), fun p np => ?_⟩⟩
      refine q _ p (same_upd np) np ⟨_, _, _, upd_same, ?_, Int.emod_nonneg _ (by decide), Int.emod_lt_of_pos _ (by decide), Int.le_refl 0, Int.le_refl 0⟩
      exact Int.mul_nonneg (absn _) i01n
/-! one number taken -/
def sp__law_take (K : PySem.W.Frag) : Sp := fun vs H Q _ => ∃ (p : Addr) (m : Int) (n : Nat), vs = [.ref p, .int m] ∧ Bx H p n ∧ 0 < m ∧ m < 2 ^ 60 ∧ n < 1000000000000 ∧
  ∀ H' r, But p H H' → Bx H' p (n + 1) → 0 ≤ r → r < m → Q (.int r) H'
theorem ok__law_take (T : Defs K mg) : FnOk P w K mg base CX0 1 T.f__law_take T.fd__law_take ["_law_box_here", "_law_many"] (sp__law_take K) := by
  refine T.F__law_take.ok sc__law_take (fun vs H Q E h => ?_) (fun cdv A outer s H vs Q E hr h => ?_)
  · obtain ⟨p, m, n, rfl, ⟨a, b, c, hp, ha, hb, hb2, hc, hc2⟩, h0, h1, hn, q⟩ := h
    rfl
  · obtain ⟨p, m, n, rfl, ⟨a, b, c, hp, ha, hb, hb2, hc, hc2⟩, h0, h1, hn, q⟩ := h
    refine ⟨_, PSs.nox (pss_cons (ps_if (pt_cmpR op_gt (pe_ix ix_list (pv 0) pe_int (fun _ _ => rfl)) pe_int (nomark _)) (pss_cons (ps_asg (pe_callB call_divmodW (by rfl) T.m_divmod bt_divmod (pa_cons (pe_ix ix_list (pv 0) pe_int (fun _ _ => rfl)) (pa_cons (pv 1) pa_nil))) (pg_tup rfl (pgs_cons (pg_sub (pv 0) pe_int set_list) (pgs_cons (pg_name (i := 2) sc__law_take.nd rfl (.inl rfl)) pgs_nil))))
    (pss_one (ps_ret (pv 2)))) pss_nil)
    (pss_cons (ps_asg (pe_op op_add (pe_ix ix_list (pv 0) pe_int (fun _ _ => rfl)) pe_int) (pg_sub (pv 0) pe_int set_list))
    (pss_cons (ps_set (i := 3) sc__law_take.nd rfl (.inl rfl) (pe_op op_mod (pe_op op_pow (pe_op op_add (pe_ix ix_list (pv 0) pe_int (fun _ _ => rfl)) (pe_op op_mul pe_int (pe_ix ix_list (pv 0) pe_int (fun _ _ => rfl)))) pe_int) pe_int))
    (pss_one (ps_ret (pe_op op_mod (pe_op op_fdiv (pe_op op_mod (pe_op op_add (pe_op op_mul (pv 3) pe_int) (pe_op op_mul (pe_op op_mul (pe_ix ix_list (pv 0) pe_int (fun _ _ => rfl)) (pe_ix ix_list (pv 0) pe_int (fun _ _ => rfl))) pe_int)) pe_int) pe_int) (pv 1))))))), ?_⟩
    have SQ : SqL K H p [.int a, .int b, .int c] := SqL.mk hp
    refine ⟨.ref p, rfl, p, _, 0, _, rfl, rfl, SQ, atI_nat (j := 0) rfl, _, _, rfl, rfl, _, rfl, ite2 (fun e => ?_) (fun e => ?_)⟩
    · refine ⟨.ref p, rfl, p, _, 0, _, rfl, rfl, SQ, atI_nat (j := 0) rfl, .int m, rfl, a, m, rfl, cdivP h0 h1, fun t nt => ?_⟩
      have hp1 : (upd H t (.tup [.int (a / m), .int (a % m)])) p = some (.lst [.int a, .int b, .int c]) := by
        rw [upd_ne (ne_of_none hp nt)]
        exact hp
      refine ⟨t, _, rfl, SqT.mk upd_same, rfl, _, _, rfl, .ref p, rfl, p, _, 0, 0, rfl, rfl, hp1, rfl, _, _, rfl, rfl, _, rfl, ?_⟩
      refine q _ _ ((But.refl p H).new nt).put ⟨_, _, _, upd_same, Int.ediv_nonneg ha (by omega), hb, hb2, hc, by omega⟩ (Int.emod_nonneg _ (by omega)) (Int.emod_lt_of_pos _ h0)
    · refine ⟨.ref p, rfl, p, _, 2, _, rfl, rfl, SQ, atI_nat (j := 2) rfl, _, _, rfl, rfl, .ref p, rfl, p, _, 2, 2, rfl, rfl, hp, rfl, ?_⟩
      have SQ1 : SqL K (upd H p (.lst [.int a, .int b, .int (c + 1)])) p [.int a, .int b, .int (c + 1)] := SqL.mk upd_same
      refine ⟨.ref p, rfl, p, _, 1, _, rfl, rfl, SQ1, atI_nat (j := 1) rfl, .ref p, rfl, p, _, 2, _, rfl, rfl, SQ1, atI_nat (j := 2) rfl, _, _, rfl, rfl, .inl ⟨by decide, by decide⟩, _, _, rfl, rfl, _, _, rfl, rfl, ⟨by decide, by decide, by omega⟩, _, _, rfl, rfl, (show (0 : Int) < 2147483647 by decide), ?_⟩
      refine ⟨_, rfl, _, _, rfl, rfl, .inr ⟨by decide, by decide⟩, .ref p, rfl, p, _, 2, _, rfl, rfl, SQ1, atI_nat (j := 2) rfl, .ref p, rfl, p, _, 2, _, rfl, rfl, SQ1, atI_nat (j := 2) rfl, _, _, rfl, rfl, .inl ⟨by omega, by omega⟩, _, _, rfl, rfl, .inr ⟨by decide, by decide⟩, _, _, rfl, rfl, _, _, rfl, rfl, (show (0 : Int) < 2147483629 by decide), _, _, rfl, rfl, ⟨by decide, by decide⟩, .int m, rfl, _, _, rfl, rfl, h0, ?_⟩
      refine q _ _ (But.refl p H).put ⟨_, _, _, upd_same, ha, hb, hb2, by omega, by omega⟩ (Int.emod_nonneg _ (by omega)) (Int.emod_lt_of_pos _ h0)
/-! the folded cells -/
theorem cut_take (ns : List Int) (m : Nat) : cutV (ns.map V.int) none (some (m : Int)) = (ns.take m).map V.int := by
  unfold cutV
  rw [HT.sIx_none, HT.sIx_nat, List.drop_zero, List.length_map, Nat.sub_zero, ← List.map_take]
  congr 1
  by_cases h : m ≤ ns.length
  · rw [Nat.min_eq_left h]
  · rw [Nat.min_eq_right (by omega), List.take_length, List.take_of_length_le (by omega)]
theorem cut_rest (ns : List Int) (m k : Nat) : ∃ ms : List Int, cutV (ns.map V.int) (some (m : Int)) (some (k : Int)) = ms.map V.int ∧ (0 < ms.length → m < ns.length) ∧ ms.length ≤ ns.length := by
  unfold cutV
  rw [HT.sIx_nat, HT.sIx_nat, List.length_map]
  refine ⟨(ns.drop (min m ns.length)).take (min k ns.length - min m ns.length), ?_, fun h => ?_, ?_⟩
  · rw [List.map_take, List.map_drop]
  · rw [List.length_take, List.length_drop] at h
    omega
  · rw [List.length_take, List.length_drop]
    omega
def sp__law_folded (K : PySem.W.Frag) : Sp := fun vs H Q _ => ∃ (a : Addr) (ns : List Int) (m : Nat), vs = [.ref a, .int (m : Nat)] ∧ SqL K H a (ns.map V.int) ∧ ns.length ≤ 63 ∧ 0 < m ∧ m < 64 ∧
  ∀ H' p (cs : List Int), Same H H' → H p = none → H' p = some (.lst (cs.map V.int)) → cs.length ≤ m → Q (.ref p) H'
theorem ok__law_folded (T : Defs K mg) : FnOk P w K mg base CX0 1 T.f__law_folded T.fd__law_folded ["_law_script", "_law_many"] (sp__law_folded K) := by
  refine T.F__law_folded.ok sc__law_folded (fun vs H Q E h => ?_) (fun cdv A outer s H vs Q E hr h => ?_)
  · obtain ⟨a, ns, m, rfl, hS, hlen, hm, hm2, q⟩ := h
    rfl
  · obtain ⟨a, ns, m, rfl, hS, hlen, hm, hm2, q⟩ := h
    refine ⟨_, PSs.nox (pss_cons (ps_set (i := 2) sc__law_folded.nd rfl (.inl rfl) (pe_callTy call_list_of (by rfl) T.m_list bt_list (pa_cons (pe_slice sl_list (pv 0) po_none (po_some (pv 1))) pa_nil)))
    (pss_cons ((ps_for PassesOwn.never rfl (pi_enum (by rfl) T.m_enumerate (pa_cons (pe_slice sl_list (pv 0) (po_some (pv 1)) (po_some pe_int)) pa_nil)) (pg_tup rfl (pgs_cons (pg_name (i := 3) sc__law_folded.nd rfl (.inl rfl)) (pgs_cons (pg_name (i := 4) sc__law_folded.nd rfl (.inl rfl)) pgs_nil))) (pss_one (ps_asg (pe_op op_add (pe_ix ix_list (pv 2) (pe_op op_mod (pv 3) (pv 1)) (fun _ _ => rfl)) (pe_op op_mul (pv 4) (pe_op op_add (pv 3) pe_int))) (pg_sub (pv 2) (pe_op op_mod (pv 3) (pv 1)) set_list)))))
    (pss_one (ps_ret (pv 2))))), ?_⟩
    refine ⟨.ref a, rfl, .int m, rfl, m, rfl, a, _, rfl, hS, fun c nc => ?_⟩
    rw [cut_take]
    have s1 : Same H (upd H c (.lst ((ns.take m).map V.int))) := same_upd nc
    refine ⟨c, _, rfl, .inl (SqL.mk upd_same), fun l nl => ?_⟩
    have s2 := s1.trans (same_upd nl (o := .lst ((ns.take m).map V.int)))
    refine ⟨.ref a, rfl, .int m, rfl, m, rfl, 63, rfl, a, _, rfl, s2.seq hS, fun d nd => ?_⟩
    obtain ⟨ms, em, hms, hms2⟩ := cut_rest ns m 63
    rw [show (63 : Int) = ((63 : Nat) : Int) from rfl, em]
    have nl0 : H l = none := s1.free nl
    have nd0 : H d = none := s2.free nd
    have ndl : l ≠ d := fun e => by
      rw [← e, upd_same] at nd
      cases nd
    refine ⟨d, _, rfl, SqL.mk upd_same, for_it (walk_enum (xs := ms.map V.int)) (fun i σ H3 => ∃ y3 y4, ∃ cs : List Int, σ = [some (.ref a), some (.int m), some (.ref l), y3, y4] ∧ Same H H3 ∧ H3 l = some (.lst (cs.map V.int)) ∧ cs.length = (ns.take m).length ∧ H3 d = some (.lst (ms.map V.int))) ⟨none, none, ns.take m, rfl, s2.trans (same_upd nd), ?_, rfl, upd_same⟩ ?_ ?_ ?_⟩
    · rw [upd_ne ndl, upd_same]
    · rintro i σ H3 hi ⟨y3, y4, cs, rfl, s3, hl, hc, hd⟩
      exact SqL.mk hd
    · rintro i x σ H3 H4 hi ⟨y3, y4, cs, rfl, s3, hl, hc, hd⟩ ⟨t, x1, x2, rfl, nt, rfl, e1, e2⟩
      rw [List.length_map] at hi
      have lm : m < ns.length := hms (by omega)
      have lc : cs.length = m := by
        rw [hc, List.length_take]
        omega
      have ex1 : x1 = .int (i : Nat) := (Option.some.inj e1).symm
      have ex2 : x2 = .int ms[i] := by
        have e2 : (ms.map V.int)[i]? = some x2 := e2
        rw [List.getElem?_map, List.getElem?_eq_getElem hi] at e2
        exact (Option.some.inj e2).symm
      subst ex1 ex2
      have hl1 : (upd H3 t (.tup [.int (i : Nat), .int ms[i]])) l = some (.lst (cs.map V.int)) := by
        rw [upd_ne (ne_of_none hl nt)]
        exact hl
      have him : i % m < cs.length := by
        rw [lc]
        exact Nat.mod_lt _ hm
      have eim : ((i : Int) % (m : Int)) = ((i % m : Nat) : Int) := by omega
      refine ⟨t, _, rfl, SqT.mk upd_same, rfl, _, _, rfl, _, _, rfl, rfl, ?_⟩
      refine ⟨.ref l, rfl, .int (i : Nat), rfl, .int m, rfl, _, _, rfl, rfl, (show (0 : Int) < (m : Int) by omega), l, _, _, .int cs[i % m], rfl, rfl, SqL.mk hl1, ?_, .int ms[i], rfl, .int (i : Nat), rfl, _, _, rfl, rfl, _, _, rfl, rfl, .inr ⟨by omega, by omega⟩, _, _, rfl, rfl, .ref l, rfl, .int (i : Nat), rfl, .int m, rfl, _, _, rfl, rfl, (show (0 : Int) < (m : Int) by omega), l, _, _, i % m, rfl, rfl, hl1, ?_, ?_⟩
      · rw [eim]
        exact atI_nat (by rw [List.getElem?_map, List.getElem?_eq_getElem him]; rfl)
      · rw [eim]
        exact ixn (by rw [List.length_map]; exact him)
      · refine ⟨_, _, cs.set (i % m) (cs[i % m] + ms[i] * ((i : Int) + 2)), rfl, same_newer (s3.trans (same_upd nt)) nl0, ?_, by rw [List.length_set, hc], ?_⟩
        · rw [upd_same, List.map_set]
        · rw [upd_ne ndl.symm, upd_ne (ne_of_none hd nt)]
          exact hd
    · rintro σ H3 ⟨y3, y4, cs, rfl, s3, hl, hc, hd⟩
      exact ⟨.ref l, rfl, q H3 l cs s3 nl0 hl (by rw [hc, List.length_take]; omega)⟩
/-! the program's own -/
theorem op_fdivNW {X : Cx} : OpR X (binaryOp .FloorDiv) (rI (fun _ j => j ≠ 0 ∧ j.natAbs.log2 < 9000) fun i j => .int (i.fdiv j)) := opI fun _ _ _ _ _ _ _ hc q => floordiv_int hc.1 q (.inl (PyProof.noPylong_of_log2 hc.2))
theorem gcd_step (x y : Nat) : Nat.gcd y (x % y) = Nat.gcd x y := by
  rw [Nat.gcd_comm y, ← Nat.gcd_rec, Nat.gcd_comm]
theorem gcd_small {t b : Int} (hb : b ≠ 0) (h : S 4000 b) : (Int.gcd t b : Int).natAbs.log2 < 9000 := by
  have h1 : Int.gcd t b ≤ b.natAbs := Nat.le_of_dvd (by omega) (Nat.gcd_dvd_right _ _)
  have h2 : 0 < Int.gcd t b := Int.gcd_pos_of_ne_zero_right t hb
  exact (wide_div (i := 0) (j := (Int.gcd t b : Int)) (b := 4000) (by omega) (by rw [Int.natAbs_natCast]; exact Nat.lt_of_le_of_lt h1 h) (by decide) (by decide)).2
def sp_common_divisor (_ : PySem.W.Frag) : Sp := fun vs H Q _ => ∃ a b : Int, vs = [.int a, .int b] ∧ Q (.int (if (1 : Int) > (Int.gcd a b : Int) then 1 else (Int.gcd a b : Int))) H
theorem ok_common_divisor (T : Defs K mg) : FnOk P w K mg base CX0 1 T.f_common_divisor T.fd_common_divisor ["one", "other"] (sp_common_divisor K) := by
  refine T.F_common_divisor.ok sc_common_divisor (fun vs H Q E h => ?_) (fun cdv A outer s H vs Q E hr h => ?_)
  · obtain ⟨a, b, rfl, q⟩ := h
    rfl
  · obtain ⟨a, b, rfl, q⟩ := h
    refine ⟨_, PSs.nox (pss_cons (ps_set (i := 0) sc_common_divisor.nd rfl (.inl rfl) (pe_callB call_abs (by rfl) T.m_abs bt_abs (pa_cons (pv 0) pa_nil)))
    (pss_cons (ps_set (i := 1) sc_common_divisor.nd rfl (.inl rfl) (pe_callB call_abs (by rfl) T.m_abs bt_abs (pa_cons (pv 1) pa_nil)))
    (pss_cons (ps_while PassesOwn.never (pt_cmpR op_gt (pv 1) pe_int (nomark _)) (pss_one (ps_par (i := 0) (j := 1) (by rfl) sc_common_divisor.nd rfl rfl (by decide) rfl rfl (pa_cons (pv 1) (pa_cons (pe_op op_mod (pv 0) (pv 1)) pa_nil)) (by rfl))))
    (pss_one (ps_ret (pe_callB (call_max2 rfl) (by rfl) T.m_max bt_max (pa_cons (pv 0) (pa_cons pe_int pa_nil)))))))), ?_⟩
    refine ⟨.int a, rfl, a, rfl, .int b, rfl, b, rfl, ?_⟩
    refine while_by (fun σ H1 => H1 = H ∧ ∃ x y : Nat, σ = [some (.int (x : Nat)), some (.int (y : Nat))] ∧ Nat.gcd x y = Int.gcd a b) (fun σ _ => match σ with | [_, some (.int y)] => y.toNat | _ => 0) ⟨rfl, a.natAbs, b.natAbs, ?_, rfl⟩ ?_ ?_
    · rw [abs_eq, abs_eq]
      rfl
    · rintro σ H1 ⟨rfl, x, y, rfl, hg⟩
      refine ⟨.int (y : Nat), rfl, _, _, rfl, rfl, _, rfl, ite2 (fun e => ?_) (fun e => ?_)⟩
      · have hy : (0 : Int) < (y : Int) := of_decide_eq_true e
        refine ⟨.int (y : Nat), rfl, .int (x : Nat), rfl, .int (y : Nat), rfl, _, _, rfl, rfl, hy, _, _, rfl, ⟨rfl, y, x % y, ?_, ?_⟩, ?_⟩
        · rfl
        · rw [gcd_step, hg]
        · show ((x : Int) % (y : Int)).toNat < ((y : Int)).toNat
          have := Int.emod_lt_of_pos (x : Int) hy
          have := Int.emod_nonneg (x : Int) (show (y : Int) ≠ 0 by omega)
          omega
      · have hy : ¬ (0 : Int) < (y : Int) := fun z => e (decide_eq_true z)
        have y0 : y = 0 := by omega
        subst y0
        rw [Nat.gcd_zero_right] at hg
        refine ⟨.int (x : Nat), rfl, _, _, rfl, ?_⟩
        rw [hg]
        exact q
    · rintro σ H1 Q1 Q2 hQ ⟨v, hv, i, j, e1, e2, k, e3, h3⟩
      exact ⟨v, hv, i, j, e1, e2, k, e3, hQ _ _ h3⟩
def sp_fraction (_ : PySem.W.Frag) : Sp := fun vs H Q _ => ∃ t b : Int, vs = [.int t, .int b] ∧ b ≠ 0 ∧ S 4000 b ∧ ∀ H' p, Same H H' → H p = none → H' p = some (.tup [.int (frT t b), .int (frB t b)]) → Q (.ref p) H'
/-! match x: case (word, names ..) -/
abbrev TCs := Addr → List V → TS
structure PCs (X : Cx) (cs : List MatchCase) (t : TCs) : Prop where
  run : ∀ (pins : List (Addr × Obj)) (s : Shared) (σ : L2.St) (H : Hp) (D : L2.Ends) (a : Addr) (xs : List V) (first : Bool), Inv X pins σ H s → SqT X.K H a xs → t a xs D σ H →
    wpAny (model X.prog X.w) X.A (matchCases cs X.env (.ref a) first) (SP X pins D) X.xe s
def tMatch (K : PySem.W.Frag) (te : TE) (tc : TCs) : TS := fun D σ H => te σ H fun v H1 => ∃ a xs, v = .ref a ∧ SqT K H1 a xs ∧ tc a xs D σ H1
theorem ps_match {X : Cx} {e : Expr} {cs : List MatchCase} {pos : Pos} {te : TE} {tc : TCs} (he : PE X e te) (hc : PCs X cs tc) : PS X (.Match e cs pos) (tMatch X.K te tc) := by
  refine ⟨fun pins s σ H D I h => ?_⟩
  refine wpAny_Match (thn (he.run pins s σ H _ I h) fun v s1 ⟨x, H1, I1, r1, a, xs, e1, hq, q⟩ => ?_)
  subst e1
  cases r1
  exact hc.run pins s1 σ H1 D a xs true I1 hq q
theorem pcs_nil {X : Cx} : PCs X [] (fun _ _ D σ H => D.nx σ H) := ⟨fun _ _ σ H _ _ _ _ I _ h => wpAny_matchCases_nil ⟨σ, H, I, h⟩⟩
theorem pcs_any {X : Cx} {body : List Stmt} {rest : List MatchCase} {pos : Pos} {tb : TS} (hb : PSs X body tb) : PCs X (⟨.MatchAs none none pos, none, body⟩ :: rest) (fun _ _ => tb) := by
  refine ⟨fun pins s σ H D a xs first I hq h => wpAny_matchCases_cons (wpAny_matchPattern_Capture ?_)⟩
  exact wpAny_assignInOrder_none (hb.run pins s σ H D I h)
/-- the slots i .. get the values .. in turn -/
def sets (σ : L2.St) : List Nat → List V → L2.St
  | i :: is, v :: vs => sets (σ.set i (some v)) is vs
  | _, _ => σ
structure PCap (X : Cx) (ps : List Pattern) (ns : List (Nat × Str)) : Prop where
  each : ∀ (s : Shared) (us : List Value) (Q : Option (List (Str × Value)) → Shared → Prop), us.length = ns.length → Q (some (List.zipWith (fun n u => (n.2, u)) ns us)) s → wpAny (model X.prog X.w) X.A (matchEach ps X.env us) Q X.xe s
  slot : ∀ n, n ∈ ns → X.N[n.1]? = some n.2 ∧ Loc X.env.scope n.2 ∧ (X.fn n.2 = true ∨ X.env.scope.names.lookup n.2 = some .local)
  len : ps.length = ns.length
theorem pcap_nil {X : Cx} : PCap X [] [] := ⟨fun s us Q hl h => wpAny_matchEach_nil (by
  rw [show us = [] from List.eq_nil_of_length_eq_zero hl] at h
  exact h), fun n hn => (by cases hn), rfl⟩
theorem pcap_cons {X : Cx} {i : Nat} {x : Str} {pos : Pos} {ps : List Pattern} {ns : List (Nat × Str)} (hi : X.N[i]? = some x) (hx : Loc X.env.scope x) (h : PCap X ps ns) (hf : X.fn x = true ∨ X.env.scope.names.lookup x = some .local := by first | exact .inl rfl | exact .inr rfl | assumption) :
    PCap X (.MatchAs none (some x) pos :: ps) ((i, x) :: ns) := by
  refine ⟨fun s us Q hl hQ => ?_, fun n hn => ?_, ?_⟩
  · match us, hl with
    | u :: us, hl =>
      refine wpAny_matchEach_cons (wpAny_matchPattern_Capture ?_)
      refine h.each s us _ (Nat.succ.inj hl) ?_
      exact hQ
  · rcases List.mem_cons.mp hn with rfl | hn
    · exact ⟨hi, hx, hf⟩
    · exact h.slot n hn
  · rw [List.length_cons, List.length_cons, h.len]
theorem bind_all {X : Cx} {pins : List (Addr × Obj)} {H : Hp} (hN : X.N.Nodup) : ∀ (ns : List (Nat × Str)) (us : List Value) (vs : List V) (σ : L2.St) (s : Shared) (Q : Unit → Shared → Prop),
    (∀ n, n ∈ ns → X.N[n.1]? = some n.2 ∧ Loc X.env.scope n.2 ∧ (X.fn n.2 = true ∨ X.env.scope.names.lookup n.2 = some .local)) → us.length = ns.length → Vals vs us → Inv X pins σ H s → (∀ s', Inv X pins (sets σ (ns.map Prod.fst) vs) H s' → Q () s') →
    wpAny (model X.prog X.w) X.A (assignInOrder ((List.zipWith (fun (n : Nat × Str) u => (n.2, u)) ns us).map fun (n, _) => bindName X.env n) ((List.zipWith (fun (n : Nat × Str) u => (n.2, u)) ns us).map (·.2))) Q X.xe s
  | [], us, vs, σ, s, Q, _, hl, r, I, q => by
    have e : us = [] := List.eq_nil_of_length_eq_zero hl
    subst e
    cases r
    exact wpAny_assignInOrder_none (q s I)
  | n :: ns, us, vs, σ, s, Q, hs, hl, r, I, q => by
    match us, vs, hl, r with
    | u :: us, v :: vs, hl, .cons r1 r2 =>
      obtain ⟨h1, h2, h3⟩ := hs n List.mem_cons_self
      refine wpAny_assignInOrder_more (wpAny_bindName (store_ok I hN h1 h2 r1 (fun s1 I1 => ?_) h3))
      exact bind_all hN ns us vs _ s1 Q (fun m hm => hs m (List.mem_cons_of_mem _ hm)) (Nat.succ.inj hl) r2 I1 q
def tCase (word : Str) (is : List Nat) (tb : TS) (rest : TCs) : TCs := fun a xs D σ H =>
  (xs.length ≠ is.length + 1 ∧ rest a xs D σ H) ∨ ∃ z ys, xs = .str z :: ys ∧ ys.length = is.length ∧ ((z = word ∧ tb D (sets σ is ys) H) ∨ (z ≠ word ∧ rest a xs D σ H))
theorem pcs_seq {X : Cx} {e : Expr} {word : Str} {vp sp : Pos} {ps : List Pattern} {ns : List (Nat × Str)} {body : List Stmt} {rest : List MatchCase} {tb : TS} {tr : TCs} (hc : X.calm = true) (hN : X.N.Nodup) (hw : PE X e (tC (.str word))) (hcap : PCap X ps ns) (hb : PSs X body tb) (hr : PCs X rest tr)
    (hstar : (.MatchValue e vp :: ps).findIdx? (·.isStar) = none := by rfl) (hwild : ((.MatchValue e vp :: ps).all fun p => p.isWildcard || (p.isStar && p.names.isEmpty)) = false := by rfl) :
    PCs X (⟨.MatchSequence (.MatchValue e vp :: ps) sp, none, body⟩ :: rest) (tCase word (ns.map Prod.fst) tb tr) := by
  refine ⟨fun pins s σ H D a xs first I hq h => ?_⟩
  obtain ⟨its, rv, ht, hz⟩ := I.tuple hq
  have hl := rv.length
  have hsl : sizeLine = 16777216 := by decide
  have hfit : ((its.toArray.size : Nat) : Int) < 2 ^ 63 := by
    rw [List.size_toArray]
    omega
  have lp := hcap.len
  have miss : ∀ s', Inv X pins σ H s' → tr a xs D σ H → wpAny (model X.prog X.w) X.A (matchCases rest X.env (.ref a) false) (SP X pins D) X.xe s' := fun s' I' q => hr.run pins s' σ H D a xs false I' hq q
  refine wpAny_matchCases_cons ?_
  rcases h with ⟨hn, h⟩ | ⟨z, ys, rfl, hn, h⟩
  · rw [List.length_map] at hn
    refine matchSeq_tuple_miss ht hfit (by rw [List.size_toArray, List.length_cons]; omega) ?_ hstar hwild
    exact miss _ (I.kept (t' := s.toks + 1 + 1) fun b o q => q) h
  · rw [List.length_map] at hn
    rw [List.length_cons] at hl
    refine matchSeq_tuple_hit ht hfit (by rw [List.size_toArray, List.length_cons]; omega) ?_ hstar hwild
    have e1 : (Pattern.MatchValue e vp :: ps).length = its.toArray.size := by
      rw [List.size_toArray, List.length_cons]
      omega
    have key : ∀ s2 : Shared, Inv X pins σ H s2 → wpAny (model X.prog X.w) X.A (matchEach (.MatchValue e vp :: ps) X.env its) (fun r s₁ => match r with
        | none => wpAny (model X.prog X.w) X.A (matchCases rest X.env (.ref a) false) (SP X pins D) X.xe s₁
        | some bs => wpAny (model X.prog X.w) X.A (assignInOrder (bs.map fun (n, _) => bindName X.env n) (bs.map (·.2))) (fun _ s₂ => wpAny (model X.prog X.w) X.A (execs body X.env) (SP X pins D) X.xe s₂) X.xe s₁) X.xe s2 := fun s2 I1 => by
      clear e1 hfit hz ht
      match its, rv, hl with
      | u :: us, .cons r1 r2, hl =>
        refine wpAny_matchEach_cons (wpAny_matchPattern_Value ?_)
        refine thn (hw.run pins s2 σ H (fun v H' => v = .str word ∧ H' = H) I1 ⟨rfl, rfl⟩) fun c s3 ⟨x, H3, I3, r3, e3, e4⟩ => ?_
        subst e3 e4
        refine thn (op_eq pins s3 σ H3 (.str z) (.str word) u c (fun v H' => v = .bl (decide (V.str z = V.str word)) ∧ H' = H3) I3 r1 r3 ⟨rfl, rfl, rfl⟩) fun d s4 ⟨y, H4, I4, r4, e5, e6⟩ => ?_
        subst e5 e6
        obtain rfl : d = Value.bool (decide (V.str z = V.str word)) := r4
        refine wpAny_truthy_bool ?_
        rcases h with ⟨rfl, h⟩ | ⟨ne, h⟩
        · rw [if_pos (decide_eq_true rfl)]
          have ul : us.length = ns.length := by
            have := r2.length
            omega
          refine hcap.each s4 us _ ul ?_
          show wpAny _ _ (assignInOrder _ _) _ _ s4
          exact bind_all hN ns us ys σ s4 _ hcap.slot ul r2 I4 fun s5 I5 => hb.run pins s5 _ H4 D I5 h
        · rw [if_neg (fun y => ne (V.str.inj (of_decide_eq_true y)))]
          exact miss s4 I4 h
    rw [e1]
    refine unpackItems_tuple (I.ok.hd hc) ht fun h' hx => ?_
    have I1 : Inv X pins σ H { s with heap := h', toks := s.toks + 1 + 1 } := I.kept (t' := s.toks + 1 + 1) fun b o q => hx b o (Nat.ne_of_lt (Heap.lt_size q)) q
    refine key _ ?_
    exact I1
/-! max(tuple), max(tuple, default=d) -/
def rMaxT (K : PySem.W.Frag) : List V → Hp → VK → Prop := fun vs H Q => ∃ (a : Addr) (ns : List Int), vs = [V.ref a] ∧ SqT K H a (ns.map V.int) ∧ 0 < ns.length ∧ ∀ m, m ∈ ns → (∀ y, y ∈ ns → y ≤ m) → Q (.int m) H
theorem best_in {ns : List Int} (h : 0 < ns.length) : ns.getD (argBest (fun i j => decide (ns.getD i 0 > ns.getD j 0)) (ns.length - 1)) 0 ∈ ns ∧ ∀ y, y ∈ ns → y ≤ ns.getD (argBest (fun i j => decide (ns.getD i 0 > ns.getD j 0)) (ns.length - 1)) 0 := by
  obtain ⟨h1, h2⟩ := argBest_gt (fun i => ns.getD i 0) (ns.length - 1)
  refine ⟨?_, fun y hy => ?_⟩
  · generalize argBest (fun i j => decide (ns.getD i 0 > ns.getD j 0)) (ns.length - 1) = k at h1
    have hk : k < ns.length := by omega
    rw [List.getD_eq_getElem?_getD, List.getElem?_eq_getElem hk]
    exact List.getElem_mem hk
  · obtain ⟨j, hj, rfl⟩ := List.getElem_of_mem hy
    have := h2 j (by omega)
    have e : ns.getD j 0 = ns[j] := by
      rw [List.getD_eq_getElem?_getD, List.getElem?_eq_getElem hj]
      rfl
    rw [← e]
    exact this
theorem ints_at {its : List Value} {ns : List Int} (rv : Vals (ns.map V.int) its) : ∀ (i : Nat) (v : Value), its.toArray[i]? = some v → ∃ t, v = Value.int (ns.getD i 0) t := fun i v hv => by
  have hv2 : its[i]? = some v := by simpa using hv
  have hl := rv.length
  rw [List.length_map] at hl
  have hi : i < ns.length := by
    have := (List.getElem?_eq_some_iff.mp hv2).1
    omega
  obtain ⟨u, hu, ru⟩ := rv.get (show (ns.map V.int)[i]? = some (V.int ns[i]) by rw [List.getElem?_map, List.getElem?_eq_getElem hi]; rfl)
  rw [hv2] at hu
  cases hu
  obtain ⟨t, rfl⟩ := (show ∃ t, v = Value.int ns[i] t from ru)
  exact ⟨t, by
    show Value.int ns[i] t = Value.int (ns.getD i 0) t
    rw [List.getD_eq_getElem?_getD, List.getElem?_eq_getElem hi]
    rfl⟩
theorem cr_maxT {X : Cx} (hc : X.calm = true) : CallR X (.builtin "max") (rMaxT X.K) := by
  intro pins s σ H vs us Q I r h
  obtain ⟨a, ns, rfl, hs, hne, q⟩ := h
  obtain ⟨its, rv, ht, _⟩ := I.tuple hs
  rw [Vals.ref1 r]
  have hh := I.ok.hd hc
  have lta : a < s.heap.objs.size := by
    obtain ⟨o, ho, _⟩ := id ht
    exact Heap.lt_size ho
  have hl := rv.length
  rw [List.length_map] at hl
  have hz : its.toArray.size = ns.length := by rw [List.size_toArray, hl]
  refine call_max_walk (wpAny_pyIter_tuple (show s.heap.IsTuple a its.toArray from ht) ⟨s.heap.objs.size, _, _, _, _, _, fun i j => decide (ns.getD i 0 > ns.getD j 0), rfl, Walks.tuple (A := X.A.in1) hh s.heap.objs.size a (Nat.ne_of_lt lta) its.toArray, ⟨⟨_, Heap.get?_push_size _ rfl, rfl, rfl⟩, (show s.heap.IsTuple a its.toArray from ht).at fun o e => Heap.get?_push_of_some _ e⟩, fun b hb => ?_, by rw [hz]; exact hne, CmpOf.ints_gt (fun i => ns.getD i 0) (ints_at rv), fun v h' tk hP hk => ?_⟩)
  · show b < (s.heap.push _).objs.size
    rw [Heap.size_push]
    rcases List.mem_cons.mp hb with z | z
    · rw [z]
      exact Nat.lt_succ_self _
    · rw [List.mem_singleton.mp z]
      exact Nat.lt_succ_of_lt lta
  · obtain ⟨t, rfl⟩ := ints_at rv _ _ hP
    rw [hz]
    obtain ⟨b1, b2⟩ := best_in hne
    refine ⟨.int _, H, I.kept fun b o e => hk b o (fun z => ?_) (Heap.get?_push_of_some _ e), ⟨_, rfl⟩, q _ b1 b2⟩
    rw [List.mem_singleton] at z
    rw [z] at e
    exact Nat.lt_irrefl _ (Heap.lt_size e)
theorem cr_maxTD {X : Cx} (hc : X.calm = true) : CallRK X (.builtin "max") [Str.ofString "default"] (fun vs zs H Q => (∃ z, zs = [z]) ∧ rMaxT X.K vs H Q) := by
  intro pins s σ H vs zs us ws Q I r rz h
  obtain ⟨⟨z, rfl⟩, a, ns, rfl, hs, hne, q⟩ := h
  obtain ⟨its, rv, ht, _⟩ := I.tuple hs
  rw [Vals.ref1 r]
  match ws, rz with
  | [d], .cons rd .nil =>
    have hh := I.ok.hd hc
    have lta : a < s.heap.objs.size := by
      obtain ⟨o, ho, _⟩ := id ht
      exact Heap.lt_size ho
    have hl := rv.length
    rw [List.length_map] at hl
    have hz : its.toArray.size = ns.length := by rw [List.size_toArray, hl]
    have none : ∀ (b : Addr) (o : Obj), ({ s.heap with objs := #[] } : Heap).get? b = some o → False := fun b o e => by
      have := Heap.lt_size e
      exact Nat.not_lt_zero _ this
    refine call_max_walkD (wpAny_pyIter_tuple (show s.heap.IsTuple a its.toArray from ht) ⟨s.heap.objs.size, _, _, _, _, _, _, { s.heap with objs := #[] }, fun i j => decide (ns.getD i 0 > ns.getD j 0), rfl, (Walks.tuple (A := X.A.in1) hh s.heap.objs.size a (Nat.ne_of_lt lta) its.toArray).toS, ⟨⟨_, Heap.get?_push_size _ rfl, rfl, rfl⟩, (show s.heap.IsTuple a its.toArray from ht).at fun o e => Heap.get?_push_of_some _ e⟩, fun b hb => ?_, fun b o e => (none b o e).elim, fun b o e => (none b o e).elim, fun e => by rw [hz] at e; omega, fun _ => ⟨fun i j vi vj s' Q' E' _ hi hj hq => CmpOf.ints_gt (fun i => ns.getD i 0) (ints_at rv) i j vi vj s' Q' E' hi hj hq, fun v s' hP hm => ?_⟩⟩)
    · show b < (s.heap.push _).objs.size
      rw [Heap.size_push]
      rcases List.mem_cons.mp hb with z | z
      · rw [z]
        exact Nat.lt_succ_self _
      · rw [List.mem_singleton.mp z]
        exact Nat.lt_succ_of_lt lta
    · obtain ⟨t, rfl⟩ := ints_at rv _ _ hP
      rw [hz]
      obtain ⟨b1, b2⟩ := best_in hne
      obtain ⟨h', g', d', t', o'⟩ := s'
      have eg : g' = s.gens := hm.gens
      have ed : d' = s.drawn := hm.drawn
      have eo : o' = s.os := hm.os
      subst eg ed eo
      refine ⟨.int _, H, I.kept (h' := h') (t' := t') fun b o e => hm.heap b o (fun z => ?_) (Heap.get?_push_of_some _ e), ⟨_, rfl⟩, q _ b1 b2⟩
      rw [List.mem_singleton] at z
      rw [z] at e
      exact Nat.lt_irrefl _ (Heap.lt_size e)
/-! sum(tuple) -/
theorem preSum_take (ns : List Int) : ∀ k, preSum (fun i => ns.getD i 0) k = (ns.take k).sum
  | 0 => rfl
  | k + 1 => by
    show preSum (fun i => ns.getD i 0) k + ns.getD k 0 = _
    rw [preSum_take ns k, List.take_add_one, List.getD_eq_getElem?_getD]
    cases ns[k]? with
    | none => simp
    | some x => simp
def rSumT (K : PySem.W.Frag) : List V → Hp → VK → Prop := fun vs H Q => ∃ (a : Addr) (ns : List Int), vs = [V.ref a] ∧ SqT K H a (ns.map V.int) ∧ Q (.int ns.sum) H
theorem cr_sumT {X : Cx} (hc : X.calm = true) : CallR X (.builtin "sum") (rSumT X.K) := by
  intro pins s σ H vs us Q I r h
  obtain ⟨a, ns, rfl, hs, q⟩ := h
  obtain ⟨its, rv, ht, _⟩ := I.tuple hs
  rw [Vals.ref1 r]
  have hh := I.ok.hd hc
  have lta : a < s.heap.objs.size := by
    obtain ⟨o, ho, _⟩ := ht
    exact Heap.lt_size ho
  have hl := rv.length
  rw [List.length_map] at hl
  refine call_sum_walkG (wpAny_pyIter_tuple (show s.heap.IsTuple a its.toArray from ht) ⟨s.heap.objs.size, _, _, _, _, _, fun i => ns.getD i 0, rfl, Walks.tuple (A := X.A.in1) hh s.heap.objs.size a (Nat.ne_of_lt lta) its.toArray, ⟨⟨_, Heap.get?_push_size _ rfl, rfl, rfl⟩, (show s.heap.IsTuple a its.toArray from ht).at fun o e => Heap.get?_push_of_some _ e⟩, fun b hb => ?_, fun i v hv => ?_, fun h' tk t' hk => ?_⟩)
  · show b < (s.heap.push _).objs.size
    rw [Heap.size_push]
    rcases List.mem_cons.mp hb with z | z
    · rw [z]
      exact Nat.lt_succ_self _
    · rw [List.mem_singleton.mp z]
      exact Nat.lt_succ_of_lt lta
  · have hv2 : its[i]? = some v := by simpa using hv
    have hi : i < ns.length := by
      have := (List.getElem?_eq_some_iff.mp hv2).1
      omega
    obtain ⟨u, hu, ru⟩ := rv.get (show (ns.map V.int)[i]? = some (V.int ns[i]) by rw [List.getElem?_map, List.getElem?_eq_getElem hi]; rfl)
    rw [hv2] at hu
    cases hu
    obtain ⟨t, rfl⟩ := (show ∃ t, v = Value.int ns[i] t from ru)
    exact ⟨t, by
      show Value.int ns[i] t = Value.int (ns.getD i 0) t
      rw [List.getD_eq_getElem?_getD, List.getElem?_eq_getElem hi]
      rfl⟩
  · rw [preSum_take, List.take_of_length_le (by rw [List.size_toArray]; omega)]
    refine ⟨.int _, H, I.kept fun b o e => hk b o (fun z => ?_) (Heap.get?_push_of_some _ e), ⟨_, rfl⟩, q⟩
    rw [List.mem_singleton] at z
    rw [z] at e
    exact Nat.lt_irrefl _ (Heap.lt_size e)
theorem sumTK {X : Cx} {K : PySem.W.Frag} (h : X.K = K) (hc : X.calm = true) : CallR X (.builtin "sum") (rSumT K) := by
  subst h
  exact cr_sumT hc
/-! what a register holds -/
def parF : Nat → Nat → Nat
  | 0, _ => 0
  | f + 1, n => (n % 2 + parF f (n / 2)) % 2
def par (n : Nat) : Nat := parF 7 n
def regS (w p x : Nat) : Nat := 2 * x % 2 ^ w + par (x &&& p)
def regA (w p s : Nat) : Nat → Nat
  | 0 => s
  | k + 1 => regS w p (regA w p s k)
def regI (w p z : Nat) : Nat := z / 2 + 2 ^ (w - 1) * ((z % 2 + par ((z / 2) &&& p)) % 2)
theorem par_lt (n : Nat) : par n < 2 := Nat.mod_lt _ (by decide)
theorem regS_lt {w p x : Nat} (hw : 1 ≤ w) : regS w p x < 2 ^ w := by
  unfold regS
  have h1 := par_lt (x &&& p)
  have h2 := Nat.mod_lt (2 * x) (Nat.two_pow_pos w)
  obtain ⟨v, rfl⟩ : ∃ v, w = v + 1 := ⟨w - 1, by omega⟩
  rw [Nat.pow_succ] at *
  have : 2 * x % (2 ^ v * 2) % 2 = 0 := by
    rw [Nat.mod_mul_left_mod]
    omega
  omega
theorem reg_back2 : ∀ p, p < 4 → 2 ≤ p → ∀ x, x < 4 → regI 2 p (regS 2 p x) = x := by decide +kernel
theorem reg_back3 : ∀ p, p < 8 → 4 ≤ p → ∀ x, x < 8 → regI 3 p (regS 3 p x) = x := by decide +kernel
theorem reg_back4 : ∀ p, p < 16 → 8 ≤ p → ∀ x, x < 16 → regI 4 p (regS 4 p x) = x := by decide +kernel
theorem reg_back5 : ∀ p, p < 32 → 16 ≤ p → ∀ x, x < 32 → regI 5 p (regS 5 p x) = x := by decide +kernel
theorem reg_back6 : ∀ p, p < 64 → 32 ≤ p → ∀ x, x < 64 → regI 6 p (regS 6 p x) = x := by decide +kernel
structure RgW (w p : Nat) : Prop where
  lo : 2 ≤ w
  hi : w ≤ 6
  pl : 2 ^ (w - 1) ≤ p
  ph : p < 2 ^ w
theorem reg_back {w p x : Nat} (h : RgW w p) (hx : x < 2 ^ w) : regI w p (regS w p x) = x := by
  obtain ⟨h1, h2, h3, h4⟩ := h
  match w, h1, h2 with
  | 2, _, _ => exact reg_back2 p h4 h3 x hx
  | 3, _, _ => exact reg_back3 p h4 h3 x hx
  | 4, _, _ => exact reg_back4 p h4 h3 x hx
  | 5, _, _ => exact reg_back5 p h4 h3 x hx
  | 6, _, _ => exact reg_back6 p h4 h3 x hx
theorem regA_lt {w p s : Nat} (h : RgW w p) (hs : s < 2 ^ w) : ∀ k, regA w p s k < 2 ^ w
  | 0 => hs
  | _ + 1 => regS_lt (by have := h.lo; omega)
theorem reg_inj {w p x y : Nat} (h : RgW w p) (hx : x < 2 ^ w) (hy : y < 2 ^ w) (e : regS w p x = regS w p y) : x = y := by
  rw [← reg_back h hx, e, reg_back h hy]
theorem regA_back {w p s : Nat} (h : RgW w p) (hs : s < 2 ^ w) : ∀ i d, regA w p s (i + d) = regA w p s i → regA w p s d = s
  | 0, d, e => by rw [Nat.zero_add] at e; exact e
  | i + 1, d, e => by
    rw [show i + 1 + d = (i + d) + 1 by omega] at e
    exact regA_back h hs i d (reg_inj h (regA_lt h hs _) (regA_lt h hs _) e)
theorem regA_zero {w p s : Nat} (h : RgW w p) (hs : s < 2 ^ w) (s0 : 0 < s) : ∀ k, 0 < regA w p s k
  | 0 => s0
  | k + 1 => by
    rcases Nat.eq_zero_or_pos (regA w p s (k + 1)) with z | z
    · exfalso
      have ih := regA_zero h hs s0 k
      have e0 : regS w p 0 = 0 := by
        unfold regS
        rw [Nat.mul_zero, Nat.zero_mod, Nat.zero_and]
        rfl
      have : regA w p s k = 0 := reg_inj h (regA_lt h hs k) (Nat.two_pow_pos w) (by rw [e0]; exact z)
      omega
    · exact z
theorem pigeon : ∀ (n : Nat) (l : List Nat), l.Nodup → (∀ x, x ∈ l → x < n) → l.length ≤ n
  | 0, l, _, h => by
    cases l with
    | nil => exact Nat.le_refl 0
    | cons x r => exact absurd (h x List.mem_cons_self) (Nat.not_lt_zero _)
  | n + 1, l, hd, h => by
    by_cases hm : n ∈ l
    · have h1 := pigeon n (l.erase n) (hd.erase n) fun x hx => by
        have h2 := (hd.mem_erase_iff).mp hx
        have := h x h2.2
        omega
      rw [List.length_erase_of_mem hm] at h1
      omega
    · have h1 := pigeon n l hd fun x hx => by
        have := h x hx
        have : x ≠ n := fun e => hm (e ▸ hx)
        omega
      omega
/-- the first k that comes back -/
structure IsPer (w p s k : Nat) : Prop where
  pos : 1 ≤ k
  le : k ≤ 2 ^ w
  back : regA w p s k = s
  first : ∀ j, 0 < j → j < k → regA w p s j ≠ s
theorem reg_nodup {w p s k : Nat} (h : RgW w p) (hs : s < 2 ^ w) (hf : ∀ j, 0 < j → j < k → regA w p s j ≠ s) : ((List.range k).map (regA w p s)).Nodup := by
  rw [List.nodup_iff_pairwise_ne, List.pairwise_map]
  refine List.pairwise_lt_range.imp_of_mem ?_
  intro a b ha hb hab e
  have hb := List.mem_range.mp hb
  refine hf (b - a) (by omega) (by omega) (regA_back h hs a (b - a) ?_)
  rw [show a + (b - a) = b by omega]
  exact e.symm
theorem per_ex {w p s : Nat} (h : RgW w p) (hs : s < 2 ^ w) : ∃ k, IsPer w p s k := by
  have ex : ∃ k, 1 ≤ k ∧ k ≤ 2 ^ w ∧ regA w p s k = s := by
    apply Classical.byContradiction
    intro hn
    have hf : ∀ j, 0 < j → j < 2 ^ w + 1 → regA w p s j ≠ s := fun j h0 h1 e => hn ⟨j, by omega, by omega, e⟩
    have := pigeon (2 ^ w) _ (reg_nodup h hs hf) fun x hx => by
      obtain ⟨j, _, rfl⟩ := List.mem_map.mp hx
      exact regA_lt h hs j
    rw [List.length_map, List.length_range] at this
    omega
  -- the least such
  have least : ∀ n, ∀ k, k ≤ n → 1 ≤ k → k ≤ 2 ^ w → regA w p s k = s → ∃ k, IsPer w p s k := by
    intro n
    induction n with
    | zero => intro k h1 h2; omega
    | succ n ih =>
      intro k h1 h2 h3 h4
      by_cases hj : ∃ j, 0 < j ∧ j < k ∧ regA w p s j = s
      · obtain ⟨j, j0, jk, je⟩ := hj
        exact ih j (by omega) j0 (by omega) je
      · exact ⟨k, h2, h3, h4, fun j j0 jk je => hj ⟨j, j0, jk, je⟩⟩
  obtain ⟨k, h1, h2, h3⟩ := ex
  exact least k k (Nat.le_refl k) h1 h2 h3
theorem IsPer.uniq {w p s k l : Nat} (h : IsPer w p s k) (g : IsPer w p s l) : k = l := by
  rcases Nat.lt_trichotomy k l with z | z | z
  · exact absurd h.back (g.first k h.pos z)
  · exact z
  · exact absurd g.back (h.first l g.pos z)
noncomputable def per (w p s : Nat) : Nat := @dite Nat (∃ k, IsPer w p s k) (Classical.propDecidable _) (fun h => h.choose) (fun _ => 0)
theorem per_is {w p s : Nat} (h : RgW w p) (hs : s < 2 ^ w) : IsPer w p s (per w p s) := by
  unfold per
  rw [dif_pos (per_ex h hs)]
  exact (per_ex h hs).choose_spec
theorem per_eq {w p s k : Nat} (h : RgW w p) (hs : s < 2 ^ w) (g : IsPer w p s k) : per w p s = k := (per_is h hs).uniq g
/-- the law's odd count -/
def oddL (w x p : Nat) : Int := ((List.range w).map fun j => (((x / 2 ^ j % 2 : Nat) : Int) * ((p / 2 ^ j % 2 : Nat) : Int))).sum % 2
theorem odd2 : ∀ p, p < 4 → ∀ x, x < 4 → oddL 2 x p = ((par (x &&& p) : Nat) : Int) := by decide +kernel
theorem odd3 : ∀ p, p < 8 → ∀ x, x < 8 → oddL 3 x p = ((par (x &&& p) : Nat) : Int) := by decide +kernel
theorem odd4 : ∀ p, p < 16 → ∀ x, x < 16 → oddL 4 x p = ((par (x &&& p) : Nat) : Int) := by decide +kernel
theorem odd5 : ∀ p, p < 32 → ∀ x, x < 32 → oddL 5 x p = ((par (x &&& p) : Nat) : Int) := by decide +kernel
theorem odd6 : ∀ p, p < 64 → ∀ x, x < 64 → oddL 6 x p = ((par (x &&& p) : Nat) : Int) := by decide +kernel
theorem odd_eq {w p x : Nat} (h : RgW w p) (hx : x < 2 ^ w) : oddL w x p = ((par (x &&& p) : Nat) : Int) := by
  obtain ⟨h1, h2, h3, h4⟩ := h
  match w, h1, h2 with
  | 2, _, _ => exact odd2 p h4 x hx
  | 3, _, _ => exact odd3 p h4 x hx
  | 4, _, _ => exact odd4 p h4 x hx
  | 5, _, _ => exact odd5 p h4 x hx
  | 6, _, _ => exact odd6 p h4 x hx
/-! makers -/
inductive Mk where
  | counter (r s t : Nat)
  | table (ns : List Int)
  | turned (w s : Nat)
  | register (w p s : Nat)
  | slow (n : Nat) (m : Mk)
  | slip (n : Nat) (m : Mk)
  | late (n : Nat) (m : Mk)
def Mk.inn : Mk → Mk
  | .slow _ m => m.inn
  | .slip _ m => m.inn
  | .late _ m => m.inn
  | m => m
def Mk.dep : Mk → Nat
  | .slow _ m => m.dep + 1
  | .slip _ m => m.dep + 1
  | .late _ m => m.dep + 1
  | _ => 0
def Mk.bt : Mk → Int → Int
  | .slow n m, t => m.bt (t / n)
  | .slip n m, t => m.bt (t + t / n)
  | .late n m, t => m.bt (t - n)
  | _, t => t
def lff (n : Nat) : Nat → Nat
  | 0 => 0
  | w + 1 => 2 * lff n w + n / 2 ^ w % 2
noncomputable def Mk.pl : Mk → List Int
  | .counter r s t => (List.range r).map fun i => (((t + s * i) % r : Nat) : Int)
  | .table ns => ns
  | .turned w s => (List.range (2 ^ w)).map fun i => ((lff ((s + i) % 2 ^ w) w : Nat) : Int)
  | .register w p s => (List.range (per w p s)).map fun k => ((regA w p s k : Nat) : Int)
  | _ => []
noncomputable def Mk.rnd : Mk → Nat
  | .slow n m => n * m.rnd
  | .slip n m => n * m.rnd / Nat.gcd m.rnd (n + 1)
  | .late _ m => m.rnd
  | m => m.pl.length
def Mk.Pl : Mk → Prop
  | .counter r s t => 1 ≤ r ∧ r ≤ 64 ∧ s ≤ 64 ∧ t < r
  | .table ns => 1 ≤ ns.length ∧ ns.length ≤ 64 ∧ ∀ x, x ∈ ns → 0 ≤ x ∧ x ≤ 63
  | .turned w s => 1 ≤ w ∧ w ≤ 6 ∧ s < 2 ^ w
  | .register w p s => RgW w p ∧ 1 ≤ s ∧ s < 2 ^ w
  | _ => False
def Mk.Ok : Mk → Prop
  | .slow n m => 1 ≤ n ∧ n ≤ 64 ∧ m.Ok
  | .slip n m => 1 ≤ n ∧ n ≤ 64 ∧ m.Ok
  | .late n m => n ≤ 64 ∧ m.Ok
  | m => m.Pl
def Mk.Top : Mk → Int → Prop
  | .counter r _ _, v => v = r
  | .table ns, v => ∃ M, M ∈ ns ∧ (∀ y, y ∈ ns → y ≤ M) ∧ v = M + 1
  | .turned w _, v => v = ((2 ^ w : Nat) : Int)
  | .register w _ _, v => v = ((2 ^ w : Nat) : Int)
  | _, _ => False
theorem Mk.Top.uniq {m : Mk} {v u : Int} (h : m.Top v) (k : m.Top u) : v = u := by
  cases m with
  | counter r s t => exact h.trans k.symm
  | table ns =>
    obtain ⟨M, h1, h2, rfl⟩ := h
    obtain ⟨N, k1, k2, rfl⟩ := k
    have := h2 N k1
    have := k2 M h1
    omega
  | turned w s => exact h.trans k.symm
  | register w p s => exact h.trans k.symm
  | _ => exact h.elim
noncomputable def Mk.val (m : Mk) (t : Int) : Int := m.inn.pl.getD ((m.bt t) % (m.inn.pl.length : Int)).toNat 0
theorem Mk.Ok.inn : ∀ {m : Mk}, m.Ok → m.inn.Pl
  | .slow _ m, h => Mk.Ok.inn (m := m) h.2.2
  | .slip _ m, h => Mk.Ok.inn (m := m) h.2.2
  | .late _ m, h => Mk.Ok.inn (m := m) h.2
  | .counter _ _ _, h => h
  | .table _, h => h
  | .turned _ _, h => h
  | .register _ _ _, h => h
theorem Mk.Pl.len {m : Mk} (h : m.Pl) : 1 ≤ m.pl.length ∧ m.pl.length ≤ 64 := by
  cases m with
  | counter r s t =>
    obtain ⟨h1, h2, _⟩ := h
    simp only [Mk.pl, List.length_map, List.length_range]
    omega
  | table ns => exact ⟨h.1, h.2.1⟩
  | turned w s =>
    obtain ⟨h1, h2, _⟩ := h
    simp only [Mk.pl, List.length_map, List.length_range]
    exact ⟨Nat.one_le_two_pow, Nat.le_trans (Nat.pow_le_pow_right (by decide) h2) (by decide)⟩
  | register w p s =>
    obtain ⟨h1, h2, h3⟩ := h
    have ip := per_is h1 h3
    simp only [Mk.pl, List.length_map, List.length_range]
    exact ⟨ip.pos, Nat.le_trans ip.le (Nat.le_trans (Nat.pow_le_pow_right (by decide) h1.hi) (by decide))⟩
  | _ => exact h.elim
theorem Mk.inn_dep : ∀ m : Mk, m.inn.dep = 0
  | .slow _ m => Mk.inn_dep m
  | .slip _ m => Mk.inn_dep m
  | .late _ m => Mk.inn_dep m
  | .counter _ _ _ => rfl
  | .table _ => rfl
  | .turned _ _ => rfl
  | .register _ _ _ => rfl
theorem Mk.inn_self : ∀ {m : Mk}, m.dep = 0 → m.inn = m
  | .counter _ _ _, _ => rfl
  | .table _, _ => rfl
  | .turned _ _, _ => rfl
  | .register _ _ _, _ => rfl
/-! makers as they stand -/
def MkAt (H : Hp) : Mk → V → Prop
  | .counter r s t, v => ∃ a, v = .ref a ∧ H a = some (.tup [.str "counter", .int (r : Nat), .int (s : Nat), .int (t : Nat)])
  | .table ns, v => ∃ a b, v = .ref a ∧ H a = some (.tup [.str "table", .ref b]) ∧ H b = some (.tup (ns.map V.int))
  | .turned w s, v => ∃ a, v = .ref a ∧ H a = some (.tup [.str "turned", .int (w : Nat), .int (s : Nat)])
  | .register w p s, v => ∃ a, v = .ref a ∧ H a = some (.tup [.str "register", .int (w : Nat), .int (p : Nat), .int (s : Nat)])
  | .slow n m, v => ∃ a x, v = .ref a ∧ H a = some (.tup [.str "slow", .int (n : Nat), x]) ∧ MkAt H m x
  | .slip n m, v => ∃ a x, v = .ref a ∧ H a = some (.tup [.str "slip", .int (n : Nat), x]) ∧ MkAt H m x
  | .late n m, v => ∃ a x, v = .ref a ∧ H a = some (.tup [.str "late", .int (n : Nat), x]) ∧ MkAt H m x
theorem MkAt.keep {H H' : Hp} (s : ∀ a xs, H a = some (.tup xs) → H' a = some (.tup xs)) : ∀ {m : Mk} {v : V}, MkAt H m v → MkAt H' m v
  | .counter _ _ _, _, ⟨a, e, h⟩ => ⟨a, e, s _ _ h⟩
  | .table _, _, ⟨a, b, e, h, k⟩ => ⟨a, b, e, s _ _ h, s _ _ k⟩
  | .turned _ _, _, ⟨a, e, h⟩ => ⟨a, e, s _ _ h⟩
  | .register _ _ _, _, ⟨a, e, h⟩ => ⟨a, e, s _ _ h⟩
  | .slow _ m, _, ⟨a, x, e, h, k⟩ => ⟨a, x, e, s _ _ h, MkAt.keep s (m := m) k⟩
  | .slip _ m, _, ⟨a, x, e, h, k⟩ => ⟨a, x, e, s _ _ h, MkAt.keep s (m := m) k⟩
  | .late _ m, _, ⟨a, x, e, h, k⟩ => ⟨a, x, e, s _ _ h, MkAt.keep s (m := m) k⟩
theorem MkAt.same {H H' : Hp} {m : Mk} {v : V} (h : MkAt H m v) (s : Same H H') : MkAt H' m v := h.keep fun _ _ e => s _ _ e
theorem MkAt.but {H H' : Hp} {m : Mk} {v : V} {p : Addr} {n : Nat} (h : MkAt H m v) (B : Bx H p n) (s : But p H H') : MkAt H' m v := h.keep fun _ _ e => s _ _ (B.ne_tup e) e
def inW (z : Str) : Bool := inV (.str z) [.str "slow", .str "slip", .str "late"]
theorem inW_slow : inW "slow" = true := by decide +kernel
theorem inW_slip : inW "slip" = true := by decide +kernel
theorem inW_late : inW "late" = true := by decide +kernel
theorem inW_counter : inW "counter" = false := by decide +kernel
theorem inW_table : inW "table" = false := by decide +kernel
theorem inW_turned : inW "turned" = false := by decide +kernel
theorem inW_register : inW "register" = false := by decide +kernel
/-- what stands around a maker -/
structure Around1 (m : Mk) (z : Str) (n : Nat) (m' : Mk) : Prop where
  word : (z = "slow" ∧ m = .slow n m') ∨ (z = "slip" ∧ m = .slip n m') ∨ (z = "late" ∧ m = .late n m')
theorem MkAt.shape {H : Hp} {m : Mk} {v : V} (h : MkAt H m v) : (∃ z n m' a x, v = .ref a ∧ H a = some (.tup [.str z, .int (n : Nat), x]) ∧ MkAt H m' x ∧ Around1 m z n m' ∧ inW z = true) ∨ (m.dep = 0 ∧ ∃ a z xs, v = .ref a ∧ H a = some (.tup (.str z :: xs)) ∧ inW z = false) := by
  cases m with
  | counter r s t => obtain ⟨a, e, h⟩ := h; exact .inr ⟨rfl, a, _, _, e, h, inW_counter⟩
  | table ns => obtain ⟨a, b, e, h, _⟩ := h; exact .inr ⟨rfl, a, _, _, e, h, inW_table⟩
  | turned w s => obtain ⟨a, e, h⟩ := h; exact .inr ⟨rfl, a, _, _, e, h, inW_turned⟩
  | register w p s => obtain ⟨a, e, h⟩ := h; exact .inr ⟨rfl, a, _, _, e, h, inW_register⟩
  | slow n m => obtain ⟨a, x, e, h, k⟩ := h; exact .inl ⟨_, n, m, a, x, e, h, k, ⟨.inl ⟨rfl, rfl⟩⟩, inW_slow⟩
  | slip n m => obtain ⟨a, x, e, h, k⟩ := h; exact .inl ⟨_, n, m, a, x, e, h, k, ⟨.inr (.inl ⟨rfl, rfl⟩)⟩, inW_slip⟩
  | late n m => obtain ⟨a, x, e, h, k⟩ := h; exact .inl ⟨_, n, m, a, x, e, h, k, ⟨.inr (.inr ⟨rfl, rfl⟩)⟩, inW_late⟩
theorem Around1.dep {m m' : Mk} {z : Str} {n : Nat} (h : Around1 m z n m') : m.dep = m'.dep + 1 ∧ m.inn = m'.inn := by
  rcases h.word with ⟨_, rfl⟩ | ⟨_, rfl⟩ | ⟨_, rfl⟩ <;> exact ⟨rfl, rfl⟩
def sp_innermost (_ : PySem.W.Frag) : Sp := fun vs H Q _ => ∃ m v, vs = [v] ∧ MkAt H m v ∧ ∀ H' u, Same H H' → MkAt H' m.inn u → Q u H'
theorem ok_innermost (T : Defs K mg) : FnOk P w K mg base CX0 1 T.f_innermost T.fd_innermost ["maker"] (sp_innermost K) := by
  refine T.F_innermost.ok sc_innermost (fun vs H Q E h => ?_) (fun cdv A outer s H vs Q E hr h => ?_)
  · obtain ⟨m, v, rfl, hm, q⟩ := h
    rfl
  · obtain ⟨m, v, rfl, hm, q⟩ := h
    refine ⟨_, PSs.nox (pss_cons (ps_while PassesOwn.never (pt_cmpR op_in_seq (pe_ix ix_tup (pv 0) pe_int (fun _ _ => rfl)) (pe_tup (pa_cons pe_str (pa_cons pe_str (pa_cons pe_str pa_nil)))) rfl) (pss_one (ps_set (i := 0) sc_innermost.nd rfl (.inl rfl) (pe_ix ix_tup (pv 0) pe_int (fun _ _ => rfl)))))
    (pss_one (ps_ret (pv 0)))), ?_⟩
    refine ⟨fun n σ H1 => ∃ m' u, m'.dep = n ∧ σ = [some u] ∧ Same H H1 ∧ MkAt H1 m' u ∧ m'.inn = m.inn, ⟨_, m, v, rfl, rfl, Same.refl H, hm, rfl⟩, ?_⟩
    rintro n σ H1 ⟨m', u, rfl, rfl, s1, hm', ei⟩
    rcases hm'.shape with ⟨z, n, m2, a, x, rfl, ha, hx, ar, iw⟩ | ⟨d0, a, z, xs, rfl, ha, iw⟩
    · refine ⟨.ref a, rfl, a, _, 0, _, rfl, rfl, SqT.mk ha, atI_nat (j := 0) rfl, (show 3 ≤ sizeLine by decide), fun t nt => ⟨t, _, rfl, .inr (SqT.mk upd_same), rfl, rfl, _, rfl, ?_⟩⟩
      have s2 := s1.trans (same_upd nt (o := .tup [.str "slow", .str "slip", .str "late"]))
      rw [if_neg Bool.false_ne_true, show inV (.str z) [.str "slow", .str "slip", .str "late"] = true from iw]
      refine iteT ⟨_, fun σ' H' h => h, ?_⟩
      refine ⟨.ref a, rfl, a, _, 2, _, rfl, rfl, SqT.mk ((same_upd nt) _ _ ha), atI_nat (j := 2) rfl, ?_⟩
      exact ⟨m2.dep, by have := ar.dep.1; omega, m2, x, rfl, rfl, s2, hx.same (same_upd nt), by rw [← ar.dep.2, ei]⟩
    · refine ⟨.ref a, rfl, a, _, 0, _, rfl, rfl, SqT.mk ha, atI_nat (j := 0) rfl, (show 3 ≤ sizeLine by decide), fun t nt => ⟨t, _, rfl, .inr (SqT.mk upd_same), rfl, rfl, _, rfl, ?_⟩⟩
      rw [if_neg Bool.false_ne_true, show inV (.str z) [.str "slow", .str "slip", .str "late"] = false from iw]
      refine iteF ?_
      refine ⟨.ref a, rfl, q _ _ (s1.trans (same_upd nt)) ?_⟩
      rw [← ei, Mk.inn_self d0]
      exact hm'.same (same_upd nt)
def sp_inner_beat (_ : PySem.W.Frag) : Sp := fun vs H Q _ => ∃ m v t, vs = [v, .int t] ∧ MkAt H m v ∧ m.Ok ∧ ∀ H', Same H H' → Q (.int (m.bt t)) H'
theorem ok_inner_beat (T : Defs K mg) : FnOk P w K mg base CX0 1 T.f_inner_beat T.fd_inner_beat ["maker", "t"] (sp_inner_beat K) := by
  refine T.F_inner_beat.ok sc_inner_beat (fun vs H Q E h => ?_) (fun cdv A outer s H vs Q E hr h => ?_)
  · obtain ⟨m, v, t, rfl, hm, ok, q⟩ := h
    rfl
  · obtain ⟨m, v, t, rfl, hm, ok, q⟩ := h
    refine ⟨_, PSs.nox (pss_cons (ps_while PassesOwn.never (pt_cmpR op_in_seq (pe_ix ix_tup (pv 0) pe_int (fun _ _ => rfl)) (pe_tup (pa_cons pe_str (pa_cons pe_str (pa_cons pe_str pa_nil)))) rfl) (pss_cons (ps_asg (pv 0) (pg_tup rfl (pgs_cons (pg_name (i := 2) sc_inner_beat.nd rfl (.inl rfl)) (pgs_cons (pg_name (i := 3) sc_inner_beat.nd rfl (.inl rfl)) (pgs_cons (pg_name (i := 4) sc_inner_beat.nd rfl (.inl rfl)) pgs_nil)))))
    (pss_cons (ps_if (pt_cmpR op_eq (pv 2) pe_str (nomark _)) (pss_one (ps_set (i := 1) sc_inner_beat.nd rfl (.inl rfl) (pe_op op_fdiv (pv 1) (pe_callB (call_max2 rfl) (by rfl) T.m_max bt_max (pa_cons (pv 3) (pa_cons pe_int pa_nil)))))) (pss_one (ps_if (pt_cmpR op_eq (pv 2) pe_str (nomark _)) (pss_one (ps_set (i := 1) sc_inner_beat.nd rfl (.inl rfl) (pe_op op_add (pv 1) (pe_op op_fdiv (pv 1) (pe_callB (call_max2 rfl) (by rfl) T.m_max bt_max (pa_cons (pv 3) (pa_cons pe_int pa_nil))))))) (pss_one (ps_set (i := 1) sc_inner_beat.nd rfl (.inl rfl) (pe_op op_sub (pv 1) (pv 3)))))))
    (pss_one (ps_set (i := 0) sc_inner_beat.nd rfl (.inl rfl) (pv 4))))))
    (pss_one (ps_ret (pv 1)))), ?_⟩
    refine ⟨fun n σ H1 => ∃ m' u t' y2 y3 y4, m'.dep = n ∧ σ = [some u, some (.int t'), y2, y3, y4] ∧ Same H H1 ∧ MkAt H1 m' u ∧ m'.Ok ∧ m'.bt t' = m.bt t, ⟨_, m, v, t, none, none, none, rfl, rfl, Same.refl H, hm, ok, rfl⟩, ?_⟩
    rintro n σ H1 ⟨m', u, t', y2, y3, y4, rfl, rfl, s1, hm', ok', ei⟩
    rcases hm'.shape with ⟨z, n, m2, a, x, rfl, ha, hx, ar, iw⟩ | ⟨d0, a, z, xs, rfl, ha, iw⟩
    · refine ⟨.ref a, rfl, a, _, 0, _, rfl, rfl, SqT.mk ha, atI_nat (j := 0) rfl, (show 3 ≤ sizeLine by decide), fun tp nt => ⟨tp, _, rfl, .inr (SqT.mk upd_same), rfl, rfl, _, rfl, ?_⟩⟩
      have s2 := s1.trans (same_upd nt (o := .tup [.str "slow", .str "slip", .str "late"]))
      have ha2 := (same_upd nt (o := .tup [.str "slow", .str "slip", .str "late"])) _ _ ha
      have hx2 := hx.same (same_upd nt (o := .tup [.str "slow", .str "slip", .str "late"]))
      rw [if_neg Bool.false_ne_true, show inV (.str z) [.str "slow", .str "slip", .str "late"] = true from iw]
      generalize upd H1 tp (.tup [.str "slow", .str "slip", .str "late"]) = H2 at s2 ha2 hx2 ⊢
      refine iteT ⟨_, fun σ' H' h => h, ?_⟩
      refine ⟨.ref a, rfl, a, _, rfl, SqT.mk ha2, rfl, _, _, rfl, _, _, rfl, _, _, rfl, rfl, ?_⟩
      have dp := ar.dep.1
      rcases ar.word with ⟨rfl, rfl⟩ | ⟨rfl, rfl⟩ | ⟨rfl, rfl⟩
      · have em : (if (1 : Int) > (n : Int) then 1 else (n : Int)) = (n : Int) := by
          have := ok'.1
          split <;> omega
        refine ⟨_, rfl, rfl, _, rfl, ?_⟩
        rw [decide_eq_true rfl]
        refine iteT ?_
        refine ⟨.int t', rfl, .int (n : Nat), rfl, _, _, rfl, _, _, rfl, rfl, ?_, ?_⟩
        · rw [em]
          exact ⟨(show (0 : Int) < (n : Int) by have := ok'.1; omega), (show (n : Int) < 1073741824 by have := ok'.2.1; omega)⟩
        rw [em]
        exact ⟨_, rfl, m2.dep, by omega, m2, x, t' / (n : Int), _, _, _, rfl, rfl, s2, hx2, ok'.2.2, ei⟩
      · have em : (if (1 : Int) > (n : Int) then 1 else (n : Int)) = (n : Int) := by
          have := ok'.1
          split <;> omega
        refine ⟨_, rfl, rfl, _, rfl, ?_⟩
        rw [decide_eq_false (show ¬ (V.str "slip" = V.str "slow") by decide +kernel)]
        refine iteF ?_
        refine ⟨_, rfl, rfl, _, rfl, ?_⟩
        rw [decide_eq_true rfl]
        refine iteT ?_
        refine ⟨.int t', rfl, .int t', rfl, .int (n : Nat), rfl, _, _, rfl, _, _, rfl, rfl, ?_, _, _, rfl, rfl, ?_⟩
        · rw [em]
          exact ⟨(show (0 : Int) < (n : Int) by have := ok'.1; omega), (show (n : Int) < 1073741824 by have := ok'.2.1; omega)⟩
        rw [em]
        exact ⟨_, rfl, m2.dep, by omega, m2, x, t' + t' / (n : Int), _, _, _, rfl, rfl, s2, hx2, ok'.2.2, ei⟩
      · refine ⟨_, rfl, rfl, _, rfl, ?_⟩
        rw [decide_eq_false (show ¬ (V.str "late" = V.str "slow") by decide +kernel)]
        refine iteF ?_
        refine ⟨_, rfl, rfl, _, rfl, ?_⟩
        rw [decide_eq_false (show ¬ (V.str "late" = V.str "slip") by decide +kernel)]
        refine iteF ?_
        refine ⟨.int t', rfl, .int (n : Nat), rfl, _, _, rfl, rfl, ?_⟩
        exact ⟨_, rfl, m2.dep, by omega, m2, x, t' - (n : Int), _, _, _, rfl, rfl, s2, hx2, ok'.2, ei⟩
    · refine ⟨.ref a, rfl, a, _, 0, _, rfl, rfl, SqT.mk ha, atI_nat (j := 0) rfl, (show 3 ≤ sizeLine by decide), fun tp nt => ⟨tp, _, rfl, .inr (SqT.mk upd_same), rfl, rfl, _, rfl, ?_⟩⟩
      rw [if_neg Bool.false_ne_true, show inV (.str z) [.str "slow", .str "slip", .str "late"] = false from iw]
      refine iteF ?_
      have eb : m'.bt t' = t' := by
        cases m' with
        | slow n m => cases d0
        | slip n m => cases d0
        | late n m => cases d0
        | _ => rfl
      rw [eb] at ei
      rw [ei]
      exact ⟨.int _, rfl, q _ (s1.trans (same_upd nt))⟩
/-! the program: numbers of plain makers -/
theorem is_pos {n : Nat} (h : 1 ≤ n) : (0 : Int) < (n : Int) := by omega
def sp_counter_round (_ : PySem.W.Frag) : Sp := fun vs H Q _ => ∃ r s t : Nat, vs = [.int (r : Nat), .int (s : Nat), .int (t : Nat)] ∧ 1 ≤ r ∧ r ≤ 64 ∧ s ≤ 64 ∧ t < r ∧
  ∀ H' p, Same H H' → H p = none → H' p = some (.lst ((Mk.counter r s t).pl.map V.int)) → Q (.ref p) H'
theorem ok_counter_round (T : Defs K mg) : FnOk P w K mg base CX0 1 T.f_counter_round T.fd_counter_round ["size", "step", "start"] (sp_counter_round K) := by
  refine T.F_counter_round.ok sc_counter_round (fun vs H Q E h => ?_) (fun cdv A outer s H vs Q E hr h => ?_)
  · obtain ⟨r, s', t, rfl, r1, r2, s2, t2, q⟩ := h
    rfl
  · obtain ⟨r, s', t, rfl, r1, r2, s2, t2, q⟩ := h
    refine ⟨_, PSs.nox (pss_one (ps_ret (pe_lc (own := [("t", 3)]) (g := gName 3) (tt := tYes) rfl sc_counter_round.nd (pi_range1 (by rfl) T.m_range (pa_cons (pv 0) pa_nil)) (blkOk_by (N := N_counter_round) (sc := defScope s_counter_round) (by decide +kernel)) (fun _ _ _ _ _ => (pg_name (i := 3) sc_counter_round.nd rfl (.inl rfl))) (fun _ _ _ _ _ => pts_nil) (fun _ _ _ _ _ => (pe_op op_mod (pe_op op_add (pv 2) (pe_op op_mul (pv 1) (pv 3))) (pv 0)))))), ?_⟩
    have hsl : sizeLine = 16777216 := by decide
    refine ⟨.int (r : Nat), rfl, (r : Nat), rfl, by omega, by omega, fun D nD => ?_⟩
    refine lc_range (fun i H1 => Same H H1 ∧ H1 D = some (.lst (((List.range i).map fun i => (((t + s' * i) % r : Nat) : Int)).map V.int))) ⟨same_upd nD, upd_same⟩ (fun i H1 hi h => ?_) (fun H1 h => ?_)
    · obtain ⟨s1, hD⟩ := h
      have hi : i < r := by omega
      refine ⟨rfl, yes_ite ?_⟩
      refine ⟨.int (t : Nat), rfl, .int (s' : Nat), rfl, _, rfl, _, _, rfl, rfl, .inl ⟨by omega, by omega⟩, _, _, rfl, rfl, .int (r : Nat), rfl, _, _, rfl, rfl, is_pos r1, ?_⟩
      refine ⟨_, hD, by rw [List.length_map, List.length_map, List.length_range]; omega, same_newer s1 nD, ?_⟩
      rw [upd_same, List.range_succ, List.map_append, List.map_append]
      have e : ((t : Int) + (s' : Int) * (0 + (i : Int))) % (r : Int) = (((t + s' * i) % r : Nat) : Int) := by
        rw [Int.zero_add, Int.natCast_emod, Int.natCast_add, Int.natCast_mul]
      dsimp only
      rw [e]
      rfl
    · obtain ⟨s1, hD⟩ := h
      rw [Int.toNat_natCast] at hD
      exact q H1 D s1 nD hD
def sp_last_for_first (_ : PySem.W.Frag) : Sp := fun vs H Q _ => ∃ n w : Nat, vs = [.int (n : Nat), .int (w : Nat)] ∧ w ≤ 64 ∧ Q (.int (lff n w : Nat)) H
theorem bit_and (n i : Nat) : Builtin.bitAnd ((n : Int) / 2 ^ ((0 : Int) + (i : Int)).toNat) 1 = ((n / 2 ^ i % 2 : Nat) : Int) := by
  rw [Int.zero_add, Int.toNat_natCast]
  have h := _root_.Bits.bit_at (x := (n : Int)) i
  rw [Int.fdiv_eq_ediv_of_nonneg _ (by exact Int.le_of_lt (Int.pow_pos (by decide)))] at h
  rw [h]
  have e : ((2 : Int) ^ i) = ((2 ^ i : Nat) : Int) := by rw [Int.natCast_pow]; rfl
  rw [e]
  omega
theorem ok_last_for_first (T : Defs K mg) : FnOk P w K mg base CX0 1 T.f_last_for_first T.fd_last_for_first ["number", "wide"] (sp_last_for_first K) := by
  refine T.F_last_for_first.ok sc_last_for_first (fun vs H Q E h => ?_) (fun cdv A outer s H vs Q E hr h => ?_)
  · obtain ⟨n, w', rfl, hw, q⟩ := h
    rfl
  · obtain ⟨n, w', rfl, hw, q⟩ := h
    refine ⟨_, PSs.nox (pss_cons (ps_set (i := 2) sc_last_for_first.nd rfl (.inl rfl) pe_int)
    (pss_cons ((ps_for PassesOwn.never rfl (pi_range1 (by rfl) T.m_range (pa_cons (pv 1) pa_nil)) (pg_name (i := 3) sc_last_for_first.nd rfl (.inl rfl)) (pss_one (ps_set (i := 2) sc_last_for_first.nd rfl (.inl rfl) (pe_op op_add (pe_op op_mul pe_int (pv 2)) (pe_op op_and (pe_op op_shr (pv 0) (pv 3)) pe_int))))))
    (pss_one (ps_ret (pv 2))))), ?_⟩
    refine ⟨.int (w' : Nat), rfl, (w' : Nat), rfl, by omega, by omega, for_range (fun i σ G => ∃ y3, σ = [some (.int (n : Nat)), some (.int (w' : Nat)), some (.int (lff n i : Nat)), y3] ∧ G = H) ⟨none, rfl, rfl⟩ ?_ ?_⟩
    · rintro i σ G hi ⟨y3, rfl, rfl⟩
      refine ⟨_, rfl, _, _, rfl, rfl, .inl ⟨by decide, by decide⟩, .int (n : Nat), rfl, .int (0 + (i : Int)), rfl, _, _, rfl, rfl, (show (0 : Int) ≤ 0 + (i : Int) by omega), _, _, rfl, rfl, _, _, rfl, rfl, some (.int (0 + (i : Int))), ?_, rfl⟩
      try dsimp only
      rw [bit_and]
      rfl
    · rintro σ G ⟨y3, rfl, rfl⟩
      rw [Int.toNat_natCast]
      exact ⟨_, rfl, q⟩
theorem two_pow6 {w : Nat} (h : w ≤ 6) : 1 ≤ 2 ^ w ∧ 2 ^ w ≤ 64 := ⟨Nat.one_le_two_pow, Nat.le_trans (Nat.pow_le_pow_right (by decide) h) (by decide)⟩
theorem shl_one (w : Nat) : (1 : Int) * 2 ^ ((w : Nat) : Int).toNat = ((2 ^ w : Nat) : Int) := by
  rw [Int.toNat_natCast, Int.one_mul, Int.natCast_pow]
  rfl
def sp_size_of (_ : PySem.W.Frag) : Sp := fun vs H Q _ => ∃ w : Nat, vs = [.int (w : Nat)] ∧ w ≤ 6 ∧ Q (.int ((2 ^ w : Nat) : Int)) H
theorem ok_size_of (T : Defs K mg) : FnOk P w K mg base CX0 1 T.f_size_of T.fd_size_of ["wide"] (sp_size_of K) := by
  refine T.F_size_of.ok sc_size_of (fun vs H Q E h => ?_) (fun cdv A outer s H vs Q E hr h => ?_)
  · obtain ⟨w', rfl, hw, q⟩ := h
    rfl
  · obtain ⟨w', rfl, hw, q⟩ := h
    refine ⟨_, PSs.nox (pss_one (ps_ret (pe_op op_shl pe_int (pe_callB (call_max2 rfl) (by rfl) T.m_max bt_max (pa_cons (pv 0) (pa_cons pe_int pa_nil)))))), ?_⟩
    have e0 : (if (0 : Int) > (w' : Int) then (0 : Int) else (w' : Int)) = (w' : Int) := if_neg (by omega)
    refine ⟨.int (w' : Nat), rfl, _, _, rfl, ?_⟩
    try dsimp only
    rw [e0]
    refine ⟨_, _, rfl, rfl, ⟨(show (0 : Int) ≤ (w' : Int) by omega), (show (w' : Int) ≤ 1000000 by omega), by decide⟩, ?_⟩
    try dsimp only
    rw [shl_one]
    exact q
def sp_turned_round (_ : PySem.W.Frag) : Sp := fun vs H Q _ => ∃ w s : Nat, vs = [.int (w : Nat), .int (s : Nat)] ∧ 1 ≤ w ∧ w ≤ 6 ∧ s < 2 ^ w ∧
  ∀ H' p, Same H H' → H p = none → H' p = some (.lst ((Mk.turned w s).pl.map V.int)) → Q (.ref p) H'
theorem ok_turned_round (T : Defs K mg) : FnOk P w K mg base CX0 2 T.f_turned_round T.fd_turned_round ["wide", "start"] (sp_turned_round K) := by
  have G_size_of : FnOk P w K mg base CX0 1 T.f_size_of T.fd_size_of ["wide"] (sp_size_of K) := ok_size_of T
  have G_last_for_first : FnOk P w K mg base CX0 1 T.f_last_for_first T.fd_last_for_first ["number", "wide"] (sp_last_for_first K) := ok_last_for_first T
  refine T.F_turned_round.ok sc_turned_round (fun vs H Q E h => ?_) (fun cdv A outer s H vs Q E hr h => ?_)
  · obtain ⟨w', s', rfl, w1, w2, hs, q⟩ := h
    rfl
  · obtain ⟨w', s', rfl, w1, w2, hs, q⟩ := h
    refine ⟨_, PSs.nox (pss_cons (ps_set (i := 2) sc_turned_round.nd rfl (.inr rfl) (pe_call G_size_of (hr.mono (by decide)) (by rfl) T.g_size_of T.F_size_of.kp T.b_size_of .nil pass0 (pa_cons (pv 0) pa_nil)))
    (pss_one (ps_ret (pe_lc (own := [("t", 3)]) (g := gName 3) (tt := tYes) rfl sc_turned_round.nd (pi_range1 (by rfl) T.m_range (pa_cons (pv 2) pa_nil)) (blkOk_by (N := N_turned_round) (sc := defScope s_turned_round) (by decide +kernel)) (fun _ _ _ _ _ => (pg_name (i := 3) sc_turned_round.nd rfl (.inl rfl))) (fun _ _ _ _ _ => pts_nil) (fun _ _ _ _ _ => (pe_call G_last_for_first (hr.mono (by decide)) (by rfl) T.g_last_for_first T.F_last_for_first.kp T.b_last_for_first .nil pass0 (pa_cons (pe_op op_mod (pe_op op_add (pv 1) (pv 3)) (pv 2)) (pa_cons (pv 0) pa_nil)))))))), ?_⟩
    have hsl : sizeLine = 16777216 := by decide
    have tp := two_pow6 w2
    refine ⟨.int (w' : Nat), rfl, w', rfl, w2, ?_⟩
    refine ⟨.int ((2 ^ w' : Nat) : Int), rfl, _, rfl, by omega, by omega, fun D nD => ?_⟩
    refine lc_range (fun i H1 => Same H H1 ∧ H1 D = some (.lst (((List.range i).map fun i => ((lff ((s' + i) % 2 ^ w') w' : Nat) : Int)).map V.int))) ⟨same_upd nD, upd_same⟩ (fun i H1 hi h => ?_) (fun H1 h => ?_)
    · obtain ⟨s1, hD⟩ := h
      have hi : i < 2 ^ w' := by omega
      refine ⟨rfl, yes_ite ?_⟩
      have e : ((s' : Int) + (0 + (i : Int))) % ((2 ^ w' : Nat) : Int) = (((s' + i) % 2 ^ w' : Nat) : Int) := by
        rw [Int.zero_add, Int.natCast_emod, Int.natCast_add]
      refine ⟨.int (s' : Nat), rfl, _, rfl, _, _, rfl, rfl, .int ((2 ^ w' : Nat) : Int), rfl, _, _, rfl, rfl, is_pos tp.1, .int (w' : Nat), rfl, (s' + i) % 2 ^ w', w', congrArg (fun z => [V.int z, V.int ((w' : Nat) : Int)]) e, by omega, ?_⟩
      refine ⟨_, hD, by rw [List.length_map, List.length_map, List.length_range]; omega, same_newer s1 nD, ?_⟩
      rw [upd_same, List.range_succ, List.map_append, List.map_append]
      rfl
    · obtain ⟨s1, hD⟩ := h
      rw [Int.toNat_natCast] at hD
      exact q H1 D s1 nD hD
theorem xor01 {o b : Nat} (ho : o < 2) (hb : b < 2) : Builtin.bitXor (o : Int) (b : Int) = (((o + b) % 2 : Nat) : Int) := by
  match o, b, ho, hb with
  | 0, 0, _, _ => decide
  | 0, 1, _, _ => decide
  | 1, 0, _, _ => decide
  | 1, 1, _, _ => decide
theorem and_one (x : Nat) : Builtin.bitAnd (x : Int) 1 = ((x % 2 : Nat) : Int) := by
  have h := _root_.Bits.bit_at (x := (x : Int)) 0
  rw [Int.pow_zero, Int.fdiv_one] at h
  rw [h, Int.ediv_one]
  omega
theorem parF_zero : ∀ f, parF f 0 = 0
  | 0 => rfl
  | f + 1 => by
    show (0 % 2 + parF f (0 / 2)) % 2 = 0
    rw [Nat.zero_div, parF_zero f]
def sp_odd_ones (_ : PySem.W.Frag) : Sp := fun vs H Q _ => ∃ n : Nat, vs = [.int (n : Nat)] ∧ n < 2 ^ 7 ∧ Q (.int (par n : Nat)) H
theorem ok_odd_ones (T : Defs K mg) : FnOk P w K mg base CX0 1 T.f_odd_ones T.fd_odd_ones ["number"] (sp_odd_ones K) := by
  refine T.F_odd_ones.ok sc_odd_ones (fun vs H Q E h => ?_) (fun cdv A outer s H vs Q E hr h => ?_)
  · obtain ⟨n, rfl, hn, q⟩ := h
    rfl
  · obtain ⟨n, rfl, hn, q⟩ := h
    refine ⟨_, PSs.nox (pss_cons (ps_set (i := 1) sc_odd_ones.nd rfl (.inl rfl) pe_int)
    (pss_cons (ps_while PassesOwn.never (pt_cmpR op_gt (pv 0) pe_int (nomark _)) (pss_cons (ps_set (i := 1) sc_odd_ones.nd rfl (.inl rfl) (pe_op op_xor (pv 1) (pe_op op_and (pv 0) pe_int)))
    (pss_one (ps_set (i := 0) sc_odd_ones.nd rfl (.inl rfl) (pe_op op_shr (pv 0) pe_int)))))
    (pss_one (ps_ret (pv 1))))), ?_⟩
    refine ⟨fun k σ H1 => ∃ x o f : Nat, x = k ∧ σ = [some (.int (x : Nat)), some (.int (o : Nat))] ∧ H1 = H ∧ x < 2 ^ f ∧ o < 2 ∧ (o + parF f x) % 2 = par n, ⟨n, n, 0, 7, rfl, rfl, rfl, hn, by decide, by rw [Nat.zero_add]; exact Nat.mod_eq_of_lt (par_lt n)⟩, ?_⟩
    rintro k σ H1 ⟨x, o, f, rfl, rfl, rfl, hx, ho, he⟩
    refine ⟨.int (x : Nat), rfl, _, _, rfl, rfl, _, rfl, ite2 (fun e => ⟨_, fun σ' H' h => h, ?_⟩) (fun e => ?_)⟩
    · have x0 : (0 : Int) < (x : Int) := of_decide_eq_true e
      match f, hx, he with
      | 0, hx, _ =>
        exfalso
        have : x < 1 := hx
        omega
      | f + 1, hx, he =>
        refine ⟨.int (o : Nat), rfl, .int (x : Nat), rfl, _, _, rfl, rfl, _, _, rfl, rfl, ?_⟩
        refine ⟨.int (x : Nat), rfl, _, _, rfl, rfl, (show (0 : Int) ≤ 1 by decide), ?_⟩
        refine ⟨x / 2, by omega, x / 2, (o + x % 2) % 2, f, rfl, ?_, rfl, by rw [Nat.pow_succ] at hx; omega, Nat.mod_lt _ (by decide), ?_⟩
        · have e1 : (x : Int) / 2 ^ (1 : Int).toNat = ((x / 2 : Nat) : Int) := by
            show (x : Int) / 2 ^ 1 = _
            omega
          try dsimp only
          rw [and_one, xor01 ho (Nat.mod_lt _ (by decide)), e1]
          rfl
        · have : (o + (x % 2 + parF f (x / 2)) % 2) % 2 = par n := he
          omega
    · have x0 : x = 0 := by
        have : ¬ (0 : Int) < (x : Int) := fun z => e (decide_eq_true z)
        omega
      subst x0
      rw [parF_zero, Nat.add_zero, Nat.mod_eq_of_lt ho] at he
      subst he
      exact ⟨_, rfl, q⟩
theorem and_nat (x p : Nat) : Builtin.bitAnd (x : Int) (p : Int) = ((x &&& p : Nat) : Int) := by
  rw [PyProof.Rows.bitAnd_pp (by omega) (by omega), Int.toNat_natCast, Int.toNat_natCast]
def sp_held_round (_ : PySem.W.Frag) : Sp := fun vs H Q _ => ∃ w p s : Nat, vs = [.int (w : Nat), .int (p : Nat), .int (s : Nat)] ∧ (Mk.register w p s).Pl ∧
  ∀ H' a, Same H H' → H a = none → H' a = some (.lst ((Mk.register w p s).pl.map V.int)) → Q (.ref a) H'
theorem step_eq {w x p : Nat} : (2 : Int) * (x : Int) % ((2 ^ w : Nat) : Int) + ((par (x &&& p) : Nat) : Int) = ((regS w p x : Nat) : Int) := by
  unfold regS
  rw [Int.natCast_add, Int.natCast_emod, Int.natCast_mul]
  rfl
theorem ok_held_round (T : Defs K mg) : FnOk P w K mg base CX0 2 T.f_held_round T.fd_held_round ["wide", "taps", "start"] (sp_held_round K) := by
  have G_size_of : FnOk P w K mg base CX0 1 T.f_size_of T.fd_size_of ["wide"] (sp_size_of K) := ok_size_of T
  have G_odd_ones : FnOk P w K mg base CX0 1 T.f_odd_ones T.fd_odd_ones ["number"] (sp_odd_ones K) := ok_odd_ones T
  refine T.F_held_round.ok sc_held_round (fun vs H Q E h => ?_) (fun cdv A outer s H vs Q E hr h => ?_)
  · obtain ⟨w', p', s', rfl, ⟨hw, s1, s2⟩, q⟩ := h
    rfl
  · obtain ⟨w', p', s', rfl, ⟨hw, s1, s2⟩, q⟩ := h
    refine ⟨_, PSs.nox (pss_cons (ps_set (i := 3) sc_held_round.nd rfl (.inl rfl) (pe_call G_size_of (hr.mono (by decide)) (by rfl) T.g_size_of T.F_size_of.kp T.b_size_of .nil pass0 (pa_cons (pv 0) pa_nil)))
    (pss_cons (ps_set (i := 4) sc_held_round.nd rfl (.inl rfl) (pe_lst pa_nil))
    (pss_cons (ps_set (i := 5) sc_held_round.nd rfl (.inl rfl) (pv 2))
    (pss_cons (ps_while PassesOwn.never (PW.pt (pw_and (pt_cmpR op_lt (pe_callB call_len_seq (by rfl) T.m_len bt_len (pa_cons (pv 4) pa_nil)) (pv 3) (nomark _)) (pw_and1 (PW.pt (pw_or (pt_cmpR op_ne (pv 5) (pv 2) (nomark _)) (pw_or1 (pt_not (pt_truth (pv 4) (by intro _; rfl))))))))) (pss_cons (ps_expr (pe_bm PySem.F.plainAttrs_list PySem.F.slot_list_append PySem.F.type_list_append mt_append (pv 4) (pa_cons (pv 5) pa_nil)))
    (pss_one (ps_set (i := 5) sc_held_round.nd rfl (.inl rfl) (pe_op op_add (pe_op op_mod (pe_op op_mul pe_int (pv 5)) (pv 3)) (pe_call G_odd_ones (hr.mono (by decide)) (by rfl) T.g_odd_ones T.F_odd_ones.kp T.b_odd_ones .nil pass0 (pa_cons (pe_op op_and (pv 5) (pv 1)) pa_nil)))))))
    (pss_one (ps_ret (pv 4))))))), ?_⟩
    have hsl : sizeLine = 16777216 := by decide
    have tp := two_pow6 hw.hi
    have ip := per_is hw s2
    refine ⟨.int (w' : Nat), rfl, w', rfl, hw.hi, ?_⟩
    obtain ⟨n, hn⟩ : ∃ n, 2 ^ w' = n := ⟨_, rfl⟩
    rw [hn] at tp ⊢
    refine ⟨Nat.zero_le _, fun l nl => ?_⟩
    refine ⟨.int (s' : Nat), rfl, ?_⟩
    refine ⟨fun m σ H1 => ∃ k : Nat, m = n - k ∧ k ≤ n ∧ σ = [some (.int (w' : Nat)), some (.int (p' : Nat)), some (.int (s' : Nat)), some (.int (n : Nat)), some (.ref l), some (.int (regA w' p' s' k : Nat))] ∧ Same H H1 ∧ H1 l = some (.lst (((List.range k).map fun k => ((regA w' p' s' k : Nat) : Int)).map V.int)) ∧ ∀ j, 0 < j → j < k → regA w' p' s' j ≠ s', ⟨n, 0, by omega, by omega, rfl, same_upd nl, upd_same, fun j h0 h1 => by omega⟩, ?_⟩
    rintro m σ H1 ⟨k, rfl, hk, rfl, sH, hl, hf⟩
    have ll : (((List.range k).map fun k => ((regA w' p' s' k : Nat) : Int)).map V.int).length = k := by rw [List.length_map, List.length_map, List.length_range]
    have done : IsPer w' p' s' k → Q (.ref l) H1 := fun h => q H1 l sH nl (by
      rw [hl]
      show _ = some (HO.lst (((List.range (per w' p' s')).map fun k => ((regA w' p' s' k : Nat) : Int)).map V.int))
      rw [per_eq hw s2 h])
    have alt : regA w' p' s' k < 2 ^ w' := regA_lt hw s2 k
    have go : k < n → ∃ v, some (V.ref l) = some v ∧ True := fun _ => ⟨_, rfl, trivial⟩
    clear go
    refine ⟨.ref l, rfl, l, _, rfl, .inl (SqL.mk hl), .int (n : Nat), rfl, _, _, rfl, rfl, _, rfl, ?_⟩
    rw [ll]
    have body : ∀ (b : Prop), k < n → b → k < n := fun _ h _ => h
    clear body
    by_cases kn : k < n
    · rw [decide_eq_true (show (k : Int) < (n : Int) by omega)]
      refine iteT ?_
      refine ⟨_, rfl, .int (s' : Nat), rfl, rfl, _, rfl, ?_⟩
      by_cases es : regA w' p' s' k = s'
      · rw [show (!decide (V.int ((regA w' p' s' k : Nat) : Int) = V.int ((s' : Nat) : Int))) = false by rw [es, decide_eq_true rfl]; rfl]
        refine iteF ?_
        refine ⟨.ref l, rfl, _, .inl ⟨_, SqL.mk hl, rfl⟩, ?_⟩
        match k, kn, hk, hl, hf, done, alt, es with
        | 0, kn, hk, hl, hf, done, alt, es =>
          refine iteT ⟨_, fun σ' H' h => h, ?_⟩
          refine ⟨.ref l, rfl, .inl ⟨rfl, _, SqL.mk hl⟩, _, rfl, l, _, _, rfl, rfl, hl, (show 0 < sizeLine by decide), ?_⟩
          refine ⟨_, rfl, _, _, rfl, rfl, .inl ⟨by decide, by decide⟩, .int (n : Nat), rfl, _, _, rfl, rfl, is_pos tp.1, _, rfl, .int (p' : Nat), rfl, _, _, rfl, rfl, (regA w' p' s' 0 &&& p'), congrArg (fun z => [V.int z]) (and_nat _ _), Nat.lt_of_le_of_lt Nat.and_le_left (Nat.lt_of_lt_of_le alt (Nat.pow_le_pow_right (by decide) (by have := hw.hi; omega))), _, _, rfl, rfl, ?_⟩
          refine ⟨n - 1, by omega, 1, rfl, by omega, ?_, same_newer sH nl, by rw [upd_same]; rfl, fun j h0 h1 => by omega⟩
          try dsimp only
          rw [← hn, step_eq]
          rfl
        | k + 1, kn, hk, hl, hf, done, alt, es =>
          have nz : (!(((List.range (k + 1)).map fun k => ((regA w' p' s' k : Nat) : Int)).map V.int).isEmpty) = true := by
            rw [List.range_succ_eq_map]
            rfl
          rw [nz]
          refine iteF ?_
          exact ⟨.ref l, rfl, done ⟨by omega, by omega, es, hf⟩⟩
      · rw [show (!decide (V.int ((regA w' p' s' k : Nat) : Int) = V.int ((s' : Nat) : Int))) = true by
          rw [decide_eq_false (fun z => es (by have := V.int.inj z; omega))]
          rfl]
        refine iteT (iteT ⟨_, fun σ' H' h => h, ?_⟩)
        refine ⟨.ref l, rfl, .inl ⟨rfl, _, SqL.mk hl⟩, _, rfl, l, _, _, rfl, rfl, hl, by rw [ll]; omega, ?_⟩
        refine ⟨_, rfl, _, _, rfl, rfl, .inl ⟨by decide, by decide⟩, .int (n : Nat), rfl, _, _, rfl, rfl, is_pos tp.1, _, rfl, .int (p' : Nat), rfl, _, _, rfl, rfl, (regA w' p' s' k &&& p'), congrArg (fun z => [V.int z]) (and_nat _ _), Nat.lt_of_le_of_lt Nat.and_le_left (Nat.lt_of_lt_of_le alt (Nat.pow_le_pow_right (by decide) (by have := hw.hi; omega))), _, _, rfl, rfl, ?_⟩
        refine ⟨n - (k + 1), by omega, k + 1, rfl, by omega, ?_, same_newer sH nl, ?_, fun j h0 h1 => ?_⟩
        · try dsimp only
          rw [← hn, step_eq]
          rfl
        · rw [upd_same, List.range_succ, List.map_append, List.map_append]
          rfl
        · by_cases z : j = k
          · rw [z]
            exact es
          · exact hf j h0 (by omega)
    · rw [decide_eq_false (show ¬ (k : Int) < (n : Int) by omega)]
      refine iteF (iteF ?_)
      have kp : per w' p' s' = k := by
        have h1 := ip.le
        have h2 : ¬ per w' p' s' < k := fun z => hf _ ip.pos z ip.back
        omega
      refine ⟨.ref l, rfl, done ?_⟩
      rw [← kp]
      exact ip
def sp_plain_round (_ : PySem.W.Frag) : Sp := fun vs H Q _ => ∃ m v, vs = [v] ∧ MkAt H m v ∧ m.Pl ∧
  ∀ H' p, Same H H' → H p = none → H' p = some (.lst (m.pl.map V.int)) → Q (.ref p) H'
theorem ok_plain_round (T : Defs K mg) : FnOk P w K mg base CX0 3 T.f_plain_round T.fd_plain_round ["maker"] (sp_plain_round K) := by
  have G_counter_round : FnOk P w K mg base CX0 1 T.f_counter_round T.fd_counter_round ["size", "step", "start"] (sp_counter_round K) := ok_counter_round T
  have G_turned_round : FnOk P w K mg base CX0 2 T.f_turned_round T.fd_turned_round ["wide", "start"] (sp_turned_round K) := ok_turned_round T
  have G_held_round : FnOk P w K mg base CX0 2 T.f_held_round T.fd_held_round ["wide", "taps", "start"] (sp_held_round K) := ok_held_round T
  refine T.F_plain_round.ok sc_plain_round (fun vs H Q E h => ?_) (fun cdv A outer s H vs Q E hr h => ?_)
  · obtain ⟨m, v, rfl, hm, pl, q⟩ := h
    rfl
  · obtain ⟨m, v, rfl, hm, pl, q⟩ := h
    refine ⟨_, PSs.nox (pss_one (ps_match (pv 0) (pcs_seq rfl sc_plain_round.nd pe_str (pcap_cons (i := 1) rfl (.inl rfl) (pcap_cons (i := 2) rfl (.inl rfl) (pcap_cons (i := 3) rfl (.inl rfl) pcap_nil))) (pss_one (ps_ret (pe_call G_counter_round (hr.mono (by decide)) (by rfl) T.g_counter_round T.F_counter_round.kp T.b_counter_round .nil pass0 (pa_cons (pv 1) (pa_cons (pv 2) (pa_cons (pv 3) pa_nil))))))
    (pcs_seq rfl sc_plain_round.nd pe_str (pcap_cons (i := 4) rfl (.inl rfl) (pcap_cons (i := 3) rfl (.inl rfl) pcap_nil)) (pss_one (ps_ret (pe_call G_turned_round (hr.mono (by decide)) (by rfl) T.g_turned_round T.F_turned_round.kp T.b_turned_round .nil pass0 (pa_cons (pv 4) (pa_cons (pv 3) pa_nil)))))
    (pcs_seq rfl sc_plain_round.nd pe_str (pcap_cons (i := 4) rfl (.inl rfl) (pcap_cons (i := 5) rfl (.inl rfl) (pcap_cons (i := 3) rfl (.inl rfl) pcap_nil))) (pss_one (ps_ret (pe_call G_held_round (hr.mono (by decide)) (by rfl) T.g_held_round T.F_held_round.kp T.b_held_round .nil pass0 (pa_cons (pv 4) (pa_cons (pv 5) (pa_cons (pv 3) pa_nil))))))
    (pcs_seq rfl sc_plain_round.nd pe_str (pcap_cons (i := 6) rfl (.inl rfl) pcap_nil) (pss_one (ps_ret (pe_callTy call_list_of (by rfl) T.m_list bt_list (pa_cons (pv 6) pa_nil))))
    pcs_nil)))))), ?_⟩
    cases m with
    | counter r s' t =>
      obtain ⟨a, rfl, ha⟩ := hm
      refine ⟨.ref a, rfl, a, _, rfl, SqT.mk ha, .inr ⟨_, _, rfl, rfl, .inl ⟨rfl, ?_⟩⟩⟩
      exact ⟨.int (r : Nat), rfl, .int (s' : Nat), rfl, .int (t : Nat), rfl, r, s', t, rfl, pl.1, pl.2.1, pl.2.2.1, pl.2.2.2, q⟩
    | turned w' s' =>
      obtain ⟨a, rfl, ha⟩ := hm
      refine ⟨.ref a, rfl, a, _, rfl, SqT.mk ha, .inl ⟨by simp, .inr ⟨_, _, rfl, rfl, .inl ⟨rfl, ?_⟩⟩⟩⟩
      exact ⟨.int (w' : Nat), rfl, .int (s' : Nat), rfl, w', s', rfl, pl.1, pl.2.1, pl.2.2, q⟩
    | table ns =>
      obtain ⟨a, b, rfl, ha, hb⟩ := hm
      refine ⟨.ref a, rfl, a, _, rfl, SqT.mk ha, .inl ⟨by simp, .inl ⟨by simp, .inl ⟨by simp, .inr ⟨_, _, rfl, rfl, .inl ⟨rfl, ?_⟩⟩⟩⟩⟩⟩
      exact ⟨.ref b, rfl, b, _, rfl, .inr (SqT.mk hb), fun l nl => q _ l (same_upd nl) nl upd_same⟩
    | register w' p' s' =>
      obtain ⟨a, rfl, ha⟩ := hm
      refine ⟨.ref a, rfl, a, _, rfl, SqT.mk ha, .inr ⟨_, _, rfl, rfl, .inr ⟨by decide +kernel, .inl ⟨by simp, .inr ⟨_, _, rfl, rfl, .inl ⟨rfl, ?_⟩⟩⟩⟩⟩⟩
      exact ⟨.int (w' : Nat), rfl, .int (p' : Nat), rfl, .int (s' : Nat), rfl, w', p', s', rfl, pl, q⟩
    | _ => exact pl.elim
/-! the program: rounds, tops, numbers at beats -/
def spr_round_of (d : Nat) (_ : PySem.W.Frag) : Sp := fun vs H Q _ => ∃ m v, vs = [v] ∧ MkAt H m v ∧ m.Ok ∧ m.dep < d ∧ ∀ H', Same H H' → Q (.int (m.rnd : Nat)) H'
theorem no_round_of {K : PySem.W.Frag} {vs : List V} {H : Hp} {Q : VK} {E : XK} (h : spr_round_of 0 K vs H Q E) : False := by
  obtain ⟨m, v, _, _, _, z, _⟩ := h
  exact Nat.not_lt_zero _ z
theorem gcd_le {a n : Nat} : 1 ≤ Nat.gcd a (n + 1) ∧ Nat.gcd a (n + 1) ≤ n + 1 := ⟨Nat.gcd_pos_of_pos_right _ (by omega), Nat.le_of_dvd (by omega) (Nat.gcd_dvd_right _ _)⟩
theorem okr_round_of (T : Defs K mg) : ∀ d : Nat, FnOk P w K mg base CX0 (4 + d) T.f_round_of T.fd_round_of ["maker"] (spr_round_of d K)
  | 0 => ⟨fun _ _ _ _ z => (no_round_of z).elim, fun _ _ _ _ _ _ _ _ _ _ _ _ _ z => (no_round_of z).elim⟩
  | d + 1 => by
    have G_round_of : FnOk P w K mg base CX0 (4 + d) T.f_round_of T.fd_round_of ["maker"] (spr_round_of d K) := okr_round_of T d
    have G_common_divisor : FnOk P w K mg base CX0 1 T.f_common_divisor T.fd_common_divisor ["one", "other"] (sp_common_divisor K) := ok_common_divisor T
    have G_plain_round : FnOk P w K mg base CX0 3 T.f_plain_round T.fd_plain_round ["maker"] (sp_plain_round K) := ok_plain_round T
    show FnOk P w K mg base CX0 ((4 + d) + 1) T.f_round_of T.fd_round_of ["maker"] (spr_round_of (d + 1) K)
    refine T.F_round_of.ok sc_round_of (fun vs H Q E h => ?_) (fun cdv A outer s H vs Q E hr h => ?_)
    · obtain ⟨m, v, rfl, hm, ok, dp, q⟩ := h
      rfl
    · obtain ⟨m, v, rfl, hm, ok, dp, q⟩ := h
      refine ⟨_, PSs.nox (pss_one (ps_match (pv 0) (pcs_seq rfl sc_round_of.nd pe_str (pcap_cons (i := 1) rfl (.inl rfl) (pcap_cons (i := 2) rfl (.inl rfl) pcap_nil)) (pss_one (ps_ret (pe_op op_mul (pv 1) (pe_call G_round_of (hr.mono (by omega)) (by rfl) T.g_round_of T.F_round_of.kp T.b_round_of .nil pass0 (pa_cons (pv 2) pa_nil)))))
    (pcs_seq rfl sc_round_of.nd pe_str (pcap_cons (i := 1) rfl (.inl rfl) (pcap_cons (i := 2) rfl (.inl rfl) pcap_nil)) (pss_cons (ps_set (i := 3) sc_round_of.nd rfl (.inl rfl) (pe_call G_round_of (hr.mono (by omega)) (by rfl) T.g_round_of T.F_round_of.kp T.b_round_of .nil pass0 (pa_cons (pv 2) pa_nil)))
    (pss_one (ps_ret (pe_op op_fdiv (pe_op op_mul (pv 1) (pv 3)) (pe_call G_common_divisor (hr.mono (by omega)) (by rfl) T.g_common_divisor T.F_common_divisor.kp T.b_common_divisor .nil pass0 (pa_cons (pv 3) (pa_cons (pe_op op_add (pv 1) pe_int) pa_nil)))))))
    (pcs_seq rfl sc_round_of.nd pe_str (pcap_cons (i := 4) rfl (.inl rfl) (pcap_cons (i := 2) rfl (.inl rfl) pcap_nil)) (pss_one (ps_ret (pe_call G_round_of (hr.mono (by omega)) (by rfl) T.g_round_of T.F_round_of.kp T.b_round_of .nil pass0 (pa_cons (pv 2) pa_nil))))
    (pcs_any (pss_one (ps_ret (pe_callB call_len_seq (by rfl) T.m_len bt_len (pa_cons (pe_call G_plain_round (hr.mono (by omega)) (by rfl) T.g_plain_round T.F_plain_round.kp T.b_plain_round .nil pass0 (pa_cons (pv 0) pa_nil)) pa_nil)))))))))), ?_⟩
      cases m with
      | slow n m =>
        obtain ⟨a, x, rfl, ha, hx⟩ := hm
        have dp : m.dep + 1 < d + 1 := dp
        refine ⟨.ref a, rfl, a, _, rfl, SqT.mk ha, .inr ⟨_, _, rfl, rfl, .inl ⟨rfl, ?_⟩⟩⟩
        refine ⟨.int (n : Nat), rfl, x, rfl, m, x, rfl, hx, ok.2.2, by omega, fun H1 s1 => ?_⟩
        refine ⟨_, _, rfl, rfl, .inl ⟨(show -(2 ^ 64) < (n : Int) by omega), (show (n : Int) < 2 ^ 64 by have := ok.2.1; omega)⟩, ?_⟩
        have e : (n : Int) * (m.rnd : Int) = (((Mk.slow n m).rnd : Nat) : Int) := (Int.natCast_mul n m.rnd).symm
        try dsimp only
        rw [e]
        exact q H1 s1
      | slip n m =>
        obtain ⟨a, x, rfl, ha, hx⟩ := hm
        have dp : m.dep + 1 < d + 1 := dp
        refine ⟨.ref a, rfl, a, _, rfl, SqT.mk ha, .inr ⟨_, _, rfl, rfl, .inr ⟨by decide +kernel, .inr ⟨_, _, rfl, rfl, .inl ⟨rfl, ?_⟩⟩⟩⟩⟩
        refine ⟨x, rfl, m, x, rfl, hx, ok.2.2, by omega, fun H1 s1 => ?_⟩
        refine ⟨.int (n : Nat), rfl, .int (m.rnd : Nat), rfl, _, _, rfl, rfl, .inl ⟨(show -(2 ^ 64) < (n : Int) by omega), (show (n : Int) < 2 ^ 64 by have := ok.2.1; omega)⟩, .int (m.rnd : Nat), rfl, .int (n : Nat), rfl, _, _, rfl, rfl, _, _, rfl, ?_⟩
        have g := gcd_le (a := m.rnd) (n := n)
        have eg : Int.gcd (m.rnd : Int) ((n : Int) + 1) = Nat.gcd m.rnd (n + 1) := rfl
        have ef : (if (1 : Int) > (Int.gcd (m.rnd : Int) ((n : Int) + 1) : Int) then 1 else (Int.gcd (m.rnd : Int) ((n : Int) + 1) : Int)) = ((Nat.gcd m.rnd (n + 1) : Nat) : Int) := by
          rw [eg]
          split <;> omega
        rw [ef]
        have n2 := ok.2.1
        refine ⟨_, _, rfl, rfl, ⟨(show (0 : Int) < ((Nat.gcd m.rnd (n + 1) : Nat) : Int) by omega), (show ((Nat.gcd m.rnd (n + 1) : Nat) : Int) < 1073741824 by omega)⟩, ?_⟩
        have e : (n : Int) * (m.rnd : Int) / ((Nat.gcd m.rnd (n + 1) : Nat) : Int) = (((Mk.slip n m).rnd : Nat) : Int) := by
          rw [← Int.natCast_mul, ← Int.natCast_ediv]
          rfl
        try dsimp only
        rw [e]
        exact q H1 s1
      | late n m =>
        obtain ⟨a, x, rfl, ha, hx⟩ := hm
        have dp : m.dep + 1 < d + 1 := dp
        refine ⟨.ref a, rfl, a, _, rfl, SqT.mk ha, .inr ⟨_, _, rfl, rfl, .inr ⟨by decide +kernel, .inr ⟨_, _, rfl, rfl, .inr ⟨by decide +kernel, .inr ⟨_, _, rfl, rfl, .inl ⟨rfl, ?_⟩⟩⟩⟩⟩⟩⟩
        exact ⟨x, rfl, m, x, rfl, hx, ok.2, by omega, fun H1 s1 => q H1 s1⟩
      | counter r s' t =>
        obtain ⟨a, rfl, ha⟩ := id hm
        refine ⟨.ref a, rfl, a, _, rfl, SqT.mk ha, .inl ⟨by simp, .inl ⟨by simp, .inl ⟨by simp, ?_⟩⟩⟩⟩
        refine ⟨.ref a, rfl, .counter r s' t, _, rfl, hm, ok, fun H1 p s1 np hp => ⟨p, _, rfl, .inl (SqL.mk hp), ?_⟩⟩
        rw [List.length_map]
        exact q H1 s1
      | turned w' s' =>
        obtain ⟨a, rfl, ha⟩ := id hm
        refine ⟨.ref a, rfl, a, _, rfl, SqT.mk ha, .inr ⟨_, _, rfl, rfl, .inr ⟨by decide +kernel, .inr ⟨_, _, rfl, rfl, .inr ⟨by decide +kernel, .inr ⟨_, _, rfl, rfl, .inr ⟨by decide +kernel, ?_⟩⟩⟩⟩⟩⟩⟩
        refine ⟨.ref a, rfl, .turned w' s', _, rfl, hm, ok, fun H1 p s1 np hp => ⟨p, _, rfl, .inl (SqL.mk hp), ?_⟩⟩
        rw [List.length_map]
        exact q H1 s1
      | table ns =>
        obtain ⟨a, b, rfl, ha, hb⟩ := id hm
        refine ⟨.ref a, rfl, a, _, rfl, SqT.mk ha, .inl ⟨by simp, .inl ⟨by simp, .inl ⟨by simp, ?_⟩⟩⟩⟩
        refine ⟨.ref a, rfl, .table ns, _, rfl, hm, ok, fun H1 p s1 np hp => ⟨p, _, rfl, .inl (SqL.mk hp), ?_⟩⟩
        rw [List.length_map]
        exact q H1 s1
      | register w' p s' =>
        obtain ⟨a, rfl, ha⟩ := id hm
        refine ⟨.ref a, rfl, a, _, rfl, SqT.mk ha, .inl ⟨by simp, .inl ⟨by simp, .inl ⟨by simp, ?_⟩⟩⟩⟩
        refine ⟨.ref a, rfl, .register w' p s', _, rfl, hm, ok, fun H1 p s1 np hp => ⟨p, _, rfl, .inl (SqL.mk hp), ?_⟩⟩
        rw [List.length_map]
        exact q H1 s1
def sp_round_of (K : PySem.W.Frag) : Sp := spr_round_of 5 K
theorem ok_round_of (T : Defs K mg) : FnOk P w K mg base CX0 9 T.f_round_of T.fd_round_of ["maker"] (sp_round_of K) := okr_round_of T 5
def sp_top_of (_ : PySem.W.Frag) : Sp := fun vs H Q _ => ∃ m v, vs = [v] ∧ MkAt H m v ∧ m.Ok ∧ ∀ H' z, Same H H' → m.inn.Top z → Q (.int z) H'
theorem pl_at {m : Mk} (h : m.Pl) (t : Int) : atI (m.pl.map V.int) (t % (m.pl.length : Int)) = some (.int (m.pl.getD (t % (m.pl.length : Int)).toNat 0)) := by
  have hl := h.len
  have h1 := Int.emod_nonneg t (show (m.pl.length : Int) ≠ 0 by omega)
  have h2 := Int.emod_lt_of_pos t (show (0 : Int) < (m.pl.length : Int) by omega)
  obtain ⟨j, hj⟩ := Int.eq_ofNat_of_zero_le h1
  rw [hj] at h2 ⊢
  have hj2 : j < m.pl.length := by omega
  refine atI_nat ?_
  rw [List.getElem?_map, List.getElem?_eq_getElem hj2, Int.toNat_natCast, List.getD_eq_getElem?_getD, List.getElem?_eq_getElem hj2]
  rfl
def sp_values_at (_ : PySem.W.Frag) : Sp := fun vs H Q _ => ∃ m v b ts, vs = [v, .ref b] ∧ MkAt H m v ∧ m.Ok ∧ H b = some (.lst ((ts : List Int).map V.int)) ∧ ts.length ≤ 100000 ∧
  ∀ H' p, Same H H' → H p = none → H' p = some (.lst ((ts.map m.val).map V.int)) → Q (.ref p) H'
theorem ok_values_at (T : Defs K mg) : FnOk P w K mg base CX0 4 T.f_values_at T.fd_values_at ["maker", "beats"] (sp_values_at K) := by
  have G_plain_round : FnOk P w K mg base CX0 3 T.f_plain_round T.fd_plain_round ["maker"] (sp_plain_round K) := ok_plain_round T
  have G_innermost : FnOk P w K mg base CX0 1 T.f_innermost T.fd_innermost ["maker"] (sp_innermost K) := ok_innermost T
  have G_inner_beat : FnOk P w K mg base CX0 1 T.f_inner_beat T.fd_inner_beat ["maker", "t"] (sp_inner_beat K) := ok_inner_beat T
  refine T.F_values_at.ok sc_values_at (fun vs H Q E h => ?_) (fun cdv A outer s H vs Q E hr h => ?_)
  · obtain ⟨m, v, b, ts, rfl, hm, ok, hb, hl, q⟩ := h
    rfl
  · obtain ⟨m, v, b, ts, rfl, hm, ok, hb, hl, q⟩ := h
    refine ⟨_, PSs.nox (pss_cons (ps_set (i := 2) sc_values_at.nd rfl (.inr rfl) (pe_orT (pe_call G_plain_round (hr.mono (by decide)) (by rfl) T.g_plain_round T.F_plain_round.kp T.b_plain_round .nil pass0 (pa_cons (pe_call G_innermost (hr.mono (by decide)) (by rfl) T.g_innermost T.F_innermost.kp T.b_innermost .nil pass0 (pa_cons (pv 0) pa_nil)) pa_nil)) (pe_one (pe_lst (pa_cons pe_int pa_nil)))))
    (pss_one (ps_ret (pe_lc (own := [("t", 3)]) (g := gName 3) (tt := tYes) rfl sc_values_at.nd (pi_list (pv 1)) (blkOk_by (N := N_values_at) (sc := defScope s_values_at) (by decide +kernel)) (fun _ _ _ _ _ => (pg_name (i := 3) sc_values_at.nd rfl (.inl rfl))) (fun _ _ _ _ _ => pts_nil) (fun _ _ _ _ _ => (pe_ix (ixlK (K := K) rfl) (pv 2) (pe_op op_mod (pe_call G_inner_beat (hr.mono (by decide)) (by rfl) T.g_inner_beat T.F_inner_beat.kp T.b_inner_beat .nil pass0 (pa_cons (pv 0) (pa_cons (pv 3) pa_nil))) (pe_callB (lenK (K := K) rfl) (by rfl) T.m_len bt_len (pa_cons (pv 2) pa_nil))) (fun _ _ => rfl))))))), ?_⟩
    have hsl : sizeLine = 16777216 := by decide
    refine ⟨v, rfl, m, v, rfl, hm, fun H1 u s1 hu => ?_⟩
    refine ⟨m.inn, u, rfl, hu, ok.inn, fun H2 p s2 np hp => ?_⟩
    have ll := ok.inn.len
    refine ⟨true, .inl ⟨_, SqL.mk hp, ?_⟩, ?_⟩
    · cases e : m.inn.pl with
      | nil =>
        rw [e] at ll
        exact absurd ll.1 (by decide)
      | cons x r => rfl
    refine iteT ?_
    have s12 := s1.trans s2
    refine ⟨.ref b, rfl, b, rfl, ⟨_, SqL.mk (s12 _ _ hb)⟩, fun D nD => ?_⟩
    refine lc_list (xs := ts.map V.int) (fun i H3 => Same H2 H3 ∧ H3 D = some (.lst (((ts.take i).map m.val).map V.int))) ⟨same_upd nD, upd_same⟩ (fun i H3 _ h => SqL.mk (h.1 _ _ (s12 _ _ hb))) (fun i x H3 hx h => ?_) (fun H3 h => ?_)
    · obtain ⟨s3, hD⟩ := h
      rw [List.getElem?_map] at hx
      obtain ⟨t, ht, rfl⟩ := Option.map_eq_some_iff.mp hx
      have hi := (List.getElem?_eq_some_iff.mp ht).1
      refine ⟨rfl, yes_ite ?_⟩
      refine ⟨.ref p, rfl, v, rfl, _, rfl, m, v, t, rfl, (hm.same s12).same s3, ok, fun H4 s4 => ?_⟩
      have hp4 := s4 _ _ (s3 _ _ hp)
      refine ⟨.ref p, rfl, p, _, rfl, .inl (SqL.mk hp4), _, _, rfl, rfl, by rw [List.length_map]; exact is_pos ll.1, p, _, _, .int (m.val t), rfl, rfl, SqL.mk hp4, ?_, ?_⟩
      · rw [List.length_map]
        exact pl_at ok.inn (m.bt t)
      · refine ⟨_, s4 _ _ hD, by rw [List.length_map, List.length_map, List.length_take]; omega, same_newer (s3.trans s4) nD, ?_⟩
        rw [upd_same, List.take_add_one, ht, List.map_append, List.map_append]
        rfl
    · obtain ⟨s3, hD⟩ := h
      rw [List.length_map, List.take_length] at hD
      exact q H3 D (s12.trans s3) (s12.free nD) hD
def sp_value_at (_ : PySem.W.Frag) : Sp := fun vs H Q _ => ∃ m v t, vs = [v, .int t] ∧ MkAt H m v ∧ m.Ok ∧ ∀ H', Same H H' → Q (.int (m.val t)) H'
def sp_values_of (_ : PySem.W.Frag) : Sp := fun vs H Q _ => ∃ m v, ∃ n : Nat, vs = [v, .int (n : Nat)] ∧ MkAt H m v ∧ m.Ok ∧ n ≤ 100000 ∧
  ∀ H' p, Same H H' → H p = none → H' p = some (.lst (((List.range n).map fun (i : Nat) => m.val i).map V.int)) → Q (.ref p) H'
theorem ok_values_of (T : Defs K mg) : FnOk P w K mg base CX0 5 T.f_values_of T.fd_values_of ["maker", "beats"] (sp_values_of K) := by
  have G_values_at : FnOk P w K mg base CX0 4 T.f_values_at T.fd_values_at ["maker", "beats"] (sp_values_at K) := ok_values_at T
  refine T.F_values_of.ok sc_values_of (fun vs H Q E h => ?_) (fun cdv A outer s H vs Q E hr h => ?_)
  · obtain ⟨m, v, n, rfl, hm, ok, hn, q⟩ := h
    rfl
  · obtain ⟨m, v, n, rfl, hm, ok, hn, q⟩ := h
    refine ⟨_, PSs.nox (pss_one (ps_ret (pe_call G_values_at (hr.mono (by decide)) (by rfl) T.g_values_at T.F_values_at.kp T.b_values_at .nil pass0 (pa_cons (pv 0) (pa_cons (pe_listRg rfl (by rfl) T.m_list (prg_1 (by rfl) T.m_range (pv 1))) pa_nil))))), ?_⟩
    refine ⟨v, rfl, .int (n : Nat), rfl, (n : Nat), rfl, RgOk.of_le (Int.le_refl 0) (by omega) (by decide) (by omega), fun l nl => ?_⟩
    refine ⟨m, v, l, (List.range n).map fun (i : Nat) => (i : Int), rfl, hm.same (same_upd nl), ok, ?_, by rw [List.length_map, List.length_range]; exact hn, fun H1 p s1 np hp => ?_⟩
    · rw [upd_same]
      unfold rgV
      rw [List.map_map, show ((n : Int) - 0).toNat = n by omega]
      congr 2
      apply List.map_congr_left
      intro i _
      show V.int (0 + (i : Int)) = V.int (i : Int)
      rw [Int.zero_add]
    · refine q H1 p ((same_upd nl).trans s1) ((same_upd nl).free np) ?_
      rw [hp]
      simp only [List.map_map]
      rfl
/-! the law's own divisor -/
def sp__law_divisor (_ : PySem.W.Frag) : Sp := fun vs H Q _ => ∃ a b : Int, vs = [.int a, .int b] ∧ Q (.int (Int.gcd a b : Int)) H
/-! where a number stands first -/
theorem flat_ints (xs : List Int) : (xs.map V.int).all flatV = true := by
  rw [List.all_eq_true]
  intro x hx
  obtain ⟨i, _, rfl⟩ := List.mem_map.mp hx
  rfl
theorem in_ints (xs : List Int) (k : Int) : inV (.int k) (xs.map V.int) = decide (k ∈ xs) := by
  unfold inV
  rw [Bool.eq_iff_iff, List.any_eq_true, decide_eq_true_iff]
  constructor
  · rintro ⟨y, hy, e⟩
    obtain ⟨i, hi, rfl⟩ := List.mem_map.mp hy
    have : i = k := by
      have e : (i == k) = true := e
      exact eq_of_beq e
    rw [← this]
    exact hi
  · intro h
    exact ⟨_, List.mem_map.mpr ⟨k, h, rfl⟩, show (k == k) = true from beq_self_eq_true k⟩
theorem first_of {xs : List Int} {k : Int} : k ∈ xs → ∃ j : Nat, xs[j]? = some k ∧ ∀ m, m < j → xs[m]? ≠ some k := by
  induction xs with
  | nil => intro h; cases h
  | cons x r ih =>
    intro h
    by_cases e : x = k
    · exact ⟨0, by rw [e]; rfl, fun m hm => by omega⟩
    · rcases List.mem_cons.mp h with h | h
      · exact absurd h.symm e
      · obtain ⟨j, h1, h2⟩ := ih h
        refine ⟨j + 1, h1, fun m hm => ?_⟩
        cases m with
        | zero => exact fun z => e (Option.some.inj z)
        | succ m => exact h2 m (by omega)
/-! counters, tables, turned ones -/
def Mk.Bs : Mk → Prop
  | .counter _ _ _ => True
  | .table _ => True
  | .turned _ _ => True
  | .register _ _ _ => True
  | _ => False
theorem bnd64 {z : Nat} (h : z ≤ 64) : -(2 ^ 64) < (z : Int) ∧ (z : Int) < 2 ^ 64 := by omega
def pows : List Int := [1, 2, 4, 8, 16, 32, 64]
def powP (w : Nat) : List Int := (List.range w).map fun j => ((2 ^ j : Nat) : Int)
def powR (w : Nat) : List Int := (List.range w).map fun j => ((2 ^ (w - 1 - j) : Nat) : Int)
theorem six {P : Nat → Prop} {w : Nat} (h : w ≤ 6) (h0 : P 0) (h1 : P 1) (h2 : P 2) (h3 : P 3) (h4 : P 4) (h5 : P 5) (h6 : P 6) : P w := by
  match w, h with
  | 0, _ => exact h0
  | 1, _ => exact h1
  | 2, _ => exact h2
  | 3, _ => exact h3
  | 4, _ => exact h4
  | 5, _ => exact h5
  | 6, _ => exact h6
theorem pow_take {w : Nat} (h : w ≤ 6) : pows.take w = powP w := six (P := fun w => pows.take w = powP w) h (by decide) (by decide) (by decide) (by decide) (by decide) (by decide) (by decide)
theorem pow_rev {w : Nat} (h : w ≤ 6) : (powP w).reverse = powR w := six (P := fun w => (powP w).reverse = powR w) h (by decide) (by decide) (by decide) (by decide) (by decide) (by decide) (by decide)
theorem pow_at {w : Nat} (h : w ≤ 6) : pows[w]? = some ((2 ^ w : Nat) : Int) := six (P := fun w => pows[w]? = some ((2 ^ w : Nat) : Int)) h (by decide) (by decide) (by decide) (by decide) (by decide) (by decide) (by decide)
theorem at_pow {w : Nat} (h : w ≤ 6) : atI (pows.map V.int) ((w : Nat) : Int) = some (.int ((2 ^ w : Nat) : Int)) := atI_nat (by rw [List.getElem?_map, pow_at h]; rfl)
theorem powP_len (w : Nat) : (powP w).length = w := by
  unfold powP
  rw [List.length_map, List.length_range]
theorem powR_len (w : Nat) : (powR w).length = w := by
  unfold powR
  rw [List.length_map, List.length_range]
theorem powP_at {w k : Nat} {y : V} (h : ((powP w).map V.int)[k]? = some y) : k < w ∧ y = .int ((2 ^ k : Nat) : Int) := by
  have hk := (List.getElem?_eq_some_iff.mp h).1
  rw [List.length_map, powP_len] at hk
  unfold powP at h
  rw [List.getElem?_map, List.getElem?_map, List.getElem?_range hk] at h
  cases h
  exact ⟨hk, rfl⟩
theorem powR_at {w k : Nat} {y : V} (h : ((powR w).map V.int)[k]? = some y) : k < w ∧ y = .int ((2 ^ (w - 1 - k) : Nat) : Int) := by
  have hk := (List.getElem?_eq_some_iff.mp h).1
  rw [List.length_map, powR_len] at hk
  unfold powR at h
  rw [List.getElem?_map, List.getElem?_map, List.getElem?_range hk] at h
  cases h
  exact ⟨hk, rfl⟩
theorem sum_two (f : Nat → Int) : ∀ k : Nat, ((List.range k).map fun j => 2 * f j).sum = 2 * ((List.range k).map f).sum
  | 0 => rfl
  | k + 1 => by
    rw [List.range_succ, List.map_append, List.sum_append, List.map_append, List.sum_append, sum_two f k]
    simp
    omega
theorem lff_sum (x : Nat) : ∀ w : Nat, ((List.range w).map fun j => ((x / 2 ^ j % 2 : Nat) : Int) * ((2 ^ (w - 1 - j) : Nat) : Int)).sum = ((lff x w : Nat) : Int)
  | 0 => rfl
  | w + 1 => by
    rw [List.range_succ, List.map_append, List.sum_append]
    have e : (List.range w).map (fun j => ((x / 2 ^ j % 2 : Nat) : Int) * ((2 ^ (w + 1 - 1 - j) : Nat) : Int)) = (List.range w).map fun j => 2 * (((x / 2 ^ j % 2 : Nat) : Int) * ((2 ^ (w - 1 - j) : Nat) : Int)) := by
      apply List.map_congr_left
      intro j hj
      have hj := List.mem_range.mp hj
      show _ = 2 * (_ * _)
      rw [show w + 1 - 1 - j = (w - 1 - j) + 1 by omega, Nat.pow_succ, Int.natCast_mul, Int.mul_comm ((2 ^ (w - 1 - j) : Nat) : Int), Int.mul_left_comm]
      rfl
    rw [e, sum_two (fun j => ((x / 2 ^ j % 2 : Nat) : Int) * ((2 ^ (w - 1 - j) : Nat) : Int)) w, lff_sum x w]
    show 2 * ((lff x w : Nat) : Int) + (_ * ((2 ^ (w + 1 - 1 - w) : Nat) : Int) + 0) = ((2 * lff x w + x / 2 ^ w % 2 : Nat) : Int)
    rw [show w + 1 - 1 - w = 0 by omega]
    omega
def sp__law_powers (_ : PySem.W.Frag) : Sp := fun vs H Q _ => vs = [] ∧ ∀ H' p, Same H H' → H p = none → H' p = some (.lst (pows.map V.int)) → Q (.ref p) H'
def sp__law_base (_ : PySem.W.Frag) : Sp := fun vs H Q _ => ∃ m v, vs = [v] ∧ MkAt H m v ∧ m.Pl ∧ m.Bs ∧
  ∀ H' p, Same H H' → H p = none → H' p = some (.lst (m.pl.map V.int)) → Q (.ref p) H'
theorem ne_table_counter : ¬ (V.str "counter" = V.str "table") := by decide +kernel
/-! heaps with tables -/
theorem trip0 : TriplesOk (#[] : Array Value).toList := trivial
structure Sam (H H' : Hp) : Prop where
  obj : ∀ b o, (∀ ps, o ≠ .tbl ps) → H b = some o → H' b = some o
  tab : ∀ b ps, H b = some (.tbl ps) → ∃ ps', H' b = some (.tbl ps') ∧ (TriplesOk ps.toList → TriplesOk ps'.toList)
theorem Sam.of {H H' : Hp} (s : Same H H') : Sam H H' := ⟨fun b o _ e => s b o e, fun b ps e => ⟨ps, s b _ e, fun z => z⟩⟩
theorem Sam.refl (H : Hp) : Sam H H := .of (Same.refl H)
theorem Sam.trans {H H1 H2 : Hp} (a : Sam H H1) (b : Sam H1 H2) : Sam H H2 := ⟨fun c o n e => b.obj c o n (a.obj c o n e), fun c ps e => by
  obtain ⟨p1, e1, t1⟩ := a.tab c ps e
  obtain ⟨p2, e2, t2⟩ := b.tab c p1 e1
  exact ⟨p2, e2, fun z => t2 (t1 z)⟩⟩
theorem Sam.tabG {H H' : Hp} {P : Addr} (a : Sam H H') (t : GxR.TabG H P) : GxR.TabG H' P := by
  obtain ⟨ps, e, z⟩ := t
  obtain ⟨p1, e1, t1⟩ := a.tab P ps e
  exact ⟨p1, e1, t1 z⟩
theorem Sam.tup {H H' : Hp} {a : Addr} {xs : List V} (s : Sam H H') (h : H a = some (.tup xs)) : H' a = some (.tup xs) := s.obj _ _ (fun _ z => by cases z) h
theorem Sam.lst {H H' : Hp} {a : Addr} {xs : List V} (s : Sam H H') (h : H a = some (.lst xs)) : H' a = some (.lst xs) := s.obj _ _ (fun _ z => by cases z) h
theorem Sam.free {H H' : Hp} (s : Sam H H') {l : Addr} (h : H' l = none) : H l = none := by
  cases q : H l with
  | none => rfl
  | some o =>
    cases o with
    | tbl ps =>
      obtain ⟨p1, e1, _⟩ := s.tab l ps q
      rw [e1] at h
      cases h
    | _ =>
      rw [s.obj l _ (fun _ z => by cases z) q] at h
      cases h
theorem Sam.tabbed {P : Addr} {H H' : Hp} (g : GxR.TabG H P) (t : GxR.Tabbed P H H') : Sam H H' := by
  obtain ⟨⟨p1, e1, z1⟩, k⟩ := t
  obtain ⟨p0, e0, _⟩ := g
  refine ⟨fun b o n e => ?_, fun b ps e => ?_⟩
  · by_cases hb : b = P
    · rw [hb, e0] at e
      exact absurd (Option.some.inj e).symm (n p0)
    · rw [k b hb]
      exact e
  · by_cases hb : b = P
    · rw [hb]
      exact ⟨p1, e1, fun _ => z1⟩
    · exact ⟨ps, by rw [k b hb]; exact e, fun z => z⟩
theorem sam_newer {H H' : Hp} {q : Addr} {o : HO} (a : Sam H H') (n : H q = none) : Sam H (upd H' q o) := ⟨fun c x hx e => by
    rw [upd_ne (ne_of_none e n)]
    exact a.obj c x hx e, fun c ps e => by
    obtain ⟨p1, e1, t1⟩ := a.tab c ps e
    exact ⟨p1, by rw [upd_ne (ne_of_none e n)]; exact e1, t1⟩⟩
/-- all but the box stays, tables grow -/
structure Bus (p : Addr) (H H' : Hp) : Prop where
  obj : ∀ b o, b ≠ p → (∀ ps, o ≠ .tbl ps) → H b = some o → H' b = some o
  tab : ∀ b ps, b ≠ p → H b = some (.tbl ps) → ∃ ps', H' b = some (.tbl ps') ∧ (TriplesOk ps.toList → TriplesOk ps'.toList)
theorem Bus.of {p : Addr} {H H' : Hp} (s : But p H H') : Bus p H H' := ⟨fun b o n _ e => s b o n e, fun b ps n e => ⟨ps, s b _ n e, fun z => z⟩⟩
theorem Bus.sam {p : Addr} {H H' : Hp} (s : Sam H H') : Bus p H H' := ⟨fun b o _ n e => s.obj b o n e, fun b ps _ e => s.tab b ps e⟩
theorem Bus.refl (p : Addr) (H : Hp) : Bus p H H := .of (But.refl p H)
theorem Bus.trans {p : Addr} {H H1 H2 : Hp} (a : Bus p H H1) (b : Bus p H1 H2) : Bus p H H2 := ⟨fun c o h n e => b.obj c o h n (a.obj c o h n e), fun c ps h e => by
  obtain ⟨p1, e1, t1⟩ := a.tab c ps h e
  obtain ⟨p2, e2, t2⟩ := b.tab c p1 h e1
  exact ⟨p2, e2, fun z => t2 (t1 z)⟩⟩
theorem Bus.tup {p : Addr} {H H' : Hp} {n : Nat} {a : Addr} {xs : List V} (s : Bus p H H') (B : Bx H p n) (h : H a = some (.tup xs)) : H' a = some (.tup xs) := s.obj _ _ (B.ne_tup h) (fun _ z => by cases z) h
theorem Bus.lst {p : Addr} {H H' : Hp} {a : Addr} {xs : List V} (s : Bus p H H') (ne : a ≠ p) (h : H a = some (.lst xs)) : H' a = some (.lst xs) := s.obj _ _ ne (fun _ z => by cases z) h
theorem Bus.tabG {p : Addr} {H H' : Hp} {n : Nat} {P : Addr} (s : Bus p H H') (B : Bx H p n) (t : GxR.TabG H P) : GxR.TabG H' P := by
  obtain ⟨ps, e, z⟩ := t
  obtain ⟨a, b, c, hp, _⟩ := B
  obtain ⟨p1, e1, t1⟩ := s.tab P ps (ne_of e hp (fun z => by cases z)) e
  exact ⟨p1, e1, t1 z⟩
theorem Bus.new {p q : Addr} {H H' : Hp} {o : HO} (a : Bus p H H') (n : H' q = none) : Bus p H (upd H' q o) := a.trans (.of ((But.refl p H').new n))
/-- a thing made since H may change -/
theorem bus_newer {p q : Addr} {H H' : Hp} {o : HO} (a : Bus p H H') (n : H q = none) : Bus p H (upd H' q o) := ⟨fun c x h hx e => by
    rw [upd_ne (ne_of_none e n)]
    exact a.obj c x h hx e, fun c ps h e => by
    obtain ⟨p1, e1, t1⟩ := a.tab c ps h e
    exact ⟨p1, by rw [upd_ne (ne_of_none e n)]; exact e1, t1⟩⟩
theorem Bus.free {p : Addr} {H H' : Hp} {n : Nat} (s : Bus p H H') (B : Bx H p n) (B' : ∃ m, Bx H' p m) {l : Addr} (h : H' l = none) : H l = none := by
  cases q : H l with
  | none => rfl
  | some o =>
    have nl : l ≠ p := fun z => by
      obtain ⟨m, _, _, _, hp, _⟩ := B'
      rw [z, hp] at h
      cases h
    cases o with
    | tbl ps =>
      obtain ⟨p1, e1, _⟩ := s.tab l ps nl q
      rw [e1] at h
      cases h
    | _ =>
      rw [s.obj l _ nl (fun _ z => by cases z) q] at h
      cases h
theorem Bx.sam {H H' : Hp} {p : Addr} {n : Nat} (h : Bx H p n) (s : Sam H H') : Bx H' p n := by
  obtain ⟨a, b, c, hp, r⟩ := h
  exact ⟨a, b, c, s.lst hp, r⟩
theorem bus_same {p : Addr} {H H1 H2 : Hp} (n : H p = none) (a : Sam H H1) (b : Bus p H1 H2) : Sam H H2 := ⟨fun c x h e => b.obj c x (ne_of_none e n) h (a.obj c x h e), fun c ps e => by
  obtain ⟨p1, e1, t1⟩ := a.tab c ps e
  obtain ⟨p2, e2, t2⟩ := b.tab c p1 (ne_of_none e n) e1
  exact ⟨p2, e2, fun z => t2 (t1 z)⟩⟩
theorem ne_new {H : Hp} {p q : Addr} {n : Nat} (B : Bx H p n) (nq : H q = none) : q ≠ p := fun e => by
  obtain ⟨_, _, _, hp, _⟩ := B
  rw [e, hp] at nq
  cases nq
theorem nat_of {x : Int} (h : 0 ≤ x) : ∃ m : Nat, x = (m : Nat) := Int.eq_ofNat_of_zero_le h
theorem listK {X : Cx} {K : PySem.W.Frag} {tg e : Expr} {t : TE} (h : X.K = K) (he : PE X e t) : PI X tg e (iList K t) := by
  subst h
  exact pi_list he
theorem nx_via {t u : TS} {D : Ends} {r : VK} {k c : L2.St → Hp → Prop} {σ : L2.St} {H : Hp} (R : L2.St → Hp → Prop) (h1 : ∀ N : L2.St → Hp → Prop, (∀ σ H, R σ H → N σ H) → t { D with nx := N } σ H) (h2 : ∀ σ H, R σ H → u D σ H) : Ends.nx { nx := tSeq t u D, rt := r, bk := k, ct := c } σ H := h1 _ h2
theorem seq_via {t u : TS} {D : Ends} {σ : L2.St} {H : Hp} (R : L2.St → Hp → Prop) (h1 : ∀ N : L2.St → Hp → Prop, (∀ σ H, R σ H → N σ H) → t { D with nx := N } σ H) (h2 : ∀ σ H, R σ H → u D σ H) : tSeq t u D σ H := h1 _ h2
theorem u1 {k : Nat} {A : Around} (r : Room k A) : A.units + 1 < cLine := by
  have := r.un
  omega
theorem lcK {X : Cx} {K : PySem.W.Frag} (h : X.K = K) : MtR X "list.count" (rCntI K) := by
  subst h
  exact mt_lcount
theorem pe_bmK {X : Cx} {K : PySem.W.Frag} {T id : String} {name : Str} {r : V → List V → Hp → VK → Prop} {o e : Expr} {es : List Expr} {to : TE} {t : TA} {apos cpos : Pos} (pa : PlainAttrs T) (slot : Slot T name id) (hty : typeOf (.builtin id) = pure (.type "method_descriptor")) (hm : MtR X id r) (ho : PE X o to) (ha : PA X (e :: es) t) (hk : X.K = K := by rfl)
    (hbase : attributeBase o name X.env (eval o X.env) = eval o X.env := by rfl)
    (hfew : ((backTo cpos (starEach (e :: es) X.env)).all (fun x => !x.1) && (backToKw cpos (keywordEach [] X.env)).all (fun x => x.1.isSome) && decide ((e :: es).length + ([] : List Keyword).length + (if ([] : List Keyword).isEmpty then 0 else 1) < 30)) = true := by rfl)
    (hline : (apos.endLine == cpos.line) = true := by rfl) (hs : starEach (e :: es) X.env = (false, eval e X.env) :: starEach es X.env := by rfl) (hplain : (backTo cpos (starEach es X.env)).any (·.1) = false := by rfl) :
    PE X (.Call (.Attribute o name apos) (e :: es) [] cpos) (tBM K T r to t) := by
  subst hk
  exact pe_bm pa slot hty hm ho ha hbase hfew hline hs hplain
/-! generator expressions whose element is anything that PE serves: the generator's own frame as a context -/
abbrev Cx.gblk (X : Cx) (s : Shared) (H : Hp) (scope : Scope) (C : Addr) (code : Value) (fp : List Addr) : Cx :=
  { X with A := X.A.in1.in1.in1.in1.deeper (genEnv scope (cloFrom X.env.cells scope.names []) C code builtinsNs X.env), s_0 := s, H_0 := H, env := genEnv scope (cloFrom X.env.cells scope.names []) C code builtinsNs X.env, outer := X.stack, stack := (genEnv scope (cloFrom X.env.cells scope.names []) C code builtinsNs X.env) :: X.stack, ex := fp, fn := fun x => scope.names.lookup x == some .cell, pn := [], xe := fun _ _ => False }
theorem over_gen {A : Around} {elt : Expr} {gs : List Comprehension} {sc : Scope} {pos : Pos} {it acc : Value} {env : Env} : A.over (.compLoop (.GeneratorExp elt gs sc pos) 0 it acc env) [] = A.deeper env := by
  first
    | rfl
    | (obtain ⟨hd, d, fr, gd, u⟩ := A; simp [Around.over, Around.deeper, marksOver, frameCount, unitsOf, envsOf, guardsOf, pushEnvs, pushGuards, Code.envs, Code.env?, Code.isFrame, Code.guards, Code.isGuard, Code.weight, Code.frames, Code.isCreation, Code.isCaller, Code.cUnits])
theorem over_gen0 {A : Around} {elt : Expr} {gs : List Comprehension} {sc : Scope} {pos : Pos} {it acc : Value} {env : Env} : A.over (.compStart (.GeneratorExp elt gs sc pos) 0 it acc env) [] = A.deeper env := by
  first
    | rfl
    | (obtain ⟨hd, d, fr, gd, u⟩ := A; simp [Around.over, Around.deeper, marksOver, frameCount, unitsOf, envsOf, guardsOf, pushEnvs, pushGuards, Code.envs, Code.env?, Code.isFrame, Code.guards, Code.isGuard, Code.weight, Code.frames, Code.isCreation, Code.isCaller, Code.cUnits])
theorem Room.gen {k : Nat} {A : Around} (r : Room (k + 1) A) (env : Env) : Room k (A.in1.in1.in1.in1.deeper env) :=
  ⟨r.hd, by have := r.dp; show A.depth + 1 + 3 * k + 5 < _; omega, by have := r.un; show A.units + 1 + 1 + 1 + 1 + 3 + 16 * k + 200 < _; omega⟩
/-- the names of a generator expression: as a block's, none of them a cell of its own -/
structure GenOk (N : List Str) (sc scope : Scope) (own : List (Str × Nat)) : Prop where
  blk : BlkOk N sc scope own
  co : scope.isCoroutine = false
  cel : ∀ y ∈ scope.names, y.2 ≠ .cell
  dot : scope.names.lookup (".0" : Str) = some NameKind.local
theorem genOk_by {N : List Str} {sc scope : Scope} {own : List (Str × Nat)} (h : blkC N sc scope own = true) (co : scope.isCoroutine = false) (cel : (scope.names.all fun y => y.2 != .cell) = true) (dot : scope.names.lookup (".0" : Str) = some NameKind.local) : GenOk N sc scope own := by
  refine ⟨blkOk_by h, co, fun y hy e => ?_, dot⟩
  have := List.all_eq_true.mp cel y hy
  rw [e] at this
  cases this
section
variable {X : Cx} {pins : List (Addr × Obj)} {σ : L2.St} {H : Hp} {s : Shared}
theorem gen_start {scope : Scope} {own : List (Str × Nat)} {fp : List Addr} {code : Value} {h' : Heap} {go : Obj} {G : Array GenState} {tk : Nat} {it : Value} (I : Inv X pins σ H s) (ok : GenOk X.N X.env.scope scope own) (hN : X.N.Nodup) (hfp : ∀ b ∈ fp, FpOk X pins H b ∧ b < s.heap.objs.size)
    (hns : h'.Ns s.heap.objs.size (fun y => if y = ".0" then some it else none)) (sb : Heap.SameBut s.heap.objs.size (s.heap.push { cls := .type "frame", data := .dict #[] }) h') (hG : AllBare G) (hgo : (h'.push go).get? h'.objs.size = some go) (hgd : ∀ v, go.data ≠ .cell v) :
    Inv (Cx.gblk X s H scope s.heap.objs.size code fp) [(h'.objs.size, go)] (wipe σ (own.map (·.2))) H { s with gens := G, toks := tk, heap := h'.push go } := by
  have hfree : ∀ y ∈ scope.names, y.2 = .free → ∃ c, X.env.cells.lookup y.1 = some c := fun y hy e => by
    rcases ok.blk.free y hy e with k | k
    · exact I.ok.has _ (.inl k)
    · exact I.ok.has _ (.inr k)
  have szh : h'.objs.size = s.heap.objs.size + 1 := by rw [sb.1, Heap.size_push]
  have kp : ∀ b o, s.heap.get? b = some o → (h'.push go).get? b = some o := fun b o e => Heap.get?_push_of_some _ (sb.extBut b o (Nat.ne_of_lt (Heap.lt_size e)) (Heap.get?_push_of_some _ e))
  have cm : ∀ {y c}, (cloFrom X.env.cells scope.names []).lookup y = some c → X.env.cells.lookup y = some c ∧ c < s.heap.objs.size ∧ (y, NameKind.free) ∈ scope.names := fun {y c} e => by
    rcases cloFrom_mem (PySem.mem_of_lookup e) with hm | ⟨h1, rfl⟩
    · cases hm
    · obtain ⟨c, hc⟩ := hfree _ h1 rfl
      rw [hc]
      obtain ⟨w, z⟩ := I.cell _ _ hc
      exact ⟨rfl, z.lt, h1⟩
  have look : ∀ {y}, scope.names.lookup y = some .free → ∃ c, (cloFrom X.env.cells scope.names []).lookup y = some c ∧ X.env.cells.lookup y = some c := fun {y} hl => by
    have hy : (y, NameKind.free) ∈ scope.names := PySem.mem_of_lookup hl
    obtain ⟨c', e'⟩ := mem_lookup (cloFrom_has (cells := X.env.cells) (acc := []) hy)
    exact ⟨c', e', (cm e').1⟩
  have okB : (Cx.gblk X s H scope s.heap.objs.size code fp).Ok := by
    refine ⟨I.ok.mod, ok.blk.kind, I.ok.glob, rfl, Nat.le_refl _, fun y z c e1 e2 => I.ok.inj y z c (cm e1).1 (cm e2).1, fun y hy => ?_, fun y c z e => ?_, I.ok.hd, ?_, .inr ⟨rfl, rfl⟩, fun b hb => ⟨?_, fun y c e z => ?_⟩, I.bs, Nat.le_trans I.ok.bsz I.sz, fun b o e hb => ?_, fun b hb z => ?_, I.stack, I.stkFree⟩
    · rcases hy with hy | hy
      · have hy : scope.names.lookup y = some .cell := hy
        exact absurd rfl (ok.cel _ (PySem.mem_of_lookup hy))
      · obtain ⟨c, h1, _⟩ := look (y := y) hy
        exact ⟨c, h1⟩
    · have z : (scope.names.lookup y == some NameKind.cell) = true := z
      have z : scope.names.lookup y = some .cell := by simpa using z
      exact absurd rfl (ok.cel _ (PySem.mem_of_lookup z))
    · show (X.A.frames.map (_ :: ·)) = some (_ :: X.stack)
      rw [I.ok.frames]
      rfl
    · exact Nat.ne_of_lt (hfp b hb).2
    · exact (hfp b hb).1.2.2.2.2.1 y c (cm e).1 z
    · rcases (hfp b hb).1.2.2.2.1 with z | z
      · exact I.ok.noex b o e z
      · exact absurd (Nat.lt_of_lt_of_le (Heap.lt_size e) (Nat.le_trans I.ok.bsz z)) (Nat.lt_irrefl _)
    · rcases List.mem_cons.mp (I.stkSub b z) with z | z
      · exact (hfp b hb).1.2.1 z
      · exact (hfp b hb).1.2.2.1 z
  refine ⟨okB, rfl, hG, Un.kept kp, ⟨_, hns.push go, fun i y av e1 e2 e3 => ?_⟩, fun y c e => ?_, I.hok.fresh (Nat.le_refl _), fun y c e => I.freeC y c (cm e).1, fun p hp => ?_, I.hok.kept kp, by rw [wipe_length]; exact I.len⟩
  · obtain ⟨e2, hne⟩ := wipe_some e2
    have e3 : Vis scope y := e3
    have hfr : scope.names.lookup y = some .free := by
      have no : ∀ k, scope.names.lookup y = some k → (k = .local ∨ k = .cell) → False := fun k e hh => by
        rcases ok.blk.own _ (PySem.mem_of_lookup e) hh with e' | e'
        · obtain ⟨p, hp, hpy⟩ := List.mem_map.mp e'
          have e3 := ok.blk.ix p hp
          have : p.1 = y := hpy
          rw [this] at e3
          exact hne (List.mem_map.mpr ⟨p, hp, nodup_ix hN e3 e1⟩)
        · exact e' (List.mem_of_getElem? e1)
      rcases e3 with e3 | e3 | e3
      · exact (no _ e3 (.inl rfl)).elim
      · exact (no _ e3 (.inr rfl)).elim
      · exact e3
    obtain ⟨m, hn, hl⟩ := I.loc
    have hvis : Vis X.env.scope y := (ok.blk.free _ (PySem.mem_of_lookup hfr) rfl).elim (fun k => .inr (.inl k)) (fun k => .inr (.inr k))
    obtain ⟨w, r, q⟩ := hl i y av e1 e2 hvis
    refine ⟨w, r, .inr ⟨.inr hfr, ?_⟩⟩
    obtain ⟨c, h1, h2⟩ := look hfr
    rcases q with ⟨k, _⟩ | ⟨_, c', e', z⟩
    · have k : X.env.scope.names.lookup y = some .local := k
      rcases ok.blk.free _ (PySem.mem_of_lookup hfr) rfl with k' | k' <;> rw [show X.env.scope.names.lookup y = _ from k'] at k <;> cases k
    · rw [h2] at e'; cases e'
      exact ⟨c, h1, z.keeps kp⟩
  · obtain ⟨w, z⟩ := I.cell y c (cm e).1
    exact ⟨w, z.keeps kp⟩
  · have hp : p = (h'.objs.size, go) := by simpa using hp
    subst hp
    have ge : s.heap.objs.size ≤ h'.objs.size := by omega
    refine ⟨hgo, I.hok.fresh ge, by show h'.objs.size ≠ s.heap.objs.size; omega, fun z => ?_, hgd⟩
    rcases List.mem_cons.mp (I.stkSub _ z) with z | z
    · have z : h'.objs.size = X.env.locals := z
      exact Nat.ne_of_lt (Nat.lt_of_lt_of_le I.lt ge) z.symm
    · exact I.nofs ge z
end
section
/-- what the consumer holds beside, what it is told, where it goes on, the end -/
structure GPar where
  ext : List V → List (Addr × Obj) → Prop
  yld : List V → V → Hp → Prop
  go : List V → V → Hp → Prop
  fin : List V → Hp → Prop
def YG (Y : Cx) (ga : Addr) (go : Obj) (p : GPar) : Protocol := fun _ _ v s kap => ∃ (ys : List V) (y : V) (H' : Hp) (ps pf : List (Addr × Obj)) (σ' : L2.St), RelV y v ∧ p.ext ys ps ∧ (∀ q ∈ pf, q.1 < Y.env.locals) ∧ Inv Y (((ga, go) :: ps) ++ pf) σ' H' s ∧ p.yld ys y H' ∧
  ∀ s' ps', p.ext (ys ++ [y]) ps' → Inv Y (((ga, go) :: ps') ++ pf) σ' H' s' → p.go ys y H' → kap (.send .none) s'
def RG (Y : Cx) (ga : Addr) (go : Obj) (p : GPar) : Shared → Prop := fun s => ∃ (ys : List V) (H' : Hp) (ps : List (Addr × Obj)) (σ' : L2.St), p.ext ys ps ∧ Inv Y ((ga, go) :: ps) σ' H' s ∧ p.fin ys H'
theorem gen_loop {Y : Cx} {A : Around} {ga : Addr} {go : Obj} {p : GPar} {elt tg iter : Expr} {ifs : List Expr} {scope : Scope} {pos : Pos} {it : Addr} {fp : List Addr} {tn : Nat → Heap → Prop} {J : It} {g : TG} {tt : TT} {te : TE} {σ : L2.St} {vs : List Nat} {W : List V → Nat → Nat → Hp → Prop}
    (hcal : Y.calm = true) (hpn : Y.pn = []) (T : Turn Y.prog Y.w Y.K tg J fp it tn) (hpg : PG Y tg g) (hpt : PTs Y ifs tt) (hpe : PE Y elt te) (hxe : Y.xe = fun _ _ => False)
    (hA : A.over (.compLoop (.GeneratorExp elt [⟨tg, iter, ifs, 0⟩] scope pos) 0 (.ref it) .none Y.env) [] = Y.A) (hex : ∀ b ∈ fp, b ∈ Y.ex) (hga : ∀ b ∈ fp, ga ≠ b) (hext : ∀ ys ps, p.ext ys ps → ∀ q ∈ ps, ∀ b ∈ fp, q.1 ≠ b) (hco : Y.env.scope.isCoroutine = false) (hfl : ∀ b ∈ fp, b < Y.env.locals)
    (step : ∀ ys i m H, W ys i m H → (J.stop i H ∧ p.fin ys H) ∨ (J.go i H ∧ ∃ Nx : List V → Hp → Prop, (∀ ys' H', Nx ys' H' → ∃ m', m' < m ∧ W ys' (i + 1) m' H') ∧ ∀ x H', J.yld i H x H' → g x (wipe σ vs) H' fun σ2 H2 => wipe σ2 vs = wipe σ vs ∧ tt σ2 H2 fun b H3 =>
      if b = true then te σ2 H3 fun y H4 => p.yld ys y H4 ∧ (p.go ys y H4 → Nx (ys ++ [y]) H4) else Nx ys H3)) :
    ∀ (m n i : Nat) (ys : List V) (H : Hp) (ps : List (Addr × Obj)) (s₀ s : Shared), m < n → W ys i m H → p.ext ys ps → Inv Y ((ga, go) :: ps) (wipe σ vs) H s → tn i s.heap → (∀ b ∈ fp, H b = none) →
      Seg (model Y.prog Y.w) A (fun n s₀ r s₁ => r = .ok .next ∧ (fun _ _ s => RG Y ga go p s) n s₀ s₁) (YG Y ga go p) n s₀ (.compLoop (.GeneratorExp elt [⟨tg, iter, ifs, 0⟩] scope pos) 0 (.ref it) .none Y.env)
        ((model Y.prog Y.w).den (.compLoop (.GeneratorExp elt [⟨tg, iter, ifs, 0⟩] scope pos) 0 (.ref it) .none Y.env)) [] s := by
  intro m
  induction m using Nat.strongRecOn with
  | ind m ih =>
  intro n i ys H ps s₀ s hmn w0 ex0 I0 st0 n0
  have stat : ∀ {σ' : L2.St} {H' : Hp} {s' : Shared} {ys' ps'}, p.ext ys' ps' → Inv Y ((ga, go) :: ps') σ' H' s' → (∀ b ∈ fp, H' b = none) → ∀ b ∈ fp, FpOk Y ((ga, go) :: ps') H' b := fun {σ' H' s' ys' ps'} e' I' hn b hb =>
    ⟨hn b hb, (I'.ok.exf b (hex b hb)).1, I'.ok.exfs b (hex b hb), .inl (hex b hb), fun x c e => (I'.ok.exf b (hex b hb)).2 x c e, fun q hq => by
      rw [hpn, List.nil_append] at hq
      rcases List.mem_cons.mp hq with z | z
      · rw [z]; exact hga b hb
      · exact hext _ _ e' q z b hb⟩
  show Seg _ A _ _ _ s₀ _ ((compTurn (.GeneratorExp elt [⟨tg, iter, ifs, 0⟩] scope pos) 0 (.ref it) .none Y.env).onRaise (leaving Y.env)) [] s
  rw [compTurn_gen, Sem.onRaise_eq_wrap]
  refine seg_bind_wrap (wpAny_standAt ?_)
  rcases step ys i m H w0 with ⟨stop, qf⟩ | ⟨gon, Nx, hNx, turn⟩
  · refine seg_bind_wrap ?_
    rw [hA]
    refine thnF (T.done Y rfl rfl rfl hcal i _ s _ H (fun _ _ => False) I0 (stat ex0 I0 n0) st0 stop) fun r s6 ⟨hr, I6⟩ => ?_
    subst hr
    exact seg_end (.ok .next) ⟨rfl, ys, H, ps, _, ex0, I6, qf⟩
  · refine seg_bind_wrap ?_
    rw [hA]
    refine thnF (T.item Y rfl rfl rfl hcal i _ s _ H (fun _ _ => False) I0 (stat ex0 I0 n0) st0 gon) fun r s6 ⟨u, hr, h6⟩ => ?_
    subst hr
    refine seg_bind_wrap ?_
    rw [hA]
    refine thnF h6 fun _ s7 ⟨x, H7, I7, r7, y7, st7, n7⟩ => ?_
    have I7' := I7.pinned (stat ex0 I7 n7) (T.obj _ _ st7)
    refine seg_bind_wrap ?_
    rw [hA]
    have fx : ∀ {α : Type} {t : Sem α} {Q : α → Shared → Prop} {s : Shared}, wpAny (model Y.prog Y.w) Y.A t Q Y.xe s → wpAny (model Y.prog Y.w) Y.A t Q (fun _ _ => False) s := fun h => by rw [hxe] at h; exact h
    refine thnF (fx (hpg.run _ s7 _ H7 x u _ I7' r7 (turn x H7 y7))) fun _ s8 ⟨σ8, H8, I8, hw8, q8⟩ => ?_
    refine seg_bind_wrap ?_
    rw [hA]
    refine thnF (fx (hpt.run _ s8 σ8 H8 _ I8 q8)) fun b s9 ⟨H9, I9, q9⟩ => ?_
    have fin : ∀ {s' : Shared} {H' : Hp} {ys' ps' m'}, m' < m → ∀ {n' : Nat} {s₀' : Shared}, m' < n' → p.ext ys' ps' → Inv Y (((ga, go) :: ps') ++ pinsAt fp s7.heap) σ8 H' s' → W ys' (i + 1) m' H' → Seg (model Y.prog Y.w) A (fun n s₀ r s₁ => r = .ok .next ∧ (fun _ _ s => RG Y ga go p s) n s₀ s₁) (YG Y ga go p) n' s₀' (.compLoop (.GeneratorExp elt [⟨tg, iter, ifs, 0⟩] scope pos) 0 (.ref it) .none Y.env)
        ((model Y.prog Y.w).den (.compLoop (.GeneratorExp elt [⟨tg, iter, ifs, 0⟩] scope pos) 0 (.ref it) .none Y.env)) [] s' := fun {s' H' ys' ps' m'} hm {n' s₀'} hn e' I' w' => by
      have pin' : ∀ b ∈ fp, ∀ o, s7.heap.get? b = some o → s'.heap.get? b = some o ∧ H' b = none := fun b hb o e =>
        let z := I'.pin (b, o) (List.mem_append_right _ (List.mem_append_right _ (mem_pinsAt hb e)))
        ⟨z.1, z.2.1⟩
      have hl : (wipe σ vs).length = σ8.length := by rw [← hw8, wipe_length]
      have I2 : Inv Y ((ga, go) :: ps') σ8 H' s' := I'.pins_of fun q hq => I'.pin q (List.mem_append_right _ (List.mem_append_left _ hq))
      refine ih m' hm n' (i + 1) ys' H' ps' s₀' s' hn w' e' (I2.weak hl fun j v e => ?_) (T.keep _ _ _ st7 fun b hb o e => (pin' b hb o e).1) fun b hb => ?_
      · rw [← hw8] at e
        exact (wipe_some e).1
      · obtain ⟨o, e, _⟩ := T.obj _ _ st7 b hb
        exact (pin' b hb o e).2
    cases b with
    | false =>
      simp only [Bool.false_eq_true, if_false] at q9 ⊢
      obtain ⟨m', hm, w'⟩ := hNx _ _ q9
      exact seg_again rfl (fin hm (by omega) ex0 I9 w')
    | true =>
      simp only [if_true] at q9 ⊢
      have hy : ∀ v, yieldOut Y.env v = yieldValue v := fun v => by simp only [yieldOut, hco, Bool.false_eq_true, if_false]
      simp only [hy]
      rw [Sem.bind_eq_wrap', Sem.bind_eq_wrap', Sem.wrap_wrap, Sem.wrap_wrap]
      refine seg_wrap ?_
      rw [hA]
      refine thnF (fx (hpe.run _ s9 σ8 H9 _ I9 q9)) fun z s10 ⟨yv, H10, I10, r10, yl, cont⟩ => ?_
      obtain ⟨n, rfl⟩ : ∃ k, n = k + 1 := ⟨n - 1, by omega⟩
      refine seg_at (seg_yield rfl rfl rfl ⟨ys, yv, H10, ps, pinsAt fp s7.heap, σ8, r10, ex0, fun q hq => hfl _ (of_pinsAt hq).1, I10, yl, fun s' ps' e' I' go' => ?_⟩)
      obtain ⟨m', hm, w'⟩ := hNx _ _ (cont go')
      exact seg_again rfl (fin hm (by omega) e' I' w')
theorem gen_begin {Y : Cx} {A : Around} {elt tg iter : Expr} {ifs : List Expr} {scope : Scope} {pos : Pos} {it : Addr} {R : GenEnd} {Yp : Protocol} {n : Nat} {s₀ s : Shared} {cenv : Env}
    (self : ∀ (B : Around) (Q : Value → Shared → Prop) (E : Value → Shared → Prop), Q (.ref it) s → wpAny (model Y.prog Y.w) B (pyIter (.ref it)) Q E s)
    (loop : Seg (model Y.prog Y.w) A R Yp n s₀ (.compLoop (.GeneratorExp elt [⟨tg, iter, ifs, 0⟩] scope pos) 0 (.ref it) .none cenv) ((model Y.prog Y.w).den (.compLoop (.GeneratorExp elt [⟨tg, iter, ifs, 0⟩] scope pos) 0 (.ref it) .none cenv)) [] s) :
    Seg (model Y.prog Y.w) A R Yp n s₀ (.compStart (.GeneratorExp elt [⟨tg, iter, ifs, 0⟩] scope pos) 0 (.ref it) .none cenv) ((model Y.prog Y.w).den (.compStart (.GeneratorExp elt [⟨tg, iter, ifs, 0⟩] scope pos) 0 (.ref it) .none cenv)) [] s := by
  show Seg _ A _ _ _ s₀ _ ((compStart (.GeneratorExp elt [⟨tg, iter, ifs, 0⟩] scope pos) 0 (.ref it) .none cenv).onRaise (leaving cenv)) [] s
  unfold compStart
  rw [Sem.onRaise_eq_wrap]
  show Seg _ A _ _ _ s₀ _ ((ask >>= _).wrap _ _ _ _) [] s
  refine seg_bind_wrap (wpAny_askSetting ?_)
  split
  · exact seg_again rfl loop
  · first
      | exact seg_bind_wrap (wpAny_rule (seg_bind_wrap (wpAny_standAt (seg_bind_wrap (self _ _ _ (seg_again rfl loop))))))
      | (refine seg_bind_wrap (wpAny_rule ?_); show Seg _ A _ _ _ s₀ _ ((standAt iter.pos >>= _).wrap _ _ _ _) [] s; exact seg_bind_wrap (wpAny_standAt (seg_bind_wrap (self _ _ _ (seg_again rfl loop)))))
end
section
def GAt (X Y : Cx) (ga : Addr) (gi : Nat) (go : Obj) (p : GPar) (n : Nat) (s : Shared) : Prop := s.heap.IsGen ga gi ∧ s.heap.NoLimit ∧ ∃ gs, s.gens[gi]? = some gs ∧
  gs.Goes (model X.prog X.w) X.A.in1.in1.in1.in1 (fun n s₀ r s₁ => r = .ok .next ∧ (fun _ _ s => RG Y ga go p s) n s₀ s₁) (YG Y ga go p) n (.send .none) (s.setGen gi .running)
theorem inv_gens {Y : Cx} {pins : List (Addr × Obj)} {σ : L2.St} {H : Hp} {s : Shared} {G : Array GenState} (I : Inv Y pins σ H s) (hG : AllBare G) : Inv Y pins σ H { s with gens := G } :=
  I.call (g' := G) (t' := s.toks) (d' := s.drawn) (ch := []) Un.refl I.hok hG (fun b z => by simp at z)
theorem inv_setGen {Y : Cx} {pins : List (Addr × Obj)} {σ : L2.St} {H : Hp} {s : Shared} {gi : Nat} {x : GenState} (I : Inv Y pins σ H s) (hx : x.bare = true) : Inv Y pins σ H (s.setGen gi x) :=
  inv_gens I (allBare_setGen I.bare hx)
theorem gat_next {X Y : Cx} {ga : Addr} {gi : Nat} {go : Obj} {p : GPar} {n : Nat} {s : Shared} {E : Value → Shared → Prop} (hh : X.A.handled = none) (hroom : X.A.depth < recursionLimit) (hpr : Y.prog = X.prog) (hw : Y.w = X.w)
    (hgo : ∀ h : Heap, h.get? ga = some go → h.IsGen ga gi) (h : GAt X Y ga gi go p n s) :
    wpAny (model X.prog X.w) X.A.in1.in1.in1 (pyNext (.ref ga)) (fun r s' =>
      (∃ v, r = some v ∧ ∃ (ys : List V) (y : V) (H' : Hp) (ps pf : List (Addr × Obj)) (σ' : L2.St), RelV y v ∧ p.ext ys ps ∧ (∀ q ∈ pf, q.1 < Y.env.locals) ∧ Inv Y (((ga, go) :: ps) ++ pf) σ' H' s' ∧ p.yld ys y H' ∧
        ∀ s'' ps', p.ext (ys ++ [y]) ps' → Inv Y (((ga, go) :: ps') ++ pf) σ' H' s'' → s''.gens = s'.gens → p.go ys y H' → ∃ m, n = m + 1 ∧ GAt X Y ga gi go p m s'') ∨
      (r = none ∧ RG Y ga go p s')) E s := by
  obtain ⟨hg, hl, gs, hgs, hgoes⟩ := h
  have hgl : gi < s.gens.size := (Array.getElem?_eq_some_iff.mp hgs).1
  refine wpAny_mono (GenW.wpAny_gsz (n := gi + 1) hgl (wpAny_pyNext_genexpQ (A := X.A.in1.in1.in1) (P := fun _ _ s => RG Y ga go p s) (Q := fun r s' => gi + 1 ≤ s'.gens.size → _) hh hl hroom hg hgs hgoes (fun v s₁ gs' hb hv => ?_) (fun s₁ hp h' hk => ?_))) (fun r s' z => z) (fun _ _ z => z)
  · intro hsz
    obtain ⟨ys, y, H', ps, pf, σ', rv, ex, pl, I, yl, kap⟩ := hv
    refine .inl ⟨v, rfl, ys, y, H', ps, pf, σ', rv, ex, pl, inv_setGen I hb, yl, fun s'' ps' ex' I' eg go' => ?_⟩
    have hsz1 : gi < s₁.gens.size := by
      have q : (s₁.setGen gi gs').gens.size = s₁.gens.size := GenW.setGen_size _ _ _
      have hsz' : gi + 1 ≤ (s₁.setGen gi gs').gens.size := hsz
      omega
    have k := kap (s''.setGen gi .running) ps' ex' (inv_setGen I' rfl) go'
    cases n with
    | zero => exact k.elim
    | succ m =>
      refine ⟨m, rfl, hgo _ (I'.pin (ga, go) (List.mem_append_right _ (List.mem_append_left _ List.mem_cons_self))).1, I'.nolimit, gs', ?_, k⟩
      rw [eg]
      exact setGen_at hsz1
  · intro _
    obtain ⟨ys, H', ps, σ', ex, I, fi⟩ := hp
    refine .inr ⟨rfl, ys, H', ps, σ', ex, ?_, fi⟩
    exact I.call' (s' := { s₁.setGen gi .finished with heap := h' }) (ch := []) rfl (Un.kept hk) (I.hok.kept hk) (allBare_setGen I.bare rfl) (fun b z => by simp at z)
theorem entry_all2 : entryFor table "all" = some Builtin.«all» := PySem.F.entry_all
/-- all(g): the consumer's loop -/
theorem all_loop {X Y : Cx} {ga : Addr} {gi : Nat} {go : Obj} {p : GPar} {R : Result → Shared → Prop} (hh : X.A.handled = none) (hroom : X.A.depth < recursionLimit) (hpr : Y.prog = X.prog) (hw : Y.w = X.w) (hgo : ∀ h : Heap, h.get? ga = some go → h.IsGen ga gi)
    (hext : ∀ ys, p.ext ys []) (hext2 : ∀ ys ps, p.ext ys ps → ps = []) (hy : ∀ ys y H, p.yld ys y H → ∃ b, y = .bl b ∧ (b = true → p.go ys y H))
    (hno : ∀ ys H' pf σ' s', p.yld ys (.bl false) H' → Inv Y ((ga, go) :: pf) σ' H' s' → R (.ok (.ret (.bool false))) s') (hyes : ∀ ys H' σ' s', p.fin ys H' → Inv Y [(ga, go)] σ' H' s' → R (.ok (.ret (.bool true))) s') :
    ∀ (n : Nat) (s : Shared), GAt X Y ga gi go p n s → codeAny (model X.prog X.w) X.A (.builtin "all.loop" ⟨[.ref ga], []⟩) R s := by
  intro n
  induction n with
  | zero =>
    intro s h
    refine codeAny_builtin PySem.F.entry_all_loop ?_
    rw [Around.under_plainId PySem.F.plain_all_loop _]
    show wpAny _ X.A.in1 (pyNext (.ref ga) >>= _) _ _ s
    refine wpAny_bind (wpAny_of_in1 (wpAny_of_in1 (wpAny_mono (gat_next hh hroom hpr hw hgo h) (fun r s' z => ?_) fun _ _ e => e)))
    rcases z with ⟨v, rfl, ys, y, H', ps, pf, σ', rv, ex, _, I, yl, k⟩ | ⟨rfl, ys, H', ps, σ', ex, I, fi⟩
    · obtain ⟨b, rfl, gob⟩ := hy _ _ _ yl
      obtain rfl : v = Value.bool b := rv
      obtain rfl := hext2 _ _ ex
      refine wpAny_bind (wpAny_holding (wpAny_truthy_bool ?_))
      refine wpAny_bind (wpAny_letGo ?_)
      cases b with
      | true =>
        obtain ⟨m, hm, _⟩ := k s' [] (hext _) I rfl (gob rfl)
        exact absurd hm (by omega)
      | false =>
        simp only [Bool.false_eq_true, if_false]
        exact wpAny_bind (wpAny_rule (wpAny_pure (hno _ _ _ _ _ yl I)))
    · obtain rfl := hext2 _ _ ex
      exact wpAny_bind (wpAny_rule (wpAny_pure (hyes _ _ _ _ fi I)))
  | succ n ih =>
    intro s h
    refine codeAny_builtin PySem.F.entry_all_loop ?_
    rw [Around.under_plainId PySem.F.plain_all_loop _]
    show wpAny _ X.A.in1 (pyNext (.ref ga) >>= _) _ _ s
    refine wpAny_bind (wpAny_of_in1 (wpAny_of_in1 (wpAny_mono (gat_next hh hroom hpr hw hgo h) (fun r s' z => ?_) fun _ _ e => e)))
    rcases z with ⟨v, rfl, ys, y, H', ps, pf, σ', rv, ex, _, I, yl, k⟩ | ⟨rfl, ys, H', ps, σ', ex, I, fi⟩
    · obtain ⟨b, rfl, gob⟩ := hy _ _ _ yl
      obtain rfl : v = Value.bool b := rv
      obtain rfl := hext2 _ _ ex
      refine wpAny_bind (wpAny_holding (wpAny_truthy_bool ?_))
      refine wpAny_bind (wpAny_letGo ?_)
      cases b with
      | true =>
        obtain ⟨m, hm, g2⟩ := k s' [] (hext _) I rfl (gob rfl)
        obtain rfl : m = n := by omega
        simp only [if_true]
        exact wpAny_pure ⟨plainId_quiet PySem.F.plain_all_loop _, ih _ g2⟩
      | false =>
        simp only [Bool.false_eq_true, if_false]
        exact wpAny_bind (wpAny_rule (wpAny_pure (hno _ _ _ _ _ yl I)))
    · obtain rfl := hext2 _ _ ex
      exact wpAny_bind (wpAny_rule (wpAny_pure (hyes _ _ _ _ fi I)))
end
section
variable {X : Cx} {pins : List (Addr × Obj)} {σ : L2.St} {H : Hp} {s : Shared}
theorem gen_mk {c P : Addr} {elt tg iter : Expr} {ifs : List Expr} {scope : Scope} {own : List (Str × Nat)} {gpos : Pos} {wi : TI} {g : TG} {tt : TT} {te : TE} {k : Nat} {R : It → Hp → Prop} {Q' : Value → Shared → Prop}
    (hr : Room (k + 1) X.A) (hc : X.calm = true) (hN : X.N.Nodup) (TB : GxR.TabB X.base X.mg c P) (hcode : X.env.code = .ref c) (ok : GenOk X.N X.env.scope scope own) (hi : PI X tg iter wi)
    (hg : ∀ (s : Shared) (H : Hp) (C : Addr) (code : Value) (fp : List Addr), Room k (Cx.gblk X s H scope C code fp).A → PG (Cx.gblk X s H scope C code fp) tg g)
    (ht : ∀ (s : Shared) (H : Hp) (C : Addr) (code : Value) (fp : List Addr), Room k (Cx.gblk X s H scope C code fp).A → PTs (Cx.gblk X s H scope C code fp) ifs tt)
    (he : ∀ (s : Shared) (H : Hp) (C : Addr) (code : Value) (fp : List Addr), Room k (Cx.gblk X s H scope C code fp).A → PE (Cx.gblk X s H scope C code fp) elt te)
    (hs : ∀ x, genFold iter X.env x = pure x) (I : Inv X pins σ H s) (h : wi σ H fun J H1 => GxR.TabG H1 P ∧ R J H1)
    (fin : ∀ (J : It) (H1 H4 : Hp) (Y : Cx) (s5 : Shared) (pf : List (Addr × Obj)) (ga : Addr) (gi : Nat) (go : Obj), R J H1 → GxR.Tabbed P H1 H4 → Y.prog = X.prog → Y.w = X.w → (∀ h : Heap, h.get? ga = some go → h.IsGen ga gi) → s5.heap.objs.size = ga + 1 → Y.s_0.heap.objs.size ≤ Y.env.locals → Y.pn = [] →
      Inv Y ([(ga, go)] ++ pf) (wipe σ (own.map (·.2))) H4 s5 → (∀ {pins' σ' H' s'}, Inv Y pins' σ' H' s' → Inv X pins σ H' s') →
      (∀ (p : GPar) (W : List V → Nat → Nat → Hp → Prop) (m : Nat), (∀ ys ps, p.ext ys ps → ∀ q ∈ ps, s5.heap.objs.size ≤ q.1) →
        (∀ ys i m H, W ys i m H → (J.stop i H ∧ p.fin ys H) ∨ (J.go i H ∧ ∃ Nx : List V → Hp → Prop, (∀ ys' H', Nx ys' H' → ∃ m', m' < m ∧ W ys' (i + 1) m' H') ∧ ∀ x H', J.yld i H x H' → g x (wipe σ (own.map (·.2))) H' fun σ2 H2 => wipe σ2 (own.map (·.2)) = wipe σ (own.map (·.2)) ∧ tt σ2 H2 fun b H3 =>
          if b = true then te σ2 H3 fun y H4 => p.yld ys y H4 ∧ (p.go ys y H4 → Nx (ys ++ [y]) H4) else Nx ys H3)) →
        W [] 0 m H4 → ∀ s' ps, p.ext [] ps → Inv Y (((ga, go) :: ps) ++ pf) (wipe σ (own.map (·.2))) H4 s' → s'.gens = s5.gens → GAt X Y ga gi go p (m + 1) s') →
      Q' (.ref ga) s5) :
    wpAny (model X.prog X.w) X.A (eval (.GeneratorExp elt [⟨tg, iter, ifs, 0⟩] scope gpos) X.env) Q' X.xe s := by
  have hfree : ∀ y ∈ scope.names, y.2 = .free → ∃ c, X.env.cells.lookup y.1 = some c := fun y hy e => by
    rcases ok.blk.free y hy e with k | k
    · exact I.ok.has _ (.inl k)
    · exact I.ok.has _ (.inr k)
  refine wpAny_GeneratorExp_make ok.co (closure_ok hfree) ok.cel ok.dot ok.blk.kind (by have := hr.dp; omega) (thn (hi.run pins s σ H _ I h) fun xv s1 hx => thn hx fun itv s2 h2 => ?_) hs
  obtain ⟨it, fp, tn, J, H2, rfl, I2, T, st2, f2, ⟨ps, hP, trip⟩, r⟩ := h2
  refine ⟨I2.nolimit, ?_⟩
  have hPs : s2.heap.get? P = some { cls := .none, data := .fields ps } := I2.hok P _ hP
  have cd : PySem.W.CodeHd s2.heap c P := TB.code.keeps fun b u e => I2.bk b u e
  have nfP : ∀ b ∈ fp, b ≠ P := fun b hb z => by
    have := (f2 b hb).1
    rw [z, hP] at this
    cases this
  have go2 : ∀ (code : Value) (h3 : Heap) (tk : Nat) (more : Array Value), Heap.ExtBut P s2.heap h3 → h3.get? P = some { cls := .none, data := .fields (ps ++ more) } → TriplesOk (ps ++ more).toList →
      wpAny (model X.prog X.w) X.A (builtinsFor X.env.globals X.env.builtins) (fun bi s₄ => ∀ h', h'.Ns s₄.heap.objs.size (fun y => if y = ".0" then some (.ref it) else none) → Heap.SameBut s₄.heap.objs.size (s₄.heap.push { cls := .type "frame", data := .dict #[] }) h' →
          Q' (.ref h'.objs.size) { s₄ with
            gens := s₄.gens.push (.fresh (.compStart (.GeneratorExp elt [⟨tg, iter, ifs, 0⟩] scope gpos) 0 (.ref it) .none (genEnv scope (cloFrom X.env.cells scope.names []) s₄.heap.objs.size code bi X.env))),
            toks := s₄.toks + 1 + 1 + 1,
            heap := h'.push { cls := .type "generator", data := .fields #[.int s₄.gens.size 0, .str "<genexpr>" (s₄.toks + 1), .str (X.env.qual ++ "<genexpr>") (s₄.toks + 1 + 1)] } }) X.xe { s2 with heap := h3, toks := tk } := by
    intro code h3 tk more hx hP3 trip3
    obtain ⟨bm, ob, e1, e2, e3, e4, e5, e6, e7, e8⟩ := TB.bm
    have I4 : Inv X pins σ (upd H2 P (.tbl (ps ++ more))) { s2 with heap := h3, toks := tk } := GxR.inv_tab (g' := s2.gens) (d' := s2.drawn) (t' := tk) I2 hP (fun b u hb e => hx b u hb e) hP3 I2.bare
    have tb4 : GxR.Tabbed P H2 (upd H2 P (.tbl (ps ++ more))) := ⟨⟨_, upd_same, trip3⟩, fun b hb => upd_ne hb⟩
    refine wpAny_builtinsFor (m := X.mg) (by rw [I2.ok.glob]; exact (I2.mod.glob.keeps I2.bk).extBut hx TB.gP) e1 e2 (hx _ _ e4 (I2.bk _ _ e5)) e6 e7 e8 ?_
    intro h' hn' hs'
    have f4 : ∀ b ∈ fp, FpOk X pins (upd H2 P (.tbl (ps ++ more))) b ∧ b < h3.objs.size := fun b hb => by
      obtain ⟨o, e, _⟩ := T.obj _ _ st2 b hb
      exact ⟨⟨(upd_ne (nfP b hb)).trans (f2 b hb).1, (f2 b hb).2⟩, Heap.lt_size (hx b o (nfP b hb) e)⟩
    have st4 : tn 0 h3 := T.keep _ _ _ st2 fun b hb o e => hx b o (nfP b hb) e
    generalize upd H2 P (.tbl (ps ++ more)) = H4 at I4 tb4 f4
    have szh : h'.objs.size = h3.objs.size + 1 := by rw [hs'.1]; exact Heap.size_push ..
    have main : ∀ (go : Obj) (G : Array GenState) (tk5 gi : Nat), (∀ h : Heap, h.get? h'.objs.size = some go → h.IsGen h'.objs.size gi) → (h'.push go).get? h'.objs.size = some go → (∀ v, go.data ≠ .cell v) → AllBare G →
        G[gi]? = some (.fresh (.compStart (.GeneratorExp elt [⟨tg, iter, ifs, 0⟩] scope gpos) 0 (.ref it) .none (genEnv scope (cloFrom X.env.cells scope.names []) h3.objs.size code builtinsNs X.env))) →
        Q' (.ref h'.objs.size) { s2 with gens := G, toks := tk5, heap := h'.push go } := by
      intro go G tk5 gi hgo hgo1 hgd hG hgi
      have Is := gen_start (s := { s2 with heap := h3, toks := tk }) (code := code) (tk := tk5) I4 ok hN f4 hn' hs' hG hgo1 hgd
      have hY := hg { s2 with heap := h3, toks := tk } H4 h3.objs.size code fp (Room.gen hr _)
      have tY := ht { s2 with heap := h3, toks := tk } H4 h3.objs.size code fp (Room.gen hr _)
      have eY := he { s2 with heap := h3, toks := tk } H4 h3.objs.size code fp (Room.gen hr _)
      have kp5 : ∀ b o, h3.get? b = some o → (h'.push go).get? b = some o := fun b o e => Heap.get?_push_of_some _ (hs'.extBut b o (Nat.ne_of_lt (Heap.lt_size e)) (Heap.get?_push_of_some _ e))
      have st5 : tn 0 (h'.push go) := T.keep _ _ _ st4 fun b hb o e => kp5 b o e
      have sz5 : (h'.push go).objs.size = h'.objs.size + 1 := Heap.size_push ..
      have gab : ∀ b ∈ fp, h'.objs.size ≠ b := fun b hb z => by
        have l := (f4 b hb).2
        have z : h'.objs.size = b := z
        have l2 : h3.objs.size < h'.objs.size := by rw [szh]; exact Nat.lt_succ_self _
        rw [z] at l2
        exact Nat.lt_irrefl _ (Nat.lt_trans l l2)
      have stat : ∀ b ∈ fp, FpOk (Cx.gblk X { s2 with heap := h3, toks := tk } H4 scope h3.objs.size code fp) [(h'.objs.size, go)] H4 b := fun b hb =>
        ⟨(f4 b hb).1.1, (Is.ok.exf b hb).1, Is.ok.exfs b hb, .inl hb, fun x c e => (Is.ok.exf b hb).2 x c e, fun q hq => by
          have hq : q = (h'.objs.size, go) := by simpa using hq
          rw [hq]
          exact gab b hb⟩
      have Ip := Is.pinned stat (T.obj _ _ st5)
      refine fin J H2 H4 (Cx.gblk X { s2 with heap := h3, toks := tk } H4 scope h3.objs.size code fp) _ (pinsAt fp (h'.push go)) h'.objs.size gi go r tb4 rfl rfl hgo sz5 (Nat.le_refl _) rfl Ip (fun {pins' σ' H' s'} I' => ?_) fun p W m hext step w0 s' ps' ex' I' eg => ?_
      · exact I4.call' (ch := fp) I'.os I'.base I'.hok I'.bare fun b hb => ⟨(f4 b hb).1.2.2.2.1, (f4 b hb).1.2.1, (f4 b hb).1.2.2.2.2.1, (f4 b hb).1.2.2.2.2.2⟩
      · have I2' : Inv (Cx.gblk X { s2 with heap := h3, toks := tk } H4 scope h3.objs.size code fp) ((h'.objs.size, go) :: ps') (wipe σ (own.map (·.2))) H4 s' := I'.pins_of fun q hq => I'.pin q (List.mem_append_right _ (List.mem_append_left _ hq))
        have pin' : ∀ b ∈ fp, ∀ o, (h'.push go).get? b = some o → s'.heap.get? b = some o := fun b hb o e => (I'.pin (b, o) (List.mem_append_right _ (List.mem_append_right _ (mem_pinsAt hb e)))).1
        have stn : tn 0 s'.heap := T.keep _ _ _ st5 fun b hb o e => pin' b hb o e
        have eg : s'.gens = G := eg
        rw [← eg] at hgi
        refine ⟨hgo _ (I'.pin (h'.objs.size, go) (List.mem_append_right _ (List.mem_append_left _ List.mem_cons_self))).1, I'.nolimit, _, hgi, rfl, ?_⟩
        refine gen_begin (Y := X) (fun B Q E q => T.self B 0 _ _ _ stn q) ?_
        exact gen_loop (Y := Cx.gblk X { s2 with heap := h3, toks := tk } H4 scope h3.objs.size code fp) (A := X.A.in1.in1.in1.in1) (σ := σ) (vs := own.map (·.2)) hc rfl T hY tY eY rfl over_gen (fun b hb => hb) gab
          (fun ys ps e q hq b hb z => by
            have l1 : (h'.push go).objs.size ≤ q.1 := hext ys ps e q hq
            have l2 := (f4 b hb).2
            rw [sz5, szh, z] at l1
            exact Nat.lt_irrefl _ (Nat.lt_of_lt_of_le l2 (Nat.le_of_succ_le (Nat.le_of_succ_le l1)))) ok.co (fun b hb => (f4 b hb).2) step m (m + 1) 0 [] H4 ps' _ _ (Nat.lt_succ_self m) w0 ex' (inv_setGen I2' rfl) stn fun b hb => (f4 b hb).1.1
    exact main _ _ _ _ (fun h e => ⟨_, _, _, e, rfl, rfl, rfl⟩) (Heap.get?_push_size _ rfl) (fun v z => by cases z) (AllBare.push I2.bare rfl) (Array.getElem?_push_size ..)
  cases hf : codeAmong gpos ps.toList with
  | none =>
    refine wpAny_genexprCodeX hcode (cd.code hPs trip) (cd.tab hPs) hf fun c' h' tk hx hge hlt hco' _ htab' _ => ?_
    obtain ⟨o1, vs, f1, tf, fl, tg, inF, tx, tt, op, _, _, _, _, _, _, _, _, _, htr, _⟩ := hco'
    exact go2 _ h' tk _ hx htab'.2 htr
  | some cv =>
    refine wpAny_genexprCode_hit hcode (cd.code hPs trip) hf ?_
    exact go2 cv s2.heap s2.toks #[] (Heap.ExtBut.refl _ _) (by rw [Array.append_empty]; exact hPs) (by rw [Array.append_empty]; exact trip)
/-- all(elt for tg in iter if ..) -/
def tAllE (P : Addr) (wi : TI) (g : TG) (tt : TT) (te : TE) (vs : List Nat) : TE := fun σ H Q => wi σ H fun J H1 => GxR.TabG H1 P ∧ ∀ H2, GxR.Tabbed P H1 H2 → ∃ W : Nat → Nat → Hp → Prop, (∃ m, W 0 m H2) ∧ ∀ i m H, W i m H →
  (J.stop i H ∧ Q (.bl true) H) ∨ (J.go i H ∧ ∃ Nx : Hp → Prop, (∀ H', Nx H' → ∃ m', m' < m ∧ W (i + 1) m' H') ∧ ∀ x H', J.yld i H x H' → g x (wipe σ vs) H' fun σ2 H3 => wipe σ2 vs = wipe σ vs ∧ tt σ2 H3 fun b H4 =>
    if b = true then te σ2 H4 fun y H5 => (∃ c : Bool, y = .bl c ∧ (c = false → Q (.bl false) H5)) ∧ (y = .bl true → Nx H5) else Nx H4)
theorem pe_allE {c P : Addr} {elt tg iter : Expr} {ifs : List Expr} {scope : Scope} {own : List (Str × Nat)} {p pos gpos : Pos} {wi : TI} {g : TG} {tt : TT} {te : TE} {k : Nat}
    (hr : Room (k + 1) X.A) (hgl : Gl X "all") (hm : X.mg "all" = none) (hb : bootBuiltins "all" = some (.builtin "all")) (hc : X.calm = true) (hN : X.N.Nodup) (TB : GxR.TabB X.base X.mg c P) (hcode : X.env.code = .ref c) (ok : GenOk X.N X.env.scope scope own) (hi : PI X tg iter wi)
    (hg : ∀ (s : Shared) (H : Hp) (C : Addr) (code : Value) (fp : List Addr), Room k (Cx.gblk X s H scope C code fp).A → PG (Cx.gblk X s H scope C code fp) tg g)
    (ht : ∀ (s : Shared) (H : Hp) (C : Addr) (code : Value) (fp : List Addr), Room k (Cx.gblk X s H scope C code fp).A → PTs (Cx.gblk X s H scope C code fp) ifs tt)
    (he : ∀ (s : Shared) (H : Hp) (C : Addr) (code : Value) (fp : List Addr), Room k (Cx.gblk X s H scope C code fp).A → PE (Cx.gblk X s H scope C code fp) elt te)
    (hs : ∀ x, genFold iter X.env x = pure x := by intro _; rfl)
    (hst : starEach [.GeneratorExp elt [⟨tg, iter, ifs, 0⟩] scope gpos] X.env = (false, eval (.GeneratorExp elt [⟨tg, iter, ifs, 0⟩] scope gpos) X.env) :: starEach [] X.env := by rfl) :
    PE X (.Call (.Name "all" p) [.GeneratorExp elt [⟨tg, iter, ifs, 0⟩] scope gpos] [] pos) (tAllE P wi g tt te (own.map (·.2))) := by
  constructor
  intro pins s σ H Q I h
  refine wpAny_Call_Name_kw (ld_blt I hgl hm hb (PyProof.Rows.callWith_builtin1 ?_ hst (by rfl)))
  rw [hst]
  show wpAny _ _ (spliced ((false, eval (.GeneratorExp elt [⟨tg, iter, ifs, 0⟩] scope gpos) X.env) :: backTo pos (starEach [] X.env))) _ _ s
  refine Calls.spliced_cons (gen_mk hr hc hN TB hcode ok hi hg ht he hs I h fun J H1 H4 Y s5 pf ga gi go r tb hpr hw hgo sz sl hpn I5 back goes => ?_)
  refine Calls.spliced_nil ?_
  obtain ⟨W, ⟨m, w0⟩, step⟩ := r H4 tb
  have hgen : s5.heap.IsGen ga gi := hgo _ (I5.pin (ga, go) (List.mem_append_right _ (List.mem_append_left _ List.mem_cons_self))).1
  have g0 := goes ⟨fun _ ps => ps = [], fun _ y H' => ∃ b : Bool, y = .bl b ∧ (b = false → Q (.bl false) H'), fun _ y _ => y = .bl true, fun _ H' => Q (.bl true) H'⟩ (fun _ i m H => W i m H) m (fun ys ps e q hq => by
      have e : ps = [] := e
      rw [e] at hq
      cases hq) (fun ys i m H w => (step i m H w).imp id fun ⟨a, Nx, hNx, b⟩ => ⟨a, fun _ H => Nx H, fun _ H' z => hNx H' z, fun x H' y => b x H' y⟩) w0 s5 [] rfl I5 rfl
  refine call_function_tree PySem.F.kind_all PySem.F.plain_all PySem.F.entry_all (PySem.F.args_all1 _) ?_
  unfold Builtin.«all»
  refine wpAny_bind (m := oneArg "all" _) (wpAny_pure ?_)
  refine wpAny_bind (wpAny_pyIter_gen hgen ?_)
  refine wpAny_pure ⟨plainId_quiet PySem.F.plain_all_loop _, all_loop (X := X) hr.hd (by have := hr.dp; omega) hpr hw hgo (fun _ => rfl) (fun _ _ e => e) (fun ys y H' (z : ∃ b : Bool, y = .bl b ∧ (b = false → Q (.bl false) H')) => ?_) (fun ys H' pf' σ' s' (z : ∃ b : Bool, V.bl false = .bl b ∧ (b = false → Q (.bl false) H')) I' => ?_) (fun ys H' σ' s' q I' => ?_) (m + 1) s5 g0⟩
  · obtain ⟨b, e, q⟩ := z
    exact ⟨b, e, fun z => by rw [e, z]⟩
  · obtain ⟨b, e, q⟩ := z
    cases e
    exact ⟨.bl false, H', back I', rfl, q rfl⟩
  · exact ⟨.bl true, H', back I', rfl, q⟩
end
/-- .. over what is walked as a Walk says -/
theorem ga_it {J : It} {n : Nat} {G : Hp → Prop} {Y : Nat → Hp → V → Hp → Prop} (w : Walk J n G Y) {g : TG} {tt : TT} {te : TE} {vs : List Nat} {σ : L2.St} {H2 : Hp} {Q : VK} (Pv : Nat → Hp → Prop) (h0 : Pv 0 H2) (hG : ∀ i H, i ≤ n → Pv i H → G H)
    (hs : ∀ i x H H', i < n → Pv i H → Y i H x H' → g x (wipe σ vs) H' fun σ2 H3 => wipe σ2 vs = wipe σ vs ∧ tt σ2 H3 fun b H4 => if b = true then te σ2 H4 fun y H5 => (∃ c : Bool, y = .bl c ∧ (c = false → Q (.bl false) H5)) ∧ (y = .bl true → Pv (i + 1) H5) else Pv (i + 1) H4) (hd : ∀ H, Pv n H → Q (.bl true) H) :
    ∃ W : Nat → Nat → Hp → Prop, (∃ m, W 0 m H2) ∧ ∀ i m H, W i m H →
      (J.stop i H ∧ Q (.bl true) H) ∨ (J.go i H ∧ ∃ Nx : Hp → Prop, (∀ H', Nx H' → ∃ m', m' < m ∧ W (i + 1) m' H') ∧ ∀ x H', J.yld i H x H' → g x (wipe σ vs) H' fun σ2 H3 => wipe σ2 vs = wipe σ vs ∧ tt σ2 H3 fun b H4 =>
        if b = true then te σ2 H4 fun y H5 => (∃ c : Bool, y = .bl c ∧ (c = false → Q (.bl false) H5)) ∧ (y = .bl true → Nx H5) else Nx H4) := by
  refine ⟨fun i m H => m = n - i ∧ i ≤ n ∧ Pv i H, ⟨n, by simp, Nat.zero_le _, h0⟩, ?_⟩
  rintro i m H ⟨rfl, hi, p⟩
  have q := hG i H hi p
  by_cases hlt : i < n
  · refine .inr ⟨w.goes i H hlt q, Pv (i + 1), fun H' p' => ⟨n - (i + 1), by omega, rfl, hlt, p'⟩, fun x H' y => hs i x H H' hlt p (w.yields i H x H' hlt q y)⟩
  · have e : i = n := by omega
    subst e
    exact .inl ⟨w.stops H q, hd H p⟩
section
/-- what stands beside a list that is filled from the generator -/
structure Beside (Y : Cx) (S : Addr) : Prop where
  s0 : Y.s_0.heap.objs.size ≤ S
  lt : Y.env.locals < S
  cell : ∀ x c, Y.env.cells.lookup x = some c → c ≠ S
  fs : S ∉ Y.fs
  pn : Y.pn = []
def LExt (S : Addr) : List V → List (Addr × Obj) → Prop := fun ys ps => ∃ acc c, ps = [(S, lstObj acc c)] ∧ Vals ys acc.toList ∧ ys.length ≤ sizeLine
theorem inv_list {Y : Cx} {S ga : Addr} {go : Obj} {acc : Array Value} {c : Nat} {pf : List (Addr × Obj)} {σ : L2.St} {H : Hp} {s : Shared} {v : Value} (B : Beside Y S) (hga : ga ≠ S) (hpf : ∀ q ∈ pf, q.1 < Y.env.locals) (I : Inv Y (((ga, go) :: [(S, lstObj acc c)]) ++ pf) σ H s) :
    s.heap.get? S = some (lstObj acc c) ∧ ∃ c', Inv Y (((ga, go) :: [(S, lstObj (acc.push v) c')]) ++ pf) σ H { s with heap := s.heap.update S (Obj.mapSeq (·.push v)) } := by
  obtain ⟨eS, nS, nL, nf, _⟩ := I.pin (S, lstObj acc c) (List.mem_append_right _ (List.mem_append_left _ (List.mem_cons_of_mem _ List.mem_cons_self)))
  refine ⟨eS, ?_⟩
  have I0 : Inv Y ((ga, go) :: pf) σ H s := I.pins_of fun q hq => I.pin q (List.mem_append_right _ (by
    rcases List.mem_cons.mp hq with z | z
    · rw [z]; exact List.mem_append_left _ List.mem_cons_self
    · exact List.mem_append_right _ z))
  have kp : ∀ b o, b ≠ S → s.heap.get? b = some o → (s.heap.update S (Obj.mapSeq (·.push v))).get? b = some o := fun b o hb e => (Heap.get?_update_other _ _ (Ne.symm hb)).trans e
  have I1 := I0.turned (t' := s.toks) (it := S) kp nS nL (.inr B.s0) B.cell (fun q hq z => by
    rw [B.pn, List.nil_append] at hq
    rcases List.mem_cons.mp hq with z2 | z2
    · rw [z2] at z; exact hga z
    · exact Nat.lt_irrefl _ (Nat.lt_trans (z ▸ hpf q z2) B.lt))
  have e2 : ∃ c', (s.heap.update S (Obj.mapSeq (·.push v))).get? S = some (lstObj (acc.push v) c') := ⟨_, Heap.get?_update_self _ eS rfl⟩
  obtain ⟨c', e2⟩ := e2
  refine ⟨c', I1.pins_of fun q hq => ?_⟩
  rcases List.mem_append.mp hq with z | z
  · rcases List.mem_cons.mp z with z | z
    · rw [z]
      exact I1.pin (ga, go) (List.mem_append_right _ List.mem_cons_self)
    · have z : q = (S, lstObj (acc.push v) c') := by simpa using z
      rw [z]
      exact ⟨e2, nS, nL, nf, fun v q => by cases q⟩
  · exact I1.pin q (List.mem_append_right _ (List.mem_cons_of_mem _ z))
theorem ext_loopG {X Y : Cx} {ga S : Addr} {gi : Nat} {go : Obj} {p : GPar} {res : Value} {R : Result → Shared → Prop} (hh : X.A.handled = none) (hroom : X.A.depth < recursionLimit) (hpr : Y.prog = X.prog) (hw : Y.w = X.w) (hgo : ∀ h : Heap, h.get? ga = some go → h.IsGen ga gi)
    (B : Beside Y S) (hga : ga ≠ S) (hext : p.ext = LExt S) (hy : ∀ ys y H, p.yld ys y H → ys.length < sizeLine ∧ p.go ys y H)
    (hend : ∀ ys H' acc c σ' s', p.fin ys H' → Vals ys acc.toList → ys.length ≤ sizeLine → s'.heap.get? S = some (lstObj acc c) → (∃ ps, Inv Y ps σ' H' s') → R (.ok (.ret res)) s') :
    ∀ (n : Nat) (s : Shared), GAt X Y ga gi go p n s → codeAny (model X.prog X.w) X.A.in1.in1 (.builtin "list.extend.loop" ⟨[.ref S, .ref ga, res], []⟩) R s := by
  have main : ∀ (n : Nat) (s : Shared) (ih : ∀ m s', n = m + 1 → GAt X Y ga gi go p m s' → codeAny (model X.prog X.w) X.A.in1.in1 (.builtin "list.extend.loop" ⟨[.ref S, .ref ga, res], []⟩) R s'), GAt X Y ga gi go p n s → codeAny (model X.prog X.w) X.A.in1.in1 (.builtin "list.extend.loop" ⟨[.ref S, .ref ga, res], []⟩) R s := by
    intro n s ih h
    refine codeAny_builtin PySem.F.entry_extend_loop ?_
    rw [Around.under_plainId PySem.F.plain_extend_loop _]
    show wpAny _ X.A.in1.in1.in1 (pyNext (.ref ga) >>= _) _ _ s
    refine wpAny_bind (wpAny_mono (gat_next hh hroom hpr hw hgo h) (fun r s' z => ?_) fun _ _ e => e)
    rcases z with ⟨v, rfl, ys, y, H', ps, pf, σ', rv, ex, pl, I, yl, k⟩ | ⟨rfl, ys, H', ps, σ', ex, I, fi⟩
    · have ex2 := ex
      rw [hext] at ex2
      obtain ⟨acc, c, rfl, vs, hl⟩ := ex2
      obtain ⟨lt, gy⟩ := hy _ _ _ yl
      obtain ⟨eS, c', I2⟩ := inv_list (v := v) B hga pl I
      have la : acc.size = ys.length := by
        have := vs.length
        rw [Array.length_toList] at this
        exact this.symm
      obtain ⟨m, hm, g2⟩ := k _ _ (by
        rw [hext]
        exact ⟨acc.push v, c', rfl, by rw [Array.toList_push]; exact vs.append (.cons rv .nil), by rw [List.length_append]; exact lt⟩) I2 rfl gy
      show wpAny _ X.A.in1.in1.in1 (updateSeq S (·.push v) >>= _) _ _ _
      refine wpAny_bind ?_
      exact wpAny_updateSeq eS rfl (wpAny_pure ⟨plainId_quiet PySem.F.plain_extend_loop _, ih m _ hm g2⟩) (by show acc.size ≤ sizeLine; rw [la]; exact hl) (by show (acc.push v).size ≤ sizeLine + 1; rw [Array.size_push, la]; omega)
    · have ex2 := ex
      rw [hext] at ex2
      obtain ⟨acc, c, rfl, vs, hl⟩ := ex2
      exact wpAny_pure (hend ys H' acc c σ' s' fi vs hl (I.pin (S, lstObj acc c) (List.mem_append_right _ (List.mem_cons_of_mem _ List.mem_cons_self))).1 ⟨_, I⟩)
  intro n
  induction n with
  | zero => exact fun s h => main 0 s (fun m s' z => absurd z (by omega)) h
  | succ n ih => exact fun s h => main (n + 1) s (fun m s' z g => ih s' (by have e : m = n := (by omega); rw [← e]; exact g)) h
theorem collect_g {X Y : Cx} {ga : Addr} {gi : Nat} {go : Obj} {pf : List (Addr × Obj)} {σ : L2.St} {H : Hp} {s : Shared} {Q : List Value → Shared → Prop} {E : Value → Shared → Prop} (sl : Y.s_0.heap.objs.size ≤ Y.env.locals) (hpn : Y.pn = []) (hpr : Y.prog = X.prog) (hw : Y.w = X.w)
    (hgo : ∀ h : Heap, h.get? ga = some go → h.IsGen ga gi) (I : Inv Y ([(ga, go)] ++ pf) σ H s)
    (loop : ∀ (S : Addr) (c : Nat) (s' : Shared) (R : Result → Shared → Prop), s.heap.objs.size = S → Beside Y S → ga ≠ S → Inv Y (((ga, go) :: [(S, lstObj #[] c)]) ++ pf) σ H s' → s'.gens = s.gens →
      (∀ acc c s'', s''.heap.get? S = some (lstObj acc c) → Q acc.toList s'' → R (.ok (.ret (.ref S))) s'') → codeAny (model X.prog X.w) X.A.in1.in1 (.builtin "list.extend.loop" ⟨[.ref S, .ref ga, .ref S], []⟩) R s') :
    wpAny (model X.prog X.w) X.A.in1.in1 (collect (.ref ga)) Q E s := by
  have pin0 := I.pin (ga, go) (List.mem_append_right _ (List.mem_append_left _ List.mem_cons_self))
  have hT : ∀ h : Heap, h.get? ga = some go → ({ s with heap := h } : Shared).TypeIs (.ref ga) "generator" := fun h e => (hgo h e).typeIs
  have ltg : ga < s.heap.objs.size := Heap.lt_size pin0.1
  have hSI : s.heap.objs.size ≠ ga := Nat.ne_of_gt ltg
  have kp1 : ∀ b o, s.heap.get? b = some o → (s.heap.push { cls := .type "list", data := .seq ([] : List Value).toArray }).get? b = some o := fun b o e => Heap.get?_push_of_some _ e
  unfold collect
  refine wpAny_bind (wpAny_runValue (codeAny_builtin PySem.F.entry_proto_collect ?_))
  rw [Around.under_plainId PySem.F.plain_proto_collect _]
  show wpAny _ X.A.in1.in1.in1 (newList [] >>= fun l => again (.builtin "list.__iadd__" ⟨[l, .ref ga], []⟩)) _ _ s
  refine wpAny_bind (wpAny_newObj_type ?_)
  refine wpAny_pure ⟨plainId_quiet PySem.F.plain_list_iadd _, codeAny_builtin PySem.F.entry_list_iadd ?_⟩
  rw [Around.under_plainId PySem.F.plain_list_iadd _]
  have hT1 := hT _ (kp1 _ _ pin0.1)
  have hg1 := hgo _ (kp1 _ _ pin0.1)
  show wpAny _ X.A.in1.in1.in1 (Builtin.List.listExtendWith (.ref s.heap.objs.size) (.ref ga) (.ref s.heap.objs.size)) _ _ _
  unfold Builtin.List.listExtendWith
  refine wpAny_bind (wpAny_typeOf hT1 ?_)
  have h1 : Builtin.List.listSameRef (.ref s.heap.objs.size) (.ref ga) = false := by simp [Builtin.List.listSameRef, hSI]
  have h2 : (Value.type "generator" == Value.type "list") = false := by decide
  have h3 : (Value.type "generator" == Value.type "tuple") = false := by decide
  simp only [h1, h2, h3, Bool.or_false, Bool.false_eq_true, if_false]
  refine wpAny_bind (wpAny_pyIter_gen hg1 ?_)
  refine wpAny_bind (wpAny_holding ?_)
  unfold Builtin.List.listLengthHint
  refine wpAny_bind (wpAny_specialOf hT1 PySem.F.gen_no_len ?_)
  show wpAny _ X.A.in1.in1.in1 (specialOf (Value.ref ga) (Str.ofString "__length_hint__") >>= _) _ _ _
  refine wpAny_bind (wpAny_specialOf hT1 PySem.F.gen_no_hint ?_)
  refine wpAny_pure ?_
  show wpAny _ X.A.in1.in1.in1 (rule "list.extend.makes-room" >>= fun _ => Builtin.List.listTouch (.ref s.heap.objs.size) >>= fun _ =>
    again (.builtin "list.extend.loop" ⟨[.ref s.heap.objs.size, .ref ga, .ref s.heap.objs.size], []⟩)) _ _ _
  refine wpAny_bind (wpAny_rule ?_)
  have hS₁ : (s.heap.push { cls := .type "list", data := .seq ([] : List Value).toArray }).get? s.heap.objs.size = some { cls := .type "list", data := .seq ([] : List Value).toArray } := Heap.get?_push_size _ rfl
  refine wpAny_bind ?_
  show wpAny _ X.A.in1.in1.in1 (updateSeq s.heap.objs.size (·.push .none) >>= fun _ => updateSeq s.heap.objs.size (·.pop)) _ _ _
  refine wpAny_bind (wpAny_updateSeq hS₁ rfl ?_)
  have hS₂ := Heap.get?_update_self (Obj.mapSeq (·.push Value.none)) hS₁ rfl
  refine wpAny_updateSeq hS₂ rfl ?_
  have hS₃ := Heap.get?_update_self (Obj.mapSeq (·.pop)) hS₂ rfl
  have oth : ∀ b o, s.heap.get? b = some o →
      (((s.heap.push { cls := .type "list", data := .seq ([] : List Value).toArray }).update s.heap.objs.size (Obj.mapSeq (·.push Value.none))).update s.heap.objs.size (Obj.mapSeq (·.pop))).get? b = some o :=
    fun b o e => (Heap.get?_update_other _ _ (Nat.ne_of_gt (Heap.lt_size e))).trans ((Heap.get?_update_other _ _ (Nat.ne_of_gt (Heap.lt_size e))).trans (kp1 b o e))
  have fs := I.nofs (Nat.le_refl s.heap.objs.size)
  have I2 := I.kept (t' := s.toks) oth
  have B : Beside Y s.heap.objs.size := ⟨Nat.le_trans sl (Nat.le_of_lt I.lt), I.lt, fun x c e z => by
    obtain ⟨v, q⟩ := I.cell x c e
    exact Nat.ne_of_lt q.lt z, fs, hpn⟩
  have hc : ∃ c, (((s.heap.push { cls := .type "list", data := .seq ([] : List Value).toArray }).update s.heap.objs.size (Obj.mapSeq (·.push Value.none))).update s.heap.objs.size (Obj.mapSeq (·.pop))).get? s.heap.objs.size = some (lstObj #[] c) := ⟨_, hS₃⟩
  obtain ⟨c, hc⟩ := hc
  refine wpAny_pure ⟨plainId_quiet PySem.F.plain_extend_loop _, loop _ c _ _ rfl B (Ne.symm hSI) (I2.pins_of fun q hq => ?_) rfl fun acc c' s'' e q => ?_⟩
  · rcases List.mem_append.mp hq with z | z
    · rcases List.mem_cons.mp z with z | z
      · rw [z]
        exact I2.pin (ga, go) (List.mem_append_right _ (List.mem_append_left _ List.mem_cons_self))
      · have z : q = (s.heap.objs.size, lstObj #[] c) := by simpa using z
        rw [z]
        exact ⟨hc, I.hok.fresh (Nat.le_refl _), Nat.ne_of_gt I.lt, fs, fun v q => by cases q⟩
    · exact I2.pin q (List.mem_append_right _ (List.mem_append_right _ z))
  · show wpAny _ X.A.in1.in1 (load s.heap.objs.size >>= _) _ _ s''
    refine wpAny_bind (wpAny_load e ?_)
    exact wpAny_pure q
end
section
open AutoSeq1 (wpAny_loadPart')
theorem code_tuple_new_any {prog : Program} {w : World} {A : Around} {E : Value → Shared → Prop} {s : Shared} {I : Addr} {Q₁ : Value → Shared → Prop} {Z : Shared → Array Value → Prop} (hTI : s.TypeIs (.ref I) "generator")
    (hcol : ∀ {Q' : List Value → Shared → Prop} {E' : Value → Shared → Prop}, (∀ s' acc, Z s' acc → Q' acc.toList s') → wpAny (model prog w) A.in1 (collect (.ref I)) Q' E' s)
    (h : ∀ s' acc, Z s' acc → acc.size ≤ sizeLine ∧ Q₁ (.ref s'.heap.objs.size) { s' with heap := s'.heap.push { cls := .type "tuple", data := .seq acc } }) :
    codeAny (model prog w) A (.call (.builtin "tuple.__new__") ⟨[.type "tuple", .ref I], []⟩) (wants Q₁ E) s := by
  refine codeAny_of_tree ?_
  show wpAny _ A.in1 (do checkBuiltinCall "tuple.__new__" ⟨[.type "tuple", .ref I], []⟩; again (.builtin "tuple.__new__" ⟨[.type "tuple", .ref I], []⟩)) _ _ s
  refine wpAny_bind (wpAny_of_eq (PySem.F.newCall_tuple_1 _) (wpAny_pure ⟨plainId_quiet PySem.F.plain_tuple_new _, codeAny_builtin PySem.F.entry_tuple_new ?_⟩))
  rw [Around.under_plainId PySem.F.plain_tuple_new _]
  have hsub := sub_tuple_self
  have hinit := init_tuple_lookup
  have hmh := madeHere_tuple
  wp_walk using wpAny_typeOf hTI, hcol
  intro s' acc z
  obtain ⟨hsz, q⟩ := h s' acc z
  show wpAny _ _ (Builtin.Tuple.tupleExact acc.toList.toArray >>= fun v => ret v) _ _ _
  unfold Builtin.Tuple.tupleExact
  refine wpAny_bind (wpAny_newObj_type ?_ (by show acc.toList.toArray.size ≤ sizeLine; simp only [Array.toArray_toList]; exact hsz))
  refine wpAny_pure ?_
  have e : acc.toList.toArray = acc := by simp
  rw [e]
  exact q
theorem call_tuple_any {prog : Program} {w : World} {A : Around} {E : Value → Shared → Prop} {s : Shared} {I : Addr} {Q : Value → Shared → Prop} {Z : Shared → Array Value → Prop} (hTI : s.TypeIs (.ref I) "generator")
    (hcol : ∀ {Q' : List Value → Shared → Prop} {E' : Value → Shared → Prop}, (∀ s' acc, Z s' acc → Q' acc.toList s') → wpAny (model prog w) A.in1.in1 (collect (.ref I)) Q' E' s)
    (hQ : ∀ s' acc, Z s' acc → acc.size ≤ sizeLine ∧ Q (.ref s'.heap.objs.size) { s' with heap := s'.heap.push { cls := .type "tuple", data := .seq acc } }) :
    wpAny (model prog w) A (call (.type "tuple") [.ref I]) Q E s := by
  refine callType_codes (Q₁ := fun obj s₁ => s₁.TypeIs obj "tuple" ∧ Q obj s₁) PySem.F.called_tuple (PySem.F.typeCall_tuple_1 _) PySem.F.entry_object_init
    (code_tuple_new_any hTI hcol fun s' acc z => ⟨(hQ s' acc z).1, ⟨_, Heap.get?_push_size _ rfl, rfl⟩, (hQ s' acc z).2⟩) fun obj s₁ h₁ => ?_
  exact ⟨h₁.1, PySem.F.args_object_init_2 obj _, object_init_meets PySem.F.called_tuple.init.lookup PySem.F.called_tuple.made (by decide) prog w A.in1 _ s₁ ⟨h₁.1, rfl, h₁.2⟩⟩
variable {X : Cx}
/-- the list of what comes of a generator: as a collecting call asks -/
def tColE (P : Addr) (wi : TI) (g : TG) (tt : TT) (te : TE) (vs : List Nat) (F : VK → List V → Hp → Prop) : TE := fun σ H Q => wi σ H fun J H1 => GxR.TabG H1 P ∧ ∀ H2, GxR.Tabbed P H1 H2 → ∃ W : List V → Nat → Nat → Hp → Prop, (∃ m, W [] 0 m H2) ∧ ∀ ys i m H, W ys i m H →
  (J.stop i H ∧ F Q ys H) ∨ (J.go i H ∧ ∃ Nx : List V → Hp → Prop, (∀ ys' H', Nx ys' H' → ∃ m', m' < m ∧ W ys' (i + 1) m' H') ∧ ∀ x H', J.yld i H x H' → g x (wipe σ vs) H' fun σ2 H3 => wipe σ2 vs = wipe σ vs ∧ tt σ2 H3 fun b H4 =>
    if b = true then te σ2 H4 fun y H5 => ys.length < sizeLine ∧ (True → Nx (ys ++ [y]) H5) else Nx ys H4)
def FTup : VK → List V → Hp → Prop := fun Q ys H => ∀ p, H p = none → Q (.ref p) (upd H p (.tup ys))
theorem col_gen {pins : List (Addr × Obj)} {σ : L2.St} {c P : Addr} {elt tg iter : Expr} {ifs : List Expr} {scope : Scope} {own : List (Str × Nat)} {gpos : Pos} {wi : TI} {g : TG} {tt : TT} {te : TE} {k : Nat} {F : VK → List V → Hp → Prop} {Q : VK} {H : Hp} {s : Shared} {Q' : Value → Shared → Prop}
    (hr : Room (k + 1) X.A) (hc : X.calm = true) (hN : X.N.Nodup) (TB : GxR.TabB X.base X.mg c P) (hcode : X.env.code = .ref c) (ok : GenOk X.N X.env.scope scope own) (hi : PI X tg iter wi)
    (hg : ∀ (s : Shared) (H : Hp) (C : Addr) (code : Value) (fp : List Addr), Room k (Cx.gblk X s H scope C code fp).A → PG (Cx.gblk X s H scope C code fp) tg g)
    (ht : ∀ (s : Shared) (H : Hp) (C : Addr) (code : Value) (fp : List Addr), Room k (Cx.gblk X s H scope C code fp).A → PTs (Cx.gblk X s H scope C code fp) ifs tt)
    (he : ∀ (s : Shared) (H : Hp) (C : Addr) (code : Value) (fp : List Addr), Room k (Cx.gblk X s H scope C code fp).A → PE (Cx.gblk X s H scope C code fp) elt te)
    (hs : ∀ x, genFold iter X.env x = pure x) (I : Inv X pins σ H s) (h : tColE P wi g tt te (own.map (·.2)) F σ H Q)
    (fin : ∀ (ga : Addr) (s5 : Shared), s5.TypeIs (.ref ga) "generator" → (∀ (Q1 : Value → Shared → Prop) (E : Value → Shared → Prop) (A : Around), Q1 (.ref ga) s5 → wpAny (model X.prog X.w) A (pyIter (.ref ga)) Q1 E s5) →
      (∀ {Q1 : List Value → Shared → Prop} {E1 : Value → Shared → Prop}, (∀ s' (acc : Array Value), (∃ ys H', Vals ys acc.toList ∧ ys.length ≤ sizeLine ∧ Inv X pins σ H' s' ∧ F Q ys H') → Q1 acc.toList s') → wpAny (model X.prog X.w) X.A.in1.in1 (collect (.ref ga)) Q1 E1 s5) → Q' (.ref ga) s5) :
    wpAny (model X.prog X.w) X.A (eval (.GeneratorExp elt [⟨tg, iter, ifs, 0⟩] scope gpos) X.env) Q' X.xe s := by
  refine gen_mk hr hc hN TB hcode ok hi hg ht he hs I h fun J H1 H4 Y s5 pf ga gi go r tb hpr hw hgo sz sl hpn I5 back goes => ?_
  obtain ⟨W, ⟨m, w0⟩, step⟩ := r H4 tb
  have hgen : s5.heap.IsGen ga gi := hgo _ (I5.pin (ga, go) (List.mem_append_right _ (List.mem_append_left _ List.mem_cons_self))).1
  refine fin ga s5 hgen.typeIs (fun Q1 E A q => wpAny_pyIter_gen hgen q) fun {Q1 E1} hQ1 => ?_
  refine collect_g (X := X) (Y := Y) sl hpn hpr hw hgo I5 fun S c s' R hS B hgaS Is eg hR => ?_
  have g0 := goes ⟨LExt S, fun ys _ _ => ys.length < sizeLine, fun _ _ _ => True, fun ys H' => F Q ys H'⟩ W m (fun ys ps e q hq => by
      obtain ⟨acc, c, e, _⟩ := e
      rw [e] at hq
      have hq : q = (S, lstObj acc c) := by simpa using hq
      rw [hq, hS]
      exact Nat.le_refl _) (fun ys i m H w => (step ys i m H w).imp id fun ⟨a, Nx, hNx, b⟩ => ⟨a, Nx, hNx, fun x H' y => b x H' y⟩) w0 s' [(S, lstObj #[] c)] ⟨#[], c, rfl, .nil, Nat.zero_le _⟩ Is eg
  exact ext_loopG (X := X) hr.hd (by have := hr.dp; omega) hpr hw hgo B hgaS rfl (fun ys y H z => ⟨z, trivial⟩) (fun ys H' acc c σ' s'' fi vs hl e ⟨ps, I'⟩ => hR acc c s'' e (hQ1 s'' acc ⟨ys, H', vs, hl, back I', fi⟩)) (m + 1) s' g0
end
section
variable {X : Cx}
theorem pe_tupE {c P : Addr} {elt tg iter : Expr} {ifs : List Expr} {scope : Scope} {own : List (Str × Nat)} {p pos gpos : Pos} {wi : TI} {g : TG} {tt : TT} {te : TE} {k : Nat}
    (hr : Room (k + 1) X.A) (hgl : Gl X "tuple") (hm : X.mg "tuple" = none) (hb : bootBuiltins "tuple" = some (.type "tuple")) (hc : X.calm = true) (hN : X.N.Nodup) (TB : GxR.TabB X.base X.mg c P) (hcode : X.env.code = .ref c) (ok : GenOk X.N X.env.scope scope own) (hi : PI X tg iter wi)
    (hg : ∀ (s : Shared) (H : Hp) (C : Addr) (code : Value) (fp : List Addr), Room k (Cx.gblk X s H scope C code fp).A → PG (Cx.gblk X s H scope C code fp) tg g)
    (ht : ∀ (s : Shared) (H : Hp) (C : Addr) (code : Value) (fp : List Addr), Room k (Cx.gblk X s H scope C code fp).A → PTs (Cx.gblk X s H scope C code fp) ifs tt)
    (he : ∀ (s : Shared) (H : Hp) (C : Addr) (code : Value) (fp : List Addr), Room k (Cx.gblk X s H scope C code fp).A → PE (Cx.gblk X s H scope C code fp) elt te)
    (hs : ∀ x, genFold iter X.env x = pure x := by intro _; rfl)
    (hst : starEach [.GeneratorExp elt [⟨tg, iter, ifs, 0⟩] scope gpos] X.env = (false, eval (.GeneratorExp elt [⟨tg, iter, ifs, 0⟩] scope gpos) X.env) :: starEach [] X.env := by rfl) :
    PE X (.Call (.Name "tuple" p) [.GeneratorExp elt [⟨tg, iter, ifs, 0⟩] scope gpos] [] pos) (tColE P wi g tt te (own.map (·.2)) FTup) := by
  constructor
  intro pins s σ H Q I h
  refine wpAny_Call_Name_kw (ld_blt I hgl hm hb ?_)
  refine PyProof.Rows.callWith_type1 ?_ hst (by rfl)
  rw [hst]
  show wpAny _ _ (spliced ((false, eval (.GeneratorExp elt [⟨tg, iter, ifs, 0⟩] scope gpos) X.env) :: backTo pos (starEach [] X.env))) _ _ s
  refine Calls.spliced_cons (col_gen hr hc hN TB hcode ok hi hg ht he hs I h fun ga s5 hT self col => ?_)
  refine Calls.spliced_nil ?_
  refine call_tuple_any hT col fun s' acc ⟨ys, H', vs, hl, I', f⟩ => ⟨by rw [← Array.length_toList, ← vs.length]; exact hl, ?_⟩
  have ea : acc.toList.toArray = acc := by simp
  refine ⟨.ref s'.heap.objs.size, _, I'.laid (t' := s'.toks) (o := .tup ys) (fun b ob e => Heap.get?_push_of_some _ e) (Nat.le_refl _) ⟨hl, acc.toList, vs, ?_⟩, rfl, f _ (I'.hok.fresh (Nat.le_refl _))⟩
  rw [ea]
  exact IsTup.new _ _
/-- .. over what is walked as a Walk says; ys: what came so far -/
theorem gc_it {J : It} {n : Nat} {G : Hp → Prop} {Y : Nat → Hp → V → Hp → Prop} (w : Walk J n G Y) {g : TG} {tt : TT} {te : TE} {vs : List Nat} {σ : L2.St} {H2 : Hp} {Qf : List V → Hp → Prop} (Pv : Nat → List V → Hp → Prop) (h0 : Pv 0 [] H2) (hG : ∀ i ys H, i ≤ n → Pv i ys H → G H)
    (hs : ∀ i ys x H H', i < n → Pv i ys H → Y i H x H' → g x (wipe σ vs) H' fun σ2 H3 => wipe σ2 vs = wipe σ vs ∧ tt σ2 H3 fun b H4 => if b = true then te σ2 H4 fun y H5 => ys.length < sizeLine ∧ (True → Pv (i + 1) (ys ++ [y]) H5) else Pv (i + 1) ys H4) (hd : ∀ ys H, Pv n ys H → Qf ys H) :
    ∃ W : List V → Nat → Nat → Hp → Prop, (∃ m, W [] 0 m H2) ∧ ∀ ys i m H, W ys i m H →
      (J.stop i H ∧ Qf ys H) ∨ (J.go i H ∧ ∃ Nx : List V → Hp → Prop, (∀ ys' H', Nx ys' H' → ∃ m', m' < m ∧ W ys' (i + 1) m' H') ∧ ∀ x H', J.yld i H x H' → g x (wipe σ vs) H' fun σ2 H3 => wipe σ2 vs = wipe σ vs ∧ tt σ2 H3 fun b H4 =>
        if b = true then te σ2 H4 fun y H5 => ys.length < sizeLine ∧ (True → Nx (ys ++ [y]) H5) else Nx ys H4) := by
  refine ⟨fun ys i m H => m = n - i ∧ i ≤ n ∧ Pv i ys H, ⟨n, by simp, Nat.zero_le _, h0⟩, ?_⟩
  rintro ys i m H ⟨rfl, hi, p⟩
  have q := hG i ys H hi p
  by_cases hlt : i < n
  · refine .inr ⟨w.goes i H hlt q, fun ys H => Pv (i + 1) ys H, fun ys' H' p' => ⟨n - (i + 1), by omega, rfl, hlt, p'⟩, fun x H' y => hs i ys x H H' hlt p (w.yields i H x H' hlt q y)⟩
  · have e : i = n := by omega
    subst e
    exact .inl ⟨w.stops H q, hd ys H p⟩
end
/-! things whose text is short -/
mutual
def lvs (k : Nat) : PyData → Bool
  | .none | .bool _ => true
  | .int i => decide (i.natAbs < 10 ^ k)
  | .str x => x.cps.toList.all fun c => decide (c < 16 ^ 8)
  | .list xs | .tuple xs => lvsA k xs
  | .dict _ => false
def lvsA (k : Nat) : List PyData → Bool
  | [] => true
  | x :: xs => lvs k x && lvsA k xs
end
theorem log_sm {n k : Nat} (hk : k ≤ 400) (h : n < 10 ^ k) : n.log2 < 1920 := by
  by_cases z : n = 0
  · rw [z]
    decide
  · rw [Nat.log2_lt z]
    refine Nat.lt_of_lt_of_le h (Nat.le_trans (Nat.pow_le_pow_left (show 10 ≤ 2 ^ 4 by decide) k) ?_)
    rw [← Nat.pow_mul]
    exact Nat.pow_le_pow_right (by decide) (by omega)
theorem shown_k {i : Int} {k : Nat} (k0 : 0 < k) (h : i.natAbs < 10 ^ k) : (PyData.shown (.int i)).length ≤ k + 1 := by
  have e := int_text_length_le10 (k := k) k0 h
  show (Str.ofString (toString i)).length ≤ k + 1
  rw [PySem.ofString_length]
  exact e
mutual
theorem lvs_show {k : Nat} (k0 : 0 < k) (hk : k ≤ 400) : ∀ d : PyData, lvs k d = true → d.showable = true ∧ d.hasDict = false ∧ d.leavesShort (k + 1) = true
  | .none, _ => ⟨rfl, rfl, rfl⟩
  | .bool _, _ => ⟨rfl, rfl, rfl⟩
  | .int i, h => by
    have h1 : i.natAbs < 10 ^ k := by simpa only [lvs, decide_eq_true_eq] using h
    refine ⟨?_, rfl, ?_⟩
    · simp only [PyData.showable]
      exact decide_eq_true (log_sm hk h1)
    · simp only [PyData.leavesShort]
      exact decide_eq_true (shown_k k0 h1)
  | .str x, h => ⟨rfl, rfl, by simpa only [PyData.leavesShort, lvs] using h⟩
  | .list xs, h => by
    have := lvsA_show k0 hk xs (by simpa only [lvs] using h)
    simpa only [PyData.showable, PyData.hasDict, PyData.leavesShort] using this
  | .tuple xs, h => by
    have := lvsA_show k0 hk xs (by simpa only [lvs] using h)
    simpa only [PyData.showable, PyData.hasDict, PyData.leavesShort] using this
  | .dict _, h => by simp only [lvs] at h; exact nomatch h
theorem lvsA_show {k : Nat} (k0 : 0 < k) (hk : k ≤ 400) : ∀ xs : List PyData, lvsA k xs = true → PyData.showableAll xs = true ∧ PyData.hasDictAll xs = false ∧ PyData.leavesShortAll (k + 1) xs = true
  | [], _ => ⟨rfl, rfl, rfl⟩
  | x :: xs, h => by
    have h' : lvs k x = true ∧ lvsA k xs = true := by simpa only [lvsA, Bool.and_eq_true] using h
    obtain ⟨a1, a2, a3⟩ := lvs_show k0 hk x h'.1
    obtain ⟨b1, b2, b3⟩ := lvsA_show k0 hk xs h'.2
    simp only [PyData.showableAll, PyData.hasDictAll, PyData.leavesShortAll, a1, a2, a3, b1, b2, b3]
    exact ⟨rfl, rfl, rfl⟩
end
structure Sho (d : PyData) : Prop where
  s : d.showable = true
  n : d.hasDict = false
  dp : d.depth ≤ 60
  len : d.shown.length ≤ sizeLine
theorem sho_of {k : Nat} {d : PyData} (k0 : 7 ≤ k) (hk : k ≤ 400) (h : lvs k d = true) (dp : d.depth ≤ 60) (w : (k + 3) * d.weight ≤ 16000000) : Sho d := by
  obtain ⟨a, b, c⟩ := lvs_show (by omega) hk d h
  refine ⟨a, b, dp, ?_⟩
  have e : d.shown.length ≤ (k + 3) * d.weight + (k + 1) := PyData.shown_le (k + 1) (by omega) d c
  rw [sizeLine_eq]
  omega
theorem lvsA_of {k : Nat} : ∀ ds : List PyData, (∀ d, d ∈ ds → lvs k d = true) → lvsA k ds = true
  | [], _ => rfl
  | d :: ds, h => by
    simp only [lvsA, Bool.and_eq_true]
    exact ⟨h d List.mem_cons_self, lvsA_of ds fun x hx => h x (List.mem_cons_of_mem _ hx)⟩
theorem depA_of {n : Nat} : ∀ ds : List PyData, (∀ d, d ∈ ds → d.depth ≤ n) → PyData.depthAll ds ≤ n
  | [], _ => Nat.zero_le _
  | d :: ds, h => by
    have := h d List.mem_cons_self
    have := depA_of ds fun x hx => h x (List.mem_cons_of_mem _ hx)
    simp only [PyData.depthAll]
    omega
theorem weiA_of {n : Nat} : ∀ ds : List PyData, (∀ d, d ∈ ds → d.weight ≤ n) → PyData.weightAll ds ≤ ds.length * (n + 1)
  | [], _ => Nat.zero_le _
  | d :: ds, h => by
    have := h d List.mem_cons_self
    have := weiA_of ds fun x hx => h x (List.mem_cons_of_mem _ hx)
    simp only [PyData.weightAll, List.length_cons, Nat.add_mul, Nat.one_mul]
    omega
/-- short things: their leaves, depth and weight -/
structure Shs (k n w : Nat) (d : PyData) : Prop where
  l : lvs k d = true
  dp : d.depth ≤ n
  wt : d.weight ≤ w
theorem shs_all {k n w : Nat} {ds : List PyData} (h : ∀ d, d ∈ ds → Shs k n w d) : Shs k (n + 1) (ds.length * (w + 1)) (.list ds) ∧ Shs k (n + 1) (ds.length * (w + 1)) (.tuple ds) := by
  have a := lvsA_of ds fun d hd => (h d hd).l
  have b := depA_of ds fun d hd => (h d hd).dp
  have c := weiA_of ds fun d hd => (h d hd).wt
  refine ⟨⟨by simpa only [lvs] using a, ?_, by simpa only [PyData.weight] using c⟩, ⟨by simpa only [lvs] using a, ?_, by simpa only [PyData.weight] using c⟩⟩
  · simp only [PyData.depth]
    omega
  · simp only [PyData.depth]
    omega
theorem Shs.mono {k n m w v : Nat} {d : PyData} (h : Shs k n w d) (a : n ≤ m) (b : w ≤ v) : Shs k m v d := ⟨h.l, Nat.le_trans h.dp a, Nat.le_trans h.wt b⟩
theorem Shs.sho {k n w : Nat} {d : PyData} (h : Shs k n w d) (k0 : 7 ≤ k) (hk : k ≤ 400) (hn : n ≤ 60) (hw : (k + 3) * w ≤ 16000000) : Sho d := sho_of k0 hk h.l (Nat.le_trans h.dp hn) (Nat.le_trans (Nat.mul_le_mul_left _ h.wt) hw)
theorem shs_int {k : Nat} {i : Int} (h : i.natAbs < 10 ^ k) : Shs k 0 (4 * k + 1) (.int i) := by
  refine ⟨?_, ?_, ?_⟩
  · simp only [lvs]
    exact decide_eq_true h
  · simp only [PyData.depth]
    decide
  · simp only [PyData.weight]
    split
    · exact Nat.zero_le _
    · rename_i z
      have z1 : i.natAbs ≠ 0 := fun e => z (by rw [Int.natAbs_eq_zero.mp e]; rfl)
      have := (Nat.log2_lt (k := 4 * k) z1).mpr (Nat.lt_of_lt_of_le h (by
        rw [Nat.pow_mul]
        exact Nat.pow_le_pow_left (by decide) k))
      omega
theorem sho_ints {ns : List Int} (h : ∀ n, n ∈ ns → n.natAbs < 10 ^ 12) (l : ns.length ≤ 20000) : Sho (.list (ns.map .int)) ∧ Sho (.tuple (ns.map .int)) := by
  obtain ⟨a, b⟩ := shs_all (k := 12) (n := 0) (w := 49) (ds := ns.map .int) (fun d hd => by
    obtain ⟨n, hn, rfl⟩ := List.mem_map.mp hd
    exact shs_int (h n hn))
  rw [List.length_map] at a b
  exact ⟨a.sho (by decide) (by decide) (by decide) (by omega), b.sho (by decide) (by decide) (by decide) (by omega)⟩
theorem shs_str {k : Nat} {x : Str} (h : (x.cps.toList.all fun c => decide (c < 16 ^ 8)) = true) (w : x.cps.size ≤ 12) : Shs k 0 12 (.str x) := ⟨by simpa only [lvs] using h, by simp only [PyData.depth]; decide, by simpa only [PyData.weight] using w⟩
theorem shs_non {k : Nat} : Shs k 0 0 .none := ⟨rfl, by simp only [PyData.depth]; decide, by simp only [PyData.weight]; decide⟩
/-! a promise where no text of a thing is being made -/
structure GOk (P : Program) (w : World) (K : PySem.W.Frag) (mg : Str → Option Value) (base : Heap) (CX : CXT) (k : Nat) (f : Addr) (fd : FuncData) (ps : List Str) (sp : Sp) : Prop where
  len : ∀ vs H Q E, sp vs H Q E → vs.length = ps.length
  run : ∀ (A : Around) (outer : List Env) (s : Shared) (H : Hp) (args : Args) (us : List Value) (vs : List V) (Q : VK) (E : XK), A.guards = some [] → Room k A → Env0 P w K mg base A outer s H → BindsTo s fd args (ps.zip us) → Vals vs us → sp vs H Q E →
    codeAny (model P w) A (.call (.ref f) args) (CR CX outer P w H s Q E) s
theorem gok_of {CX : CXT} {P : Program} {w : World} {K : PySem.W.Frag} {mg : Str → Option Value} {base : Heap} {k : Nat} {x : Str} {st : Stmt} {f : Addr} {fd : FuncData} {N ps : List Str} {sp : Sp} (F : FnP K x st f fd) (S : FnScope N ps (defScope st)) (len : ∀ vs H Q E, sp vs H Q E → vs.length = ps.length)
    (hb : ∀ (cdv : Value) (A : Around) (outer : List Env) (s : Shared) (H : Hp) (vs : List V) (Q : VK) (E : XK), A.guards = some [] → Room k (A.deeper (envOfC x (defScope st) s.heap.objs.size f cdv)) → sp vs H Q E →
      ∃ t, PSs (cxOf CX P w K mg base N x (defScope st) f cdv A outer s H E) (defBody st) t ∧ t { nx := fun _ H' => Q .non H', rt := Q } (L2.start N vs) H) : GOk P w K mg base CX (k + 1) f fd ps sp := by
  obtain ⟨oc, od, dV, kV, doc, pm, an, cdv, ct, osl, rfl, lk, hcd, _, _⟩ := F.ex
  refine ⟨len, fun A outer s H args us vs Q E hg hr e0 bd rv hsp => ?_⟩
  have kept : ∀ b o, base.get? b = some o → s.heap.get? b = some o := fun b o e => (e0.bs b o e).1
  have KX : K.In s.heap := e0.mod.kin.keeps kept
  have kinds : ∀ y ∈ ps.zip us, (defScope st).names.lookup y.1 = some .local ∨ ((defScope st).names.lookup y.1 = some .cell ∧ ((cellsFrom (s.heap.objs.size + 1) (defScope st).names []).lookup y.1).isSome = true) := fun y hy =>
    (S.par y.1 (List.of_mem_zip (show (y.1, y.2) ∈ ps.zip us from hy)).1).imp id fun q => ⟨q, PySem.W.cellsFrom_some _ _ _ (.inl q)⟩
  refine codeAny_call_function hr.depth (KX _ _ lk) rfl S.co S.gen rfl (PySem.W.codeRec_of KX hcd) (bd _ _ _ _ (wpAny_newFunctionEnv_cells S.kind kinds fun env he s1 x1 => ?_))
  subst he
  refine ⟨(e0.mod.nolimit.keeps kept).keeps x1.toInCall.keep, codeAny_func ?_⟩
  obtain ⟨t, ht, hq⟩ := hb cdv A outer s H vs Q E hg (hr.deeper _) hsp
  have I := inv_start (CX := CX) (E := E) S hr.hd e0 (len _ _ _ _ hsp) rv x1
  refine wpAny_mono (ht.run [] s1 (L2.start N vs) H _ I hq) (fun fl s' hs => ?_) fun e s' hs => hs
  cases fl with
  | ret u =>
    obtain ⟨v, σ', H', J, r', q⟩ := hs
    exact ⟨v, H', J.os, J.bare, J.base, J.hok, r', q⟩
  | next =>
    obtain ⟨σ', H', J, q⟩ := hs
    exact ⟨V.non, H', J.os, J.bare, J.base, J.hok, rfl, q⟩
  | brk =>
    obtain ⟨_, _, _, q⟩ := hs
    exact q.elim
  | cont =>
    obtain ⟨_, _, _, q⟩ := hs
    exact q.elim
/-- the state ahead of the law's call: the script is tracked, or one of the module's own things -/
theorem env_ahead {P : Program} {w : World} {K : PySem.W.Frag} {mg mb : Str → Option Value} {a : Addr} {s : Shared} {vs : List Value} {ns : List Int} (KX : K.In s.heap) (hns : s.heap.Ns mainGlobals mg) (hb : s.heap.Ns builtinsNs mb)
    (hbb : ∀ x : Str, x ≠ "__name__" → mb x = bootBuiltins x) (hlim : s.heap.NoLimit) (hg : s.gens = #[]) (ha : s.heap.get? a = some { cls := .type "list", data := .seq vs.toArray }) (hi : IntsAre vs ns) (hl : ns.length ≤ sizeLine) :
    ∃ H : Hp, Only H ∧ SqL K H a (ns.map V.int) ∧ HOk P w H s.heap ∧ K.In (hidT s.heap H) ∧ (hidT s.heap H).Ns mainGlobals mg ∧ Env0 P w K mg (hidT s.heap H) callerA [] s H := by
  have rv := vals_ints hi
  have go : ∀ H : Hp, Only H → SqL K H a (ns.map V.int) → HOk P w H s.heap → (∀ b, H b ≠ none → b = a ∧ K.lookup a = none) → ∃ H : Hp, Only H ∧ SqL K H a (ns.map V.int) ∧ HOk P w H s.heap ∧ K.In (hidT s.heap H) ∧ (hidT s.heap H).Ns mainGlobals mg ∧ Env0 P w K mg (hidT s.heap H) callerA [] s H := fun H hO hS hok hA => by
    have free : ∀ {b : Addr}, (b = a → False) → H b = none := fun {b} nb => Classical.byContradiction fun z => nb (hA b z).1
    have Kb : K.In (hidT s.heap H) := fun b o e => hidT_get (KX b o e) (Classical.byContradiction fun z => by
      obtain ⟨rfl, n⟩ := hA b z
      rw [n] at e
      cases e)
    have nsb : ∀ {b : Addr} {m : Str → Option Value}, s.heap.Ns b m → (hidT s.heap H).Ns b m := fun {b m} h => by
      obtain ⟨o, es, ep, e, d, r⟩ := h
      refine ⟨o, es, ep, hidT_get e (free fun z => ?_), d, r⟩
      rw [z, ha] at e
      cases e
      cases d
    refine ⟨H, hO, hS, hok, Kb, nsb hns, rfl, ⟨Kb, nsb hns, ⟨mb, nsb hb, hbb⟩, ?_⟩, fun b o e => of_hidT e, Nat.le_of_eq (hidT_size _ _), trivial, fun b z => (by cases z), hok, .of_eq hg⟩
    obtain ⟨mc, h1, h2⟩ := hlim
    exact ⟨mc, nsb h1, h2⟩
  cases hk : K.lookup a with
  | some o =>
    have e := KX a o hk
    rw [ha] at e
    cases e
    exact go (fun _ => none) (fun _ => .inl rfl) (.inr ⟨_, vs.toArray, _, hk, rfl, rfl, rfl, by rw [List.size_toArray, hi.length]; exact hl, by simpa using rv⟩) (fun b u z => by cases z) (fun b z => absurd rfl z)
  | none =>
    refine go (fun b => if b = a then some (.frz { cls := .type "list", data := .seq vs.toArray } (.lst (ns.map V.int))) else none) (fun b => ?_) (.inl (.inr ⟨_, if_pos rfl⟩)) (fun b u z => ?_) (fun b z => ?_)
    · by_cases e : b = a
      · exact .inr ⟨_, _, if_pos e⟩
      · exact .inl (if_neg e)
    · by_cases e : b = a
      · cases (if_pos e).symm.trans z
        subst e
        exact ⟨ha, by rw [List.length_map]; exact hl, vs, _, rv, ha⟩
      · cases (if_neg e).symm.trans z
    · by_cases e : b = a
      · exact ⟨e, hk⟩
      · exact absurd (if_neg e) z
theorem walk_ofG {l : PySem.W.OpenLaw} {n k : Nat} {q : Program} {loose : List Str} {XP : (Str → Option Value) → Heap → Prop} {YP : World → Heap → Prop} {d : DefRec} {x : Str}
    (hn : l.most = some n) (hn2 : n ≤ sizeLine) (hdf : d.params.defaults = []) (hr : Room k callerA)
    (F : ∀ (w : World) (mg : Str → Option Value) (fa : Addr) (h : Heap), YP w h → h.Ns mainGlobals mg → mg d.name = some (.ref fa) →
      ∃ (K : PySem.W.Frag) (fd : FuncData) (sp : Sp), K.In h ∧ (∀ (s : Shared) (u : Value), BindsTo s fd ⟨[u], []⟩ [(x, u)]) ∧
        (∀ (H : Hp) (a : Addr) (ns : List Int), ns.length ≤ n → Only H → SqL K H a (ns.map V.int) → sp [.ref a] H (fun v _ => v = .bl true) fun _ _ _ => False) ∧
        ∀ base : Heap, K.In base → base.Ns mainGlobals mg → GOk l.prog w K mg base CX0 k fa fd [x] sp) :
    PySem.W.WalkO q loose XP YP l.row.toRowW d [] (fun f vs => PySem.call f vs) := by
  refine Att.attach_call hn hdf fun w s₀ s₁ mg mb fa o pm cd doc a vs ns G Y ho hd hcd hmg hobj hints hlen hg => ?_
  obtain ⟨K, fd, sp, KX, hbd, hsp, hF⟩ := F w mg fa _ Y G.T.g hmg
  obtain ⟨H, hO, hS, hok, Kb, nb, e0⟩ := env_ahead (P := l.prog) (w := w) KX G.T.g G.T.b G.T.builtins G.T.nolimit hg hobj hints (Nat.le_trans hlen hn2)
  refine codeAny_mono ((hF _ Kb nb).run callerA [] s₁ H ⟨[.ref a], []⟩ [.ref a] [.ref a] _ _ rfl hr e0 (hbd s₁ (.ref a)) (.cons rfl .nil) (hsp H a ns hlen hO hS)) fun r s' h => ?_
  match r, h with
  | .ok (.ret u), h =>
    obtain ⟨v, H', os, bare, un, hok', r', q⟩ := h
    have q : v = .bl true := q
    subst q
    obtain rfl : u = Value.bool true := r'
    refine ⟨rfl, OldK.of_keep fun b o e => ?_, os, bare⟩
    rcases hO b with z | ⟨ob, xs, z⟩
    · exact un.keep b o e z (by intro y; cases y) (by simp)
    · obtain ⟨e1, _⟩ := hok b _ z
      obtain ⟨e2, _⟩ := hok' b _ (un.frzs b ob _ z)
      rw [e] at e1
      cases e1
      exact e2
  | .ok .next, h => exact False.elim h
  | .ok .brk, h => exact False.elim h
  | .ok .cont, h => exact False.elim h
  | .error e, h => exact False.elim h
/-- repr(x) of a list or tuple -/
def rRepr (K : PySem.W.Frag) : List V → Hp → VK → Prop := fun xs H Q => ∃ a d, xs = [.ref a] ∧ Dp K H (.ref a) d ∧ Sho d ∧ Q (.str d.shown) H
theorem cr_repr {X : Cx} (hg : X.A.guards = some []) (hu : X.A.units + 65 < cLine) : CallR X (.builtin "repr") (rRepr X.K) := by
  intro pins s σ H vs us Q I r h
  obtain ⟨a, d, rfl, hd, ⟨sh, nd, dd, sz⟩, q⟩ := h
  rw [Vals.ref1 r]
  obtain ⟨as, rd⟩ := Dp.reads I d (.ref a) (.ref a) hd rfl
  refine repr_of_reads' rd sh (fun z => by rw [nd] at z; cases z) hg (by omega) (fun _ _ e => e) (fun h' u tk hk => ?_) sz
  exact ⟨.str d.shown, H, I.kept (t' := tk) hk, ⟨_, rfl⟩, q⟩
theorem u65g {k : Nat} {A : Around} (r : Room k A) : A.units + 65 < cLine := by
  have := r.un
  omega
/-! the state ahead of the law's call, with the tables of code objects -/
def ahT (K : PySem.W.Frag) (a : Addr) (ts : List Addr) (o : Obj) (xs : List V) : Hp := fun b => if b = a then (if (K.lookup a).isSome = true then none else some (.frz o (.lst xs))) else if b ∈ ts then some (.tbl #[]) else none
theorem ahT_tab {K : PySem.W.Frag} {a : Addr} {ts : List Addr} {o : Obj} {xs : List V} (na : ¬ a ∈ ts) {b : Addr} (hb : b ∈ ts) : ahT K a ts o xs b = some (.tbl #[]) := by
  unfold ahT
  rw [if_neg (fun z : b = a => na (z ▸ hb)), if_pos hb]
theorem ahT_any {K : PySem.W.Frag} {a : Addr} {ts : List Addr} {o : Obj} {xs : List V} {b : Addr} {u : HO} (h : ahT K a ts o xs b = some u) : (b = a ∧ K.lookup a = none ∧ u = .frz o (.lst xs)) ∨ (b ∈ ts ∧ u = .tbl #[]) := by
  unfold ahT at h
  by_cases e : b = a
  · rw [if_pos e] at h
    cases k : K.lookup a with
    | none =>
      rw [k, if_neg (fun z => by cases z)] at h
      exact .inl ⟨e, rfl, (Option.some.inj h).symm⟩
    | some y =>
      rw [k] at h
      simp at h
  · rw [if_neg e] at h
    by_cases z : b ∈ ts
    · rw [if_pos z] at h
      exact .inr ⟨z, (Option.some.inj h).symm⟩
    · rw [if_neg z] at h
      cases h
/-- a code object, its table, and where they stand -/
structure TbAt (K : PySem.W.Frag) (h : Heap) (q : Addr × Addr) : Prop where
  ob : h.get? q.2 = some { cls := .none, data := .fields #[] }
  nk : K.lookup q.2 = none
  hd : PySem.W.CodeHd h q.1 q.2
theorem env_aheadT {P : Program} {w : World} {K : PySem.W.Frag} {mg mb : Str → Option Value} {a : Addr} {cs : List (Addr × Addr)} {s : Shared} {vs : List Value} {ns : List Int} (KX : K.In s.heap) (gl : s.heap.Ns mainGlobals mg) (bl : s.heap.Ns builtinsNs mb)
    (bb : ∀ x : Str, x ≠ "__name__" → mb x = bootBuiltins x) (nl : s.heap.NoLimit) (hg : s.gens = #[]) (tb : ∀ q, q ∈ cs → TbAt K s.heap q)
    (bm : ∃ (m : Addr) (om : Obj), mg "__builtins__" = some (.ref m) ∧ m ≠ builtinsNs ∧ s.heap.get? m = some om ∧ om.cls = .type "module" ∧ om.dict = some builtinsNs ∧ om.data = .plain)
    (ha : s.heap.get? a = some { cls := .type "list", data := .seq vs.toArray }) (hi : IntsAre vs ns) (hl : ns.length ≤ sizeLine) :
    ∃ H : Hp, (∀ q, q ∈ cs → H q.2 = some (.tbl #[])) ∧ (∀ b u, H b = some u → (∃ o xs, u = .frz o (.lst xs)) ∨ b ∈ cs.map Prod.snd) ∧ SqL K H a (ns.map V.int) ∧ HOk P w H s.heap ∧ K.In (hidT s.heap H) ∧ (hidT s.heap H).Ns mainGlobals mg ∧ (∀ q, q ∈ cs → GxR.TabB (hidT s.heap H) mg q.1 q.2) ∧ Env0 P w K mg (hidT s.heap H) callerA [] s H := by
  have tin : ∀ b, b ∈ cs.map Prod.snd → ∃ q, q ∈ cs ∧ q.2 = b := fun b h => List.mem_map.mp h
  have tob : ∀ b, b ∈ cs.map Prod.snd → s.heap.get? b = some { cls := .none, data := .fields #[] } := fun b h => by
    obtain ⟨q, hq, rfl⟩ := tin b h
    exact (tb q hq).ob
  have na : ¬ a ∈ cs.map Prod.snd := fun z => by
    have y := (tob a z).symm.trans ha
    cases y
  obtain ⟨H, eH⟩ : ∃ H : Hp, H = ahT K a (cs.map Prod.snd) { cls := .type "list", data := .seq vs.toArray } (ns.map V.int) := ⟨_, rfl⟩
  have any : ∀ {b u}, H b = some u → (b = a ∧ K.lookup a = none ∧ u = .frz { cls := .type "list", data := .seq vs.toArray } (.lst (ns.map V.int))) ∨ (b ∈ cs.map Prod.snd ∧ u = .tbl #[]) := fun {b u} h => ahT_any (by rw [← eH]; exact h)
  have ta : ∀ q, q ∈ cs → H q.2 = some (.tbl #[]) := fun q hq => by
    rw [eH]
    exact ahT_tab na (List.mem_map.mpr ⟨q, hq, rfl⟩)
  have hS : SqL K H a (ns.map V.int) := by
    cases k : K.lookup a with
    | none =>
      refine .inl (.inr ⟨{ cls := .type "list", data := .seq vs.toArray }, ?_⟩)
      rw [eH]
      unfold ahT
      rw [if_pos rfl, k]
      rfl
    | some o =>
      have e := KX a o k
      rw [ha] at e
      cases e
      exact .inr ⟨_, vs.toArray, _, k, rfl, rfl, rfl, by rw [List.size_toArray, hi.length]; exact hl, by simpa using vals_ints hi⟩
  -- what is neither a sequence nor a table stands untouched
  have free : ∀ {b : Addr} {o : Obj}, s.heap.get? b = some o → (∀ ys n, o.data ≠ .seq ys n) → o.data ≠ .fields #[] → H b = none := fun {b o} e n1 n2 => by
    cases k : H b with
    | none => rfl
    | some u =>
      rcases any k with ⟨rfl, _⟩ | ⟨z, _⟩
      · rw [ha] at e
        cases e
        exact absurd rfl (n1 _ _)
      · rw [tob b z] at e
        cases e
        exact absurd rfl n2
  have nsb : ∀ {b : Addr} {m : Str → Option Value}, s.heap.Ns b m → (hidT s.heap H).Ns b m := fun {b m} h => by
    obtain ⟨o, es, ep, e, d, r⟩ := h
    exact ⟨o, es, ep, hidT_get e (free e (fun ys n z => by rw [d] at z; cases z) (fun z => by rw [d] at z; cases z)), d, r⟩
  have Kb : K.In (hidT s.heap H) := fun b o e => hidT_get (KX b o e) (by
    cases k : H b with
    | none => rfl
    | some u =>
      rcases any k with ⟨rfl, n, _⟩ | ⟨z, _⟩
      · rw [n] at e
        cases e
      · obtain ⟨q, hq, rfl⟩ := tin b z
        rw [(tb q hq).nk] at e
        cases e)
  have hok : HOk P w H s.heap := fun b u z => by
    rcases any z with ⟨rfl, _, rfl⟩ | ⟨y, rfl⟩
    · exact ⟨ha, by rw [List.length_map]; exact hl, vs, _, vals_ints hi, ha⟩
    · exact tob b y
  refine ⟨H, ta, fun b u z => ?_, hS, hok, Kb, nsb gl, fun q hq => ⟨?_, ?_, fun z => ?_⟩, rfl, ⟨Kb, nsb gl, ⟨mb, nsb bl, bb⟩, ?_⟩, fun b o e => of_hidT e, Nat.le_of_eq (hidT_size _ _), trivial, fun b z => (by cases z), hok, .of_eq hg⟩
  · rcases any z with ⟨_, _, rfl⟩ | ⟨y, _⟩
    · exact .inl ⟨_, _, rfl⟩
    · exact .inr y
  · obtain ⟨o, us, fl, tf, gs, tg, iF, tx, tt, e1, r1, r2, r3, rest⟩ := (tb q hq).hd
    refine ⟨o, us, fl, tf, gs, tg, iF, tx, tt, hidT_get e1 (free e1 (fun ys n z => by rw [r2] at z; cases z) (fun z => ?_)), r1, r2, r3, rest⟩
    rw [r2] at z
    cases z
    simp at r3
  · obtain ⟨m, om, b1, b2, b3, b4, b5, b6⟩ := bm
    refine ⟨m, om, b1, b2, fun z => ?_, fun z => ?_, hidT_get b3 (free b3 (fun ys n z => by rw [b6] at z; cases z) (fun z => by rw [b6] at z; cases z)), b4, b5, b6⟩
    · obtain ⟨o, es, ep, e, d, _⟩ := gl
      rw [z, e] at b3
      cases b3
      rw [d] at b6
      cases b6
    · have y := (tb q hq).ob
      rw [← z, b3] at y
      cases y
      cases b6
  · obtain ⟨o, es, ep, e, d, _⟩ := gl
    rw [z, (tb q hq).ob] at e
    cases e
    cases d
  · obtain ⟨mc, h1, h2⟩ := nl
    exact ⟨mc, nsb h1, h2⟩
theorem walk_ofGT {l : PySem.W.OpenLaw} {n k : Nat} {q : Program} {loose : List Str} {XP : (Str → Option Value) → Heap → Prop} {YP : World → Heap → Prop} {d : DefRec} {x : Str}
    (hn : l.most = some n) (hn2 : n ≤ sizeLine) (hdf : d.params.defaults = []) (hr : Room k callerA)
    (F : ∀ (w : World) (mg : Str → Option Value) (fa : Addr) (h : Heap), YP w h → h.Ns mainGlobals mg → mg d.name = some (.ref fa) →
      ∃ (K : PySem.W.Frag) (fd : FuncData) (cs : List (Addr × Addr)) (sp : Sp), K.In h ∧ (∀ q, q ∈ cs → TbAt K h q) ∧ (∀ (s : Shared) (u : Value), BindsTo s fd ⟨[u], []⟩ [(x, u)]) ∧
        (∀ (H : Hp) (a : Addr) (ns : List Int), ns.length ≤ n → (∀ q, q ∈ cs → H q.2 = some (.tbl #[])) → SqL K H a (ns.map V.int) → sp [.ref a] H (fun v _ => v = .bl true) fun _ _ _ => False) ∧
        ∀ base : Heap, K.In base → base.Ns mainGlobals mg → (∀ q, q ∈ cs → GxR.TabB base mg q.1 q.2) → GOk l.prog w K mg base CX0 k fa fd [x] sp) :
    PySem.W.WalkO q loose XP YP l.row.toRowW d [] (fun f vs => PySem.call f vs) := by
  refine Att.attach_call hn hdf fun w s₀ s₁ mg mb fa o pm cd doc a vs ns G Y ho hd hcd hmg hobj hints hlen hg => ?_
  obtain ⟨K, fd, cs, sp, KX, tb, hbd, hsp, hF⟩ := F w mg fa _ Y G.T.g hmg
  obtain ⟨H, ta, hO, hS, hok, Kb, nb, TB, e0⟩ := env_aheadT (P := l.prog) (w := w) KX G.T.g G.T.b G.T.builtins G.T.nolimit hg tb G.T.bmain hobj hints (Nat.le_trans hlen hn2)
  refine codeAny_mono ((hF _ Kb nb TB).run callerA [] s₁ H ⟨[.ref a], []⟩ [.ref a] [.ref a] _ _ rfl hr e0 (hbd s₁ (.ref a)) (.cons rfl .nil) (hsp H a ns hlen ta hS)) fun r s' h => ?_
  match r, h with
  | .ok (.ret u), h =>
    obtain ⟨v, H', os, bare, un, hok', r', q⟩ := h
    have q : v = .bl true := q
    subst q
    obtain rfl : u = Value.bool true := r'
    have grow : ∀ t, t ∈ cs → ∃ more : Array Value, s'.heap.get? t.2 = some { cls := .none, data := .fields more } := fun t ht => by
      obtain ⟨more, z⟩ := un.tbls _ _ (ta t ht)
      exact ⟨_, hok' _ _ z⟩
    have stay : ∀ b o, ¬ b ∈ cs.map Prod.snd → s₁.heap.get? b = some o → s'.heap.get? b = some o := fun b o nb e => by
      cases k : H b with
      | none => exact un.keep b o e k (by intro y; cases y) (by simp)
      | some u =>
        rcases hO b u k with ⟨ob, xs, rfl⟩ | z
        · obtain ⟨e1, _⟩ := hok b _ k
          obtain ⟨e2, _⟩ := hok' b _ (un.frzs b ob _ k)
          rw [e] at e1
          cases e1
          exact e2
        · exact absurd z nb
    refine ⟨rfl, ⟨fun b o e => ?_, fun b o e => ?_⟩, os, bare⟩
    · by_cases z : b ∈ cs.map Prod.snd
      · obtain ⟨t, ht, rfl⟩ := List.mem_map.mp z
        obtain ⟨more, gm⟩ := grow t ht
        have y := (tb t ht).ob
        rw [e] at y
        cases y
        exact .inr (.inl ⟨((tb t ht).hd.tab (tb t ht).ob).isCodeTable, rfl, #[], more, rfl, by rw [Array.empty_append]; exact gm⟩)
      · exact .inl (stay b o z e)
    · by_cases z : b ∈ cs.map Prod.snd
      · obtain ⟨t, ht, rfl⟩ := List.mem_map.mp z
        obtain ⟨more, gm⟩ := grow t ht
        exact ⟨_, gm⟩
      · exact ⟨o, stay b o z e⟩
  | .ok .next, h => exact False.elim h
  | .ok .brk, h => exact False.elim h
  | .ok .cont, h => exact False.elim h
  | .error e, h => exact False.elim h
/-! things that are small enough -/
mutual
def gd (k : Nat) : PyData → Bool
  | .none | .bool _ => true
  | .int i => decide (i.natAbs < 10 ^ k)
  | .str x => PyData.strOk x
  | .list xs | .tuple xs => gdA k xs
  | .dict _ => false
def gdA (k : Nat) : List PyData → Bool
  | [] => true
  | x :: xs => gd k x && gdA k xs
end
mutual
theorem gd_lvs {k : Nat} : ∀ d : PyData, gd k d = true → lvs k d = true ∧ d.canLay0 = true
  | .none, _ => ⟨rfl, rfl⟩
  | .bool b, _ => ⟨rfl, rfl⟩
  | .int i, h => ⟨by simpa only [lvs, gd] using h, rfl⟩
  | .str x, h => by
    have h1 : PyData.strOk x = true := by simpa only [gd] using h
    refine ⟨?_, by simpa only [PyData.canLay0] using h1⟩
    simp only [lvs, List.all_eq_true, decide_eq_true_eq]
    intro c hc
    unfold PyData.strOk at h1
    have := Array.all_eq_true_iff_forall_mem.mp h1 c (Array.mem_toList_iff.mp hc)
    have : c < 0x110000 := by simpa using this
    exact Nat.lt_trans this (by decide)
  | .list xs, h => by
    have := gdA_lvs xs (by simpa only [gd] using h)
    simpa only [lvs, PyData.canLay0] using this
  | .tuple xs, h => by
    have := gdA_lvs xs (by simpa only [gd] using h)
    simpa only [lvs, PyData.canLay0] using this
  | .dict _, h => by simp only [gd] at h; exact nomatch h
theorem gdA_lvs {k : Nat} : ∀ xs : List PyData, gdA k xs = true → lvsA k xs = true ∧ PyData.canLayAll0 xs = true
  | [], _ => ⟨rfl, rfl⟩
  | x :: xs, h => by
    have h' : gd k x = true ∧ gdA k xs = true := by simpa only [gdA, Bool.and_eq_true] using h
    have a := gd_lvs x h'.1
    have b := gdA_lvs xs h'.2
    simp only [lvsA, PyData.canLayAll0, a.1, a.2, b.1, b.2]
    exact ⟨rfl, rfl⟩
end
theorem gdA_all {k : Nat} : ∀ {xs : List PyData}, gdA k xs = true ↔ ∀ x, x ∈ xs → gd k x = true
  | [] => ⟨fun _ x hx => (by cases hx), fun _ => rfl⟩
  | x :: xs => by
    simp only [gdA, Bool.and_eq_true, gdA_all (xs := xs)]
    exact ⟨fun h y hy => by
      rcases List.mem_cons.mp hy with rfl | hy
      · exact h.1
      · exact h.2 y hy, fun h => ⟨h x List.mem_cons_self, fun y hy => h y (List.mem_cons_of_mem _ hy)⟩⟩
mutual
theorem gd_mono {k m : Nat} (h : k ≤ m) : ∀ d : PyData, gd k d = true → gd m d = true
  | .none, _ => rfl
  | .bool b, _ => rfl
  | .int i, g => by
    simp only [gd, decide_eq_true_eq] at g ⊢
    exact Nat.lt_of_lt_of_le g (Nat.pow_le_pow_right (by decide) h)
  | .str x, g => by simpa only [gd] using g
  | .list xs, g => by
    have := gdA_mono h xs (by simpa only [gd] using g)
    simpa only [gd] using this
  | .tuple xs, g => by
    have := gdA_mono h xs (by simpa only [gd] using g)
    simpa only [gd] using this
  | .dict _, g => by simp only [gd] at g; exact nomatch g
theorem gdA_mono {k m : Nat} (h : k ≤ m) : ∀ xs : List PyData, gdA k xs = true → gdA m xs = true
  | [], _ => rfl
  | x :: xs, g => by
    have h' : gd k x = true ∧ gdA k xs = true := by simpa only [gdA, Bool.and_eq_true] using g
    simp only [gdA, gd_mono h x h'.1, gdA_mono h xs h'.2]
    rfl
end
structure Bd (k n w : Nat) (d : PyData) : Prop where
  g : gd k d = true
  dp : d.depth ≤ n
  wt : d.weight ≤ w
theorem Bd.mono {k n w m v j : Nat} {d : PyData} (h : Bd k n w d) (c : k ≤ j) (a : n ≤ m) (b : w ≤ v) : Bd j m v d := ⟨gd_mono c d h.g, Nat.le_trans h.dp a, Nat.le_trans h.wt b⟩
theorem Bd.shs {k n w : Nat} {d : PyData} (h : Bd k n w d) : Shs k n w d := ⟨(gd_lvs d h.g).1, h.dp, h.wt⟩
theorem Bd.shaped {k n w : Nat} {d : PyData} (h : Bd k n w d) (hn : n ≤ 64) : SeqAt.shaped d = true := by
  unfold SeqAt.shaped
  rw [(gd_lvs d h.g).2, decide_eq_true (Nat.le_trans h.dp hn)]
  rfl
theorem depA_mem {n : Nat} : ∀ {ds : List PyData} {d : PyData}, d ∈ ds → PyData.depthAll ds ≤ n → d.depth ≤ n
  | x :: xs, d, hd, h => by
    simp only [PyData.depthAll] at h
    rcases List.mem_cons.mp hd with rfl | hd
    · omega
    · exact depA_mem hd (by omega)
theorem weiA_mem : ∀ {ds : List PyData} {d : PyData}, d ∈ ds → d.weight + 1 ≤ PyData.weightAll ds
  | x :: xs, d, hd => by
    simp only [PyData.weightAll]
    rcases List.mem_cons.mp hd with rfl | hd
    · omega
    · have := weiA_mem hd
      omega
/-- the items of a list or tuple that is small enough -/
structure BdA (k n w : Nat) (ds : List PyData) : Prop where
  g : gdA k ds = true
  dp : PyData.depthAll ds ≤ n
  wt : PyData.weightAll ds ≤ w
theorem BdA.get {k n w : Nat} {ds : List PyData} (h : BdA k n w ds) {d : PyData} (hd : d ∈ ds) : Bd k n w d := ⟨gdA_all.mp h.g d hd, depA_mem hd h.dp, by have := weiA_mem hd; have := h.wt; omega⟩
theorem BdA.tup {k n w : Nat} {ds : List PyData} (h : BdA k n w ds) : Bd k (n + 1) w (.tuple ds) := ⟨by simpa only [gd] using h.g, by have := h.dp; simp only [PyData.depth]; omega, by simpa only [PyData.weight] using h.wt⟩
theorem BdA.lst {k n w : Nat} {ds : List PyData} (h : BdA k n w ds) : Bd k (n + 1) w (.list ds) := ⟨by simpa only [gd] using h.g, by have := h.dp; simp only [PyData.depth]; omega, by simpa only [PyData.weight] using h.wt⟩
theorem Bd.itemsT {k n w : Nat} {ds : List PyData} (h : Bd k n w (.tuple ds)) : 1 ≤ n ∧ BdA k (n - 1) w ds := by
  have := h.dp
  simp only [PyData.depth] at this
  exact ⟨by omega, ⟨by simpa only [gd] using h.g, by omega, by simpa only [PyData.weight] using h.wt⟩⟩
theorem Bd.itemsL {k n w : Nat} {ds : List PyData} (h : Bd k n w (.list ds)) : 1 ≤ n ∧ BdA k (n - 1) w ds := by
  have := h.dp
  simp only [PyData.depth] at this
  exact ⟨by omega, ⟨by simpa only [gd] using h.g, by omega, by simpa only [PyData.weight] using h.wt⟩⟩
theorem weiA_app : ∀ (xs ys : List PyData), PyData.weightAll (xs ++ ys) = PyData.weightAll xs + PyData.weightAll ys
  | [], ys => by simp [PyData.weightAll]
  | x :: xs, ys => by
    simp only [List.cons_append, PyData.weightAll, weiA_app xs ys]
    omega
theorem depA_app : ∀ (xs ys : List PyData), PyData.depthAll (xs ++ ys) = max (PyData.depthAll xs) (PyData.depthAll ys)
  | [], ys => by simp [PyData.depthAll]
  | x :: xs, ys => by
    simp only [List.cons_append, PyData.depthAll, depA_app xs ys]
    omega
theorem BdA.app {k n w m v : Nat} {xs ys : List PyData} (h : BdA k n w xs) (g : BdA k m v ys) : BdA k (max n m) (w + v) (xs ++ ys) := by
  refine ⟨gdA_all.mpr fun x hx => ?_, ?_, ?_⟩
  · rcases List.mem_append.mp hx with hx | hx
    · exact gdA_all.mp h.g x hx
    · exact gdA_all.mp g.g x hx
  · have := h.dp
    have := g.dp
    rw [depA_app]
    omega
  · have := h.wt
    have := g.wt
    rw [weiA_app]
    omega
theorem BdA.one {k n w : Nat} {x : PyData} (h : Bd k n w x) : BdA k n (w + 1) [x] := ⟨by simp only [gdA, h.g]; rfl, by have := h.dp; simp only [PyData.depthAll]; omega, by have := h.wt; simp only [PyData.weightAll]; omega⟩
/-- part of the items -/
theorem BdA.part {k n w : Nat} {xs ys zs : List PyData} (h : BdA k n w (xs ++ ys ++ zs)) : BdA k n (PyData.weightAll xs) xs ∧ BdA k n (PyData.weightAll ys) ys ∧ BdA k n (PyData.weightAll zs) zs ∧ PyData.weightAll xs + PyData.weightAll ys + PyData.weightAll zs ≤ w := by
  have a := h.dp
  have b := h.wt
  rw [depA_app, depA_app] at a
  rw [weiA_app, weiA_app] at b
  have c := gdA_all.mp h.g
  exact ⟨⟨gdA_all.mpr fun x hx => c x (List.mem_append_left _ (List.mem_append_left _ hx)), by omega, Nat.le_refl _⟩,
    ⟨gdA_all.mpr fun x hx => c x (List.mem_append_left _ (List.mem_append_right _ hx)), by omega, Nat.le_refl _⟩,
    ⟨gdA_all.mpr fun x hx => c x (List.mem_append_right _ hx), by omega, Nat.le_refl _⟩, b⟩
theorem BdA.mono {k n w m v j : Nat} {d : List PyData} (h : BdA k n w d) (c : k ≤ j) (a : n ≤ m) (b : w ≤ v) : BdA j m v d := ⟨gdA_mono c d h.g, Nat.le_trans h.dp a, Nat.le_trans h.wt b⟩
/-- repr(x) of any thing -/
def rReprX (K : PySem.W.Frag) : List V → Hp → VK → Prop := fun xs H Q => ∃ v d, xs = [v] ∧ Dp K H v d ∧ Sho d ∧ Q (.str d.shown) H
theorem cr_reprX {X : Cx} (hg : X.A.guards = some []) (hu : X.A.units + 65 < cLine) : CallR X (.builtin "repr") (rReprX X.K) := by
  intro pins s σ H vs us Q I r h
  obtain ⟨v, d, rfl, hd, sh, q⟩ := h
  cases hd with
  | non =>
    obtain ⟨u, rfl, r1⟩ := vals1 r
    cases r1
    exact PySem.P.repr_of_none ⟨.str _, H, I.tok _, ⟨_, rfl⟩, q⟩
  | bl b =>
    obtain ⟨u, rfl, r1⟩ := vals1 r
    cases r1
    exact PySem.P.repr_of_bool ⟨.str _, H, I.tok _, ⟨_, rfl⟩, by cases b <;> exact q⟩
  | int i =>
    obtain ⟨u, rfl, t, rfl⟩ := vals1 r
    have hs := sh.s
    simp only [PyData.showable] at hs
    exact PySem.P.repr_of_int (of_decide_eq_true hs) ⟨.str _, H, I.tok _, ⟨_, rfl⟩, q⟩
  | str z =>
    obtain ⟨u, rfl, t, rfl⟩ := vals1 r
    exact PySem.P.repr_of_str ⟨.str _, H, I.tok _, ⟨_, rfl⟩, q⟩ sh.len
  | lst h1 h2 => exact cr_repr hg hu pins s σ H _ us Q I r ⟨_, _, rfl, .lst h1 h2, sh, q⟩
  | tup h1 h2 => exact cr_repr hg hu pins s σ H _ us Q I r ⟨_, _, rfl, .tup h1 h2, sh, q⟩
/-! things, standing away from some lists -/
mutual
inductive Tg (p : Addr → Prop) (H : Hp) : V → PyData → Prop
  | non : Tg p H .non .none
  | bl (b : Bool) : Tg p H (.bl b) (.bool b)
  | int (i : Int) : Tg p H (.int i) (.int i)
  | str (x : Str) : Tg p H (.str x) (.str x)
  | lst {a : Addr} {xs : List V} {ds : List PyData} : ¬ p a → H a = some (.lst xs) → TgA p H xs ds → Tg p H (.ref a) (.list ds)
  | tup {a : Addr} {xs : List V} {ds : List PyData} : ¬ p a → H a = some (.tup xs) → TgA p H xs ds → Tg p H (.ref a) (.tuple ds)
inductive TgA (p : Addr → Prop) (H : Hp) : List V → List PyData → Prop
  | nil : TgA p H [] []
  | cons {v : V} {vs : List V} {d : PyData} {ds : List PyData} : Tg p H v d → TgA p H vs ds → TgA p H (v :: vs) (d :: ds)
end
mutual
theorem Tg.to {p q : Addr → Prop} {H H' : Hp} (s : ∀ a o, ¬ p a → H a = some o → H' a = some o ∧ ¬ q a) : ∀ (d : PyData) (v : V), Tg p H v d → Tg q H' v d
  | .none, _, h => by cases h; exact .non
  | .bool b, _, h => by cases h; exact .bl b
  | .int i, _, h => by cases h; exact .int i
  | .str x, _, h => by cases h; exact .str x
  | .list ds, _, h => by
    cases h with
    | lst n e t => exact .lst (s _ _ n e).2 (s _ _ n e).1 (TgA.to s ds _ t)
  | .tuple ds, _, h => by
    cases h with
    | tup n e t => exact .tup (s _ _ n e).2 (s _ _ n e).1 (TgA.to s ds _ t)
  | .dict _, _, h => by cases h
theorem TgA.to {p q : Addr → Prop} {H H' : Hp} (s : ∀ a o, ¬ p a → H a = some o → H' a = some o ∧ ¬ q a) : ∀ (ds : List PyData) (vs : List V), TgA p H vs ds → TgA q H' vs ds
  | [], _, h => by cases h; exact .nil
  | d :: ds, _, h => by
    cases h with
    | cons a b => exact .cons (Tg.to s d _ a) (TgA.to s ds _ b)
end
theorem Tg.keep {p : Addr → Prop} {H H' : Hp} {v : V} {d : PyData} (h : Tg p H v d) (s : ∀ a o, ¬ p a → H a = some o → H' a = some o) : Tg p H' v d := h.to fun a o n e => ⟨s a o n e, n⟩
theorem TgA.keep {p : Addr → Prop} {H H' : Hp} {v : List V} {d : List PyData} (h : TgA p H v d) (s : ∀ a o, ¬ p a → H a = some o → H' a = some o) : TgA p H' v d := h.to fun a o n e => ⟨s a o n e, n⟩
theorem Tg.but {l : Addr} {H H' : Hp} {v : V} {d : PyData} (h : Tg (· = l) H v d) (s : But l H H') : Tg (· = l) H' v d := h.keep s
theorem Tg.same {p : Addr → Prop} {H H' : Hp} {v : V} {d : PyData} (h : Tg p H v d) (s : Same H H') : Tg p H' v d := h.keep fun a o _ e => s a o e
theorem TgA.same {p : Addr → Prop} {H H' : Hp} {v : List V} {d : List PyData} (h : TgA p H v d) (s : Same H H') : TgA p H' v d := h.keep fun a o _ e => s a o e
theorem TgA.but {l : Addr} {H H' : Hp} {v : List V} {d : List PyData} (h : TgA (· = l) H v d) (s : But l H H') : TgA (· = l) H' v d := h.keep s
/-- away from a list that is new -/
theorem Tg.new {p : Addr → Prop} {l : Addr} {H : Hp} {v : V} {d : PyData} {o : HO} (h : Tg p H v d) (n : H l = none) : Tg (· = l) (upd H l o) v d := h.to fun a x _ e => ⟨same_upd n a x e, ne_of_none e n⟩
mutual
theorem Tg.dp {K : PySem.W.Frag} {p : Addr → Prop} {H : Hp} : ∀ (d : PyData) (v : V), Tg p H v d → Dp K H v d
  | .none, _, h => by cases h; exact .non
  | .bool b, _, h => by cases h; exact .bl b
  | .int i, _, h => by cases h; exact .int i
  | .str x, _, h => by cases h; exact .str x
  | .list ds, _, h => by
    cases h with
    | lst n e t => exact .lst (SqL.mk e) (TgA.dp ds _ t)
  | .tuple ds, _, h => by
    cases h with
    | tup n e t => exact .tup (SqT.mk e) (TgA.dp ds _ t)
  | .dict _, _, h => by cases h
theorem TgA.dp {K : PySem.W.Frag} {p : Addr → Prop} {H : Hp} : ∀ (ds : List PyData) (vs : List V), TgA p H vs ds → DpAll K H vs ds
  | [], _, h => by cases h; exact .nil
  | d :: ds, _, h => by
    cases h with
    | cons a b => exact .cons (Tg.dp d _ a) (TgA.dp ds _ b)
end
theorem TgA.len {p : Addr → Prop} {H : Hp} : ∀ {ds : List PyData} {vs : List V}, TgA p H vs ds → vs.length = ds.length
  | [], _, h => by cases h; rfl
  | d :: ds, _, h => by
    cases h with
    | cons a b => rw [List.length_cons, List.length_cons, TgA.len b]
theorem TgA.get {p : Addr → Prop} {H : Hp} : ∀ {ds : List PyData} {vs : List V}, TgA p H vs ds → ∀ {i : Nat} {v : V}, vs[i]? = some v → ∃ d, ds[i]? = some d ∧ Tg p H v d
  | [], _, h, i, v, e => by cases h; cases e
  | d :: ds, _, h, i, v, e => by
    cases h with
    | cons a b =>
      cases i with
      | zero => cases e; exact ⟨d, rfl, a⟩
      | succ i => exact TgA.get b (by simpa using e)
theorem TgA.app {p : Addr → Prop} {H : Hp} {ds es : List PyData} {vs us : List V} (h : TgA p H vs ds) (g : TgA p H us es) : TgA p H (vs ++ us) (ds ++ es) := by
  induction ds generalizing vs with
  | nil => cases h; exact g
  | cons d ds ih =>
    cases h with
    | cons a b => exact .cons a (ih b)
theorem TgA.split {p : Addr → Prop} {H : Hp} : ∀ {ds : List PyData} {vs : List V}, TgA p H vs ds → ∀ i : Nat, TgA p H (vs.take i) (ds.take i) ∧ TgA p H (vs.drop i) (ds.drop i)
  | [], _, h, i => by cases h; simp only [List.take_nil, List.drop_nil]; exact ⟨.nil, .nil⟩
  | d :: ds, _, h, i => by
    cases h with
    | cons a b =>
      cases i with
      | zero => exact ⟨.nil, .cons a b⟩
      | succ i => exact ⟨.cons a (TgA.split b i).1, (TgA.split b i).2⟩
def isIntD : PyData → Bool
  | .int _ => true
  | _ => false
def isBlD : PyData → Bool
  | .bool _ => true
  | _ => false
def isStrD : PyData → Bool
  | .str _ => true
  | _ => false
def isTupD : PyData → Bool
  | .tuple _ => true
  | _ => false
def isLstD : PyData → Bool
  | .list _ => true
  | _ => false
theorem kit2 {K : PySem.W.Frag} {t : String} {a b : Bool} (h1 : kitB t "tuple" = some a) (h2 : kitB t "list" = some b) : PySem.W.kitAny K (.type t) [.type "tuple", .type "list"] = some (a || b) :=
  kitAny_cons (kit_ty h1) (fun e => by subst e; exact kitAny_cons (r := b) (kit_ty h2) (fun e => by subst e; exact kitAny_nil) (fun e => e)) (fun e => by rw [e]; rfl)
theorem Tg.ty {K : PySem.W.Frag} {p : Addr → Prop} {H : Hp} {v : V} {d : PyData} (h : Tg p H v d) : ∃ t, TyX K H v t ∧ PySem.W.kitOne K t (.type "int") = some (isIntD d || isBlD d) ∧ PySem.W.kitOne K t (.type "bool") = some (isBlD d) ∧ PySem.W.kitOne K t (.type "tuple") = some (isTupD d) ∧
    PySem.W.kitOne K t (.type "str") = some (isStrD d) ∧ PySem.W.kitAny K t [.type "tuple", .type "list"] = some (isTupD d || isLstD d) := by
  cases h with
  | non => exact ⟨_, .base .non, kit_ty (by show _ = some false; decide +kernel), kit_ty (by show _ = some false; decide +kernel), kit_ty (by show _ = some false; decide +kernel), kit_ty (by show _ = some false; decide +kernel), kit2 (a := false) (b := false) (by decide +kernel) (by decide +kernel)⟩
  | bl b => exact ⟨_, .base (.bl b), kit_ty (by show _ = some true; decide +kernel), kit_ty (by show _ = some true; decide +kernel), kit_ty (by show _ = some false; decide +kernel), kit_ty (by show _ = some false; decide +kernel), kit2 (a := false) (b := false) (by decide +kernel) (by decide +kernel)⟩
  | int b => exact ⟨_, .base (.int b), kit_ty (by show _ = some true; decide +kernel), kit_ty (by show _ = some false; decide +kernel), kit_ty (by show _ = some false; decide +kernel), kit_ty (by show _ = some false; decide +kernel), kit2 (a := false) (b := false) (by decide +kernel) (by decide +kernel)⟩
  | str b => exact ⟨_, .base (.str b), kit_ty (by show _ = some false; decide +kernel), kit_ty (by show _ = some false; decide +kernel), kit_ty (by show _ = some false; decide +kernel), kit_ty (by show _ = some true; decide +kernel), kit2 (a := false) (b := false) (by decide +kernel) (by decide +kernel)⟩
  | lst ne h => exact ⟨_, .base (.lst h), kit_ty (by show _ = some false; decide +kernel), kit_ty (by show _ = some false; decide +kernel), kit_ty (by show _ = some false; decide +kernel), kit_ty (by show _ = some false; decide +kernel), kit2 (a := false) (b := true) (by decide +kernel) (by decide +kernel)⟩
  | tup ne h => exact ⟨_, .base (.tup h), kit_ty (by show _ = some false; decide +kernel), kit_ty (by show _ = some false; decide +kernel), kit_ty (by show _ = some true; decide +kernel), kit_ty (by show _ = some false; decide +kernel), kit2 (a := true) (b := false) (by decide +kernel) (by decide +kernel)⟩
/-! a tuple so many times -/
theorem tuple_once (l : Addr) (items : Array Value) (n : Nat) (dd : Option Addr) (sl : Array (Option Value)) (u : Tok) :
    Meets (Builtin.«tuple.__mul__» ⟨[.ref l, .int 1 u], []⟩) (fun _ R s => s.heap.get? l = some { cls := .type "tuple", dict := dd, data := .seq items n, slots := sl } ∧ R (.ok (.ret (Value.ref l))) { s with toks := s.toks }) :=
  .of_wp fun prog w A R s h => by
    obtain ⟨hp, g, d, tk, os⟩ := s
    obtain ⟨hl, h⟩ := h
    have f1 := AutoSeq1.idx_int
    have c1 : (items.isEmpty || (1 : Int) == 1) = true := by simp
    wp_walk using wpAny_loadPart' hl
    repeat (first
      | (refine wpAny_ite_true (decide_eq_true c1) ?_; wp_walk using wpAny_loadPart' hl)
      | (refine wpAny_ite_false (decide_eq_false (by decide)) ?_; wp_walk using wpAny_loadPart' hl))
    exact ⟨_, rfl, h⟩
def rRepA (K : PySem.W.Frag) : R2 := fun x y H Q => ∃ (l : Addr) (k : Nat) (xs : List V), x = .ref l ∧ y = .int (k : Nat) ∧ SqT K H l xs ∧ xs ≠ [] ∧ 1 ≤ k ∧ xs.length * k ≤ 1000000 ∧ (k = 1 → Q (.ref l) H) ∧
  (2 ≤ k → ∀ p, H p = none → Q (.ref p) (upd H p (.tup (List.replicate k xs).flatten)))
theorem op_repA {X : Cx} : OpR X (binaryOp .Mult) (rRepA X.K) := by
  intro pins s σ H x y v u Q I rx ry h
  obtain ⟨l, k, xs, rfl, rfl, hT, hne, h1, hz, q1, q2⟩ := h
  cases rx
  obtain ⟨t, rfl⟩ := ry
  obtain ⟨its, r, ⟨⟨cls, dd, data, sl⟩, ho, hc, n, hd⟩, hs⟩ := I.tuple hT
  simp only at hc hd
  subst hc hd
  have lx : 0 < xs.length := List.length_pos_iff.mpr hne
  have le : its.length = xs.length := r.length.symm
  have ke : k * xs.length ≤ 1000000 := by
    rw [Nat.mul_comm]
    exact hz
  have kl : k ≤ 1000000 := Nat.le_trans (Nat.le_mul_of_pos_right k lx) ke
  have ne : its.toArray.isEmpty = false := by
    cases its with
    | nil =>
      rw [← le] at lx
      cases lx
    | cons a b => rfl
  by_cases k1 : k = 1
  · subst k1
    refine wpAny_binaryOp_repeat_ref (T := "tuple") (U := "int") (by decide) ⟨_, ho, rfl⟩ (fun s' => typeIs_int s' _ t) noFill_tuple_mul F.fills_int_mul F.slot_int_rmul repeat_tuple F.slot_int_index.lookup
      (call_meets F.slot_int_rmul (typeIs_int s _ t) F.entry_int_rmul (F.args_int_rmul_2 _ _) (int_rmul_tuple _ t l its.toArray n dd sl)
        ⟨ho, rfl, ⟨_, ho, rfl⟩, call_meets F.slot_tuple_mul ⟨_, ho, rfl⟩ F.entry_tuple_mul (F.args_tuple_mul_2 _ _) (tuple_once l its.toArray n dd sl t) ⟨ho, ?_⟩⟩)
    exact ⟨.ref l, H, I, rfl, q1 rfl⟩
  · have k2 : 2 ≤ k := by omega
    have sz : its.toArray.size = xs.length := by rw [List.size_toArray, le]
    have pr : ((its.toArray.size : Nat) : Int) * (k : Int) ≤ 1000000 := by
      rw [sz, ← Int.natCast_mul]
      omega
    have fl : (List.replicate k its).flatten.length ≤ sizeLine := by
      rw [PyProof.Rows.lm_len_rep_flat, le, sizeLine_eq]
      omega
    have d0 : (decide ((k : Int) < -(2 ^ 63)) || decide ((k : Int) ≥ 2 ^ 63)) = false := by
      rw [decide_eq_false (show ¬ (k : Int) < -(2 ^ 63) by omega), decide_eq_false (show ¬ (k : Int) ≥ 2 ^ 63 by omega)] <;> rfl
    have d1 : (its.toArray.isEmpty || (k : Int) == 1) = false := by
      rw [ne, Bool.false_or]
      exact beq_eq_false_iff_ne.mpr (by omega)
    have d2 : (decide ((k : Int) ≤ 0) || its.toArray.isEmpty) = false := by
      rw [ne, Bool.or_false]
      exact decide_eq_false (by omega)
    have d4 : Builtin.Tuple.tupleTooMany (((its.toArray.size : Nat) : Int) * (k : Int)) = false := by
      unfold Builtin.Tuple.tupleTooMany
      rw [sizeLine_eq]
      exact decide_eq_false (by omega)
    refine wpAny_binaryOp_repeat_ref (T := "tuple") (U := "int") (by decide) ⟨_, ho, rfl⟩ (fun s' => typeIs_int s' _ t) noFill_tuple_mul F.fills_int_mul F.slot_int_rmul repeat_tuple F.slot_int_index.lookup
      (call_meets F.slot_int_rmul (typeIs_int s _ t) F.entry_int_rmul (F.args_int_rmul_2 _ _) (int_rmul_tuple _ t l its.toArray n dd sl)
        ⟨ho, rfl, ⟨_, ho, rfl⟩, call_meets F.slot_tuple_mul ⟨_, ho, rfl⟩ F.entry_tuple_mul (F.args_tuple_mul_2 _ _) (tuple_mulW l its.toArray n dd sl (k : Int) t d0 d1 d2 (by omega) d4 (by rw [Int.toNat_natCast, size_rep, List.size_toArray]; exact fl)) ⟨ho, ?_⟩⟩)
    rw [Int.toNat_natCast, size_rep]
    refine ⟨.ref s.heap.objs.size, _, I.laid (t' := s.toks) (o := .tup (List.replicate k xs).flatten) (fun b ob q => Heap.get?_push_of_some _ q) (Nat.le_refl _) ⟨?_, _, r.rep k, IsTup.new _ _⟩, rfl, q2 k2 _ (I.hok.fresh (Nat.le_refl _))⟩
    rw [PyProof.Rows.lm_len_rep_flat, sizeLine_eq]
    omega
/-! the law's own rows -/
def Bits (rs : List Int) : Prop := ∀ x, x ∈ rs → x = 0 ∨ x = 1
theorem Bits.snoc {rs : List Int} {x : Int} (h : Bits rs) (hx : x = 0 ∨ x = 1) : Bits (rs ++ [x]) := fun y hy => by
  rcases List.mem_append.mp hy with hy | hy
  · exact h y hy
  · rw [List.mem_singleton] at hy
    rw [hy]
    exact hx
theorem but_newer {p q : Addr} {H H' : Hp} {o : HO} (a : But p H H') (n : H q = none) : But p H (upd H' q o) := fun c x hn e => by
  rw [upd_ne (ne_of_none e n)]
  exact a c x hn e
theorem Bx.other {H : Hp} {p q : Addr} {n : Nat} {o : HO} (h : Bx H p n) (nq : q ≠ p) : Bx (L2.upd H q o) p n := by
  obtain ⟨a, b, c, hp, r⟩ := h
  exact ⟨a, b, c, by rw [upd_ne (Ne.symm nq)]; exact hp, r⟩
def PV (p D : Addr) (HX : Hp) (k i : Nat) (H1 : Hp) : Prop := ∃ rs : List Int, rs.length = i ∧ Bits rs ∧ But p HX H1 ∧ Bx H1 p (k + i) ∧ H1 D = some (.lst (rs.map V.int))
theorem pv_start {p D : Addr} {HX : Hp} {k : Nat} (nD : HX D = none) (B : Bx HX p k) : PV p D HX k 0 (upd HX D (.lst [])) := ⟨[], rfl, fun _ h => (by cases h), (But.refl p HX).new nD, B.new nD, upd_same⟩
theorem pv_step {p D : Addr} {HX H1 H4 : Hp} {k i : Nat} {x : Int} (nD : HX D = none) (Dp : D ≠ p) (h : PV p D HX k i H1) (b : But p H1 H4) (B : Bx H4 p (k + (i + 1))) (hi : i < 100000) (hx : x = 0 ∨ x = 1) :
    ∃ acc, H4 D = some (.lst acc) ∧ acc.length < sizeLine ∧ PV p D HX k (i + 1) (upd H4 D (.lst (acc ++ [.int x]))) := by
  obtain ⟨rs, hl, hb, b1, _, hD⟩ := h
  have hsl : sizeLine = 16777216 := by decide
  refine ⟨_, b _ _ Dp hD, by rw [List.length_map]; omega, rs ++ [x], by rw [List.length_append, hl]; rfl, hb.snoc hx, but_newer (b1.trans b) nD, B.other Dp, ?_⟩
  rw [upd_same, List.map_append]
  rfl
theorem rep_one (m : Nat) (x : Int) : (List.replicate m [V.int x]).flatten = (List.replicate m x).map V.int := by
  rw [List.map_replicate]
  induction m with
  | zero => rfl
  | succ m ih => rw [List.replicate_succ, List.flatten_cons, ih, List.replicate_succ]; rfl
/-! a tuple no times, too -/
theorem tuple_nought (l : Addr) (items : Array Value) (n : Nat) (dd : Option Addr) (sl : Array (Option Value)) (u : Tok) (hi : items.isEmpty = false) :
    Meets (Builtin.«tuple.__mul__» ⟨[.ref l, .int 0 u], []⟩) (fun _ R s => s.heap.get? l = some { cls := .type "tuple", dict := dd, data := .seq items n, slots := sl } ∧ R (.ok (.ret (Value.ref s.heap.objs.size))) { s with heap := s.heap.push { cls := Value.type "tuple", data := Data.seq #[] }, toks := s.toks }) :=
  .of_wp fun prog w A R s h => by
    obtain ⟨hp, g, d, tk, os⟩ := s
    obtain ⟨hl, h⟩ := h
    have f1 := AutoSeq1.idx_int
    have c1 : (items.isEmpty || (0 : Int) == 1) = false := by rw [hi]; rfl
    have c2 : (decide ((0 : Int) ≤ 0) || items.isEmpty) = true := by simp
    wp_walk using wpAny_loadPart' hl
    repeat (first
      | (refine wpAny_ite_false (decide_eq_false (by rw [c1]; exact Bool.false_ne_true)) ?_; wp_walk using wpAny_loadPart' hl)
      | (refine wpAny_ite_true (decide_eq_true c2) ?_; wp_walk using wpAny_loadPart' hl)
      | (refine wpAny_ite_false (decide_eq_false (by decide)) ?_; wp_walk using wpAny_loadPart' hl))
    exact ⟨_, rfl, h⟩
def rRepB (K : PySem.W.Frag) : R2 := fun x y H Q => ∃ (l : Addr) (k : Nat) (xs : List V), x = .ref l ∧ y = .int (k : Nat) ∧ SqT K H l xs ∧ xs ≠ [] ∧ xs.length * k ≤ 1000000 ∧ (k = 1 → Q (.ref l) H) ∧
  (k ≠ 1 → ∀ p, H p = none → Q (.ref p) (upd H p (.tup (List.replicate k xs).flatten)))
theorem op_repB {X : Cx} : OpR X (binaryOp .Mult) (rRepB X.K) := by
  intro pins s σ H x y v u Q I rx ry h
  obtain ⟨l, k, xs, rfl, rfl, hT, hne, hz, q1, q2⟩ := h
  by_cases k0 : k = 0
  · subst k0
    cases rx
    obtain ⟨t, rfl⟩ := ry
    obtain ⟨its, r, ⟨⟨cls, dd, data, sl⟩, ho, hc, n, hd⟩, hs⟩ := I.tuple hT
    simp only at hc hd
    subst hc hd
    have le : its.length = xs.length := r.length.symm
    have ne : its.toArray.isEmpty = false := by
      cases its with
      | nil => exact absurd (List.eq_nil_of_length_eq_zero le.symm) hne
      | cons a b => rfl
    refine wpAny_binaryOp_repeat_ref (T := "tuple") (U := "int") (by decide) ⟨_, ho, rfl⟩ (fun s' => typeIs_int s' _ t) noFill_tuple_mul F.fills_int_mul F.slot_int_rmul repeat_tuple F.slot_int_index.lookup
      (call_meets F.slot_int_rmul (typeIs_int s _ t) F.entry_int_rmul (F.args_int_rmul_2 _ _) (int_rmul_tuple _ t l its.toArray n dd sl)
        ⟨ho, rfl, ⟨_, ho, rfl⟩, call_meets F.slot_tuple_mul ⟨_, ho, rfl⟩ F.entry_tuple_mul (F.args_tuple_mul_2 _ _) (tuple_nought l its.toArray n dd sl t ne) ⟨ho, ?_⟩⟩)
    exact ⟨.ref s.heap.objs.size, _, I.laid (t' := s.toks) (o := .tup []) (fun b ob q => Heap.get?_push_of_some _ q) (Nat.le_refl _) ⟨Nat.zero_le _, [], .nil, IsTup.new _ _⟩, rfl, q2 (by decide) _ (I.hok.fresh (Nat.le_refl _))⟩
  · exact op_repA pins s σ H _ _ v u Q I rx ry ⟨l, k, xs, rfl, rfl, hT, hne, by omega, hz, q1, fun z => q2 (by omega)⟩
/-- (x,) so many times -/
theorem rep_go {K : PySem.W.Frag} {H : Hp} {t : Addr} {x v : Int} {k : Nat} {Q : VK} (hv : v = (k : Nat)) (ht : H t = some (.tup [.int x])) (hk : k ≤ 100000) (q : ∀ H' p, Same H H' → H' p = some (.tup ((List.replicate k x).map V.int)) → Q (.ref p) H') : rRepB K (.ref t) (.int v) H Q := by
  subst hv
  refine ⟨t, k, _, rfl, rfl, SqT.mk ht, by simp, (show 1 * k ≤ 1000000 by omega), fun z => ?_, fun z p np => ?_⟩
  · subst z
    exact q H t (Same.refl H) ht
  · exact q _ p (same_upd np) (by rw [upd_same, rep_one])
theorem cat_go {K : PySem.W.Frag} {H : Hp} {a b : Addr} {rs ss : List Int} {Q : VK} (ha : H a = some (.tup (rs.map V.int))) (hb : H b = some (.tup (ss.map V.int))) (hl : rs.length + ss.length ≤ 100000)
    (q : ∀ H' p, Same H H' → H' p = some (.tup ((rs ++ ss).map V.int)) → Q (.ref p) H') : rCatA K (.ref a) (.ref b) H Q := by
  have hsl : sizeLine = 16777216 := by decide
  refine ⟨a, b, _, _, rfl, rfl, SqT.mk ha, SqT.mk hb, by rw [List.length_map, List.length_map]; omega, fun z => ?_, fun _ z => ?_, fun _ _ p np => ?_⟩
  · rw [List.map_eq_nil_iff.mp z] at q
    exact q H b (Same.refl H) hb
  · rw [List.map_eq_nil_iff.mp z] at q
    exact q H a (Same.refl H) (by rw [List.append_nil]; exact ha)
  · exact q _ p (same_upd np) (by rw [upd_same, List.map_append])
theorem catK {X : Cx} {K : PySem.W.Frag} (h : X.K = K) : OpR X (binaryOp .Add) (rCatA K) := by
  subst h
  exact op_catA
theorem zipAK {X : Cx} {K : PySem.W.Frag} {e e2 : Expr} {ta : TA} {p pos tpos : Pos} {elts : List Expr} {kk : Nat} (h : X.K = K) (hg : Gl X "zip") (hm : X.mg "zip" = none) (ha : PA X [e, e2] ta)
    (hs : starEach [e, e2] X.env = (false, eval e X.env) :: starEach [e2] X.env := by rfl) (hpl : (backTo pos (starEach [e2] X.env)).any (·.1) = false := by rfl) :
    PI X (.Tuple elts kk tpos) (.Call (.Name "zip" p) [e, e2] [] pos) (RZ.iZipA K ta) := by
  subst h
  exact RZ.pi_zipA hg hm ha hs hpl
def sp_is_number (K : PySem.W.Frag) : Sp := fun vs H Q _ => ∃ (p : Addr → Prop) (x : V) (d : PyData), vs = [x] ∧ Tg p H x d ∧ Q (.bl (isIntD d)) H
def withinD (d : PyData) (lo hi : Int) : Bool := match d with
  | .int i => decide (lo ≤ i ∧ i ≤ hi)
  | _ => false
def sp_is_within (K : PySem.W.Frag) : Sp := fun vs H Q _ => ∃ (p : Addr → Prop) (x : V) (d : PyData) (lo hi : Int), vs = [x, .int lo, .int hi] ∧ Tg p H x d ∧ Q (.bl (withinD d lo hi)) H
/-! tuples joined, cut, repeated: one way on -/
def rCatS (_ : PySem.W.Frag) : R2 := fun x y H Q => ∃ a b xs ys, x = .ref a ∧ y = .ref b ∧ H a = some (.tup xs) ∧ H b = some (.tup ys) ∧ xs.length + ys.length ≤ sizeLine ∧ ∀ G c, Same H G → G c = some (.tup (xs ++ ys)) → Q (.ref c) G
theorem op_catS {X : Cx} : OpR X (binaryOp .Add) (rCatS X.K) := by
  intro pins s σ H x y v u Q I rx ry h
  obtain ⟨a, b, xs, ys, rfl, rfl, ha, hb, hz, q⟩ := h
  refine op_catA pins s σ H _ _ v u Q I rx ry ⟨a, b, xs, ys, rfl, rfl, SqT.mk ha, SqT.mk hb, hz, fun e => ?_, fun _ e => ?_, fun _ _ p np => ?_⟩
  · subst e
    exact q H b (Same.refl H) hb
  · subst e
    exact q H a (Same.refl H) (by rw [List.append_nil]; exact ha)
  · exact q _ p (same_upd np) upd_same
def rSlS (_ : PySem.W.Frag) : V → Option Int → Option Int → Hp → VK → Prop := fun x lo hi H Q => ∃ a xs, x = .ref a ∧ H a = some (.tup xs) ∧ ∀ G c, Same H G → G c = some (.tup (cutV xs lo hi)) → Q (.ref c) G
theorem sl_tupS {X : Cx} : SlR X (rSlS X.K) := by
  intro pins s σ H x v vl vu lo hi sl Q I rx hs pl pu h
  obtain ⟨a, xs, rfl, ha, q⟩ := h
  refine sl_tupA pins s σ H _ v vl vu lo hi sl Q I rx hs pl pu ⟨a, xs, rfl, SqT.mk ha, fun e => ?_, fun _ p np => ?_⟩
  · refine q H a (Same.refl H) ?_
    unfold cutV
    rw [e.1, e.2, List.drop_zero, Nat.sub_zero, List.take_length]
    exact ha
  · exact q _ p (same_upd np) upd_same
def rRepS (_ : PySem.W.Frag) : R2 := fun x y H Q => ∃ (l : Addr) (k : Nat) (v : V), x = .ref l ∧ y = .int (k : Nat) ∧ H l = some (.tup [v]) ∧ k ≤ 1000000 ∧ ∀ G c, Same H G → G c = some (.tup (List.replicate k v)) → Q (.ref c) G
theorem rep_flat {α : Type} (v : α) : ∀ k : Nat, (List.replicate k [v]).flatten = List.replicate k v
  | 0 => rfl
  | k + 1 => by rw [List.replicate_succ, List.flatten_cons, rep_flat v k, List.replicate_succ]; rfl
theorem op_repS {X : Cx} : OpR X (binaryOp .Mult) (rRepS X.K) := by
  intro pins s σ H x y v u Q I rx ry h
  obtain ⟨l, k, z, rfl, rfl, hl, hk, q⟩ := h
  refine op_repB pins s σ H _ _ v u Q I rx ry ⟨l, k, [z], rfl, rfl, SqT.mk hl, by simp, by simpa using hk, fun e => ?_, fun _ p np => ?_⟩
  · refine q H l (Same.refl H) ?_
    rw [e]
    exact hl
  · refine q _ p (same_upd np) ?_
    rw [rep_flat]
    exact upd_same
theorem cut_lo (xs : List V) (m : Nat) (h : m ≤ xs.length) : cutV xs none (some (m : Nat)) = xs.take m := by
  unfold cutV
  show (xs.drop 0).take _ = _
  rw [HT.sIx_nat, List.drop_zero, show HT.sIx xs.length 0 none = 0 from rfl, Nat.sub_zero, Nat.min_eq_left h]
theorem cut_hi (xs : List V) (m : Nat) : cutV xs (some (m : Nat)) none = xs.drop m := by
  unfold cutV
  rw [HT.sIx_nat, show HT.sIx xs.length xs.length none = xs.length from rfl]
  by_cases h : m ≤ xs.length
  · rw [Nat.min_eq_left h]
    exact List.take_of_length_le (by rw [List.length_drop]; exact Nat.le_refl _)
  · rw [Nat.min_eq_right (by omega), List.drop_of_length_le (Nat.le_refl _), List.drop_of_length_le (by omega), List.take_nil]
/-! str(x) of any thing -/
def strD (d : PyData) : Str := match d with
  | .str z => z
  | d => d.shown
def rStrX (K : PySem.W.Frag) : List V → Hp → VK → Prop := fun xs H Q => ∃ v d, xs = [v] ∧ Dp K H v d ∧ ((∃ z, d = .str z) ∨ Sho d) ∧ Q (.str (strD d)) H
theorem u70g {k : Nat} {A : Around} (r : Room k A) : A.units + 70 < cLine := by
  have := r.un
  omega
theorem call_strX {X : Cx} (hg : X.A.guards = some []) (hu : X.A.units + 70 < cLine) : CallR X (.type "str") (rStrX X.K) := by
  intro pins s σ H vs us Q I r h
  obtain ⟨v, d, rfl, hd, sh, q⟩ := h
  cases hd with
  | non =>
    obtain ⟨u, rfl, r1⟩ := vals1 r
    cases r1
    exact PySem.P.str_of_none ⟨.str _, H, I.tok _, ⟨_, rfl⟩, q⟩
  | bl b =>
    obtain ⟨u, rfl, r1⟩ := vals1 r
    cases r1
    exact PySem.P.str_of_bool ⟨.str _, H, I.tok _, ⟨_, rfl⟩, by cases b <;> exact q⟩
  | int i =>
    obtain ⟨u, rfl, t, rfl⟩ := vals1 r
    rcases sh with ⟨z, e⟩ | sh
    · cases e
    have hs := sh.s
    simp only [PyData.showable] at hs
    exact PySem.P.str_of_int (of_decide_eq_true hs) ⟨.str _, H, I.tok _, ⟨_, rfl⟩, q⟩
  | str z =>
    obtain ⟨u, rfl, t, rfl⟩ := vals1 r
    exact PySem.P.str_of_str ⟨.str _, H, I, ⟨_, rfl⟩, q⟩
  | lst h1 h2 =>
    rcases sh with ⟨z, e⟩ | sh
    · cases e
    obtain ⟨shs, nd, dd, sz⟩ := sh
    rw [Vals.ref1 r]
    obtain ⟨as, rd⟩ := Dp.reads I _ (.ref _) (.ref _) (Dp.lst h1 h2) rfl
    refine str_of_reads rd shs (fun z => by rw [nd] at z; cases z) hg (by omega) (fun _ _ e => e) (fun h' u tk hk => ?_) sz
    exact ⟨.str _, H, I.kept (t' := tk) hk, ⟨_, rfl⟩, q⟩
  | tup h1 h2 =>
    rcases sh with ⟨z, e⟩ | sh
    · cases e
    obtain ⟨shs, nd, dd, sz⟩ := sh
    rw [Vals.ref1 r]
    obtain ⟨as, rd⟩ := Dp.reads I _ (.ref _) (.ref _) (Dp.tup h1 h2) rfl
    refine str_of_reads rd shs (fun z => by rw [nd] at z; cases z) hg (by omega) (fun _ _ e => e) (fun h' u tk hk => ?_) sz
    exact ⟨.str _, H, I.kept (t' := tk) hk, ⟨_, rfl⟩, q⟩
/-! things with tables about -/
mutual
theorem Tg.kp {p q : Addr → Prop} {H H' : Hp} (s1 : ∀ a xs, ¬ p a → H a = some (.lst xs) → H' a = some (.lst xs) ∧ ¬ q a) (s2 : ∀ a xs, ¬ p a → H a = some (.tup xs) → H' a = some (.tup xs) ∧ ¬ q a) : ∀ (d : PyData) (v : V), Tg p H v d → Tg q H' v d
  | .none, _, h => by cases h; exact .non
  | .bool b, _, h => by cases h; exact .bl b
  | .int i, _, h => by cases h; exact .int i
  | .str x, _, h => by cases h; exact .str x
  | .list ds, _, h => by
    cases h with
    | lst n e t => exact .lst (s1 _ _ n e).2 (s1 _ _ n e).1 (TgA.kp s1 s2 ds _ t)
  | .tuple ds, _, h => by
    cases h with
    | tup n e t => exact .tup (s2 _ _ n e).2 (s2 _ _ n e).1 (TgA.kp s1 s2 ds _ t)
  | .dict _, _, h => by cases h
theorem TgA.kp {p q : Addr → Prop} {H H' : Hp} (s1 : ∀ a xs, ¬ p a → H a = some (.lst xs) → H' a = some (.lst xs) ∧ ¬ q a) (s2 : ∀ a xs, ¬ p a → H a = some (.tup xs) → H' a = some (.tup xs) ∧ ¬ q a) : ∀ (ds : List PyData) (vs : List V), TgA p H vs ds → TgA q H' vs ds
  | [], _, h => by cases h; exact .nil
  | d :: ds, _, h => by
    cases h with
    | cons a b => exact .cons (Tg.kp s1 s2 d _ a) (TgA.kp s1 s2 ds _ b)
end
theorem Tg.sam {p : Addr → Prop} {H H' : Hp} {v : V} {d : PyData} (h : Tg p H v d) (s : Sam H H') : Tg p H' v d := h.kp (fun a xs n e => ⟨s.lst e, n⟩) (fun a xs n e => ⟨s.tup e, n⟩)
theorem TgA.sam {p : Addr → Prop} {H H' : Hp} {v : List V} {d : List PyData} (h : TgA p H v d) (s : Sam H H') : TgA p H' v d := h.kp (fun a xs n e => ⟨s.lst e, n⟩) (fun a xs n e => ⟨s.tup e, n⟩)
theorem tg_ints {p : Addr → Prop} {H : Hp} : ∀ rs : List Int, TgA p H (rs.map V.int) (rs.map PyData.int)
  | [] => .nil
  | x :: rs => .cons (.int x) (tg_ints rs)
/-! texts and numbers -/
theorem op_addS {X : Cx} : OpR X (binaryOp .Add) (fun x y H Q => ∃ a b, x = .str a ∧ y = .str b ∧ a.length + b.length ≤ sizeLine ∧ Q (.str (a ++ b)) H) := by
  intro pins s σ H x y v u Q I rx ry h
  obtain ⟨a, b, rfl, rfl, hz, q⟩ := h
  obtain ⟨t, rfl⟩ := rx
  obtain ⟨t', rfl⟩ := ry
  exact add_str (fun t' tk => ⟨.str _, H, I.tok _, ⟨_, rfl⟩, q⟩) hz
theorem op_mulS {X : Cx} : OpR X (binaryOp .Mult) (fun x y H Q => ∃ a i, x = .str a ∧ y = .int i ∧ (i = 0 ∨ i = 1) ∧ ∀ b, (b = Str.empty ∨ b = a) → Q (.str b) H) := by
  intro pins s σ H x y v u Q I rx ry h
  obtain ⟨a, i, rfl, rfl, h, q⟩ := h
  obtain ⟨t, rfl⟩ := rx
  obtain ⟨t', rfl⟩ := ry
  rcases h with rfl | rfl
  · exact PySem.P.mul_str_none (by decide) (by decide) ⟨.str _, H, I.tok _, ⟨_, rfl⟩, q _ (.inl rfl)⟩
  · refine PySem.P.mul_str (by decide) (fun _ h => ?_) (fun _ h => ?_) ?_
    · simp at h
    · simp at h
    · rw [if_neg (by decide), if_pos (by rfl)]
      exact ⟨.str _, H, I, ⟨_, rfl⟩, q _ (.inr rfl)⟩
def numV (v : V) (i : Int) : Prop := v = .int i ∨ ∃ b, v = .bl b ∧ i = if b = true then 1 else 0
theorem op_addN1 {X : Cx} : OpR X (binaryOp .Add) (fun x y H Q => ∃ i j, numV x i ∧ y = .int j ∧ Q (.int (i + j)) H) := by
  intro pins s σ H x y v u Q I rx ry h
  obtain ⟨i, j, hx, rfl, q⟩ := h
  obtain ⟨t', rfl⟩ := ry
  rcases hx with rfl | ⟨b, rfl, rfl⟩
  · obtain ⟨t, rfl⟩ := rx
    exact add_int ⟨.int _, H, I.tok _, ⟨_, rfl⟩, q⟩
  · cases rx
    exact PySem.IntBool.add_bool_int ⟨.int _, H, I.tok _, ⟨_, rfl⟩, q⟩
theorem op_subN1 {X : Cx} : OpR X (binaryOp .Sub) (fun x y H Q => ∃ i j, numV x i ∧ y = .int j ∧ Q (.int (i - j)) H) := by
  intro pins s σ H x y v u Q I rx ry h
  obtain ⟨i, j, hx, rfl, q⟩ := h
  obtain ⟨t', rfl⟩ := ry
  rcases hx with rfl | ⟨b, rfl, rfl⟩
  · obtain ⟨t, rfl⟩ := rx
    exact sub_int ⟨.int _, H, I.tok _, ⟨_, rfl⟩, q⟩
  · cases rx
    exact PySem.IntBool.sub_bool_int ⟨.int _, H, I.tok _, ⟨_, rfl⟩, q⟩
theorem op_subN2 {X : Cx} : OpR X (binaryOp .Sub) (fun x y H Q => ∃ i j, x = .int i ∧ numV y j ∧ Q (.int (i - j)) H) := by
  intro pins s σ H x y v u Q I rx ry h
  obtain ⟨i, j, rfl, hy, q⟩ := h
  obtain ⟨t, rfl⟩ := rx
  rcases hy with rfl | ⟨b, rfl, rfl⟩
  · obtain ⟨t', rfl⟩ := ry
    exact sub_int ⟨.int _, H, I.tok _, ⟨_, rfl⟩, q⟩
  · cases ry
    exact PySem.IntBool.sub_int_bool ⟨.int _, H, I.tok _, ⟨_, rfl⟩, q⟩
theorem call_strN {X : Cx} : CallR X (.type "str") (fun xs H Q => ∃ x i, xs = [x] ∧ numV x i ∧ i.natAbs.log2 < 1920 ∧ ∀ z : Str, (z = Str.ofString (toString i) ∨ z = "True" ∨ z = "False") → Q (.str z) H) := by
  intro pins s σ H xs us Q I r h
  obtain ⟨x, i, rfl, hx, hz, q⟩ := h
  rcases hx with rfl | ⟨b, rfl, _⟩
  · obtain ⟨u, rfl, t, rfl⟩ := vals1 r
    exact PySem.P.str_of_int hz ⟨.str _, H, I.tok _, ⟨_, rfl⟩, q _ (.inl rfl)⟩
  · obtain ⟨u, rfl, r1⟩ := vals1 r
    cases r1
    exact PySem.P.str_of_bool ⟨.str _, H, I.tok _, ⟨_, rfl⟩, q _ (by cases b <;> simp)⟩
theorem call_lenX {X : Cx} : CallR X (.builtin "len") (fun xs H Q => (∃ z, xs = [.str z] ∧ z.length ≤ sizeLine ∧ Q (.int z.length) H) ∨ ∃ p ys, xs = [.ref p] ∧ (SqL X.K H p ys ∨ SqT X.K H p ys) ∧ Q (.int ys.length) H) := by
  intro pins s σ H xs us Q I r h
  rcases h with h | h
  · exact call_len_str pins s σ H xs us Q I r h
  · exact call_len_seq pins s σ H xs us Q I r h
/-! texts and things that are small -/
theorem ok_iff {x : Str} : PyData.strOk x = true ↔ ∀ c, c ∈ x.cps.toList → c < 0x110000 := by
  unfold PyData.strOk
  rw [Array.all_eq_true_iff_forall_mem]
  exact ⟨fun h c hc => by simpa using h c (Array.mem_toList_iff.mp hc), fun h c hc => by simpa using h c (Array.mem_toList_iff.mpr hc)⟩
theorem ok_app {a b : Str} (h : PyData.strOk a = true) (g : PyData.strOk b = true) : PyData.strOk (a ++ b) = true := by
  refine ok_iff.mpr fun c hc => ?_
  have hc : c ∈ (a.cps ++ b.cps).toList := hc
  rw [Array.toList_append] at hc
  rcases List.mem_append.mp hc with hc | hc
  · exact ok_iff.mp h c hc
  · exact ok_iff.mp g c hc
theorem ok_cut {a : Str} (lo hi : Option Int) (h : PyData.strOk a = true) : PyData.strOk (cutS a lo hi) = true := by
  refine ok_iff.mpr fun c hc => ?_
  have hc : c ∈ ((a.cps.toList.drop (HT.sIx a.length 0 lo)).take (HT.sIx a.length a.length hi - HT.sIx a.length 0 lo)).toArray.toList := hc
  rw [List.toList_toArray] at hc
  exact ok_iff.mp h c (List.mem_of_mem_drop (List.mem_of_mem_take hc))
theorem ok_of (s : String) : PyData.strOk (Str.ofString s) = true := by
  refine ok_iff.mpr fun c hc => ?_
  rw [Str.ofString_eq_toList] at hc
  simp only [List.toList_toArray, List.mem_map] at hc
  obtain ⟨x, _, rfl⟩ := hc
  have := x.valid
  rcases this with h | ⟨_, h⟩
  · show x.val.toNat < _
    omega
  · exact h
theorem bd_int {k : Nat} {i : Int} (h : i.natAbs < 10 ^ k) : Bd k 0 (4 * k + 1) (.int i) := ⟨by simp only [gd]; exact decide_eq_true h, (shs_int h).dp, (shs_int h).wt⟩
theorem bd_str {k : Nat} {z : Str} (h : PyData.strOk z = true) : Bd k 0 z.length (.str z) := ⟨by simpa only [gd] using h, by simp only [PyData.depth]; decide, by simp only [PyData.weight]; exact Nat.le_refl _⟩
theorem bd_bl {k : Nat} {b : Bool} : Bd k 0 0 (.bool b) := ⟨rfl, by simp only [PyData.depth]; decide, by simp only [PyData.weight]; decide⟩
theorem bd_len {k n w : Nat} {z : Str} (h : Bd k n w (.str z)) : PyData.strOk z = true ∧ z.length ≤ w := ⟨by simpa only [gd] using h.g, by have := h.wt; simp only [PyData.weight] at this; exact this⟩
theorem pow_t {k : Nat} (h : 2 ≤ k) : 100 ≤ 10 ^ k ∧ 10 ^ (k + 1) = 10 * 10 ^ k := ⟨Nat.le_trans (by decide) (Nat.pow_le_pow_right (n := 10) (by decide) h), by rw [Nat.pow_succ]; omega⟩
/-- six numbers and texts near a number -/
theorem num_bd {k : Nat} {i : Int} {b0 : Bool} {z : Str} (hk : 2 ≤ k) (k20 : k ≤ 20) (hi : i.natAbs < 10 ^ k) (hz : z = Str.ofString (toString i) ∨ z = "True" ∨ z = "False") : ∀ d, d ∈ [PyData.int (i + 1), .int (i - 1), .bool b0, .int 6, .str z, .int (5 - i)] → Bd (k + 1) 0 100 d := by
  obtain ⟨t1, t2⟩ := pow_t hk
  have ok : PyData.strOk z = true ∧ z.length ≤ 100 := by
    rcases hz with rfl | rfl | rfl
    · refine ⟨ok_of _, ?_⟩
      rw [PySem.ofString_length]
      have := int_text_length_le10 (k := k) (by omega) hi
      omega
    · exact ⟨ok_of _, by decide +kernel⟩
    · exact ⟨ok_of _, by decide +kernel⟩
  intro d hd
  simp only [List.mem_cons, List.not_mem_nil, or_false] at hd
  rcases hd with rfl | rfl | rfl | rfl | rfl | rfl
  · exact (bd_int (by omega)).mono (Nat.le_refl _) (Nat.le_refl _) (by omega)
  · exact (bd_int (by omega)).mono (Nat.le_refl _) (Nat.le_refl _) (by omega)
  · exact bd_bl.mono (Nat.le_refl _) (Nat.le_refl _) (by omega)
  · exact (bd_int (by omega)).mono (Nat.le_refl _) (Nat.le_refl _) (by omega)
  · exact (bd_str ok.1).mono (Nat.le_refl _) (Nat.le_refl _) ok.2
  · exact (bd_int (by omega)).mono (Nat.le_refl _) (Nat.le_refl _) (by omega)
theorem ix_at {n j : Nat} (h : j < n) : ixN n (j : Int) = some j := by
  unfold ixN
  rw [if_pos (by omega), if_pos (by omega)]
  simp
theorem ix_prev {n j : Nat} (h : j < n) : ∃ m, ixN n ((j : Int) - 1) = some m ∧ m < n := by
  by_cases z : j = 0
  · subst z
    exact ⟨n - 1, by unfold ixN; rw [if_neg (by omega), if_pos (by omega)]; exact congrArg some (by omega), by omega⟩
  · exact ⟨j - 1, by rw [show (j : Int) - 1 = ((j - 1 : Nat) : Int) by omega]; exact ix_at (by omega), by omega⟩
theorem weiA_set : ∀ {ds : List PyData} {i : Nat} {d x : PyData}, ds[i]? = some d → PyData.weightAll (ds.set i x) + d.weight = PyData.weightAll ds + x.weight
  | y :: ds, 0, d, x, h => by
    cases h
    simp only [List.set_cons_zero, PyData.weightAll]
    omega
  | y :: ds, i + 1, d, x, h => by
    have := weiA_set (ds := ds) (i := i) (d := d) (x := x) (by simpa using h)
    simp only [List.set_cons_succ, PyData.weightAll]
    omega
theorem weiA_erase : ∀ (ds : List PyData) (i : Nat), PyData.weightAll (ds.eraseIdx i) ≤ PyData.weightAll ds
  | [], _ => by simp
  | y :: ds, 0 => by
    simp only [List.eraseIdx_cons_zero, PyData.weightAll]
    omega
  | y :: ds, i + 1 => by
    have := weiA_erase ds i
    simp only [List.eraseIdx_cons_succ, PyData.weightAll]
    omega
theorem BdA.of {k n w : Nat} {ds : List PyData} (h : ∀ d, d ∈ ds → gd k d = true ∧ d.depth ≤ n) (l : PyData.weightAll ds ≤ w) : BdA k n w ds := ⟨gdA_all.mpr fun d hd => (h d hd).1, depA_of ds fun d hd => (h d hd).2, l⟩
theorem BdA.each {k n w : Nat} {ds : List PyData} (h : BdA k n w ds) {d : PyData} (hd : d ∈ ds) : gd k d = true ∧ d.depth ≤ n := ⟨gdA_all.mp h.g d hd, depA_mem hd h.dp⟩
theorem BdA.erase {k n w : Nat} {ds : List PyData} (h : BdA k n w ds) (i : Nat) : BdA k n w (ds.eraseIdx i) := .of (fun _ hd => h.each (List.mem_of_mem_eraseIdx hd)) (Nat.le_trans (weiA_erase ds i) h.wt)
theorem BdA.set {k n w v : Nat} {ds : List PyData} (h : BdA k n w ds) {i : Nat} {d x : PyData} (hd : ds[i]? = some d) (g : gd k x = true) (p : x.depth ≤ n) (l : PyData.weightAll ds + x.weight ≤ v + d.weight) : BdA k n v (ds.set i x) := .of (fun y hy => by
  rcases List.mem_or_eq_of_mem_set hy with hy | rfl
  · exact h.each hy
  · exact ⟨g, p⟩) (by have := weiA_set (x := x) hd; omega)
theorem weiA_ins (ds : List PyData) (i : Nat) (x : PyData) : PyData.weightAll (ds.take i ++ [x] ++ ds.drop i) = PyData.weightAll ds + x.weight + 1 := by
  have := weiA_app (ds.take i) (ds.drop i)
  rw [List.take_append_drop] at this
  rw [weiA_app, weiA_app, this]
  simp only [PyData.weightAll]
  omega
theorem BdA.ins {k n w v : Nat} {ds : List PyData} (h : BdA k n w ds) (i : Nat) {x : PyData} (g : gd k x = true) (p : x.depth ≤ n) (l : w + x.weight + 1 ≤ v) : BdA k n v (ds.take i ++ [x] ++ ds.drop i) := .of (fun y hy => by
  rcases List.mem_append.mp hy with hy | hy
  · rcases List.mem_append.mp hy with hy | hy
    · exact h.each (List.mem_of_mem_take hy)
    · rw [List.mem_singleton.mp hy]
      exact ⟨g, p⟩
  · exact h.each (List.mem_of_mem_drop hy)) (by rw [weiA_ins]; have := h.wt; omega)
theorem TgA.set {p : Addr → Prop} {H : Hp} {x : V} {d : PyData} (hx : Tg p H x d) : ∀ {ds : List PyData} {vs : List V}, TgA p H vs ds → ∀ i : Nat, TgA p H (vs.set i x) (ds.set i d)
  | [], _, h, i => by cases h; exact .nil
  | e :: ds, _, h, i => by
    cases h with
    | cons a b =>
      cases i with
      | zero => exact .cons hx b
      | succ i => exact .cons a (TgA.set hx b i)
theorem TgA.erase {p : Addr → Prop} {H : Hp} : ∀ {ds : List PyData} {vs : List V}, TgA p H vs ds → ∀ i : Nat, TgA p H (vs.eraseIdx i) (ds.eraseIdx i)
  | [], _, h, i => by cases h; exact .nil
  | e :: ds, _, h, i => by
    cases h with
    | cons a b =>
      cases i with
      | zero => exact b
      | succ i => exact .cons a (TgA.erase b i)
theorem TgA.ins {p : Addr → Prop} {H : Hp} {ds : List PyData} {vs : List V} (h : TgA p H vs ds) {x : V} {d : PyData} (hx : Tg p H x d) (i : Nat) : TgA p H (vs.take i ++ [x] ++ vs.drop i) (ds.take i ++ [d] ++ ds.drop i) := ((h.split i).1.app (.cons hx .nil)).app (h.split i).2
theorem at_menuV {Pr : V → Prop} {xs : List V} {r : Int} (h0 : 0 ≤ r) (h1 : r < xs.length) (hx : ∀ x, x ∈ xs → Pr x) : ∃ v, atI xs r = some v ∧ Pr v := by
  obtain ⟨j, rfl⟩ := Int.eq_ofNat_of_zero_le h0
  have hj : j < xs.length := by omega
  exact ⟨xs[j], atI_nat (List.getElem?_eq_getElem hj), hx _ (List.getElem_mem hj)⟩
theorem len_wei : ∀ ds : List PyData, ds.length ≤ PyData.weightAll ds
  | [] => Nat.zero_le _
  | x :: ds => by
    have := len_wei ds
    simp only [List.length_cons, PyData.weightAll]
    omega
theorem Bx.upd {H : Hp} {p l : Addr} {n : Nat} {o : HO} (B : Bx H p n) (h : l ≠ p) : Bx (upd H l o) p n := by
  obtain ⟨a, b, c, e, r⟩ := B
  exact ⟨a, b, c, (upd_ne h.symm).trans e, r⟩
/-- lists that stand -/
def Sts (E : Addr → Prop) (H : Hp) : Prop := ∀ q, E q → H q ≠ none
theorem Sts.not {E : Addr → Prop} {H : Hp} {t : Addr} (h : Sts E H) (n : H t = none) : ¬ E t := fun e => h t e n
theorem Sts.same {E : Addr → Prop} {H H' : Hp} (h : Sts E H) (s : Same H H') : Sts E H' := fun q e n => by
  cases z : H q with
  | none => exact h q e z
  | some o =>
    rw [s _ _ z] at n
    cases n
theorem Bx.some {H : Hp} {p : Addr} {n : Nat} (B : Bx H p n) : H p ≠ none := by
  obtain ⟨a, b, c, h, _⟩ := B
  rw [h]
  exact fun z => by cases z
theorem Sts.but {E : Addr → Prop} {H H' : Hp} {p : Addr} {n : Nat} (h : Sts E H) (s : But p H H') (B : Bx H' p n) : Sts E H' := fun q e z => by
  by_cases qp : q = p
  · subst qp
    exact B.some z
  · cases y : H q with
    | none => exact h q e y
    | some o =>
      rw [s _ _ qp y] at z
      cases z
theorem Tg.bt {E : Addr → Prop} {H H' : Hp} {v : V} {d : PyData} {p : Addr} (h : Tg E H v d) (e : E p) (s : But p H H') : Tg E H' v d := h.keep fun a o n q => s a o (fun z => n (z ▸ e)) q
theorem TgA.bt {E : Addr → Prop} {H H' : Hp} {v : List V} {d : List PyData} {p : Addr} (h : TgA E H v d) (e : E p) (s : But p H H') : TgA E H' v d := h.keep fun a o n q => s a o (fun z => n (z ▸ e)) q
/-! slices of lists and tuples alike; numbers times things -/
def rSlU (K : PySem.W.Frag) : V → Option Int → Option Int → Hp → VK → Prop := fun x lo hi H Q => ∃ a xs, x = .ref a ∧ (H a = some (.lst xs) ∨ H a = some (.tup xs)) ∧ ∀ G c, Same H G → (SqL K G c (cutV xs lo hi) ∨ SqT K G c (cutV xs lo hi)) → Q (.ref c) G
theorem sl_any {X : Cx} : SlR X (rSlU X.K) := by
  intro pins s σ H x v vl vu lo hi sl Q I rx hs pl pu h
  obtain ⟨a, xs, rfl, ha, q⟩ := h
  rcases ha with ha | ha
  · exact sl_list pins s σ H _ v vl vu lo hi sl Q I rx hs pl pu ⟨a, xs, rfl, SqL.mk ha, fun p np => q _ p (same_upd np) (.inl (SqL.mk upd_same))⟩
  · exact sl_tupS pins s σ H _ v vl vu lo hi sl Q I rx hs pl pu ⟨a, xs, rfl, ha, fun G c sG hc => q G c sG (.inr (SqT.mk hc))⟩
theorem cut_mid (xs : List V) (j : Nat) (x : V) (h : xs[j]? = some x) : cutV xs (some (j : Nat)) (some ((j : Nat) + 1)) = [x] := by
  have jl := (List.getElem?_eq_some_iff.mp h).1
  unfold cutV
  rw [show ((j : Int) + 1) = ((j + 1 : Nat) : Int) by omega]
  have e1 : HT.sIx xs.length 0 (some ((j : Nat) : Int)) = j := by
    rw [HT.sIx_nat]
    omega
  have e2 : HT.sIx xs.length xs.length (some ((j + 1 : Nat) : Int)) = j + 1 := by
    rw [HT.sIx_nat]
    omega
  rw [e1, e2, show j + 1 - j = 1 by omega, List.drop_eq_getElem_cons jl]
  simp only [List.take_succ_cons, List.take_zero]
  rw [(List.getElem?_eq_some_iff.mp h).2]
theorem split_at {α : Type} (xs : List α) (j : Nat) (x : α) (h : xs[j]? = some x) : xs = xs.take j ++ [x] ++ xs.drop (j + 1) := by
  have jl := (List.getElem?_eq_some_iff.mp h).1
  have e := (List.getElem?_eq_some_iff.mp h).2
  have := List.take_append_drop j xs
  rw [List.drop_eq_getElem_cons jl, e] at this
  rw [List.append_assoc]
  exact this.symm
theorem op_mulN2 {X : Cx} : OpR X (binaryOp .Mult) (fun x y H Q => ∃ i j, x = .int i ∧ numV y j ∧ Builtin.Int.intBits i ≤ 64 ∧ Q (.int (i * j)) H) := by
  intro pins s σ H x y v u Q I rx ry h
  obtain ⟨i, j, rfl, hy, hb, q⟩ := h
  obtain ⟨t, rfl⟩ := rx
  rcases hy with rfl | ⟨b, rfl, rfl⟩
  · obtain ⟨t', rfl⟩ := ry
    exact mul_int ⟨.int _, H, I.tok _, ⟨_, rfl⟩, q⟩ (IntMulOk.of_left hb)
  · cases ry
    exact PySem.IntBool.mul_int_bool ⟨.int _, H, I.tok _, ⟨_, rfl⟩, q⟩
/-! makers as things -/
theorem Tg.tupv {p : Addr → Prop} {H : Hp} {v : V} {ds : List PyData} (h : Tg p H v (.tuple ds)) : ∃ a xs, v = .ref a ∧ ¬ p a ∧ H a = some (.tup xs) ∧ TgA p H xs ds := by
  cases h with
  | tup np ha hx => exact ⟨_, _, rfl, np, ha, hx⟩
theorem Tg.intv {p : Addr → Prop} {H : Hp} {v : V} {i : Int} (h : Tg p H v (.int i)) : v = .int i := by
  cases h
  rfl
theorem Tg.strv {p : Addr → Prop} {H : Hp} {v : V} {z : Str} (h : Tg p H v (.str z)) : v = .str z := by
  cases h
  rfl
theorem TgA.ints {p : Addr → Prop} {H : Hp} : ∀ {ns : List Int} {xs : List V}, TgA p H xs (ns.map PyData.int) → xs = ns.map V.int
  | [], _, h => by cases h; rfl
  | n :: ns, _, h => by
    cases h with
    | cons a b => rw [a.intv, TgA.ints b]; rfl
theorem TgA.of_ints {p : Addr → Prop} {H : Hp} : ∀ (ns : List Int), TgA p H (ns.map V.int) (ns.map PyData.int)
  | [] => .nil
  | n :: ns => .cons (.int n) (TgA.of_ints ns)
theorem TgA.two {p : Addr → Prop} {H : Hp} {xs : List V} {a b : PyData} (h : TgA p H xs [a, b]) : ∃ x y, xs = [x, y] ∧ Tg p H x a ∧ Tg p H y b := by
  cases h with
  | cons h1 h =>
    cases h with
    | cons h2 h => cases h; exact ⟨_, _, rfl, h1, h2⟩
theorem TgA.three {p : Addr → Prop} {H : Hp} {xs : List V} {a b c : PyData} (h : TgA p H xs [a, b, c]) : ∃ x y z, xs = [x, y, z] ∧ Tg p H x a ∧ Tg p H y b ∧ Tg p H z c := by
  cases h with
  | cons h1 h =>
    obtain ⟨x, y, rfl, h2, h3⟩ := h.two
    exact ⟨_, _, _, rfl, h1, h2, h3⟩
theorem TgA.four {p : Addr → Prop} {H : Hp} {xs : List V} {a b c d : PyData} (h : TgA p H xs [a, b, c, d]) : ∃ x y z w, xs = [x, y, z, w] ∧ Tg p H x a ∧ Tg p H y b ∧ Tg p H z c ∧ Tg p H w d := by
  cases h with
  | cons h1 h =>
    obtain ⟨x, y, z, rfl, h2, h3, h4⟩ := h.three
    exact ⟨_, _, _, _, rfl, h1, h2, h3, h4⟩
def mkd : Mk → PyData
  | .counter r s t => .tuple [.str "counter", .int (r : Nat), .int (s : Nat), .int (t : Nat)]
  | .table ns => .tuple [.str "table", .tuple (ns.map PyData.int)]
  | .turned w s => .tuple [.str "turned", .int (w : Nat), .int (s : Nat)]
  | .register w p s => .tuple [.str "register", .int (w : Nat), .int (p : Nat), .int (s : Nat)]
  | .slow n m => .tuple [.str "slow", .int (n : Nat), mkd m]
  | .slip n m => .tuple [.str "slip", .int (n : Nat), mkd m]
  | .late n m => .tuple [.str "late", .int (n : Nat), mkd m]
theorem tg_mk {p : Addr → Prop} {H : Hp} : ∀ {m : Mk} {v : V}, Tg p H v (mkd m) → MkAt H m v
  | .counter r s t, _, h => by
    obtain ⟨a, xs, rfl, _, ha, hx⟩ := Tg.tupv h
    obtain ⟨x, y, z, w, rfl, h1, h2, h3, h4⟩ := hx.four
    exact ⟨a, rfl, by rw [ha, h1.strv, h2.intv, h3.intv, h4.intv]⟩
  | .table ns, _, h => by
    obtain ⟨a, xs, rfl, _, ha, hx⟩ := Tg.tupv h
    obtain ⟨x, y, rfl, h1, h2⟩ := hx.two
    obtain ⟨b, ys, rfl, _, hb, hy⟩ := Tg.tupv h2
    exact ⟨a, b, rfl, by rw [ha, h1.strv], by rw [hb, hy.ints]⟩
  | .turned w s, _, h => by
    obtain ⟨a, xs, rfl, _, ha, hx⟩ := Tg.tupv h
    obtain ⟨x, y, z, rfl, h1, h2, h3⟩ := hx.three
    exact ⟨a, rfl, by rw [ha, h1.strv, h2.intv, h3.intv]⟩
  | .register w q s, _, h => by
    obtain ⟨a, xs, rfl, _, ha, hx⟩ := Tg.tupv h
    obtain ⟨x, y, z, w, rfl, h1, h2, h3, h4⟩ := hx.four
    exact ⟨a, rfl, by rw [ha, h1.strv, h2.intv, h3.intv, h4.intv]⟩
  | .slow n m, _, h => by
    obtain ⟨a, xs, rfl, _, ha, hx⟩ := Tg.tupv h
    obtain ⟨x, y, z, rfl, h1, h2, h3⟩ := hx.three
    exact ⟨a, z, rfl, by rw [ha, h1.strv, h2.intv], tg_mk h3⟩
  | .slip n m, _, h => by
    obtain ⟨a, xs, rfl, _, ha, hx⟩ := Tg.tupv h
    obtain ⟨x, y, z, rfl, h1, h2, h3⟩ := hx.three
    exact ⟨a, z, rfl, by rw [ha, h1.strv, h2.intv], tg_mk h3⟩
  | .late n m, _, h => by
    obtain ⟨a, xs, rfl, _, ha, hx⟩ := Tg.tupv h
    obtain ⟨x, y, z, rfl, h1, h2, h3⟩ := hx.three
    exact ⟨a, z, rfl, by rw [ha, h1.strv, h2.intv], tg_mk h3⟩
theorem mk_tg {p : Addr → Prop} {H : Hp} (np : ∀ a xs, H a = some (.tup xs) → ¬ p a) : ∀ {m : Mk} {v : V}, MkAt H m v → Tg p H v (mkd m)
  | .counter r s t, _, ⟨a, e, h⟩ => by rw [e]; exact .tup (np _ _ h) h (.cons (.str _) (.cons (.int _) (.cons (.int _) (.cons (.int _) .nil))))
  | .table ns, _, ⟨a, b, e, h, k⟩ => by rw [e]; exact .tup (np _ _ h) h (.cons (.str _) (.cons (.tup (np _ _ k) k (TgA.of_ints ns)) .nil))
  | .turned w s, _, ⟨a, e, h⟩ => by rw [e]; exact .tup (np _ _ h) h (.cons (.str _) (.cons (.int _) (.cons (.int _) .nil)))
  | .register w q s, _, ⟨a, e, h⟩ => by rw [e]; exact .tup (np _ _ h) h (.cons (.str _) (.cons (.int _) (.cons (.int _) (.cons (.int _) .nil))))
  | .slow n m, _, ⟨a, x, e, h, k⟩ => by rw [e]; exact .tup (np _ _ h) h (.cons (.str _) (.cons (.int _) (.cons (mk_tg np k) .nil)))
  | .slip n m, _, ⟨a, x, e, h, k⟩ => by rw [e]; exact .tup (np _ _ h) h (.cons (.str _) (.cons (.int _) (.cons (mk_tg np k) .nil)))
  | .late n m, _, ⟨a, x, e, h, k⟩ => by rw [e]; exact .tup (np _ _ h) h (.cons (.str _) (.cons (.int _) (.cons (mk_tg np k) .nil)))
theorem map_int_inj : ∀ {xs ys : List Int}, xs.map PyData.int = ys.map PyData.int → xs = ys
  | [], [], _ => rfl
  | [], _ :: _, h => by cases h
  | _ :: _, [], h => by cases h
  | x :: xs, y :: ys, h => by
    simp only [List.map_cons, List.cons.injEq, PyData.int.injEq] at h
    rw [h.1, map_int_inj h.2]
theorem tup_in {xs ys : List PyData} (h : PyData.tuple xs = .tuple ys) : xs = ys := PyData.tuple.inj h
theorem mkd_inj : ∀ {m k : Mk}, mkd m = mkd k → m = k
  | .counter _ _ _, k, h => by
    cases k <;> simp only [mkd, PyData.tuple.injEq, List.cons.injEq, PyData.str.injEq, PyData.int.injEq, and_true, reduceCtorEq, and_false, false_and] at h
    all_goals first
      | exact absurd h.1 (by decide +kernel)
      | (obtain ⟨_, h1, h2, h3⟩ := h
         rw [Int.ofNat.inj h1, Int.ofNat.inj h2, Int.ofNat.inj h3])
  | .table _, k, h => by
    cases k <;> simp only [mkd, PyData.tuple.injEq, List.cons.injEq, PyData.str.injEq, PyData.int.injEq, and_true, reduceCtorEq, and_false, false_and] at h
    all_goals first
      | exact absurd h.1 (by decide +kernel)
      | (obtain ⟨_, h1⟩ := h
         rw [map_int_inj h1])
  | .turned _ _, k, h => by
    cases k <;> simp only [mkd, PyData.tuple.injEq, List.cons.injEq, PyData.str.injEq, PyData.int.injEq, and_true, reduceCtorEq, and_false, false_and] at h
    all_goals first
      | exact absurd h.1 (by decide +kernel)
      | (obtain ⟨_, h1, h2⟩ := h
         rw [Int.ofNat.inj h1, Int.ofNat.inj h2])
  | .register _ _ _, k, h => by
    cases k <;> simp only [mkd, PyData.tuple.injEq, List.cons.injEq, PyData.str.injEq, PyData.int.injEq, and_true, reduceCtorEq, and_false, false_and] at h
    all_goals first
      | exact absurd h.1 (by decide +kernel)
      | (obtain ⟨_, h1, h2, h3⟩ := h
         rw [Int.ofNat.inj h1, Int.ofNat.inj h2, Int.ofNat.inj h3])
  | .slow _ _, k, h => by
    cases k <;> simp only [mkd, PyData.tuple.injEq, List.cons.injEq, PyData.str.injEq, PyData.int.injEq, and_true, reduceCtorEq, and_false, false_and] at h
    all_goals first
      | exact absurd h.1 (by decide +kernel)
      | (obtain ⟨_, h1, h2⟩ := h
         rw [Int.ofNat.inj h1, mkd_inj h2])
  | .slip _ _, k, h => by
    cases k <;> simp only [mkd, PyData.tuple.injEq, List.cons.injEq, PyData.str.injEq, PyData.int.injEq, and_true, reduceCtorEq, and_false, false_and] at h
    all_goals first
      | exact absurd h.1 (by decide +kernel)
      | (obtain ⟨_, h1, h2⟩ := h
         rw [Int.ofNat.inj h1, mkd_inj h2])
  | .late _ _, k, h => by
    cases k <;> simp only [mkd, PyData.tuple.injEq, List.cons.injEq, PyData.str.injEq, PyData.int.injEq, and_true, reduceCtorEq, and_false, false_and] at h
    all_goals first
      | exact absurd h.1 (by decide +kernel)
      | (obtain ⟨_, h1, h2⟩ := h
         rw [Int.ofNat.inj h1, mkd_inj h2])
/-- makers that the program takes, as to their own steps -/
def Mk.Vd : Mk → Prop
  | .counter r s _ => 1 ≤ s ∧ s ≤ r ∧ Nat.gcd s r = 1
  | _ => True
def plainD (d : PyData) : Prop := ∃ m : Mk, d = mkd m ∧ m.Pl ∧ m.Vd
def isMkD (d : PyData) : Prop := ∃ m : Mk, d = mkd m ∧ m.Ok ∧ m.inn.Vd ∧ m.dep ≤ 3 ∧ m.rnd ≤ 4096
/-- what a plain maker's first part tells of the others -/
theorem pl_cases {ds : List PyData} (h : plainD (.tuple ds)) :
    (∃ r s t : Nat, ds = [.str "counter", .int r, .int s, .int t] ∧ (1 ≤ r ∧ r ≤ 64) ∧ (1 ≤ s ∧ s ≤ r) ∧ Nat.gcd s r = 1 ∧ t < r) ∨
    (∃ w s : Nat, ds = [.str "turned", .int w, .int s] ∧ (1 ≤ w ∧ w ≤ 6) ∧ s < 2 ^ w) ∨
    (∃ w q s : Nat, ds = [.str "register", .int w, .int q, .int s] ∧ RgW w q ∧ 1 ≤ s ∧ s < 2 ^ w) ∨
    (∃ ns : List Int, ds = [.str "table", .tuple (ns.map PyData.int)] ∧ (1 ≤ ns.length ∧ ns.length ≤ 64) ∧ ∀ x, x ∈ ns → 0 ≤ x ∧ x ≤ 63) := by
  obtain ⟨m, e, pl, vd⟩ := h
  cases m with
  | counter r s t => exact .inl ⟨r, s, t, tup_in e, ⟨pl.1, pl.2.1⟩, ⟨vd.1, vd.2.1⟩, vd.2.2, pl.2.2.2⟩
  | turned w s => exact .inr (.inl ⟨w, s, tup_in e, ⟨pl.1, pl.2.1⟩, pl.2.2⟩)
  | register w q s => exact .inr (.inr (.inl ⟨w, q, s, tup_in e, pl.1, pl.2.1, pl.2.2⟩))
  | table ns => exact .inr (.inr (.inr ⟨ns, tup_in e, ⟨pl.1, pl.2.1⟩, pl.2.2⟩))
  | _ => exact pl.elim
theorem isInt_is {d : PyData} (h : isIntD d = true) : ∃ i, d = .int i := by
  cases d <;> first | exact ⟨_, rfl⟩ | cases h
theorem within_is {d : PyData} {lo hi : Int} (h : withinD d lo hi = true) : ∃ i, d = .int i ∧ lo ≤ i ∧ i ≤ hi := by
  cases d <;> first | exact ⟨_, rfl, (of_decide_eq_true h).1, (of_decide_eq_true h).2⟩ | cases h
theorem within_no {i lo hi : Int} (h : withinD (.int i) lo hi = false) : ¬ (lo ≤ i ∧ i ≤ hi) := fun z => by
  have : withinD (.int i) lo hi = true := decide_eq_true z
  rw [this] at h
  cases h
/-- what stands around a thing -/
def arD (d : PyData) : Option PyData := match d with
  | .tuple [.str z, x, e] => if z = "late" then (if withinD x 0 64 then some e else none) else if z = "slow" ∨ z = "slip" then (if withinD x 1 64 then some e else none) else none
  | _ => none
theorem arD_is {d e : PyData} (h : arD d = some e) : ∃ (z : Str) (n : Nat), d = .tuple [.str z, .int (n : Nat), e] ∧ ((z = "late" ∧ n ≤ 64) ∨ (z = "slow" ∧ 1 ≤ n ∧ n ≤ 64) ∨ (z = "slip" ∧ 1 ≤ n ∧ n ≤ 64)) := by
  unfold arD at h
  split at h
  · rename_i z x e'
    split at h
    · rename_i hz
      split at h
      · rename_i hw
        obtain ⟨i, rfl, l, u⟩ := within_is hw
        obtain ⟨n, rfl⟩ := nat_of l
        cases h
        exact ⟨z, n, rfl, .inl ⟨hz, by omega⟩⟩
      · cases h
    · split at h
      · rename_i hz
        split at h
        · rename_i hw
          obtain ⟨i, rfl, l, u⟩ := within_is hw
          obtain ⟨n, rfl⟩ := nat_of (show 0 ≤ i by omega)
          cases h
          rcases hz with hz | hz
          · exact ⟨z, n, rfl, .inr (.inl ⟨hz, by omega, by omega⟩)⟩
          · exact ⟨z, n, rfl, .inr (.inr ⟨hz, by omega, by omega⟩)⟩
        · cases h
      · cases h
  · cases h
theorem arD_slow {n : Nat} {e : PyData} (h : 1 ≤ n ∧ n ≤ 64) : arD (.tuple [.str "slow", .int (n : Nat), e]) = some e := by
  have w : withinD (.int (n : Nat)) 1 64 = true := decide_eq_true (by omega)
  unfold arD
  dsimp only
  rw [if_neg (by decide +kernel), if_pos (.inl rfl), w]
  rfl
theorem arD_slip {n : Nat} {e : PyData} (h : 1 ≤ n ∧ n ≤ 64) : arD (.tuple [.str "slip", .int (n : Nat), e]) = some e := by
  have w : withinD (.int (n : Nat)) 1 64 = true := decide_eq_true (by omega)
  unfold arD
  dsimp only
  rw [if_neg (by decide +kernel), if_pos (.inr rfl), w]
  rfl
theorem arD_late {n : Nat} {e : PyData} (h : n ≤ 64) : arD (.tuple [.str "late", .int (n : Nat), e]) = some e := by
  have w : withinD (.int (n : Nat)) 0 64 = true := decide_eq_true (by omega)
  unfold arD
  dsimp only
  rw [if_pos rfl, w]
  rfl
theorem arD_mk {m : Mk} (ok : m.Ok) : (m.dep = 0 ∧ m.Pl ∧ arD (mkd m) = none) ∨ ∃ m', arD (mkd m) = some (mkd m') ∧ m'.Ok ∧ m.dep = m'.dep + 1 ∧ m.inn = m'.inn := by
  cases m with
  | counter r s t => exact .inl ⟨rfl, ok, rfl⟩
  | table ns => exact .inl ⟨rfl, ok, rfl⟩
  | turned w s =>
    refine .inl ⟨rfl, ok, ?_⟩
    unfold mkd arD
    dsimp only
    rw [if_neg (by decide +kernel), if_neg (by decide +kernel)]
  | register w q s => exact .inl ⟨rfl, ok, rfl⟩
  | slow n m => exact .inr ⟨m, arD_slow ⟨ok.1, ok.2.1⟩, ok.2.2, rfl, rfl⟩
  | slip n m => exact .inr ⟨m, arD_slip ⟨ok.1, ok.2.1⟩, ok.2.2, rfl, rfl⟩
  | late n m => exact .inr ⟨m, arD_late ok.1, ok.2, rfl, rfl⟩
theorem arD_up {d : PyData} {m : Mk} (h : arD d = some (mkd m)) (ok : m.Ok) : ∃ k : Mk, d = mkd k ∧ k.Ok ∧ k.dep = m.dep + 1 ∧ k.inn = m.inn := by
  obtain ⟨z, n, rfl, c⟩ := arD_is h
  rcases c with ⟨rfl, c⟩ | ⟨rfl, c1, c2⟩ | ⟨rfl, c1, c2⟩
  · exact ⟨.late n m, rfl, ⟨c, ok⟩, rfl, rfl⟩
  · exact ⟨.slow n m, rfl, ⟨c1, c2, ok⟩, rfl, rfl⟩
  · exact ⟨.slip n m, rfl, ⟨c1, c2, ok⟩, rfl, rfl⟩
/-- d is e, wrapped so often -/
def Wr : Nat → PyData → PyData → Prop
  | 0, d, e => d = e
  | i + 1, d, e => ∃ f, Wr i d f ∧ arD f = some e
theorem wr_mk : ∀ {i : Nat} {d e : PyData} {m : Mk}, Wr i d e → e = mkd m → m.Ok → ∃ k : Mk, d = mkd k ∧ k.Ok ∧ k.dep = m.dep + i ∧ k.inn = m.inn
  | 0, d, e, m, h, he, ok => ⟨m, by rw [show d = e from h, he], ok, rfl, rfl⟩
  | i + 1, d, e, m, ⟨f, h, hf⟩, he, ok => by
    rw [he] at hf
    obtain ⟨k, e1, ok1, d1, i1⟩ := arD_up hf ok
    obtain ⟨k2, e2, ok2, d2, i2⟩ := wr_mk h e1 ok1
    exact ⟨k2, e2, ok2, by omega, by rw [i2, i1]⟩
theorem mk_wr : ∀ {i : Nat} {d e : PyData} {m : Mk}, Wr i d e → d = mkd m → m.Ok → ∃ k : Mk, e = mkd k ∧ k.Ok ∧ m.dep = k.dep + i ∧ m.inn = k.inn
  | 0, d, e, m, h, he, ok => ⟨m, by rw [← show d = e from h, he], ok, rfl, rfl⟩
  | i + 1, d, e, m, ⟨f, h, hf⟩, he, ok => by
    obtain ⟨k, e1, ok1, d1, i1⟩ := mk_wr h he ok
    rw [e1] at hf
    rcases arD_mk ok1 with ⟨_, _, z⟩ | ⟨k2, z, ok2, d2, i2⟩
    · rw [z] at hf
      cases hf
    · rw [z] at hf
      cases hf
      exact ⟨k2, rfl, ok2, by omega, by rw [i1, i2]⟩
theorem arD_dep {d e : PyData} (h : arD d = some e) : e.depth < d.depth := by
  obtain ⟨z, n, rfl, _⟩ := arD_is h
  simp only [PyData.depth, PyData.depthAll]
  omega
/-! how large makers are, as things -/
theorem weiA_ints : ∀ {ns : List Int}, (∀ x, x ∈ ns → x.natAbs < 10 ^ 21) → PyData.weightAll (ns.map PyData.int) ≤ 86 * ns.length ∧ gdA 21 (ns.map PyData.int) = true ∧ PyData.depthAll (ns.map PyData.int) ≤ 0
  | [], _ => ⟨by simp [PyData.weightAll], rfl, by simp [PyData.depthAll]⟩
  | n :: ns, h => by
    obtain ⟨a, b, c⟩ := weiA_ints (ns := ns) fun x hx => h x (List.mem_cons_of_mem _ hx)
    have g := bd_int (k := 21) (h n List.mem_cons_self)
    have g1 := g.wt
    have g2 := g.g
    have g3 := g.dp
    refine ⟨?_, ?_, ?_⟩
    · simp only [List.map_cons, PyData.weightAll, List.length_cons]
      omega
    · simp only [List.map_cons, gdA, g2, b]
      rfl
    · simp only [List.map_cons, PyData.depthAll]
      omega
theorem n21 {n : Nat} (h : n ≤ 100000) : ((n : Nat) : Int).natAbs < 10 ^ 21 := by
  have : (100001 : Nat) ≤ 10 ^ 21 := by decide
  omega
theorem bd_w {z : Str} (h : PyData.strOk z = true) (l : z.length ≤ 10) : Bd 21 0 10 (.str z) := (bd_str h).mono (Nat.le_refl _) (Nat.le_refl _) l
theorem bd_w3 {z : Str} {n : Nat} {e : PyData} {m w : Nat} (hz : PyData.strOk z = true) (l : z.length ≤ 10) (hn : n ≤ 100000) (he : Bd 21 m w e) : Bd 21 (m + 1) (w + 100) (.tuple [.str z, .int (n : Nat), e]) :=
  (((BdA.one (bd_w hz l)).app ((BdA.one (bd_int (n21 hn))).app (BdA.one he))).mono (Nat.le_refl _) (show max 0 (max 0 m) ≤ m by omega) (show 10 + 1 + (4 * 21 + 1 + 1 + (w + 1)) ≤ w + 100 by omega)).tup
theorem bd_w4 {z : Str} {a b c : Nat} (hz : PyData.strOk z = true) (l : z.length ≤ 10) (ha : a ≤ 100000) (hb : b ≤ 100000) (hc : c ≤ 100000) : Bd 21 2 6000 (.tuple [.str z, .int (a : Nat), .int (b : Nat), .int (c : Nat)]) :=
  (((BdA.one (bd_w hz l)).app ((BdA.one (bd_int (n21 ha))).app ((BdA.one (bd_int (n21 hb))).app (BdA.one (bd_int (n21 hc)))))).mono (Nat.le_refl _) (show max 0 (max 0 (max 0 0)) ≤ 1 by omega) (show _ ≤ 6000 by omega)).tup
theorem mkd_bd : ∀ {m : Mk}, m.Ok → Bd 21 (m.dep + 2) (6000 + 100 * m.dep) (mkd m)
  | .counter r s t, ok => by
    obtain ⟨h1, h2, h3, h4⟩ : 1 ≤ r ∧ r ≤ 64 ∧ s ≤ 64 ∧ t < r := ok
    exact bd_w4 (by decide +kernel) (by decide +kernel) (by omega) (by omega) (by omega)
  | .turned w s, ok => by
    obtain ⟨h1, h2, h3⟩ : 1 ≤ w ∧ w ≤ 6 ∧ s < 2 ^ w := ok
    have : 2 ^ w ≤ 2 ^ 6 := Nat.pow_le_pow_right (by decide) h2
    exact (bd_w3 (by decide +kernel) (by decide +kernel) (by omega) (bd_int (n21 (show s ≤ 100000 by omega)))).mono (Nat.le_refl _) (show 0 + 1 ≤ 0 + 2 by omega) (show _ ≤ 6000 + 100 * 0 by omega)
  | .register w q s, ok => by
    obtain ⟨h1, h2, h3⟩ : RgW w q ∧ 1 ≤ s ∧ s < 2 ^ w := ok
    have : 2 ^ w ≤ 2 ^ 6 := Nat.pow_le_pow_right (by decide) h1.hi
    have := h1.ph
    have := h1.hi
    exact bd_w4 (by decide +kernel) (by decide +kernel) (by omega) (by omega) (by omega)
  | .table ns, ok => by
    obtain ⟨h1, h2, h3⟩ : 1 ≤ ns.length ∧ ns.length ≤ 64 ∧ ∀ x, x ∈ ns → 0 ≤ x ∧ x ≤ 63 := ok
    obtain ⟨a, b, c⟩ := weiA_ints (ns := ns) fun x hx => by
      have := h3 x hx
      have : (64 : Nat) ≤ 10 ^ 21 := by decide
      omega
    have t : Bd 21 (0 + 1) 5504 (.tuple (ns.map PyData.int)) := BdA.tup ⟨b, c, by omega⟩
    exact (((BdA.one (bd_w (z := "table") (by decide +kernel) (by decide +kernel))).app (BdA.one t)).mono (Nat.le_refl _) (show max 0 (0 + 1) ≤ 1 by omega) (show _ ≤ 6000 + 100 * 0 by omega)).tup
  | .slow n m, ok => by
    have h := mkd_bd (m := m) ok.2.2
    have := ok.2.1
    exact (bd_w3 (z := "slow") (by decide +kernel) (by decide +kernel) (show n ≤ 100000 by omega) h).mono (Nat.le_refl _) (by simp only [Mk.dep]; omega) (by simp only [Mk.dep]; omega)
  | .slip n m, ok => by
    have h := mkd_bd (m := m) ok.2.2
    have := ok.2.1
    exact (bd_w3 (z := "slip") (by decide +kernel) (by decide +kernel) (show n ≤ 100000 by omega) h).mono (Nat.le_refl _) (by simp only [Mk.dep]; omega) (by simp only [Mk.dep]; omega)
  | .late n m, ok => by
    have h := mkd_bd (m := m) ok.2
    have := ok.1
    exact (bd_w3 (z := "late") (by decide +kernel) (by decide +kernel) (show n ≤ 100000 by omega) h).mono (Nat.le_refl _) (by simp only [Mk.dep]; omega) (by simp only [Mk.dep]; omega)
def PN (p D : Addr) (HX : Hp) (m : Int) (k i : Nat) (H1 : Hp) : Prop := ∃ rs : List Int, rs.length = i ∧ (∀ x, x ∈ rs → 0 ≤ x ∧ x < m) ∧ But p HX H1 ∧ Bx H1 p (k + i) ∧ H1 D = some (.lst (rs.map V.int))
theorem pn_start {p D : Addr} {HX : Hp} {m : Int} {k : Nat} (nD : HX D = none) (B : Bx HX p k) : PN p D HX m k 0 (upd HX D (.lst [])) := ⟨[], rfl, fun _ h => (by cases h), (But.refl p HX).new nD, B.new nD, upd_same⟩
theorem pn_step {p D : Addr} {HX H1 H4 : Hp} {m : Int} {k i : Nat} {x : Int} (nD : HX D = none) (Dp : D ≠ p) (h : PN p D HX m k i H1) (b : But p H1 H4) (B : Bx H4 p (k + (i + 1))) (hi : i < 100000) (hx : 0 ≤ x ∧ x < m) :
    ∃ acc, H4 D = some (.lst acc) ∧ acc.length < sizeLine ∧ PN p D HX m k (i + 1) (upd H4 D (.lst (acc ++ [.int x]))) := by
  obtain ⟨rs, hl, hb, b1, _, hD⟩ := h
  have hsl : sizeLine = 16777216 := by decide
  refine ⟨_, b _ _ Dp hD, by rw [List.length_map]; omega, rs ++ [x], by rw [List.length_append, hl]; rfl, fun y hy => ?_, but_newer (b1.trans b) nD, B.other Dp, ?_⟩
  · rcases List.mem_append.mp hy with hy | hy
    · exact hb y hy
    · rw [List.mem_singleton.mp hy]
      exact hx
  · rw [upd_same, List.map_append]
    rfl
/-! makers drawn -/
theorem rnd_pos : ∀ {m : Mk}, m.Ok → 1 ≤ m.rnd
  | .slow n m, h => Nat.mul_pos h.1 (rnd_pos (m := m) h.2.2)
  | .slip n m, h => by
    have r := rnd_pos (m := m) h.2.2
    obtain ⟨c, hc⟩ := Nat.gcd_dvd_left m.rnd (n + 1)
    have g := gcd_le (a := m.rnd) (n := n)
    show 1 ≤ n * m.rnd / Nat.gcd m.rnd (n + 1)
    generalize Nat.gcd m.rnd (n + 1) = d at hc g
    rw [hc, Nat.mul_left_comm, Nat.mul_div_cancel_left _ (by omega)]
    have c1 : 1 ≤ c := by
      rcases Nat.eq_zero_or_pos c with z | z
      · rw [z, Nat.mul_zero] at hc
        omega
      · exact z
    exact Nat.mul_pos h.1 c1
  | .late _ m, h => rnd_pos (m := m) h.2
  | .counter _ _ _, h => (Mk.Pl.len (m := .counter _ _ _) h).1
  | .table _, h => (Mk.Pl.len (m := .table _) h).1
  | .turned _ _, h => (Mk.Pl.len (m := .turned _ _) h).1
  | .register _ _ _, h => (Mk.Pl.len (m := .register _ _ _) h).1
theorem bt_round : ∀ {m : Mk}, m.Ok → ∀ (c : Nat) (t : Int), ∃ z : Int, m.bt (t + (c : Int) * (m.rnd : Int)) = m.bt t + z * (m.inn.pl.length : Int)
  | .slow n m, h, c, t => by
    have n0 : (n : Int) ≠ 0 := by have := h.1; omega
    obtain ⟨z, hz⟩ := bt_round (m := m) h.2.2 c (t / n)
    refine ⟨z, ?_⟩
    show m.bt ((t + (c : Int) * ((n * m.rnd : Nat) : Int)) / n) = _
    rw [show (c : Int) * ((n * m.rnd : Nat) : Int) = (n : Int) * ((c : Int) * (m.rnd : Int)) by rw [Int.natCast_mul, Int.mul_left_comm], Int.add_mul_ediv_left _ _ n0]
    exact hz
  | .slip n m, h, c, t => by
    have n0 : (n : Int) ≠ 0 := by have := h.1; omega
    obtain ⟨r', hr⟩ := Nat.gcd_dvd_left m.rnd (n + 1)
    obtain ⟨e, he⟩ := Nat.gcd_dvd_right m.rnd (n + 1)
    have g := gcd_le (a := m.rnd) (n := n)
    obtain ⟨z, hz⟩ := bt_round (m := m) h.2.2 (c * e) (t + t / n)
    refine ⟨z, ?_⟩
    have eR : n * m.rnd / Nat.gcd m.rnd (n + 1) = n * r' := by
      generalize Nat.gcd m.rnd (n + 1) = d at hr g
      rw [hr, Nat.mul_left_comm, Nat.mul_div_cancel_left _ (by omega)]
    have key : (n + 1) * r' = e * m.rnd := by
      generalize Nat.gcd m.rnd (n + 1) = d at hr he
      rw [he, hr, Nat.mul_comm d e, Nat.mul_assoc]
    show m.bt ((t + (c : Int) * ((n * m.rnd / Nat.gcd m.rnd (n + 1) : Nat) : Int)) + (t + (c : Int) * ((n * m.rnd / Nat.gcd m.rnd (n + 1) : Nat) : Int)) / n) = _
    rw [eR, show (c : Int) * ((n * r' : Nat) : Int) = (n : Int) * ((c : Int) * (r' : Int)) by rw [Int.natCast_mul, Int.mul_left_comm], Int.add_mul_ediv_left _ _ n0]
    have e2 : t + (n : Int) * ((c : Int) * (r' : Int)) + (t / (n : Int) + (c : Int) * (r' : Int)) = t + t / (n : Int) + ((c * e : Nat) : Int) * (m.rnd : Int) := by
      have k1 : ((c * e : Nat) : Int) * (m.rnd : Int) = (c : Int) * (((n + 1) * r' : Nat) : Int) := by
        rw [key, Int.natCast_mul, Int.natCast_mul, Int.mul_assoc]
      have k2 : (c : Int) * (((n + 1) * r' : Nat) : Int) = (n : Int) * ((c : Int) * (r' : Int)) + (c : Int) * (r' : Int) := by
        rw [Int.natCast_mul, Int.natCast_add, Int.add_mul, Int.mul_add, Int.mul_left_comm]
        congr 1
        rw [show ((1 : Nat) : Int) * (r' : Int) = (r' : Int) by omega]
      omega
    rw [e2]
    exact hz
  | .late n m, h, c, t => by
    obtain ⟨z, hz⟩ := bt_round (m := m) h.2 c (t - n)
    refine ⟨z, ?_⟩
    show m.bt (t + (c : Int) * (m.rnd : Int) - n) = _
    rw [show t + (c : Int) * (m.rnd : Int) - (n : Int) = t - (n : Int) + (c : Int) * (m.rnd : Int) by omega]
    exact hz
  | .counter _ _ _, _, c, _ => ⟨c, rfl⟩
  | .table _, _, c, _ => ⟨c, rfl⟩
  | .turned _ _, _, c, _ => ⟨c, rfl⟩
  | .register _ _ _, _, c, _ => ⟨c, rfl⟩
theorem val_round {m : Mk} (h : m.Ok) (t : Int) : m.val (t + (m.rnd : Int)) = m.val t := by
  obtain ⟨z, hz⟩ := bt_round h 1 t
  rw [show (((1 : Nat) : Int)) * (m.rnd : Int) = (m.rnd : Int) by omega] at hz
  unfold Mk.val
  rw [hz, Int.add_mul_emod_self_right]
/-! the program's dict of sides -/
theorem ent_key {e : DictEntry} {z : Str} {i : Int} (h : entI e = some (z, i)) : ∃ t u, e.key = .str z t ∧ e.val = .int i u := by
  unfold entI at h
  split at h
  · rename_i x t j u h1 h2
    cases h
    exact ⟨t, u, h1, h2⟩
  · cases h
theorem ents_find (z : Str) : ∀ (l : List DictEntry) (kvs : List (Str × Int)), l.map entI = kvs.map some →
    l.any (·.refKey) = false ∧ ((kvs.lookup z = none ∧ l.find? (·.key.isStr z) = none) ∨ ∃ i e t, kvs.lookup z = some i ∧ l.find? (·.key.isStr z) = some e ∧ e.val = .int i t)
  | [], [], _ => ⟨rfl, .inl ⟨rfl, rfl⟩⟩
  | [], _ :: _, h => by cases h
  | _ :: _, [], h => by cases h
  | e :: l, (k, i) :: kvs, h => by
    simp only [List.map_cons, List.cons.injEq] at h
    obtain ⟨t, u, h1, h2⟩ := ent_key h.1
    obtain ⟨r, ih⟩ := ents_find z l kvs h.2
    have rk : e.refKey = false := by
      unfold DictEntry.refKey
      rw [h1]
    refine ⟨by rw [List.any_cons, rk, r]; rfl, ?_⟩
    have ek : e.key.isStr z = (k == z) := by rw [h1]; rfl
    rw [List.find?_cons, ek, List.lookup_cons]
    by_cases c : k = z
    · subst c
      refine .inr ⟨i, e, u, ?_, ?_, h2⟩
      · simp
      · simp
    · have c1 : (k == z) = false := beq_false_of_ne c
      have c2 : (z == k) = false := beq_false_of_ne fun e => c e.symm
      rw [c1, c2]
      exact ih
theorem dic_ns {K : PySem.W.Frag} {a : Addr} {kvs : List (Str × Int)} (h : dicB K a kvs = true) (z : Str) : (kvs.lookup z = none ∧ PySem.W.nsIn K a z = some none) ∨ ∃ i t, kvs.lookup z = some i ∧ PySem.W.nsIn K a z = some (some (.int i t)) := by
  unfold dicB at h
  split at h
  · rename_i c d es n sl e
    obtain ⟨r, q⟩ := ents_find z _ _ (of_decide_eq_true h)
    unfold PySem.W.nsIn
    rw [e]
    dsimp only
    rcases q with ⟨h1, h2⟩ | ⟨i, e', t, h1, h2, h3⟩
    · rw [h2, r]
      exact .inl ⟨h1, rfl⟩
    · rw [h2]
      exact .inr ⟨i, t, h1, by rw [← h3]⟩
  · cases h
/-! a dict of the program's top, in general -/
theorem op_inK {X : Cx} {K' : PySem.W.Frag} {w' : World} {C : Addr} {x : Str} {kvs : List (Str × Int)} (hK : X.K = K') (hw : X.w = w') (hC : C = He.ga K' x) (kd : ∃ es n, KDict K' w' (He.ga K' x) es n) (v : dicB K' (He.ga K' x) kvs = true) : OpR X (compareOp .In) (fun x y H Q => ∃ z, x = .str z ∧ y = .ref C ∧ Q (.bl (kvs.lookup z).isSome) H) := by
  subst hK hw hC
  obtain ⟨es, n, kd⟩ := kd
  intro pins s σ H x y v u Q I rx ry h
  obtain ⟨z, rfl, rfl, q⟩ := h
  rcases dic_ns (by assumption) z with ⟨h1, h2⟩ | ⟨i, t, h1, h2⟩
  · refine op_in_kd kd pins s σ H _ _ v u Q I rx ry ⟨z, _, rfl, rfl, h2, ?_⟩
    rw [h1] at q
    exact q
  · refine op_in_kd kd pins s σ H _ _ v u Q I rx ry ⟨z, _, rfl, rfl, h2, ?_⟩
    rw [h1] at q
    exact q
theorem ix_K {X : Cx} {K' : PySem.W.Frag} {w' : World} {C : Addr} {x : Str} {kvs : List (Str × Int)} (hK : X.K = K') (hw : X.w = w') (hC : C = He.ga K' x) (kd : ∃ es n, KDict K' w' (He.ga K' x) es n) (v : dicB K' (He.ga K' x) kvs = true) : IxR X (fun x y H Q => ∃ z i, x = .ref C ∧ y = .str z ∧ kvs.lookup z = some i ∧ Q (.int i) H) := by
  subst hK hw hC
  obtain ⟨es, n, kd⟩ := kd
  intro value slice pins s σ H x' y v' u Q I rx ry h hs
  obtain ⟨z, i, rfl, rfl, e, q⟩ := h
  have ru := rx
  cases rx
  refine tail_any (kd_type kd I) PySem.slot_dict_getitem.lookup ?_ hs
  rcases dic_ns v z with ⟨h1, h2⟩ | ⟨j, t, h1, h2⟩
  · rw [e] at h1
    cases h1
  · rw [e] at h1
    cases h1
    exact op_item_kd kd pins s σ H (V.ref (He.ga X.K x)) (V.str z) _ u Q I ru ry ⟨z, _, .int i, rfl, rfl, h2, ⟨_, rfl⟩, q⟩
def askN (z : Str) : Option Int := dl_ASKED.lookup z
def sp_asks_of (_ : PySem.W.Frag) : Sp := fun vs H Q _ => ∃ (a : Addr) (z : Str) (xs : List V) (n : Nat), vs = [.ref a] ∧ H a = some (.tup (.str z :: xs)) ∧ askN z = some (n : Int) ∧ ∀ H' t, Same H H' → H' t = some (.tup (xs.take n)) → Q (.ref t) H'
theorem cut_1n (x : V) (xs : List V) (n : Nat) : cutV (x :: xs) (some 1) (some (1 + (n : Int))) = xs.take n := by
  unfold cutV
  rw [show (1 + (n : Int)) = ((n + 1 : Nat) : Int) by omega, show (1 : Int) = ((1 : Nat) : Int) from rfl, HT.sIx_nat, HT.sIx_nat, List.length_cons, Nat.min_eq_left (show 1 ≤ xs.length + 1 by omega)]
  show (xs.take _) = _
  by_cases h : n ≤ xs.length
  · rw [Nat.min_eq_left (by omega), show n + 1 - 1 = n by omega]
  · rw [Nat.min_eq_right (by omega), show xs.length + 1 - 1 = xs.length by omega, List.take_of_length_le (Nat.le_refl _), List.take_of_length_le (by omega)]
theorem ok_asks_of (T : Defs K mg) : FnOk P w K mg base CX0 1 T.f_asks_of T.fd_asks_of ["piece"] (sp_asks_of K) := by
  refine T.F_asks_of.ok sc_asks_of (fun vs H Q E h => ?_) (fun cdv A outer s H vs Q E hr h => ?_)
  · obtain ⟨a, z, xs, n, rfl, ha, hn, q⟩ := h
    rfl
  · obtain ⟨a, z, xs, n, rfl, ha, hn, q⟩ := h
    refine ⟨_, PSs.nox (pss_one (ps_ret (pe_slice sl_tupS (pv 0) (po_some pe_int) (po_some (pe_op op_add pe_int (pe_ix (ix_K (x := "ASKED") (K' := K) (w' := w) rfl rfl T.e_ASKED DW.k_ASKED (DW.v_ASKED w)) (pe_glob (v := .ref T.C_ASKED) (by rfl) T.g_ASKED rfl) (pe_ix ix_tup (pv 0) pe_int (fun _ _ => rfl)) (fun _ _ => rfl))))))), ?_⟩
    refine ⟨.ref a, rfl, 1, rfl, .ref a, rfl, a, _, 0, _, rfl, rfl, SqT.mk ha, atI_nat (j := 0) rfl, z, (n : Int), rfl, rfl, hn, _, _, rfl, rfl, _, rfl, a, _, rfl, ha, fun G t sG ht => ?_⟩
    rw [cut_1n] at ht
    exact q G t sG ht
/-! the law's makers -/
theorem gcd_stepN (x y : Nat) : Nat.gcd y (x % y) = Nat.gcd x y := by
  rw [Nat.gcd_comm, ← Nat.gcd_rec, Nat.gcd_comm]
def sp__law_alone (_ : PySem.W.Frag) : Sp := fun vs H Q _ => ∃ a b : Nat, vs = [.int (a : Nat), .int (b : Nat)] ∧ Q (.bl (decide (V.int ((Nat.gcd a b : Nat) : Int) = V.int 1))) H
theorem ok__law_alone (T : Defs K mg) : FnOk P w K mg base CX0 1 T.f__law_alone T.fd__law_alone ["_law_one", "_law_other"] (sp__law_alone K) := by
  refine T.F__law_alone.ok sc__law_alone (fun vs H Q E h => ?_) (fun cdv A outer s H vs Q E hr h => ?_)
  · obtain ⟨a, b, rfl, q⟩ := h
    rfl
  · obtain ⟨a, b, rfl, q⟩ := h
    refine ⟨_, PSs.nox (pss_cons (ps_while PassesOwn.never (pt_cmpR op_gt (pv 1) pe_int (nomark _)) (pss_one (ps_par (i := 0) (j := 1) (by rfl) sc__law_alone.nd rfl rfl (by decide) rfl rfl (pa_cons (pv 1) (pa_cons (pe_op op_mod (pv 0) (pv 1)) pa_nil)) (by rfl))))
    (pss_one (ps_ret (pe_cmpR op_eq (pv 0) pe_int (nomark _))))), ?_⟩
    refine while_by (fun σ H1 => H1 = H ∧ ∃ x y : Nat, σ = [some (.int (x : Nat)), some (.int (y : Nat))] ∧ Nat.gcd x y = Nat.gcd a b) (fun σ _ => match σ with | [_, some (.int y)] => y.toNat | _ => 0) ⟨rfl, a, b, rfl, rfl⟩ ?_ ?_
    · rintro σ H1 ⟨rfl, x, y, rfl, hg⟩
      refine ⟨.int (y : Nat), rfl, _, _, rfl, rfl, _, rfl, ite2 (fun e => ?_) (fun e => ?_)⟩
      · have hy : (0 : Int) < (y : Int) := of_decide_eq_true e
        refine ⟨.int (y : Nat), rfl, .int (x : Nat), rfl, .int (y : Nat), rfl, _, _, rfl, rfl, hy, _, _, rfl, ⟨rfl, y, x % y, ?_, ?_⟩, ?_⟩
        · rfl
        · rw [gcd_stepN, hg]
        · show ((x : Int) % (y : Int)).toNat < ((y : Int)).toNat
          have := Int.emod_lt_of_pos (x : Int) hy
          have := Int.emod_nonneg (x : Int) (show (y : Int) ≠ 0 by omega)
          omega
      · have hy : ¬ (0 : Int) < (y : Int) := fun z => e (decide_eq_true z)
        have y0 : y = 0 := by omega
        subst y0
        rw [Nat.gcd_zero_right] at hg
        subst hg
        exact ⟨_, rfl, rfl, q⟩
    · rintro σ H1 Q1 Q2 hQ ⟨v, hv, i, j, e1, e2, k, e3, h3⟩
      exact ⟨v, hv, i, j, e1, e2, k, e3, hQ _ _ h3⟩
def SVR (R : Int → Prop) (D : Addr) (HX : Hp) (m i : Nat) (H1 : Hp) : Prop := ∃ ss : List Int, ss.length ≤ i ∧ (i = 0 ∨ 1 ≤ ss.length) ∧ (∀ x, x ∈ ss → 1 ≤ x ∧ x ≤ m ∧ R x) ∧ Same HX H1 ∧ H1 D = some (.lst (ss.map V.int))
theorem i01b {c : Bool} : 0 ≤ (if c = true then (1 : Int) else 0) ∧ (if c = true then (1 : Int) else 0) < ((2 : Nat) : Int) := by
  cases c <;> decide
theorem word_menu {x : V} (hx : x ∈ [V.str "slow", .str "slip", .str "late"]) : ∃ z : Str, x = .str z ∧ (z = "slow" ∨ z = "slip" ∨ z = "late") := by
  rcases List.mem_cons.mp hx with rfl | hx
  · exact ⟨_, rfl, .inl rfl⟩
  rcases List.mem_cons.mp hx with rfl | hx
  · exact ⟨_, rfl, .inr (.inl rfl)⟩
  rcases List.mem_cons.mp hx with rfl | hx
  · exact ⟨_, rfl, .inr (.inr rfl)⟩
  · cases hx
theorem around_ok {H : Hp} {m : Mk} {x : V} {a : Addr} {z : Str} {n : Nat} (ha : H a = some (.tup [.str z, .int (n : Nat), x])) (hx : MkAt H m x) (ok : m.Ok) (hz : z = "slow" ∨ z = "slip" ∨ z = "late") (n2 : n ≤ 64) (n1 : z = "late" ∨ 1 ≤ n) :
    ∃ m', MkAt H m' (.ref a) ∧ m'.Ok ∧ m'.dep = m.dep + 1 ∧ m'.inn = m.inn ∧ m'.rnd ≤ 64 * m.rnd := by
  rcases hz with rfl | rfl | rfl
  · have n1 : 1 ≤ n := n1.resolve_left (by decide +kernel)
    exact ⟨.slow n m, ⟨a, x, rfl, ha, hx⟩, ⟨n1, n2, ok⟩, rfl, rfl, Nat.mul_le_mul_right _ n2⟩
  · have n1 : 1 ≤ n := n1.resolve_left (by decide +kernel)
    exact ⟨.slip n m, ⟨a, x, rfl, ha, hx⟩, ⟨n1, n2, ok⟩, rfl, rfl, Nat.le_trans (Nat.div_le_self _ _) (Nat.mul_le_mul_right _ n2)⟩
  · exact ⟨.late n m, ⟨a, x, rfl, ha, hx⟩, ⟨n2, ok⟩, rfl, rfl, Nat.le_mul_of_pos_left _ (by decide)⟩
def twos : List Int := [1, 2, 4, 8, 16, 32, 64]
theorem twos_at {w : Nat} (h : w ≤ 6) : (twos.map V.int)[w]? = some (.int ((2 ^ w : Nat) : Int)) := by
  have : w = 0 ∨ w = 1 ∨ w = 2 ∨ w = 3 ∨ w = 4 ∨ w = 5 ∨ w = 6 := by omega
  rcases this with rfl | rfl | rfl | rfl | rfl | rfl | rfl <;> rfl
theorem rnd_plainM {m : Mk} (h : m.dep = 0) : m.rnd = m.pl.length := by
  cases m with
  | slow n m => cases h
  | slip n m => cases h
  | late n m => cases h
  | _ => rfl
def spr__law_maker (d : Nat) (_ : PySem.W.Frag) : Sp := fun vs H Q _ => ∃ (p : Addr) (M : Int) (n k : Nat), vs = [.ref p, .int (k : Nat), .int M] ∧ Bx H p n ∧ n + 400 * d < 1000000000 ∧ k < d ∧ d ≤ 3 ∧ 1 ≤ M ∧ M ≤ 64 ∧
  ∀ H' v m, But p H H' → Bx H' p (n + 400 * d) → MkAt H' m v → m.Ok → m.inn.Vd → m.dep ≤ k → m.rnd ≤ 64 ^ (k + 1) → Q v H'
theorem no__law_maker {K : PySem.W.Frag} {vs : List V} {H : Hp} {Q : VK} {E : XK} (h : spr__law_maker 0 K vs H Q E) : False := by
  obtain ⟨p, M, n, k, _, _, _, z, _⟩ := h
  exact Nat.not_lt_zero _ z
theorem okr__law_maker (T : Defs K mg) : ∀ d : Nat, FnOk P w K mg base CX0 (1 + d) T.f__law_maker T.fd__law_maker ["_law_box_here", "_law_deep", "_law_most"] (spr__law_maker d K)
  | 0 => ⟨fun _ _ _ _ z => (no__law_maker z).elim, fun _ _ _ _ _ _ _ _ _ _ _ _ _ z => (no__law_maker z).elim⟩
  | d + 1 => by
    have G__law_take : FnOk P w K mg base CX0 1 T.f__law_take T.fd__law_take ["_law_box_here", "_law_many"] (sp__law_take K) := ok__law_take T
    have G__law_maker : FnOk P w K mg base CX0 (1 + d) T.f__law_maker T.fd__law_maker ["_law_box_here", "_law_deep", "_law_most"] (spr__law_maker d K) := okr__law_maker T d
    have G__law_alone : FnOk P w K mg base CX0 1 T.f__law_alone T.fd__law_alone ["_law_one", "_law_other"] (sp__law_alone K) := ok__law_alone T
    show FnOk P w K mg base CX0 ((1 + d) + 1) T.f__law_maker T.fd__law_maker ["_law_box_here", "_law_deep", "_law_most"] (spr__law_maker (d + 1) K)
    refine T.F__law_maker.ok sc__law_maker (fun vs H Q E h => ?_) (fun cdv A outer s H vs Q E hr h => ?_)
    · obtain ⟨p, M, n, k, rfl, hB, hn, hk, hd3, M1, M2, q⟩ := h
      rfl
    · obtain ⟨p, M, n, k, rfl, hB, hn, hk, hd3, M1, M2, q⟩ := h
      refine ⟨_, PSs.nox (pss_cons (ps_asg (pe_tup (pa_cons (pe_call G__law_take (hr.mono (by omega)) (by rfl) T.g__law_take T.F__law_take.kp T.b__law_take .nil pass0 (pa_cons (pv 0) (pa_cons pe_int pa_nil))) (pa_cons (pe_op op_add pe_int (pe_call G__law_take (hr.mono (by omega)) (by rfl) T.g__law_take T.F__law_take.kp T.b__law_take .nil pass0 (pa_cons (pv 0) (pa_cons (pv 2) pa_nil)))) pa_nil))) (pg_tup rfl (pgs_cons (pg_name (i := 3) sc__law_maker.nd rfl (.inl rfl)) (pgs_cons (pg_name (i := 4) sc__law_maker.nd rfl (.inr rfl)) pgs_nil))))
    (pss_cons (ps_if (PW.pt (pw_and (pt_cmpR op_gt (pv 3) pe_int (nomark _)) (pw_and1 (pt_cmpR op_gt (pv 1) pe_int (nomark _))))) (pss_cons (ps_set (i := 5) sc__law_maker.nd rfl (.inl rfl) (pe_ix ix_list (pe_lst (pa_cons pe_str (pa_cons pe_str (pa_cons pe_str pa_nil)))) (pe_op op_sub (pv 3) pe_int) (fun _ _ => rfl)))
    (pss_one (ps_ret (pe_tup (pa_cons (pv 5) (pa_cons (pe_ix ix_list (pe_lst (pa_cons (pe_op op_add pe_int (pe_call G__law_take (hr.mono (by omega)) (by rfl) T.g__law_take T.F__law_take.kp T.b__law_take .nil pass0 (pa_cons (pv 0) (pa_cons pe_int pa_nil)))) (pa_cons (pe_call G__law_take (hr.mono (by omega)) (by rfl) T.g__law_take T.F__law_take.kp T.b__law_take .nil pass0 (pa_cons (pv 0) (pa_cons pe_int pa_nil))) pa_nil))) (pe_callTy call_int1 (by rfl) T.m_int bt_int (pa_cons (pe_cmpR op_eq (pv 5) pe_str (nomark _)) pa_nil)) (fun _ _ => rfl)) (pa_cons (pe_call G__law_maker (hr.mono (by omega)) (by rfl) T.g__law_maker T.F__law_maker.kp T.b__law_maker .nil pass0 (pa_cons (pv 0) (pa_cons (pe_op op_sub (pv 1) pe_int) (pa_cons (pv 2) pa_nil)))) pa_nil))))))) pss_nil)
    (pss_cons (ps_set (i := 6) sc__law_maker.nd rfl (.inr rfl) (pe_lst (pa_cons pe_int (pa_cons pe_int (pa_cons pe_int (pa_cons pe_int (pa_cons pe_int (pa_cons pe_int (pa_cons pe_int pa_nil)))))))))
    (pss_cons (ps_setLc (i := 7) (own := [("_law_wide", 8)]) (g := gName 8) rfl sc__law_maker.nd rfl rfl (sw_true rfl rfl rfl (by decide +kernel)) (pi_range2 (by rfl) T.m_range (pa_cons pe_int (pa_cons pe_int pa_nil))) (blkOk_by (N := N__law_maker) (sc := defScope s__law_maker) (by decide +kernel)) (fun _ _ _ _ _ => (pg_name (i := 8) sc__law_maker.nd rfl (.inl rfl))) (fun _ _ _ _ _ => pts_one (pt_cmpR op_le (pe_ix (ixlK (K := K) rfl) (pv 6) (pv 8) (fun _ _ => rfl)) (pe_callB (call_max2 rfl) (by rfl) T.m_max bt_max (pa_cons (pv 2) (pa_cons pe_int pa_nil))) (nomark _))) (fun _ _ _ _ _ => (pv 8)))
    (pss_cons (ps_set (i := 8) sc__law_maker.nd rfl (.inl rfl) (pe_ix ix_list (pv 7) (pe_call G__law_take (hr.mono (by omega)) (by rfl) T.g__law_take T.F__law_take.kp T.b__law_take .nil pass0 (pa_cons (pv 0) (pa_cons (pe_callB call_len_seq (by rfl) T.m_len bt_len (pa_cons (pv 7) pa_nil)) pa_nil))) (fun _ _ => rfl)))
    (pss_cons (ps_if (pt_cmpR op_eq (pv 3) pe_int (nomark _)) (pss_one (ps_ret (pe_tup (pa_cons pe_str (pa_cons (pv 8) (pa_cons (pe_call G__law_take (hr.mono (by omega)) (by rfl) T.g__law_take T.F__law_take.kp T.b__law_take .nil pass0 (pa_cons (pv 0) (pa_cons (pe_ix ix_list (pv 6) (pv 8) (fun _ _ => rfl)) pa_nil))) pa_nil)))))) pss_nil)
    (pss_cons (ps_if (PW.pt (pw_and (pt_cmpR op_eq (pv 3) pe_int (nomark _)) (pw_and1 (pt_cmpR op_gt (pv 8) pe_int (nomark _))))) (pss_cons (ps_set (i := 9) sc__law_maker.nd rfl (.inl rfl) (pe_op op_add (pe_ix ix_list (pv 6) (pe_op op_sub (pv 8) pe_int) (fun _ _ => rfl)) (pe_call G__law_take (hr.mono (by omega)) (by rfl) T.g__law_take T.F__law_take.kp T.b__law_take .nil pass0 (pa_cons (pv 0) (pa_cons (pe_ix ix_list (pv 6) (pe_op op_sub (pv 8) pe_int) (fun _ _ => rfl)) pa_nil)))))
    (pss_one (ps_ret (pe_tup (pa_cons pe_str (pa_cons (pv 8) (pa_cons (pv 9) (pa_cons (pe_op op_add pe_int (pe_call G__law_take (hr.mono (by omega)) (by rfl) T.g__law_take T.F__law_take.kp T.b__law_take .nil pass0 (pa_cons (pv 0) (pa_cons (pe_op op_sub (pe_ix ix_list (pv 6) (pv 8) (fun _ _ => rfl)) pe_int) pa_nil)))) pa_nil)))))))) pss_nil)
    (pss_cons (ps_if (pt_cmpR op_eq (pv 3) pe_int (nomark _)) (pss_one (ps_ret (pe_tup (pa_cons pe_str (pa_cons (pe_callTy call_tuple_of (by rfl) T.m_tuple bt_tuple (pa_cons (pe_lc (own := [("_law_k", 11)]) (g := gName 11) (tt := tYes) rfl sc__law_maker.nd (pi_range1 (by rfl) T.m_range (pa_cons (pv 4) pa_nil)) (blkOk_by (N := N__law_maker) (sc := defScope s__law_maker) (by decide +kernel)) (fun _ _ _ _ _ => (pg_name (i := 11) sc__law_maker.nd rfl (.inl rfl))) (fun _ _ _ _ _ => pts_nil) (fun _ _ _ _ _ => (pe_call G__law_take (hr.mono (by omega)) (by rfl) T.g__law_take T.F__law_take.kp T.b__law_take .nil pass0 (pa_cons (pv 0) (pa_cons (pe_ix (ixlK (K := K) rfl) (pe_lst (pa_cons pe_int (pa_cons pe_int pa_nil))) (pe_call G__law_take (hr.mono (by omega)) (by rfl) T.g__law_take T.F__law_take.kp T.b__law_take .nil pass0 (pa_cons (pv 0) (pa_cons pe_int pa_nil))) (fun _ _ => rfl)) pa_nil))))) pa_nil)) pa_nil))))) pss_nil)
    (pss_cons (ps_setLc (i := 10) (own := [("_law_step", 12)]) (g := gName 12) rfl sc__law_maker.nd rfl rfl (sw_true rfl rfl rfl (by decide +kernel)) (pi_range2 (by rfl) T.m_range (pa_cons pe_int (pa_cons (pe_op op_add (pv 4) pe_int) pa_nil))) (blkOk_by (N := N__law_maker) (sc := defScope s__law_maker) (by decide +kernel)) (fun _ _ _ _ _ => (pg_name (i := 12) sc__law_maker.nd rfl (.inl rfl))) (fun _ _ _ _ _ => pts_one (pt_val (pe_call G__law_alone (hr.mono (by omega)) (by rfl) T.g__law_alone T.F__law_alone.kp T.b__law_alone .nil pass0 (pa_cons (pv 12) (pa_cons (pv 4) pa_nil))))) (fun _ _ _ _ _ => (pv 12)))
    (pss_one (ps_ret (pe_tup (pa_cons pe_str (pa_cons (pv 4) (pa_cons (pe_ix ix_list (pv 10) (pe_call G__law_take (hr.mono (by omega)) (by rfl) T.g__law_take T.F__law_take.kp T.b__law_take .nil pass0 (pa_cons (pv 0) (pa_cons (pe_callB call_len_seq (by rfl) T.m_len bt_len (pa_cons (pv 10) pa_nil)) pa_nil))) (fun _ _ => rfl)) (pa_cons (pe_call G__law_take (hr.mono (by omega)) (by rfl) T.g__law_take T.F__law_take.kp T.b__law_take .nil pass0 (pa_cons (pv 0) (pa_cons (pv 4) pa_nil))) pa_nil)))))))))))))))), ?_⟩
      have hsl : sizeLine = 16777216 := by decide
      have pl_q : ∀ H' v m, But p H H' → Bx H' p (n + 350) → MkAt H' m v → m.dep = 0 → m.Pl → m.Vd → Q v H' := fun H' v m b B hm d0 pl vd => by
        refine q H' v m b (B.mono (by omega)) hm ?_ ?_ (by omega) ?_
        · cases m with
          | slow n k => cases d0
          | slip n k => cases d0
          | late n k => cases d0
          | _ => exact pl
        · cases m with
          | slow n k => cases d0
          | slip n k => cases d0
          | late n k => cases d0
          | _ => exact vd
        · rw [rnd_plainM d0]
          have := pl.len
          have : 64 ^ 1 ≤ 64 ^ (k + 1) := Nat.pow_le_pow_right (by decide) (by omega)
          omega
      refine ⟨.ref p, rfl, p, 9, n, rfl, hB, by decide, by decide, by omega, fun H1 way c1 B1 l1 u1 => ?_⟩
      refine ⟨.ref p, rfl, .int M, rfl, p, M, n + 1, rfl, B1, by omega, by omega, by omega, fun H2 r2 c2 B2 l2 u2 => ⟨_, _, rfl, rfl, (show 2 ≤ sizeLine by decide), fun t nt => ⟨t, _, rfl, SqT.mk upd_same, rfl, _, _, rfl, _, _, rfl, rfl, ?_⟩⟩⟩
      obtain ⟨mn, hmn⟩ := nat_of (show 0 ≤ 1 + r2 by omega)
      try dsimp only
      rw [hmn]
      have b2 : But p H (upd H2 t (.tup [.int way, .int (mn : Nat)])) := (c1.trans c2).new nt
      have B3 := B2.new (o := .tup [.int way, .int (mn : Nat)]) nt
      generalize upd H2 t (.tup [.int way, .int (mn : Nat)]) = G0 at b2 B3 ⊢
      have m1 : 1 ≤ mn := by omega
      have m2 : mn ≤ 64 := by omega
      clear c1 c2 B1 B2 nt l2 u2 hmn
      refine seq_via (fun σ G => σ = [some (.ref p), some (.int (k : Nat)), some (.int M), some (.int way), some (.int (mn : Nat)), none, none, none, none, none, none, none, none] ∧ G = G0) (fun N key => ?_) ?_
      · refine ⟨.int way, rfl, _, _, rfl, rfl, _, rfl, ite2 (fun e => ?_) (fun e => iteF (key _ _ ⟨rfl, rfl⟩))⟩
        have hw : (5 : Int) < way := of_decide_eq_true e
        refine ⟨.int (k : Nat), rfl, _, _, rfl, rfl, _, rfl, ite2 (fun e => ?_) (fun e => key _ _ ⟨rfl, rfl⟩)⟩
        have hk0 : (0 : Int) < (k : Int) := of_decide_eq_true e
        refine ⟨(show 3 ≤ sizeLine by decide), fun l nl => ⟨.int way, rfl, _, _, rfl, rfl, ?_⟩⟩
        obtain ⟨wd, ew, z, rfl, hz⟩ := at_menuV (Pr := fun x => ∃ z : Str, x = .str z ∧ (z = "slow" ∨ z = "slip" ∨ z = "late")) (xs := [.str "slow", .str "slip", .str "late"]) (r := way - 6) (by omega) (show way - 6 < 3 by omega) (fun x hx => word_menu hx)
        refine ⟨l, _, _, _, rfl, rfl, SqL.mk upd_same, ew, ?_⟩
        have b4 := b2.new (o := .lst [.str "slow", .str "slip", .str "late"]) nl
        have B4 := B3.new (o := .lst [.str "slow", .str "slip", .str "late"]) nl
        generalize upd G0 l (.lst [.str "slow", .str "slip", .str "late"]) = G1 at b4 B4 ⊢
        refine ⟨.str z, rfl, .ref p, rfl, p, 4, _, rfl, B4, by decide, by decide, by omega, fun F1 r3 c3 B5 l3 u3 => ⟨_, _, rfl, rfl, ?_⟩⟩
        refine ⟨.ref p, rfl, p, 65, _, rfl, B5, by decide, by decide, by omega, fun F2 r4 c4 B6 l4 u4 => ⟨(show 2 ≤ sizeLine by decide), fun l2 nl2 => ?_⟩⟩
        obtain ⟨v, ev, hv⟩ : ∃ v, atI ([1 + r3, r4].map V.int) (if decide (V.str z = V.str "late") = true then (1 : Int) else 0) = some (.int v) ∧ (z = "late" ∨ 1 ≤ v) ∧ 0 ≤ v ∧ v ≤ 64 := by
          by_cases c : V.str z = V.str "late"
          · rw [decide_eq_true c, if_pos rfl]
            exact ⟨r4, atI_nat (j := 1) rfl, .inl (V.str.inj c), l4, by omega⟩
          · rw [decide_eq_false c, if_neg Bool.false_ne_true]
            exact ⟨1 + r3, atI_nat (j := 0) rfl, .inr (by omega), by omega, by omega⟩
        obtain ⟨N', rfl⟩ := nat_of hv.2.1
        refine ⟨.str z, rfl, rfl, .inr ⟨_, rfl, l2, _, _, _, rfl, rfl, SqL.mk upd_same, ev, ?_⟩⟩
        have b6 := (b4.trans (c3.trans c4)).new (o := .lst [.int (1 + r3), .int r4]) nl2
        have B7 := B6.new (o := .lst [.int (1 + r3), .int r4]) nl2
        generalize upd F2 l2 (.lst [.int (1 + r3), .int r4]) = G2 at b6 B7 ⊢
        obtain ⟨k', rfl⟩ : ∃ k', k = k' + 1 := ⟨k - 1, by omega⟩
        refine ⟨.ref p, rfl, .int ((k' + 1 : Nat) : Int), rfl, _, _, rfl, rfl, .int M, rfl, p, M, _, k', ?_, B7, by omega, by omega, by omega, M1, M2, fun G3 x m c5 B8 hm ok vd dp rm => ⟨(show 3 ≤ sizeLine by decide), fun tg ntg => ?_⟩⟩
        · have e : ((k' + 1 : Nat) : Int) - 1 = (k' : Int) := by omega
          show [V.ref p, V.int (((k' + 1 : Nat) : Int) - 1), V.int M] ++ [] = _
          rw [e]
          rfl
        obtain ⟨m', hm', ok', dp', in', rd'⟩ := around_ok (H := upd G3 tg (.tup [.str z, .int (N' : Nat), x])) upd_same (hm.same (same_upd ntg)) ok hz (by omega) (hv.1.imp id (by omega))
        refine q _ (.ref tg) m' ((b6.trans c5).new ntg) ((B8.new ntg).mono (by omega)) hm' ok' (by rw [in']; exact vd) (by omega) ?_
        rw [show 64 ^ (k' + 1 + 1) = 64 * 64 ^ (k' + 1) by rw [Nat.pow_succ 64 (k' + 1), Nat.mul_comm]]
        exact Nat.le_trans rd' (Nat.mul_le_mul_left _ rm)
      rintro σ G ⟨rfl, rfl⟩
      -- a plain one
      refine ⟨(show 7 ≤ sizeLine by decide), fun tw ntw => ?_⟩
      have htw : (upd G tw (.lst [.int 1, .int 2, .int 4, .int 8, .int 16, .int 32, .int 64])) tw = some (.lst (twos.map V.int)) := upd_same
      have b4 := b2.new (o := .lst [.int 1, .int 2, .int 4, .int 8, .int 16, .int 32, .int 64]) ntw
      have B4 := B3.new (o := .lst [.int 1, .int 2, .int 4, .int 8, .int 16, .int 32, .int 64]) ntw
      have twp : tw ≠ p := ne_new B3 ntw
      generalize upd G tw (.lst [.int 1, .int 2, .int 4, .int 8, .int 16, .int 32, .int 64]) = G1 at htw b4 B4 ⊢
      refine ⟨1, 7, rfl, ⟨by decide, by decide, by decide, by decide⟩, fun D nD => ?_⟩
      refine lc_range (lo := 1) (n := 6) (SVR (fun _ => True) D G1 6) ⟨[], Nat.le_refl 0, .inl rfl, fun _ h => (by cases h), same_upd nD, upd_same⟩ (fun i F hi h => ?_) (fun F h => ?_)
      · obtain ⟨ss, e1, e2, e3, sF, hD⟩ := h
        refine ⟨rfl, .ref tw, rfl, _, rfl, tw, _, _, .int ((2 ^ (1 + i) : Nat) : Int), rfl, rfl, SqL.mk (sF _ _ htw), ?_, .int M, rfl, _, _, rfl, _, _, rfl, rfl, _, rfl, ?_⟩
        · rw [show (1 : Int) + (i : Int) = ((1 + i : Nat) : Int) by omega]
          exact atI_nat (twos_at (by omega))
        refine ite2 (fun e => ?_) (fun e => ?_)
        · refine ⟨_, rfl, _, hD, by rw [List.length_map]; omega, ss ++ [1 + (i : Int)], by rw [List.length_append]; exact Nat.add_le_add_right e1 1, .inr (by rw [List.length_append]; exact Nat.le_add_left _ _), fun x hx => ?_, same_newer sF nD, by rw [upd_same, List.map_append]; rfl⟩
          rcases List.mem_append.mp hx with hx | hx
          · exact e3 x hx
          · rw [List.mem_singleton.mp hx]
            exact ⟨by omega, by omega, trivial⟩
        · refine ⟨ss, by omega, .inr ?_, e3, sF, hD⟩
          rcases e2 with rfl | e2
          · exfalso
            refine e (decide_eq_true ?_)
            show (2 : Int) ≤ if (4 : Int) > M then 4 else M
            split <;> omega
          · exact e2
      obtain ⟨ss, e1, e2, e3, sF, hD⟩ := h
      have e2 : 1 ≤ ss.length := by omega
      have e1 : ss.length ≤ 6 := by omega
      have bF := b4.trans (same_but (p := p) sF)
      have BF := B4.same sF
      have Db : D ≠ p := ne_new B4 nD
      refine ⟨.ref D, rfl, .ref p, rfl, .ref D, rfl, D, _, rfl, .inl (SqL.mk hD), p, ss.length, _, by rw [List.length_map]; rfl, BF, by omega, by omega, by omega, fun F3 r5 c5 B6 l5 u5 => ?_⟩
      obtain ⟨wd, ev2, hv2⟩ := at_menu (Pr := fun v => 1 ≤ v ∧ v ≤ 6) (xs := ss) l5 u5 (fun x hx => ⟨(e3 x hx).1, (e3 x hx).2.1⟩)
      refine ⟨D, _, _, _, rfl, rfl, SqL.mk (c5 _ _ Db hD), ev2, ?_⟩
      obtain ⟨w', rfl⟩ := nat_of (show 0 ≤ wd by omega)
      have w1 : 1 ≤ w' := by omega
      have w2 : w' ≤ 6 := by omega
      have htw3 := c5 _ _ twp (sF _ _ htw)
      have b5 := bF.trans c5
      have tp := two_pow6 w2
      clear ev2 hD BF bF sF e3 e1 e2 htw B4 b4 b2 B3 c5 l5 u5
      refine ⟨.int way, rfl, rfl, _, rfl, ite2 (fun _ => ?_) (fun _ => ?_)⟩
      · refine ⟨.int (w' : Nat), rfl, .ref p, rfl, .ref tw, rfl, .int (w' : Nat), rfl, tw, _, _, _, rfl, rfl, SqL.mk htw3, atI_nat (twos_at w2), p, _, _, rfl, B6, by omega, by omega, by omega, fun F4 r6 c6 B7 l6 u6 => ⟨(show 3 ≤ sizeLine by decide), fun mk nmk => ?_⟩⟩
        obtain ⟨s', rfl⟩ := nat_of l6
        exact pl_q _ (.ref mk) (.turned w' s') ((b5.trans c6).new nmk) ((B7.new nmk).mono (by omega)) ⟨mk, rfl, upd_same⟩ rfl ⟨w1, w2, by omega⟩ trivial
      refine nx_via (fun σ G => σ = [some (.ref p), some (.int (k : Nat)), some (.int M), some (.int way), some (.int (mn : Nat)), none, some (.ref tw), some (.ref D), some (.int (w' : Nat)), none, none, none, none] ∧ G = F3) (fun N key => ?_) ?_
      · refine ⟨.int way, rfl, rfl, _, rfl, ite2 (fun e => ?_) (fun e => iteF (key _ _ ⟨rfl, rfl⟩))⟩
        refine ⟨.int (w' : Nat), rfl, _, _, rfl, rfl, _, rfl, ite2 (fun e => ?_) (fun e => key _ _ ⟨rfl, rfl⟩)⟩
        have w3 : 2 ≤ w' := by
          have : (1 : Int) < (w' : Int) := of_decide_eq_true e
          omega
        have ew1 : (w' : Int) - 1 = ((w' - 1 : Nat) : Int) := by omega
        have at1 : atI (twos.map V.int) ((w' : Int) - 1) = some (.int ((2 ^ (w' - 1) : Nat) : Int)) := by
          rw [ew1]
          exact atI_nat (twos_at (by omega))
        have tq := two_pow6 (show w' - 1 ≤ 6 by omega)
        have en : 2 ^ w' = 2 * 2 ^ (w' - 1) := by
          rw [show 2 * 2 ^ (w' - 1) = 2 ^ (w' - 1 + 1) by rw [Nat.pow_succ, Nat.mul_comm], show w' - 1 + 1 = w' by omega]
        obtain ⟨h2, hh2⟩ : ∃ h2, 2 ^ (w' - 1) = h2 := ⟨_, rfl⟩
        obtain ⟨nn, hn2⟩ : ∃ nn, 2 ^ w' = nn := ⟨_, rfl⟩
        rw [hh2] at at1 tq en
        rw [hn2] at tp en
        refine ⟨.ref tw, rfl, .int (w' : Nat), rfl, _, _, rfl, rfl, tw, _, _, _, rfl, rfl, SqL.mk htw3, at1, .ref p, rfl, .ref tw, rfl, .int (w' : Nat), rfl, _, _, rfl, rfl, tw, _, _, _, rfl, rfl, SqL.mk htw3, at1, p, _, _, rfl, B6, by omega, by omega, by omega, fun F4 r6 c6 B7 l6 u6 => ⟨_, _, rfl, rfl, ?_⟩⟩
        obtain ⟨p', hp'⟩ : ∃ p' : Nat, (h2 : Int) + r6 = p' := ⟨((h2 : Int) + r6).toNat, by omega⟩
        refine ⟨.int (w' : Nat), rfl, _, rfl, .ref p, rfl, .ref tw, rfl, .int (w' : Nat), rfl, tw, _, _, .int (nn : Nat), rfl, rfl, SqL.mk (c6 _ _ twp htw3), ?_, _, _, rfl, rfl, p, _, _, rfl, B7, by omega, by omega, by omega, fun F5 r7 c7 B8 l7 u7 => ⟨_, _, rfl, rfl, (show 4 ≤ sizeLine by decide), fun mk nmk => ?_⟩⟩
        · rw [← hn2]
          exact atI_nat (twos_at w2)
        obtain ⟨t, ht⟩ : ∃ t : Nat, 1 + r7 = t := ⟨(1 + r7).toNat, by omega⟩
        refine pl_q _ (.ref mk) (.register w' p' t) ((b5.trans (c6.trans c7)).new nmk) ((B8.new nmk).mono (by omega)) ⟨mk, rfl, ?_⟩ rfl ⟨⟨w3, w2, by rw [hh2]; omega, by rw [hn2]; omega⟩, by omega, by rw [hn2]; omega⟩ trivial
        rw [upd_same]
        try dsimp only
        rw [hp', ht]
      rintro σ G ⟨rfl, rfl⟩
      refine ⟨.int way, rfl, rfl, _, rfl, ite2 (fun _ => ?_) (fun _ => ?_)⟩
      · -- a table
        refine ⟨.int (mn : Nat), rfl, _, rfl, by omega, by omega, fun E nE => ?_⟩
        refine lc_range (fun i F => ∃ rs : List Int, rs.length = i ∧ (∀ x, x ∈ rs → 0 ≤ x ∧ x < 64) ∧ But p G F ∧ Bx F p (n + 20 + 2 * i) ∧ F E = some (.lst (rs.map V.int))) ⟨[], rfl, fun _ h => (by cases h), (But.refl p G).new nE, (B6.new nE).mono (by omega), upd_same⟩ (fun i F hi h => ?_) (fun F h => ?_)
        · obtain ⟨rs, hl, hb, bF, BF, hE⟩ := h
          refine ⟨rfl, yes_ite ?_⟩
          refine ⟨.ref p, rfl, (show 2 ≤ sizeLine by decide), fun l nl => ⟨.ref p, rfl, p, 2, _, rfl, BF.new nl, by decide, by decide, by omega, fun F1 r1 c1 B1 l1 u1 => ?_⟩⟩
          obtain ⟨ms, ev, hv⟩ := at_menu (Pr := fun v => 4 ≤ v ∧ v ≤ 64) (xs := [4, 64]) l1 u1 (fun x hx => by
            simp only [List.mem_cons, List.not_mem_nil, or_false] at hx
            omega)
          refine ⟨l, _, _, _, rfl, rfl, SqL.mk (c1 _ _ (ne_new BF nl) upd_same), ev, p, ms, _, rfl, B1, by omega, by omega, by omega, fun F2 r2 c2 B2 l2 u2 => ?_⟩
          have Ep : E ≠ p := ne_new B6 nE
          have hE2 := c2 _ _ Ep (c1 _ _ Ep ((same_upd nl) _ _ hE))
          refine ⟨_, hE2, by rw [List.length_map]; omega, rs ++ [r2], by rw [List.length_append, hl]; rfl, fun x hx => ?_, but_newer (((bF.new nl).trans c1).trans c2) nE, (B2.other Ep).mono (by omega), by rw [upd_same, List.map_append]; rfl⟩
          rcases List.mem_append.mp hx with hx | hx
          · exact hb x hx
          · rw [List.mem_singleton.mp hx]
            omega
        obtain ⟨rs, hl, hb, bF, BF, hE⟩ := h
        rw [Int.toNat_natCast] at hl BF
        refine ⟨E, _, rfl, .inl ⟨SqL.mk hE, fun tb ntb => ⟨(show 2 ≤ sizeLine by decide), fun mk nmk => ?_⟩⟩⟩
        exact pl_q _ (.ref mk) (.table rs) (b5.trans ((bF.new ntb).new nmk)) (((BF.new ntb).new nmk).mono (by omega)) ⟨mk, tb, rfl, upd_same, (same_upd nmk) _ _ upd_same⟩ rfl ⟨by omega, by omega, fun x hx => by have := hb x hx; omega⟩ trivial
      -- a counter
      refine ⟨.int (mn : Nat), rfl, _, _, rfl, rfl, 1, _, rfl, ⟨by decide, by decide, by omega, by omega⟩, fun E nE => ?_⟩
      have en : ((mn : Int) + 1 - 1).toNat = mn := by omega
      rw [en]
      refine lc_range (lo := 1) (n := mn) (SVR (fun x => Nat.gcd x.toNat mn = 1) E G mn) ⟨[], Nat.le_refl 0, .inl rfl, fun _ h => (by cases h), same_upd nE, upd_same⟩ (fun i F hi h => ?_) (fun F h => ?_)
      · obtain ⟨ss, e1, e2, e3, sF, hE⟩ := h
        refine ⟨rfl, _, rfl, .int (mn : Nat), rfl, 1 + i, mn, ?_, _, rfl, ?_⟩
        · rw [show (1 : Int) + (i : Int) = ((1 + i : Nat) : Int) by omega]
          rfl
        refine ite2 (fun e => ?_) (fun e => ?_)
        · refine ⟨_, rfl, _, hE, by rw [List.length_map]; omega, ss ++ [1 + (i : Int)], by rw [List.length_append]; exact Nat.add_le_add_right e1 1, .inr (by rw [List.length_append]; exact Nat.le_add_left _ _), fun x hx => ?_, same_newer sF nE, by rw [upd_same, List.map_append]; rfl⟩
          rcases List.mem_append.mp hx with hx | hx
          · exact e3 x hx
          · rw [List.mem_singleton.mp hx]
            refine ⟨by omega, by omega, ?_⟩
            have eg := V.int.inj (of_decide_eq_true e)
            show Nat.gcd (1 + (i : Int)).toNat mn = 1
            rw [show (1 + (i : Int)).toNat = 1 + i by omega]
            omega
        · refine ⟨ss, by omega, .inr ?_, e3, sF, hE⟩
          rcases e2 with rfl | e2
          · exfalso
            refine e (decide_eq_true ?_)
            rw [show Nat.gcd (1 + 0) mn = 1 from Nat.gcd_one_left mn]
            rfl
          · exact e2
      obtain ⟨ss, e1, e2, e3, sF, hE⟩ := h
      have e2 : 1 ≤ ss.length := by omega
      have e1 : ss.length ≤ 64 := by omega
      have bF := b5.trans (same_but (p := p) sF)
      have BF := B6.same sF
      have Eb : E ≠ p := ne_new B6 nE
      refine ⟨.int (mn : Nat), rfl, .ref E, rfl, .ref p, rfl, .ref E, rfl, E, _, rfl, .inl (SqL.mk hE), p, ss.length, _, by rw [List.length_map]; rfl, BF, by omega, by omega, by omega, fun F5 r7 c7 B7 l7 u7 => ?_⟩
      obtain ⟨sp, ev3, hv3⟩ := at_menu (Pr := fun v => 1 ≤ v ∧ v ≤ (mn : Int) ∧ Nat.gcd v.toNat mn = 1) (xs := ss) l7 u7 e3
      refine ⟨E, _, _, _, rfl, rfl, SqL.mk (c7 _ _ Eb hE), ev3, .ref p, rfl, .int (mn : Nat), rfl, p, mn, _, rfl, B7, by omega, by omega, by omega, fun F6 r8 c8 B8 l8 u8 => ⟨(show 4 ≤ sizeLine by decide), fun mk nmk => ?_⟩⟩
      obtain ⟨sp, rfl⟩ := nat_of (show 0 ≤ sp by omega)
      have gs : Nat.gcd sp mn = 1 := hv3.2.2
      obtain ⟨t, rfl⟩ := nat_of l8
      exact pl_q _ (.ref mk) (.counter mn sp t) ((bF.trans (c7.trans c8)).new nmk) ((B8.new nmk).mono (by omega)) ⟨mk, rfl, upd_same⟩ rfl ⟨by omega, by omega, by omega, by omega⟩ ⟨by omega, by omega, gs⟩
def sp__law_maker (K : PySem.W.Frag) : Sp := spr__law_maker 3 K
theorem ok__law_maker (T : Defs K mg) : FnOk P w K mg base CX0 4 T.f__law_maker T.fd__law_maker ["_law_box_here", "_law_deep", "_law_most"] (sp__law_maker K) := okr__law_maker T 3
/-! pieces of machines -/
inductive Pie
  | make (m : Mk) (k : Nat)
  | less (a : Nat)
  | both (a b : Nat)
  | either (a b : Nat)
  | oneof (a b : Nat)
  | pick (a b c : Nat)
  | keep (a b f : Nat)
  | late (a : Nat) (h : List Int)
  | keeper (a b : Nat) (m : Mk) (mo at_ : Nat)
def PieAt (H : Hp) : Pie → V → Prop
  | .make m k, v => ∃ t x, v = .ref t ∧ H t = some (.tup [.str "make", x, .int (k : Nat)]) ∧ MkAt H m x
  | .less a, v => ∃ t, v = .ref t ∧ H t = some (.tup [.str "less", .int (a : Nat)])
  | .both a b, v => ∃ t, v = .ref t ∧ H t = some (.tup [.str "both", .int (a : Nat), .int (b : Nat)])
  | .either a b, v => ∃ t, v = .ref t ∧ H t = some (.tup [.str "either", .int (a : Nat), .int (b : Nat)])
  | .oneof a b, v => ∃ t, v = .ref t ∧ H t = some (.tup [.str "oneof", .int (a : Nat), .int (b : Nat)])
  | .pick a b c, v => ∃ t, v = .ref t ∧ H t = some (.tup [.str "pick", .int (a : Nat), .int (b : Nat), .int (c : Nat)])
  | .keep a b f, v => ∃ t, v = .ref t ∧ H t = some (.tup [.str "keep", .int (a : Nat), .int (b : Nat), .int (f : Nat)])
  | .late a h, v => ∃ t s, v = .ref t ∧ H t = some (.tup [.str "late", .int (a : Nat), .ref s]) ∧ H s = some (.tup (h.map V.int))
  | .keeper a b m mo at_, v => ∃ t x, v = .ref t ∧ H t = some (.tup [.str "keeper", .int (a : Nat), .int (b : Nat), x, .int (mo : Nat), .int (at_ : Nat)]) ∧ MkAt H m x
theorem PieAt.keep {H H' : Hp} (s : ∀ a xs, H a = some (.tup xs) → H' a = some (.tup xs)) : ∀ {P : Pie} {v : V}, PieAt H P v → PieAt H' P v
  | .make _ _, _, ⟨t, x, e, h, k⟩ => ⟨t, x, e, s _ _ h, k.keep s⟩
  | .less _, _, ⟨t, e, h⟩ => ⟨t, e, s _ _ h⟩
  | .both _ _, _, ⟨t, e, h⟩ => ⟨t, e, s _ _ h⟩
  | .either _ _, _, ⟨t, e, h⟩ => ⟨t, e, s _ _ h⟩
  | .oneof _ _, _, ⟨t, e, h⟩ => ⟨t, e, s _ _ h⟩
  | .pick _ _ _, _, ⟨t, e, h⟩ => ⟨t, e, s _ _ h⟩
  | .keep _ _ _, _, ⟨t, e, h⟩ => ⟨t, e, s _ _ h⟩
  | .late _ _, _, ⟨t, b, e, h, k⟩ => ⟨t, b, e, s _ _ h, s _ _ k⟩
  | .keeper _ _ _ _ _, _, ⟨t, x, e, h, k⟩ => ⟨t, x, e, s _ _ h, k.keep s⟩
theorem PieAt.same {H H' : Hp} {P : Pie} {v : V} (h : PieAt H P v) (s : Same H H') : PieAt H' P v := h.keep fun _ _ e => s _ _ e
theorem PieAt.but {H H' : Hp} {P : Pie} {v : V} {p : Addr} {n : Nat} (h : PieAt H P v) (B : Bx H p n) (s : But p H H') : PieAt H' P v := h.keep fun _ _ e => s _ _ (B.ne_tup e) e
def Mk.Wl (m : Mk) : Prop := m.Ok ∧ m.inn.Vd ∧ m.dep ≤ 3 ∧ m.rnd ≤ 4096
def Pie.Ok (i n : Nat) : Pie → Prop
  | .make m k => m.Wl ∧ k ≤ 64
  | .less a => a < i
  | .both a b => a < i ∧ b < i
  | .either a b => a < i ∧ b < i
  | .oneof a b => a < i ∧ b < i
  | .pick a b c => a < i ∧ b < i ∧ c < i
  | .keep a b f => a < i ∧ b < i ∧ f < 2
  | .late a h => a < n ∧ (1 ≤ h.length ∧ h.length ≤ 16) ∧ ∀ x, x ∈ h → 0 ≤ x ∧ x < 2
  | .keeper a b m mo at_ => a < n ∧ b < n ∧ m.Wl ∧ 1 ≤ mo ∧ mo ≤ 64 ∧ at_ ≤ mo
/-- the pieces of a machine, one after the other -/
inductive PisAt (H : Hp) : List Pie → List V → Prop
  | nil : PisAt H [] []
  | cons {P : Pie} {Ps : List Pie} {v : V} {vs : List V} : PieAt H P v → PisAt H Ps vs → PisAt H (P :: Ps) (v :: vs)
theorem PisAt.keep {H H' : Hp} (s : ∀ a xs, H a = some (.tup xs) → H' a = some (.tup xs)) {Ps : List Pie} {vs : List V} (h : PisAt H Ps vs) : PisAt H' Ps vs := by
  induction h with
  | nil => exact .nil
  | cons a _ ih => exact .cons (a.keep s) ih
theorem PisAt.same {H H' : Hp} {Ps : List Pie} {vs : List V} (h : PisAt H Ps vs) (s : Same H H') : PisAt H' Ps vs := h.keep fun _ _ e => s _ _ e
theorem PisAt.but {H H' : Hp} {Ps : List Pie} {vs : List V} {p : Addr} {n : Nat} (h : PisAt H Ps vs) (B : Bx H p n) (s : But p H H') : PisAt H' Ps vs := h.keep fun _ _ e => s _ _ (B.ne_tup e) e
theorem PisAt.len {H : Hp} {Ps : List Pie} {vs : List V} (h : PisAt H Ps vs) : vs.length = Ps.length := by
  induction h with
  | nil => rfl
  | cons _ _ ih => rw [List.length_cons, List.length_cons, ih]
theorem PisAt.snoc {H : Hp} {Ps : List Pie} {vs : List V} {P : Pie} {v : V} (h : PisAt H Ps vs) (g : PieAt H P v) : PisAt H (Ps ++ [P]) (vs ++ [v]) := by
  induction h with
  | nil => exact .cons g .nil
  | cons a _ ih => exact .cons a ih
theorem PisAt.get {H : Hp} {Ps : List Pie} {vs : List V} (h : PisAt H Ps vs) {i : Nat} {P : Pie} (e : Ps[i]? = some P) : ∃ v, vs[i]? = some v ∧ PieAt H P v := by
  induction h generalizing i with
  | nil => cases e
  | cons a _ ih =>
    cases i with
    | zero => cases e; exact ⟨_, rfl, a⟩
    | succ i => exact ih (by simpa using e)
def PsOk (n : Nat) (Ps : List Pie) : Prop := ∀ (i : Nat) (P : Pie), Ps[i]? = some P → P.Ok i n
theorem PsOk.snoc {n : Nat} {Ps : List Pie} {P : Pie} (h : PsOk n Ps) (g : P.Ok Ps.length n) : PsOk n (Ps ++ [P]) := fun i R e => by
  by_cases l : i < Ps.length
  · rw [List.getElem?_append_left l] at e
    exact h i R e
  · have := (List.getElem?_eq_some_iff.mp e).1
    rw [List.length_append, List.length_singleton] at this
    obtain rfl : i = Ps.length := by omega
    rw [List.getElem?_append_right (Nat.le_refl _), Nat.sub_self] at e
    cases e
    exact g
def MI (p l : Addr) (H0 : Hp) (N n i : Nat) (G : Hp) : Prop := ∃ Ps xs, But p H0 G ∧ Bx G p (N + 1300 * i) ∧ G l = some (.lst xs) ∧ PisAt G Ps xs ∧ Ps.length = i ∧ PsOk n Ps
theorem MI.push {p l : Addr} {H0 G0 G : Hp} {N n i k : Nat} {P : Pie} {v : V} (h : MI p l H0 N n i G0) (nl : H0 l = none) (lp : l ≠ p) (b : But p G0 G) (B : Bx G p k) (hk : k ≤ N + 1300 * (i + 1)) (hP : PieAt G P v) (ok : P.Ok i n) (hi : i < 1000) :
    ∃ xs, G l = some (.lst xs) ∧ xs.length < sizeLine ∧ MI p l H0 N n (i + 1) (upd G l (.lst (xs ++ [v]))) := by
  obtain ⟨Ps, xs, h1, h2, h3, h4, h5, h6⟩ := h
  have hsl : sizeLine = 16777216 := by decide
  have hl := b _ _ lp h3
  have st : ∀ a ys, G a = some (.tup ys) → (upd G l (.lst (xs ++ [v]))) a = some (.tup ys) := fun a ys e => by
    rw [upd_ne (fun z => by rw [z, hl] at e; cases e)]
    exact e
  refine ⟨xs, hl, by rw [h4.len]; omega, Ps ++ [P], xs ++ [v], but_newer (h1.trans b) nl, (B.other lp).mono hk, upd_same, ((h4.but h2 b).keep st).snoc (hP.keep st), by rw [List.length_append, h5]; rfl, h6.snoc (by rw [h5]; exact ok)⟩
def sp__law_machine (_ : PySem.W.Frag) : Sp := fun vs H Q _ => ∃ (p : Addr) (N n : Nat) (M : Int) (lo : Bool), vs = [.ref p, .int (n : Nat), .int M, .bl lo] ∧ Bx H p N ∧ N < 900000000 ∧ 1 ≤ n ∧ n ≤ 24 ∧ 1 ≤ M ∧ M ≤ 62 ∧
  ∀ H' t xs Ps, But p H H' → Bx H' p (N + 32000) → H' t = some (.tup xs) → PisAt H' Ps xs → Ps.length = n → PsOk n Ps → Q (.ref t) H'
theorem ok__law_machine (T : Defs K mg) : FnOk P w K mg base CX0 5 T.f__law_machine T.fd__law_machine ["_law_box_here", "_law_many", "_law_most", "_law_loops"] (sp__law_machine K) := by
  have G__law_take : FnOk P w K mg base CX0 1 T.f__law_take T.fd__law_take ["_law_box_here", "_law_many"] (sp__law_take K) := ok__law_take T
  have G__law_maker : FnOk P w K mg base CX0 4 T.f__law_maker T.fd__law_maker ["_law_box_here", "_law_deep", "_law_most"] (sp__law_maker K) := ok__law_maker T
  refine T.F__law_machine.ok sc__law_machine (fun vs H Q E h => ?_) (fun cdv A outer s H vs Q E hr h => ?_)
  · obtain ⟨p, N, n, M, lo, rfl, hB, hN, n1, n24, M1, M2, q⟩ := h
    rfl
  · obtain ⟨p, N, n, M, lo, rfl, hB, hN, n1, n24, M1, M2, q⟩ := h
    refine ⟨_, PSs.nox (pss_cons (ps_par (i := 4) (j := 5) (by rfl) sc__law_machine.nd rfl rfl (by decide) rfl rfl (pa_cons (pe_lst pa_nil) (pa_cons (pe_op op_mul (pe_ix ix_list (pe_lst (pa_cons pe_int (pa_cons pe_int (pa_cons pe_int (pa_cons pe_int (pa_cons pe_int (pa_cons pe_int (pa_cons pe_int (pa_cons pe_int pa_nil))))))))) (pe_call G__law_take (hr.mono (by decide)) (by rfl) T.g__law_take T.F__law_take.kp T.b__law_take .nil pass0 (pa_cons (pv 0) (pa_cons pe_int pa_nil))) (fun _ _ => rfl)) (pe_callTy call_int1 (by rfl) T.m_int bt_int (pa_cons (pv 3) pa_nil))) pa_nil)) (by rfl))
    (pss_cons ((ps_for PassesOwn.never rfl (pi_range1 (by rfl) T.m_range (pa_cons (pv 1) pa_nil)) (pg_name (i := 6) sc__law_machine.nd rfl (.inr rfl)) (pss_cons (ps_set (i := 7) sc__law_machine.nd rfl (.inl rfl) (pe_call G__law_take (hr.mono (by decide)) (by rfl) T.g__law_take T.F__law_take.kp T.b__law_take .nil pass0 (pa_cons (pv 0) (pa_cons pe_int pa_nil))))
    (pss_cons (ps_if (PW.pt (pw_or (PW.pt (pw_and (pt_cmpR op_eq (pv 5) pe_int (nomark _)) (pw_and1 (pt_not (pt_chain op_le op_lt pe_int (pv 7) pe_int))))) (pw_or1 (PW.pt (pw_and (pt_cmpR op_gt (pv 5) pe_int (nomark _)) (pw_and1 (pt_cmpR op_eq (pv 6) pe_int (nomark _)))))))) (pss_one (ps_set (i := 7) sc__law_machine.nd rfl (.inl rfl) (pe_op op_add pe_int (pe_op op_mod (pv 7) (pe_ix ix_list (pe_lst (pa_cons pe_int (pa_cons pe_int (pa_cons pe_int pa_nil)))) (pv 5) (fun _ _ => rfl)))))) pss_nil)
    (pss_cons (ps_if (PW.pt (pw_or (PW.pt (pw_and (pt_cmpR op_eq (pv 6) pe_int (nomark _)) (pw_and1 (pt_cmpR op_eq (pv 5) pe_int (nomark _))))) (pw_or1 (pt_cmpR op_lt (pv 7) pe_int (nomark _))))) (pss_cons (ps_set (i := 8) sc__law_machine.nd rfl (.inl rfl) (pe_ix ix_list (pe_lst (pa_cons (pe_op op_add (pv 2) pe_int) (pa_cons pe_int pa_nil))) (pe_callTy call_int1 (by rfl) T.m_int bt_int (pa_cons (pe_cmpR op_eq (pe_call G__law_take (hr.mono (by decide)) (by rfl) T.g__law_take T.F__law_take.kp T.b__law_take .nil pass0 (pa_cons (pv 0) (pa_cons pe_int pa_nil))) pe_int (nomark _)) pa_nil)) (fun _ _ => rfl)))
    (pss_cons (ps_expr (pe_bm PySem.F.plainAttrs_list PySem.F.slot_list_append PySem.F.type_list_append mt_append (pv 4) (pa_cons (pe_tup (pa_cons pe_str (pa_cons (pe_call G__law_maker (hr.mono (by decide)) (by rfl) T.g__law_maker T.F__law_maker.kp T.b__law_maker .nil pass0 (pa_cons (pv 0) (pa_cons (pe_call G__law_take (hr.mono (by decide)) (by rfl) T.g__law_take T.F__law_take.kp T.b__law_take .nil pass0 (pa_cons (pv 0) (pa_cons pe_int pa_nil))) (pa_cons (pv 2) pa_nil)))) (pa_cons (pe_call G__law_take (hr.mono (by decide)) (by rfl) T.g__law_take T.F__law_take.kp T.b__law_take .nil pass0 (pa_cons (pv 0) (pa_cons (pe_callB (call_min2 rfl) (by rfl) T.m_min bt_min (pa_cons pe_int (pa_cons (pv 8) pa_nil))) pa_nil))) pa_nil)))) pa_nil)))
    (pss_one ps_continue))) pss_nil)
    (pss_cons (ps_asg (pe_lc (own := [("_law_turn", 16)]) (g := gName 16) (tt := tYes) rfl sc__law_machine.nd (pi_range1 (by rfl) T.m_range (pa_cons pe_int pa_nil)) (blkOk_by (N := N__law_machine) (sc := defScope s__law_machine) (by decide +kernel)) (fun _ _ _ _ _ => (pg_name (i := 16) sc__law_machine.nd rfl (.inl rfl))) (fun _ _ _ _ _ => pts_nil) (fun _ _ _ _ _ => (pe_call G__law_take (hr.mono (by decide)) (by rfl) T.g__law_take T.F__law_take.kp T.b__law_take .nil pass0 (pa_cons (pv 0) (pa_cons (pe_callB (call_max2 rfl) (by rfl) T.m_max bt_max (pa_cons pe_int (pa_cons (pv 6) pa_nil))) pa_nil))))) (pg_unl rfl (pgs_cons (pg_name (i := 9) sc__law_machine.nd rfl (.inl rfl)) (pgs_cons (pg_name (i := 10) sc__law_machine.nd rfl (.inl rfl)) (pgs_cons (pg_name (i := 11) sc__law_machine.nd rfl (.inl rfl)) pgs_nil)))))
    (pss_cons (ps_if (pt_cmpR op_lt (pv 7) pe_int (nomark _)) (pss_cons (ps_set (i := 12) sc__law_machine.nd rfl (.inl rfl) (pe_lst (pa_cons (pe_tup (pa_cons pe_str (pa_cons (pv 9) pa_nil))) (pa_cons (pe_tup (pa_cons pe_str (pa_cons (pv 9) (pa_cons (pv 10) pa_nil)))) (pa_cons (pe_tup (pa_cons pe_str (pa_cons (pv 9) (pa_cons (pv 10) pa_nil)))) (pa_cons (pe_tup (pa_cons pe_str (pa_cons (pv 9) (pa_cons (pv 10) pa_nil)))) (pa_cons (pe_tup (pa_cons pe_str (pa_cons (pv 9) (pa_cons (pv 10) (pa_cons (pv 11) pa_nil))))) pa_nil)))))))
    (pss_cons (ps_expr (pe_bm PySem.F.plainAttrs_list PySem.F.slot_list_append PySem.F.type_list_append mt_append (pv 4) (pa_cons (pe_ix ix_list (pe_op op_cat (pv 12) (pe_lst (pa_cons (pe_tup (pa_cons pe_str (pa_cons (pv 9) (pa_cons (pv 10) (pa_cons (pe_op op_mod (pv 11) pe_int) pa_nil))))) pa_nil))) (pe_op op_sub (pv 7) pe_int) (fun _ _ => rfl)) pa_nil)))
    (pss_one ps_continue))) pss_nil)
    (pss_cons (ps_asg (pe_lc (own := [("_law_turn", 16)]) (g := gName 16) (tt := tYes) rfl sc__law_machine.nd (pi_range1 (by rfl) T.m_range (pa_cons pe_int pa_nil)) (blkOk_by (N := N__law_machine) (sc := defScope s__law_machine) (by decide +kernel)) (fun _ _ _ _ _ => (pg_name (i := 16) sc__law_machine.nd rfl (.inl rfl))) (fun _ _ _ _ _ => pts_nil) (fun _ _ _ _ _ => (pe_call G__law_take (hr.mono (by decide)) (by rfl) T.g__law_take T.F__law_take.kp T.b__law_take .nil pass0 (pa_cons (pv 0) (pa_cons (pe_ifExp (pt_val (pv 3)) (pv 1) (pv 6)) pa_nil))))) (pg_unl rfl (pgs_cons (pg_name (i := 9) sc__law_machine.nd rfl (.inl rfl)) (pgs_cons (pg_name (i := 10) sc__law_machine.nd rfl (.inl rfl)) pgs_nil))))
    (pss_one (ps_if (pt_cmpR op_lt (pv 7) pe_int (nomark _)) (pss_cons (ps_set (i := 13) sc__law_machine.nd rfl (.inl rfl) (pe_op op_add pe_int (pe_call G__law_take (hr.mono (by decide)) (by rfl) T.g__law_take T.F__law_take.kp T.b__law_take .nil pass0 (pa_cons (pv 0) (pa_cons (pe_ix ix_list (pe_lst (pa_cons pe_int (pa_cons pe_int pa_nil))) (pe_op op_sub (pv 7) pe_int) (fun _ _ => rfl)) pa_nil)))))
    (pss_one (ps_expr (pe_bm PySem.F.plainAttrs_list PySem.F.slot_list_append PySem.F.type_list_append mt_append (pv 4) (pa_cons (pe_tup (pa_cons pe_str (pa_cons (pv 9) (pa_cons (pe_callTy call_tuple_of (by rfl) T.m_tuple bt_tuple (pa_cons (pe_lc (own := [("_law_turn", 16)]) (g := gName 16) (tt := tYes) rfl sc__law_machine.nd (pi_range1 (by rfl) T.m_range (pa_cons (pv 13) pa_nil)) (blkOk_by (N := N__law_machine) (sc := defScope s__law_machine) (by decide +kernel)) (fun _ _ _ _ _ => (pg_name (i := 16) sc__law_machine.nd rfl (.inl rfl))) (fun _ _ _ _ _ => pts_nil) (fun _ _ _ _ _ => (pe_call G__law_take (hr.mono (by decide)) (by rfl) T.g__law_take T.F__law_take.kp T.b__law_take .nil pass0 (pa_cons (pv 0) (pa_cons pe_int pa_nil))))) pa_nil)) pa_nil)))) pa_nil))))) (pss_cons (ps_set (i := 14) sc__law_machine.nd rfl (.inl rfl) (pe_ix ix_list (pe_lst (pa_cons pe_int (pa_cons pe_int (pa_cons (pe_op op_add pe_int (pe_call G__law_take (hr.mono (by decide)) (by rfl) T.g__law_take T.F__law_take.kp T.b__law_take .nil pass0 (pa_cons (pv 0) (pa_cons pe_int pa_nil)))) (pa_cons (pe_op op_add pe_int (pe_call G__law_take (hr.mono (by decide)) (by rfl) T.g__law_take T.F__law_take.kp T.b__law_take .nil pass0 (pa_cons (pv 0) (pa_cons pe_int pa_nil)))) pa_nil))))) (pe_call G__law_take (hr.mono (by decide)) (by rfl) T.g__law_take T.F__law_take.kp T.b__law_take .nil pass0 (pa_cons (pv 0) (pa_cons pe_int pa_nil))) (fun _ _ => rfl)))
    (pss_cons (ps_set (i := 15) sc__law_machine.nd rfl (.inl rfl) (pe_call G__law_maker (hr.mono (by decide)) (by rfl) T.g__law_maker T.F__law_maker.kp T.b__law_maker .nil pass0 (pa_cons (pv 0) (pa_cons (pe_call G__law_take (hr.mono (by decide)) (by rfl) T.g__law_take T.F__law_take.kp T.b__law_take .nil pass0 (pa_cons (pv 0) (pa_cons pe_int pa_nil))) (pa_cons (pv 2) pa_nil)))))
    (pss_one (ps_expr (pe_bm PySem.F.plainAttrs_list PySem.F.slot_list_append PySem.F.type_list_append mt_append (pv 4) (pa_cons (pe_tup (pa_cons pe_str (pa_cons (pv 9) (pa_cons (pv 10) (pa_cons (pv 15) (pa_cons (pv 14) (pa_cons (pe_call G__law_take (hr.mono (by decide)) (by rfl) T.g__law_take T.F__law_take.kp T.b__law_take .nil pass0 (pa_cons (pv 0) (pa_cons (pe_op op_add (pv 14) pe_int) pa_nil))) pa_nil))))))) pa_nil))))))))))))))))
    (pss_one (ps_ret (pe_callTy call_tuple_of (by rfl) T.m_tuple bt_tuple (pa_cons (pv 4) pa_nil)))))), ?_⟩
    have hsl : sizeLine = 16777216 := by decide
    refine ⟨(show 0 ≤ sizeLine by decide), fun l nl => ?_⟩
    have lp := ne_new hB nl
    have b0 := (But.refl p H).new (o := .lst []) nl
    have hl0 := upd_same (H := H) (a := l) (o := .lst [])
    have B0 := hB.new (o := .lst []) nl
    generalize upd H l (.lst []) = H0 at b0 hl0 B0 ⊢
    refine ⟨(show 8 ≤ sizeLine by decide), fun m1 nm1 => ⟨.ref p, rfl, p, 8, N, rfl, B0.new nm1, by decide, by decide, by omega, fun H1 r c1 B1 l1 u1 => ?_⟩⟩
    obtain ⟨v, ev, hv⟩ := at_menu (Pr := fun v => 0 ≤ v ∧ v ≤ 2) (xs := [0, 0, 0, 0, 0, 0, 1, 2]) l1 u1 (fun x hx => by
      simp only [List.mem_cons, List.not_mem_nil, or_false] at hx
      omega)
    have hm1 := c1 _ _ (ne_new B0 nm1) (upd_same (H := H0) (a := m1) (o := .lst [.int 0, .int 0, .int 0, .int 0, .int 0, .int 0, .int 1, .int 2]))
    have b1 := b0.trans (((But.refl p H0).new (o := .lst [.int 0, .int 0, .int 0, .int 0, .int 0, .int 0, .int 1, .int 2]) nm1).trans c1)
    have hl1 := c1 _ _ lp ((same_upd nm1 (o := .lst [.int 0, .int 0, .int 0, .int 0, .int 0, .int 0, .int 1, .int 2])) _ _ hl0)
    obtain ⟨ba, hba, hb2, hlo⟩ : ∃ ba : Int, v * (if lo = true then 1 else 0) = ba ∧ (0 ≤ ba ∧ ba ≤ 2) ∧ (0 < ba → lo = true) := by
      cases lo
      · exact ⟨0, by rw [if_neg Bool.false_ne_true, Int.mul_zero], ⟨by decide, by decide⟩, fun z => absurd z (by decide)⟩
      · exact ⟨v, by rw [if_pos rfl, Int.mul_one], hv, fun _ => rfl⟩
    refine ⟨m1, _, _, _, rfl, rfl, SqL.mk hm1, ev, .bl lo, rfl, .inr ⟨lo, rfl, v, _, rfl, rfl, .inl (by omega), _, _, rfl, ?_⟩⟩
    try dsimp only
    rw [hba]
    clear ev hv hba hm1 c1 l1 u1
    have nl : H l = none := nl
    refine ⟨.int (n : Nat), rfl, n, rfl, by omega, by omega, for_range (fun i σ G => ∃ y6 y7 y8 y9 y10 y11 y12 y13 y14 y15, σ = [some (.ref p), some (.int (n : Nat)), some (.int M), some (.bl lo), some (.ref l), some (.int ba), y6, y7, y8, y9, y10, y11, y12, y13, y14, y15, none] ∧ MI p l H (N + 1) n i G) ⟨_, _, _, _, _, _, _, _, _, _, rfl, [], [], b1, B1, hl1, .nil, rfl, fun i P e => (by cases e)⟩ ?_ ?_⟩
    · rintro i σ G0 hi ⟨y6, y7, y8, y9, y10, y11, y12, y13, y14, y15, rfl, hI⟩
      have hi : i < n := hi
      rw [Int.zero_add]
      obtain ⟨Ps0, xs0, hI1, hI2, hI3, hI4, hI5, hI6⟩ := id hI
      clear hI1 hI3 hI4 hI5 hI6
      refine ⟨.ref p, rfl, p, 12, _, rfl, hI2, by decide, by decide, by omega, fun G1 w1 c2 B2 l2 u2 => ?_⟩
      obtain ⟨z2, ev2, hz2⟩ := at_menu (Pr := fun v => 2 ≤ v ∧ v ≤ 4) (xs := [2, 4, 2]) hb2.1 (show ba < 3 by omega) (fun x hx => by
        simp only [List.mem_cons, List.not_mem_nil, or_false] at hx
        omega)
      have mz1 := Int.emod_nonneg w1 (show z2 ≠ 0 by omega)
      have mz2 := Int.emod_lt_of_pos w1 (show 0 < z2 by omega)
      refine nx_via (fun σ X => ∃ wa : Int, σ = [some (.ref p), some (.int (n : Nat)), some (.int M), some (.bl lo), some (.ref l), some (.int ba), some (.int (i : Nat)), some (.int wa), y8, y9, y10, y11, y12, y13, y14, y15, none] ∧ 0 ≤ wa ∧ wa < 12 ∧ (i = 0 → 0 < ba → 8 ≤ wa) ∧ But p G0 X ∧ Bx X p (N + 1 + 1300 * i + 1)) (fun N key => ?_) ?_
      · refine ⟨.int ba, rfl, rfl, _, rfl, ite2 (fun e1 => ?_) (fun e1 => iteF ?_)⟩
        · refine ⟨.int w1, rfl, _, _, rfl, rfl, _, rfl, ?_⟩
          by_cases c1 : 2 ≤ w1
          · rw [decide_eq_true c1]
            refine iteT ⟨_, _, rfl, rfl, _, rfl, ?_⟩
            by_cases c3 : w1 < 10
            · rw [decide_eq_true c3]
              refine iteF ?_
              refine ⟨.int ba, rfl, _, _, rfl, rfl, _, rfl, ite2 (fun e3 => ?_) (fun e3 => iteF ?_)⟩
              · refine ⟨.int (i : Nat), rfl, rfl, _, rfl, ite2 (fun e4 => ?_) (fun e4 => ?_)⟩
                · refine ⟨.int w1, rfl, (show 3 ≤ sizeLine by decide), fun m2 nm2 => ⟨.int ba, rfl, m2, _, _, _, rfl, rfl, SqL.mk upd_same, ev2, _, _, rfl, rfl, by omega, _, _, rfl, rfl, ?_⟩⟩
                  exact key _ _ ⟨8 + w1 % z2, rfl, by omega, by omega, fun _ _ => by omega, c2.new nm2, B2.new nm2⟩
                · exact key _ _ ⟨w1, rfl, l2, u2, fun h1 _ => absurd (decide_eq_true (by rw [h1]; rfl)) e4, c2, B2⟩
              · exact key _ _ ⟨w1, rfl, l2, u2, fun _ h2 => absurd (decide_eq_true h2) e3, c2, B2⟩
            · rw [decide_eq_false c3]
              refine iteT ?_
              refine ⟨.int w1, rfl, (show 3 ≤ sizeLine by decide), fun m2 nm2 => ⟨.int ba, rfl, m2, _, _, _, rfl, rfl, SqL.mk upd_same, ev2, _, _, rfl, rfl, by omega, _, _, rfl, rfl, ?_⟩⟩
              exact key _ _ ⟨8 + w1 % z2, rfl, by omega, by omega, fun _ _ => by omega, c2.new nm2, B2.new nm2⟩
          · rw [decide_eq_false c1]
            refine iteF ⟨_, rfl, iteT ?_⟩
            refine ⟨.int w1, rfl, (show 3 ≤ sizeLine by decide), fun m2 nm2 => ⟨.int ba, rfl, m2, _, _, _, rfl, rfl, SqL.mk upd_same, ev2, _, _, rfl, rfl, by omega, _, _, rfl, rfl, ?_⟩⟩
            exact key _ _ ⟨8 + w1 % z2, rfl, by omega, by omega, fun _ _ => by omega, c2.new nm2, B2.new nm2⟩
        refine ⟨.int ba, rfl, _, _, rfl, rfl, _, rfl, ite2 (fun e3 => ?_) (fun e3 => iteF ?_)⟩
        · refine ⟨.int (i : Nat), rfl, rfl, _, rfl, ite2 (fun e4 => ?_) (fun e4 => ?_)⟩
          · refine ⟨.int w1, rfl, (show 3 ≤ sizeLine by decide), fun m2 nm2 => ⟨.int ba, rfl, m2, _, _, _, rfl, rfl, SqL.mk upd_same, ev2, _, _, rfl, rfl, by omega, _, _, rfl, rfl, ?_⟩⟩
            exact key _ _ ⟨8 + w1 % z2, rfl, by omega, by omega, fun _ _ => by omega, c2.new nm2, B2.new nm2⟩
          · exact key _ _ ⟨w1, rfl, l2, u2, fun h1 _ => absurd (decide_eq_true (by rw [h1]; rfl)) e4, c2, B2⟩
        · exact key _ _ ⟨w1, rfl, l2, u2, fun _ h2 => absurd (decide_eq_true h2) e3, c2, B2⟩
      rintro σ X ⟨wa, rfl, w0, w12, wi8, bX, BX⟩
      clear c2 B2 l2 u2 ev2 hz2 mz1 mz2 w1
      have pie : ∀ (Z : Hp) (P : Pie) (v : V) (k : Nat), But p G0 Z → Bx Z p k → k ≤ N + 1 + 1300 * (i + 1) → PieAt Z P v → P.Ok i n → ∃ xs, Z l = some (.lst xs) ∧ xs.length < sizeLine ∧ MI p l H (N + 1) n (i + 1) (upd Z l (.lst (xs ++ [v]))) := fun Z P v k b B hk hP ok => hI.push nl lp b B hk hP ok (by omega)
      have hlZ : ∀ Z, But p G0 Z → ∃ xs, Z l = some (.lst xs) := fun Z b => by
        obtain ⟨Ps, xs, h1, h2, h3, h4⟩ := hI
        exact ⟨xs, b _ _ lp h3⟩
      refine seq_via (fun σ Y => σ = [some (.ref p), some (.int (n : Nat)), some (.int M), some (.bl lo), some (.ref l), some (.int ba), some (.int (i : Nat)), some (.int wa), y8, y9, y10, y11, y12, y13, y14, y15, none] ∧ Y = X ∧ 2 ≤ wa ∧ (1 ≤ i ∨ 8 ≤ wa ∧ lo = true)) (fun N' key => ?_) ?_
      · refine ⟨.int (i : Nat), rfl, rfl, _, rfl, ite2 (fun e1 => ?_) (fun e1 => iteF ?_)⟩
        · have i0 : i = 0 := by
            have := V.int.inj (of_decide_eq_true e1)
            omega
          refine ⟨.int ba, rfl, rfl, _, rfl, ite2 (fun e2 => ?_) (fun e2 => ?_)⟩
          · refine ⟨.int M, rfl, _, _, rfl, rfl, (show 2 ≤ sizeLine by decide), fun t nt => ⟨.ref p, rfl, p, 8, _, rfl, BX.new nt, by decide, by decide, by omega, fun X1 r3 b3 B3 l3 u3 => ?_⟩⟩
            obtain ⟨tv, ev, htv⟩ := at_menu (Pr := fun v => 3 ≤ v ∧ v ≤ 65) (xs := [M + 2, 65]) (r := if decide (V.int r3 = V.int 0) = true then (1 : Int) else 0) i01b.1 i01b.2 (fun x hx => by
              simp only [List.mem_cons, List.not_mem_nil, or_false] at hx
              omega)
            refine ⟨rfl, .inr ⟨_, rfl, t, _, _, _, rfl, rfl, SqL.mk (b3 _ _ (ne_new BX nt) upd_same), ev, ?_⟩⟩
            have bX1 := bX.trans (((But.refl p X).new (o := .lst [.int (M + 2), .int 65]) nt).trans b3)
            obtain ⟨xs1, hx1⟩ := hlZ X1 bX1
            refine ⟨.ref l, rfl, .inl ⟨rfl, _, SqL.mk hx1⟩, .ref p, rfl, .ref p, rfl, p, 2, _, rfl, B3, by decide, by decide, by omega, fun X2 r4 b4 B4 l4 u4 => ?_⟩
            obtain ⟨k4, rfl⟩ := nat_of l4
            refine ⟨.int M, rfl, p, M, _, k4, rfl, B4, by omega, by omega, by decide, by omega, by omega, fun X3 mv m b5 B5 hm ok vd dp rn => ?_⟩
            refine ⟨.ref p, rfl, _, rfl, 65, tv, rfl, p, if tv < 65 then tv else 65, _, rfl, B5, by split <;> omega, by split <;> omega, by omega, fun X4 r6 b6 B6 l6 u6 => ⟨(show 3 ≤ sizeLine by decide), fun t6 nt6 => ?_⟩⟩
            obtain ⟨k6, rfl⟩ := nat_of l6
            have k65 : k6 ≤ 64 := by
              have : (if tv < 65 then tv else 65) ≤ 65 := by split <;> omega
              omega
            have rn2 : m.rnd ≤ 4096 := Nat.le_trans rn (Nat.pow_le_pow_right (by decide) (show k4 + 1 ≤ 2 by omega))
            obtain ⟨xs, z1, z2, z3⟩ := pie _ (.make m k6) (.ref t6) _ ((((bX1.trans b4).trans b5).trans b6).trans (same_but (same_upd nt6 (o := .tup [.str "make", mv, .int (k6 : Nat)])))) (B6.new nt6) (by omega) ⟨t6, mv, rfl, upd_same, (hm.but B5 b6).same (same_upd nt6)⟩ ⟨⟨ok, vd, by omega, rn2⟩, k65⟩
            exact ⟨l, _, _, rfl, rfl, z1, z2, _, _, _, _, _, _, _, _, _, _, rfl, z3⟩
    
          · have ba0 : ba ≠ 0 := fun z => e2 (decide_eq_true (by rw [z]))
            have w8 := wi8 i0 (by omega)
            refine ⟨.int wa, rfl, _, _, rfl, rfl, _, rfl, ite2 (fun e3 => ?_) (fun e3 => key _ _ ⟨rfl, rfl, by omega, .inr ⟨w8, hlo (by omega)⟩⟩)⟩
            exact absurd (show wa < 2 from of_decide_eq_true e3) (by omega)
        · have i1 : 1 ≤ i := by
            have : ¬ V.int (i : Nat) = V.int 0 := fun e => e1 (decide_eq_true e)
            have : i ≠ 0 := fun e => this (by rw [e]; rfl)
            omega
          refine ⟨.int wa, rfl, _, _, rfl, rfl, _, rfl, ite2 (fun e3 => ?_) (fun e3 => key _ _ ⟨rfl, rfl, by have : ¬ wa < 2 := fun z => e3 (decide_eq_true z); omega, .inl i1⟩)⟩
          refine ⟨.int M, rfl, _, _, rfl, rfl, (show 2 ≤ sizeLine by decide), fun t nt => ⟨.ref p, rfl, p, 8, _, rfl, BX.new nt, by decide, by decide, by omega, fun X1 r3 b3 B3 l3 u3 => ?_⟩⟩
          obtain ⟨tv, ev, htv⟩ := at_menu (Pr := fun v => 3 ≤ v ∧ v ≤ 65) (xs := [M + 2, 65]) (r := if decide (V.int r3 = V.int 0) = true then (1 : Int) else 0) i01b.1 i01b.2 (fun x hx => by
            simp only [List.mem_cons, List.not_mem_nil, or_false] at hx
            omega)
          refine ⟨rfl, .inr ⟨_, rfl, t, _, _, _, rfl, rfl, SqL.mk (b3 _ _ (ne_new BX nt) upd_same), ev, ?_⟩⟩
          have bX1 := bX.trans (((But.refl p X).new (o := .lst [.int (M + 2), .int 65]) nt).trans b3)
          obtain ⟨xs1, hx1⟩ := hlZ X1 bX1
          refine ⟨.ref l, rfl, .inl ⟨rfl, _, SqL.mk hx1⟩, .ref p, rfl, .ref p, rfl, p, 2, _, rfl, B3, by decide, by decide, by omega, fun X2 r4 b4 B4 l4 u4 => ?_⟩
          obtain ⟨k4, rfl⟩ := nat_of l4
          refine ⟨.int M, rfl, p, M, _, k4, rfl, B4, by omega, by omega, by decide, by omega, by omega, fun X3 mv m b5 B5 hm ok vd dp rn => ?_⟩
          refine ⟨.ref p, rfl, _, rfl, 65, tv, rfl, p, if tv < 65 then tv else 65, _, rfl, B5, by split <;> omega, by split <;> omega, by omega, fun X4 r6 b6 B6 l6 u6 => ⟨(show 3 ≤ sizeLine by decide), fun t6 nt6 => ?_⟩⟩
          obtain ⟨k6, rfl⟩ := nat_of l6
          have k65 : k6 ≤ 64 := by
            have : (if tv < 65 then tv else 65) ≤ 65 := by split <;> omega
            omega
          have rn2 : m.rnd ≤ 4096 := Nat.le_trans rn (Nat.pow_le_pow_right (by decide) (show k4 + 1 ≤ 2 by omega))
          obtain ⟨xs, z1, z2, z3⟩ := pie _ (.make m k6) (.ref t6) _ ((((bX1.trans b4).trans b5).trans b6).trans (same_but (same_upd nt6 (o := .tup [.str "make", mv, .int (k6 : Nat)])))) (B6.new nt6) (by omega) ⟨t6, mv, rfl, upd_same, (hm.but B5 b6).same (same_upd nt6)⟩ ⟨⟨ok, vd, by omega, rn2⟩, k65⟩
          exact ⟨l, _, _, rfl, rfl, z1, z2, _, _, _, _, _, _, _, _, _, _, rfl, z3⟩
      rintro σ Y ⟨rfl, rfl, w2, wi1⟩
      obtain ⟨mx, hmx, hmx2⟩ : ∃ mx : Int, (if (i : Int) > 1 then (i : Int) else 1) = mx ∧ 1 ≤ mx ∧ mx ≤ 24 ∧ (1 ≤ i → mx = (i : Int)) := ⟨_, rfl, by split <;> omega, by split <;> omega, fun _ => by split <;> omega⟩
      refine ⟨3, rfl, by decide, by decide, fun D nD => ?_⟩
      have Db := ne_new BX nD
      refine lc_range (PN p D Y mx (N + 1 + 1300 * i + 1)) (pn_start nD BX) (fun j E5 hj h5 => ?_) (fun E5 h5 => ?_)
      · have j3 : j < 3 := hj
        obtain ⟨rs, e1, e2, e3, e4, e5⟩ := h5
        refine ⟨rfl, yes_ite ⟨.ref p, rfl, .int (i : Nat), rfl, 1, (i : Int), rfl, p, mx, _, ?_, e4, by omega, by omega, by omega, fun E6 x c6 B6 l6 u6 => ?_⟩⟩
        · try dsimp only
          rw [hmx]
          rfl
        · exact pn_step nD Db ⟨rs, e1, e2, e3, e4, e5⟩ c6 B6 (by omega) ⟨l6, u6⟩
      obtain ⟨rs, e1, e2, b3, B3, hD⟩ := h5
      obtain ⟨ra, rb, rc, rfl⟩ : ∃ x y z, rs = [x, y, z] := by
        have e1 : rs.length = 3 := e1
        match rs, e1 with
        | [x, y, z], _ => exact ⟨x, y, z, rfl⟩
      have va := e2 ra (by simp)
      have vb := e2 rb (by simp)
      have vc := e2 rc (by simp)
      clear e1 e2
      obtain ⟨ra, rfl⟩ := nat_of va.1
      obtain ⟨rb, rfl⟩ := nat_of vb.1
      obtain ⟨rc, rfl⟩ := nat_of vc.1
      refine ⟨D, _, rfl, SqL.mk hD, rfl, _, _, rfl, _, _, rfl, _, _, rfl, rfl, ?_⟩
      have b3 := bX.trans b3
      have B3 : Bx E5 p (N + 1 + 1300 * i + 5) := B3.mono (by have : ((3 : Int).toNat) = 3 := rfl; omega)
      clear hD Db nD BX bX
      refine nx_via (fun σ X => σ = [some (.ref p), some (.int (n : Nat)), some (.int M), some (.bl lo), some (.ref l), some (.int ba), some (.int (i : Nat)), some (.int wa), y8, some (.int (ra : Nat)), some (.int (rb : Nat)), some (.int (rc : Nat)), y12, y13, y14, y15, none] ∧ X = E5 ∧ 8 ≤ wa) (fun N'' key => ?_) ?_
      · refine ⟨.int wa, rfl, _, _, rfl, rfl, _, rfl, ite2 (fun e8 => ?_) (fun e8 => key _ _ ⟨rfl, rfl, by have : ¬ wa < 8 := fun z => e8 (decide_eq_true z); omega⟩)⟩
        have w8 : wa < 8 := of_decide_eq_true e8
        have i1 : 1 ≤ i := by omega
        have em := hmx2.2.2 i1
        have oa : ra < i := by omega
        have ob : rb < i := by omega
        have oc : rc < i := by omega
        have BB := B3
        have bb := b3
        refine ⟨_, rfl, (show 2 ≤ sizeLine by decide), fun p1 np1 => ?_⟩
        have sp1 := same_upd np1 (o := .tup [.str "less", .int (ra : Nat)])
        have ip1 : PieAt (upd E5 p1 (.tup [.str "less", .int (ra : Nat)])) (.less ra) (.ref p1) := ⟨p1, rfl, upd_same⟩
        have BB := BB.same sp1
        have bb := bb.trans (same_but sp1)
        generalize upd E5 p1 (.tup [.str "less", .int (ra : Nat)]) = F1 at ip1 BB bb ⊢
        refine ⟨_, rfl, _, rfl, (show 3 ≤ sizeLine by decide), fun p2 np2 => ?_⟩
        have sp2 := same_upd np2 (o := .tup [.str "both", .int (ra : Nat), .int (rb : Nat)])
        have ip2 : PieAt (upd F1 p2 (.tup [.str "both", .int (ra : Nat), .int (rb : Nat)])) (.both ra rb) (.ref p2) := ⟨p2, rfl, upd_same⟩
        have ip1 := ip1.same sp2
        have BB := BB.same sp2
        have bb := bb.trans (same_but sp2)
        generalize upd F1 p2 (.tup [.str "both", .int (ra : Nat), .int (rb : Nat)]) = F2 at ip1 ip2 BB bb ⊢
        refine ⟨_, rfl, _, rfl, (show 3 ≤ sizeLine by decide), fun p3 np3 => ?_⟩
        have sp3 := same_upd np3 (o := .tup [.str "either", .int (ra : Nat), .int (rb : Nat)])
        have ip3 : PieAt (upd F2 p3 (.tup [.str "either", .int (ra : Nat), .int (rb : Nat)])) (.either ra rb) (.ref p3) := ⟨p3, rfl, upd_same⟩
        have ip1 := ip1.same sp3
        have ip2 := ip2.same sp3
        have BB := BB.same sp3
        have bb := bb.trans (same_but sp3)
        generalize upd F2 p3 (.tup [.str "either", .int (ra : Nat), .int (rb : Nat)]) = F3 at ip1 ip2 ip3 BB bb ⊢
        refine ⟨_, rfl, _, rfl, (show 3 ≤ sizeLine by decide), fun p4 np4 => ?_⟩
        have sp4 := same_upd np4 (o := .tup [.str "oneof", .int (ra : Nat), .int (rb : Nat)])
        have ip4 : PieAt (upd F3 p4 (.tup [.str "oneof", .int (ra : Nat), .int (rb : Nat)])) (.oneof ra rb) (.ref p4) := ⟨p4, rfl, upd_same⟩
        have ip1 := ip1.same sp4
        have ip2 := ip2.same sp4
        have ip3 := ip3.same sp4
        have BB := BB.same sp4
        have bb := bb.trans (same_but sp4)
        generalize upd F3 p4 (.tup [.str "oneof", .int (ra : Nat), .int (rb : Nat)]) = F4 at ip1 ip2 ip3 ip4 BB bb ⊢
        refine ⟨_, rfl, _, rfl, _, rfl, (show 4 ≤ sizeLine by decide), fun p5 np5 => ?_⟩
        have sp5 := same_upd np5 (o := .tup [.str "pick", .int (ra : Nat), .int (rb : Nat), .int (rc : Nat)])
        have ip5 : PieAt (upd F4 p5 (.tup [.str "pick", .int (ra : Nat), .int (rb : Nat), .int (rc : Nat)])) (.pick ra rb rc) (.ref p5) := ⟨p5, rfl, upd_same⟩
        have ip1 := ip1.same sp5
        have ip2 := ip2.same sp5
        have ip3 := ip3.same sp5
        have ip4 := ip4.same sp5
        have BB := BB.same sp5
        have bb := bb.trans (same_but sp5)
        generalize upd F4 p5 (.tup [.str "pick", .int (ra : Nat), .int (rb : Nat), .int (rc : Nat)]) = F5 at ip1 ip2 ip3 ip4 ip5 BB bb ⊢
        refine ⟨(show 5 ≤ sizeLine by decide), fun l1 nl1 => ?_⟩
        have sl1 := same_upd nl1 (o := .lst [.ref p1, .ref p2, .ref p3, .ref p4, .ref p5])
        have hl1 := upd_same (H := F5) (a := l1) (o := .lst [.ref p1, .ref p2, .ref p3, .ref p4, .ref p5])
        have ip1 := ip1.same sl1
        have ip2 := ip2.same sl1
        have ip3 := ip3.same sl1
        have ip4 := ip4.same sl1
        have ip5 := ip5.same sl1
        have BB := BB.same sl1
        have bb := bb.trans (same_but sl1)
        generalize upd F5 l1 (.lst [.ref p1, .ref p2, .ref p3, .ref p4, .ref p5]) = F6 at hl1 ip1 ip2 ip3 ip4 ip5 BB bb ⊢
        obtain ⟨xq, hxq⟩ := hlZ F6 bb
        obtain ⟨fr, hfr, fr2⟩ : ∃ f : Nat, (rc : Int) % 2 = (f : Int) ∧ f < 2 := ⟨rc % 2, by omega, by omega⟩
        refine ⟨.ref l, rfl, .inl ⟨rfl, _, SqL.mk hxq⟩, .ref l1, rfl, _, rfl, _, rfl, .int (rc : Nat), rfl, _, _, rfl, rfl, (show (0 : Int) < 2 by decide), ?_⟩
        try dsimp only
        rw [hfr]
        refine ⟨(show 4 ≤ sizeLine by decide), fun p6 np6 => ?_⟩
        have sp6 := same_upd np6 (o := .tup [.str "keep", .int (ra : Nat), .int (rb : Nat), .int (fr : Nat)])
        have ip6 : PieAt (upd F6 p6 (.tup [.str "keep", .int (ra : Nat), .int (rb : Nat), .int (fr : Nat)])) (.keep ra rb fr) (.ref p6) := ⟨p6, rfl, upd_same⟩
        have hl1 := sp6 _ _ hl1
        have ip1 := ip1.same sp6
        have ip2 := ip2.same sp6
        have ip3 := ip3.same sp6
        have ip4 := ip4.same sp6
        have ip5 := ip5.same sp6
        have BB := BB.same sp6
        have bb := bb.trans (same_but sp6)
        generalize upd F6 p6 (.tup [.str "keep", .int (ra : Nat), .int (rb : Nat), .int (fr : Nat)]) = F7 at hl1 ip1 ip2 ip3 ip4 ip5 ip6 BB bb ⊢
        refine ⟨(show 1 ≤ sizeLine by decide), fun l2 nl2 => ?_⟩
        have sl2 := same_upd nl2 (o := .lst [.ref p6])
        have hl2 := upd_same (H := F7) (a := l2) (o := .lst [.ref p6])
        have hl1 := sl2 _ _ hl1
        have ip1 := ip1.same sl2
        have ip2 := ip2.same sl2
        have ip3 := ip3.same sl2
        have ip4 := ip4.same sl2
        have ip5 := ip5.same sl2
        have ip6 := ip6.same sl2
        have BB := BB.same sl2
        have bb := bb.trans (same_but sl2)
        generalize upd F7 l2 (.lst [.ref p6]) = F8 at hl1 hl2 ip1 ip2 ip3 ip4 ip5 ip6 BB bb ⊢
        refine ⟨l1, l2, _, _, rfl, rfl, hl1, hl2, (show 5 + 1 ≤ sizeLine by decide), fun l3 nl3 => ?_⟩
        have sl3 := same_upd nl3 (o := .lst ([V.ref p1, .ref p2, .ref p3, .ref p4, .ref p5] ++ [.ref p6]))
        have hl3 : (upd F8 l3 (.lst ([V.ref p1, .ref p2, .ref p3, .ref p4, .ref p5] ++ [.ref p6]))) l3 = some (.lst [V.ref p1, .ref p2, .ref p3, .ref p4, .ref p5, .ref p6]) := upd_same
        have ip1 := ip1.same sl3
        have ip2 := ip2.same sl3
        have ip3 := ip3.same sl3
        have ip4 := ip4.same sl3
        have ip5 := ip5.same sl3
        have ip6 := ip6.same sl3
        have BB := BB.same sl3
        have bb := bb.trans (same_but sl3)
        generalize upd F8 l3 (.lst ([V.ref p1, .ref p2, .ref p3, .ref p4, .ref p5] ++ [.ref p6])) = F9 at hl3 ip1 ip2 ip3 ip4 ip5 ip6 BB bb ⊢
        obtain ⟨v, ev, P, iv, ivk⟩ := at_menuV (Pr := fun v => ∃ P : Pie, PieAt F9 P v ∧ P.Ok i n) (xs := [.ref p1, .ref p2, .ref p3, .ref p4, .ref p5, .ref p6]) (show 0 ≤ wa - 2 by omega) (show wa - 2 < 6 by omega) (fun x hx => by
          simp only [List.mem_cons, List.not_mem_nil, or_false] at hx
          rcases hx with rfl | rfl | rfl | rfl | rfl | rfl
          · exact ⟨_, ip1, oa⟩
          · exact ⟨_, ip2, oa, ob⟩
          · exact ⟨_, ip3, oa, ob⟩
          · exact ⟨_, ip4, oa, ob⟩
          · exact ⟨_, ip5, oa, ob, oc⟩
          · exact ⟨_, ip6, oa, ob, fr2⟩)
        obtain ⟨xs, z1, z2, z3⟩ := pie F9 P v _ bb BB (by omega) iv ivk
        exact ⟨.int wa, rfl, _, _, rfl, rfl, l3, _, _, v, rfl, rfl, SqL.mk hl3, ev, l, _, _, rfl, rfl, z1, z2, _, _, _, _, _, _, _, _, _, _, rfl, z3⟩
    
      rintro σ X ⟨rfl, rfl, w8⟩
      obtain ⟨m2, hm2, hm3⟩ : ∃ m2 : Int, (if lo = true then ((n : Nat) : Int) else ((i : Nat) : Int)) = m2 ∧ 1 ≤ m2 ∧ m2 ≤ (n : Int) := ⟨_, rfl, by
        cases lo
        · rw [if_neg Bool.false_ne_true]
          have : 1 ≤ i := wi1.resolve_right (fun z => by cases z.2)
          omega
        · rw [if_pos rfl]
          omega⟩
      refine ⟨2, rfl, by decide, by decide, fun D nD => ?_⟩
      have Db := ne_new B3 nD
      refine lc_range (PN p D X m2 (N + 1 + 1300 * i + 5)) (pn_start nD B3) (fun j E5 hj h5 => ?_) (fun E5 h5 => ?_)
      · have j3 : j < 2 := hj
        obtain ⟨rs, e1, e2, e3, e4, e5⟩ := h5
        have go : ∀ (E6 : Hp) (x : Int), But p E5 E6 → Bx E6 p (N + 1 + 1300 * i + 5 + (j + 1)) → 0 ≤ x → x < m2 → _ := fun E6 x c6 B6 l6 u6 => pn_step nD Db ⟨rs, e1, e2, e3, e4, e5⟩ c6 B6 (by omega) ⟨l6, u6⟩
        refine ⟨rfl, yes_ite ⟨.ref p, rfl, .bl lo, rfl, _, rfl, ?_⟩⟩
        cases lo with
        | true =>
          rw [if_pos rfl] at hm2
          refine iteT ⟨.int (n : Nat), rfl, p, m2, _, by rw [← hm2]; rfl, e4, by omega, by omega, by omega, fun E6 x c6 B6 l6 u6 => go E6 x c6 B6 l6 u6⟩
        | false =>
          rw [if_neg Bool.false_ne_true] at hm2
          refine iteF ⟨.int (i : Nat), rfl, p, m2, _, by rw [← hm2]; rfl, e4, by omega, by omega, by omega, fun E6 x c6 B6 l6 u6 => go E6 x c6 B6 l6 u6⟩
      obtain ⟨rs, e1, e2, b4, B4, hD⟩ := h5
      obtain ⟨sa, sb, rfl⟩ : ∃ x y, rs = [x, y] := by
        have e1 : rs.length = 2 := e1
        match rs, e1 with
        | [x, y], _ => exact ⟨x, y, rfl⟩
      have va := e2 sa (by simp)
      have vb := e2 sb (by simp)
      clear e1 e2
      obtain ⟨sa, rfl⟩ := nat_of va.1
      obtain ⟨sb, rfl⟩ := nat_of vb.1
      have oa : sa < n := by omega
      have ob : sb < n := by omega
      refine ⟨D, _, rfl, SqL.mk hD, rfl, _, _, rfl, _, _, rfl, rfl, ?_⟩
      have b5 := b3.trans b4
      have B5 : Bx E5 p (N + 1 + 1300 * i + 8) := B4.mono (by have : ((2 : Int).toNat) = 2 := rfl; omega)
      clear hD Db nD B3 b3 b4 B4
      refine ⟨.int wa, rfl, _, _, rfl, rfl, _, rfl, ite2 (fun e10 => ?_) (fun e10 => ?_)⟩
      · have w10 : wa < 10 := of_decide_eq_true e10
        refine ⟨.ref p, rfl, (show 2 ≤ sizeLine by decide), fun t1 nt1 => ?_⟩
        obtain ⟨zs, evs, hzs⟩ := at_menu (Pr := fun v => 3 ≤ v ∧ v ≤ 16) (xs := [3, 16]) (show 0 ≤ wa - 8 by omega) (show wa - 8 < 2 by omega) (fun x hx => by
          simp only [List.mem_cons, List.not_mem_nil, or_false] at hx
          omega)
        refine ⟨.int wa, rfl, _, _, rfl, rfl, t1, _, _, _, rfl, rfl, SqL.mk upd_same, evs, p, zs, _, rfl, B5.new nt1, by omega, by omega, by omega, fun E6 r6 b6 B6 l6 u6 => ?_⟩
        have b7 := b5.trans (((But.refl p E5).new (o := .lst [.int 3, .int 16]) nt1).trans b6)
        obtain ⟨sz, hsz⟩ := nat_of (show 0 ≤ 1 + r6 by omega)
        refine ⟨_, _, rfl, rfl, ?_⟩
        try dsimp only
        rw [hsz]
        obtain ⟨xq, hxq⟩ := hlZ E6 b7
        refine ⟨.ref l, rfl, .inl ⟨rfl, _, SqL.mk hxq⟩, .int (sa : Nat), rfl, .int (sz : Nat), rfl, _, rfl, by omega, by omega, fun D2 nD2 => ?_⟩
        have Db2 := ne_new B6 nD2
        refine lc_range (PN p D2 E6 2 (N + 1 + 1300 * i + 9)) (pn_start nD2 B6) (fun j E7 hj h7 => ?_) (fun E7 h7 => ?_)
        · obtain ⟨rs, e1, e2, e3, e4, e5⟩ := h7
          refine ⟨rfl, yes_ite ⟨.ref p, rfl, p, 2, _, rfl, e4, by decide, by decide, by omega, fun E8 x c8 B8 l8 u8 => ?_⟩⟩
          exact pn_step nD2 Db2 ⟨rs, e1, e2, e3, e4, e5⟩ c8 B8 (by omega) ⟨l8, u8⟩
        obtain ⟨hs, e1, e2, b8, B8, hD2⟩ := h7
        rw [Int.toNat_natCast] at e1 B8
        refine ⟨D2, _, rfl, .inl ⟨SqL.mk hD2, fun tb ntb => ⟨(show 3 ≤ sizeLine by decide), fun t nt => ?_⟩⟩⟩
        obtain ⟨xs, z1, z2, z3⟩ := pie _ (.late sa hs) (.ref t) _ ((((b7.trans b8).new ntb).new nt)) (((B8.new ntb).new nt).mono (Nat.le_refl _)) (by omega) ⟨t, tb, rfl, upd_same, (same_upd nt) _ _ upd_same⟩ ⟨oa, ⟨by omega, by omega⟩, e2⟩
        exact ⟨l, _, _, rfl, rfl, z1, z2, _, _, _, _, _, _, _, _, _, _, rfl, z3⟩
      · refine ⟨.ref p, rfl, p, 9, _, rfl, B5, by decide, by decide, by omega, fun E6 r6 b6 B6 l6 u6 => ⟨_, _, rfl, rfl, .ref p, rfl, p, 64, _, rfl, B6, by decide, by decide, by omega, fun E7 r7 b7 B7 l7 u7 => ⟨_, _, rfl, rfl, (show 4 ≤ sizeLine by decide), fun t1 nt1 => ⟨.ref p, rfl, p, 4, _, rfl, B7.new nt1, by decide, by decide, by omega, fun E8 r8 b8 B8 l8 u8 => ?_⟩⟩⟩⟩
        obtain ⟨hi, evh, hhi⟩ := at_menu (Pr := fun v => 1 ≤ v ∧ v ≤ 64) (xs := [1, 2, 1 + r6, 1 + r7]) l8 u8 (fun x hx => by
          simp only [List.mem_cons, List.not_mem_nil, or_false] at hx
          omega)
        obtain ⟨mo, rfl⟩ := nat_of (show 0 ≤ hi by omega)
        refine ⟨t1, _, _, _, rfl, rfl, SqL.mk (b8 _ _ (ne_new B7 nt1) upd_same), evh, ?_⟩
        have b9 := ((b5.trans b6).trans b7).trans (((But.refl p E7).new (o := .lst [.int 1, .int 2, .int (1 + r6), .int (1 + r7)]) nt1).trans b8)
        refine ⟨.ref p, rfl, .ref p, rfl, p, 2, _, rfl, B8, by decide, by decide, by omega, fun X2 r4 b4 B4 l4 u4 => ?_⟩
        obtain ⟨k4, rfl⟩ := nat_of l4
        refine ⟨.int M, rfl, p, M, _, k4, rfl, B4, by omega, by omega, by decide, by omega, by omega, fun X3 mv m b5 B5 hm ok vd dp rn => ?_⟩
        have b10 := (b9.trans b4).trans b5
        obtain ⟨xq, hxq⟩ := hlZ X3 b10
        refine ⟨.ref l, rfl, .inl ⟨rfl, _, SqL.mk hxq⟩, .int (sa : Nat), rfl, .int (sb : Nat), rfl, mv, rfl, .int (mo : Nat), rfl, .ref p, rfl, .int (mo : Nat), rfl, _, _, rfl, rfl, p, (mo : Int) + 1, _, rfl, B5, by omega, by omega, by omega, fun X4 r11 b11 B11 l11 u11 => ⟨(show 6 ≤ sizeLine by decide), fun t nt => ?_⟩⟩
        obtain ⟨at_, rfl⟩ := nat_of l11
        have rn2 : m.rnd ≤ 4096 := Nat.le_trans rn (Nat.pow_le_pow_right (by decide) (show k4 + 1 ≤ 2 by omega))
        obtain ⟨xs, z1, z2, z3⟩ := pie _ (.keeper sa sb m mo at_) (.ref t) _ ((b10.trans b11).new nt) (B11.new nt) (by omega) ⟨t, mv, rfl, upd_same, (hm.but B5 b11).same (same_upd nt)⟩ ⟨oa, ob, ⟨ok, vd, by omega, rn2⟩, by omega, by omega, by omega⟩
        exact ⟨l, _, _, rfl, rfl, z1, z2, _, _, _, _, _, _, _, _, _, _, rfl, z3⟩
    · rintro σ G ⟨y6, y7, y8, y9, y10, y11, y12, y13, y14, y15, rfl, Ps, xs, h1, h2, h3, h4, h5, h6⟩
      refine ⟨.ref l, rfl, l, _, rfl, .inl ⟨SqL.mk h3, fun t nt => ?_⟩⟩
      exact q _ t xs Ps (h1.trans (same_but (same_upd nt))) ((h2.new nt).mono (by omega)) upd_same (h4.same (same_upd nt)) h5 h6
/-! enumerate of a tuple -/
abbrev itObj (l : Addr) : Obj := { cls := .type "tuple_iterator", data := .fields #[.ref l, .int 0 0] }
abbrev enObj (a : Addr) : Obj := { cls := .type "enumerate", data := .fields #[.none, .bool false, .ref a, rawInt 0, .none, .none] }
set_option maxHeartbeats 1000000 in
theorem enum_newT (l : Addr) (items : Array Value) : Meets (Builtin.«enumerate.__new__» ⟨[.type "enumerate", .ref l], []⟩)
    (fun _ R s => s.heap.IsTuple l items ∧ R (.ok (.ret (.ref (s.heap.push (itObj l)).objs.size))) { s with heap := (s.heap.push (itObj l)).push (enObj s.heap.objs.size) }) :=
  .of_wp fun prog w A R s h => by
    obtain ⟨hp, g, d, tk, os⟩ := s
    obtain ⟨h1, h⟩ := h
    have hsub := sub_enumerate
    have q1 : ∀ {A' : Around} {E : Value → Shared → Prop} {Q : Value → Shared → Prop}, Q (.ref hp.objs.size) ⟨hp.push (itObj l), g, d, tk, os⟩ → wpAny (model prog w) A' (pyIter (.ref l)) Q E ⟨hp, g, d, tk, os⟩ := fun q => (begins_tuple l items).iter prog w _ _ ⟨hp, g, d, tk, os⟩ _ h1 q
    obtain ⟨⟨c, dct, dt, sl⟩, hl, hc, n, hd⟩ := h1
    replace hc : c = .type "tuple" := hc
    replace hd : dt = .seq items n := hd
    subst hc hd
    wp_walk using AutoSeq1.wpAny_loadPart' hl, q1
    refine wpAny_stack_any fun st => wpAny_pure ?_
    split
    · rename_i c _ _ _ _ _
      cases (c == Value.type "enumerate") <;> (wp_walk using AutoSeq1.wpAny_loadPart' hl, q1; exact ⟨_, rfl, h⟩)
    · wp_walk using AutoSeq1.wpAny_loadPart' hl, q1
      exact ⟨_, rfl, h⟩
theorem enum_callT {prog : Program} {w : World} {A : Around} {E : Value → Shared → Prop} {s : Shared} {l : Addr} {items : Array Value} {Q : Value → Shared → Prop} (hL : s.heap.IsTuple l items)
    (h : ∀ h', IsEnum h' (s.heap.objs.size + 1) s.heap.objs.size 0 .none → h'.IsTupleIter s.heap.objs.size l 0 → (∀ b o, s.heap.get? b = some o → h'.get? b = some o) → Q (.ref (s.heap.objs.size + 1)) { s with heap := h' }) :
    wpAny (model prog w) A (call (.type "enumerate") [.ref l]) Q E s := by
  refine callType_new F.called_enumerate (by decide) (F.typeCall_enumerate_1 _) (F.newCall_enumerate_1 _) (fun obj => F.args_object_init_2 obj _) F.entry_enumerate_new (enum_newT l items) ⟨hL, ?_⟩
  have hz : (s.heap.push (itObj l)).objs.size = s.heap.objs.size + 1 := Heap.size_push ..
  show _ ∧ _
  rw [hz]
  have he : IsEnum ((s.heap.push (itObj l)).push (enObj s.heap.objs.size)) (s.heap.objs.size + 1) s.heap.objs.size 0 .none := by
    have e := Heap.get?_push_size (s.heap.push (itObj l)) (o := enObj s.heap.objs.size) rfl
    rw [hz] at e
    exact e
  exact ⟨⟨_, he, rfl⟩, h _ he ⟨_, Heap.get?_push_of_some _ (Heap.get?_push_size _ rfl), rfl, rfl⟩ fun b o x => Heap.get?_push_of_some _ (Heap.get?_push_of_some _ x)⟩
/-- the tuple at a, each item in a new pair -/
def ItN (K : PySem.W.Frag) (a : Addr) : It :=
  ⟨fun i H => ∃ (xs : List V) (x : V), SqT K H a xs ∧ xs[i]? = some x, fun i H v H' => ∃ T x, v = .ref T ∧ H T = none ∧ H' = upd H T (.tup [.int (i : Nat), x]) ∧ ∀ xs, SqT K H a xs → xs[i]? = some x, fun i H => ∃ xs : List V, SqT K H a xs ∧ xs.length ≤ i⟩
theorem turn_N {P : Program} {w : World} {K : PySem.W.Frag} {elts : List Expr} {kk : Nat} {tpos : Pos} (a e it : Addr) (hae : a ≠ e) (hai : a ≠ it) :
    Turn P w K (.Tuple elts kk tpos) (ItN K a) [e, it] e (fun i h => (∃ old, IsEnum h e it ((i : Nat) : Int) old) ∧ h.IsTupleIter it a i ∧ e ≠ it) where
  mem := List.mem_cons_self
  obj := fun i h st b hb => by
    obtain ⟨⟨old, he⟩, ⟨o, ho, hc, hd⟩, _⟩ := st
    rcases List.mem_cons.mp hb with z | z
    · rw [z]
      exact ⟨_, he, fun v q => nomatch q⟩
    · rw [List.mem_singleton.mp z]
      exact ⟨o, ho, fun v q => by rw [hd] at q; cases q⟩
  keep := fun i h h' st k => let ⟨⟨old, he⟩, hi, hne⟩ := st; ⟨⟨old, k e List.mem_cons_self _ he⟩, hi.at fun o q => k it (List.mem_cons_of_mem _ List.mem_cons_self) o q, hne⟩
  item := by
    intro X hP hw hK hc i pins s σ H E I hf st hg
    subst hP hw hK
    obtain ⟨⟨old, he⟩, hit, hne⟩ := st
    obtain ⟨xs, x, hq, hx⟩ := hg
    obtain ⟨its, rv, p, hz⟩ := I.tuple hq
    obtain ⟨u, hu, ru⟩ := rv.get hx
    have hel : e < s.heap.objs.size := Heap.lt_size he
    have hil : it < s.heap.objs.size := by
      obtain ⟨_, q, _⟩ := hit
      exact Heap.lt_size q
    have hlt : i < its.toArray.size := by
      rw [List.size_toArray]
      exact (List.getElem?_eq_some_iff.mp hu).1
    refine wpAny_pyNext_enum_itemD (Draws.tuple (A := X.A.in1) (I.ok.hd hc) it a hai its.toArray) he ⟨hit, (show s.heap.IsTuple a its.toArray from p)⟩ hlt hne (fun z => ?_) fun x' h' tk hP' ho hst' hT hsz hk => ?_
    · rcases List.mem_cons.mp z with z | z
      · exact hne z
      · exact hae (List.mem_singleton.mp z).symm
    have ex : x' = u := by
      have hP' : its.toArray[i]? = some x' := hP'
      have hu' : its.toArray[i]? = some u := by simpa using hu
      rw [hu'] at hP'
      exact (Option.some.inj hP').symm
    subst ex
    refine ⟨_, rfl, wpAny_letOwnedTupleGo_enum (s := { s with heap := h', toks := tk + 1 }) ho fun h'' he' sb => ?_⟩
    have hT2 : h''.get? s.heap.objs.size = some { cls := .type "tuple", data := .seq #[.int i tk, x'] } := (sb.2 _ (Nat.ne_of_gt hel)).trans hT
    have new : ObjOk X.prog X.w (upd H s.heap.objs.size (.tup [.int (i : Nat), x])) h'' s.heap.objs.size (.tup [.int (i : Nat), x]) := ⟨(show 2 ≤ sizeLine by decide), [.int i tk, x'], .cons ⟨_, rfl⟩ (.cons ru .nil), ⟨_, hT2, rfl, _, rfl⟩⟩
    have I1 : Inv X pins σ (upd H s.heap.objs.size (.tup [.int (i : Nat), x])) { s with heap := h'', toks := tk + 1 } :=
      I.turnedNew (ch := [e, it]) (fun b ob hb q => (sb.2 b (fun z => hb (by rw [z]; exact List.mem_cons_self))).trans (hk b ob (fun z => hb (by rw [z]; exact List.mem_cons_self)) (fun z => hb (by rw [z]; exact List.mem_cons_of_mem _ List.mem_cons_self)) q)) hf (Nat.le_refl _) new
    refine ⟨.ref s.heap.objs.size, _, I1, rfl, ⟨_, x, rfl, I.hok.fresh (Nat.le_refl _), rfl, fun ys hy => by rw [I.tuple_inj hy hq]; exact hx⟩, ⟨⟨x', ?_⟩, hst'.1.at fun o q => (sb.2 it (Ne.symm hne)).trans q, hne⟩, fun b hb => ?_⟩
    · rw [show ((i + 1 : Nat) : Int) = (i : Int) + 1 by omega]
      exact he'
    · have hb' : b < s.heap.objs.size := by
        rcases List.mem_cons.mp hb with z | z
        · rw [z]
          exact hel
        · rw [List.mem_singleton.mp z]
          exact hil
      rw [upd_ne (Nat.ne_of_lt hb')]
      exact (hf b hb).1
  done := by
    intro X hP hw hK hc i pins s σ H E I hf st hg
    subst hP hw hK
    obtain ⟨⟨old, he⟩, hit, hne⟩ := st
    obtain ⟨xs, hq, hx⟩ := hg
    obtain ⟨its, rv, p, hz⟩ := I.tuple hq
    obtain ⟨f0, f1, f2, f3, f4, f5⟩ := hf it (List.mem_cons_of_mem _ List.mem_cons_self)
    have hl := rv.length
    have hT : s.TypeIs (.ref e) "enumerate" := ⟨_, he, rfl⟩
    have hend : its.toArray[i]? = none := by
      rw [List.getElem?_toArray, List.getElem?_eq_none (by omega)]
    unfold pyNext
    refine wpAny_bind (wpAny_attempt (wpAny_callSpecial?_slot (name := Str.ofString "__next__") hT F.slot_enumerate_next (wpAny_call_entry F.slot_enumerate_next hT F.entry_enumerate_next ?_ (F.args_enumerate_next_1 _))))
    show wpAny _ _ (field (.ref e) 2 >>= _) _ _ _
    refine wpAny_bind (wpAny_field he rfl (x := .ref it) rfl ?_)
    refine wpAny_bind (wpAny_nextOf_tuple_end (I.ok.hd hc) hit (show s.heap.IsTuple a its.toArray from p) hend fun h' x eb hx' => ?_)
    obtain ⟨o, ho, hcl⟩ := hx'
    refine wpAny_bind (wpAny_isInstance (T := "StopIteration") (b := true) ⟨o, ho, hcl⟩ isSubtype_stop ?_)
    exact wpAny_pure ⟨rfl, I.turned (t' := s.toks) (fun b o hb q => eb b o hb q) f0 f1 f3 f4 f5⟩
  self := fun A i s Q E st h => let ⟨⟨_, he⟩, _⟩ := st; wpAny_pyIter_enum he h
def iEnumT (K : PySem.W.Frag) (ta : TA) : TI := fun σ H R => ta σ H fun vs H1 => ∃ a xs, vs = [.ref a] ∧ SqT K H1 a xs ∧ R (ItN K a) H1
theorem pi_enumT {X : Cx} {e : Expr} {ta : TA} {p pos tpos : Pos} {elts : List Expr} {kk : Nat} (hg : Gl X "enumerate") (hm : X.mg "enumerate" = none) (ha : PA X [e] ta) (hs : starEach [e] X.env = [(false, eval e X.env)] := by rfl) :
    PI X (.Tuple elts kk tpos) (.Call (.Name "enumerate" p) [e] [] pos) (iEnumT X.K ta) := by
  refine ⟨fun pins s σ H R I h => ?_⟩
  refine Call_ (ld_blt I hg hm boot_enumerate (PyProof.Rows.callWith_type1 (thn (ha.run pos pins s σ H _ I h) fun us s1 ⟨vs, H1, I1, r1, q1⟩ => ?_) hs rfl))
  obtain ⟨a, xs, ex, hq, q⟩ := q1
  subst ex
  rw [Vals.ref1 r1]
  obtain ⟨its, rv, p', hz⟩ := I1.tuple hq
  have lta : a < s1.heap.objs.size := by
    obtain ⟨o, ho, _⟩ := id p'
    exact Heap.lt_size ho
  refine enum_callT (show s1.heap.IsTuple a its.toArray from p') fun h' he hit hk => wpAny_pyIter_enum he ?_
  have I2 : Inv X pins σ H1 { s1 with heap := h' } := I1.kept (t' := s1.toks) hk
  refine ⟨s1.heap.objs.size + 1, [s1.heap.objs.size + 1, s1.heap.objs.size], _, _, H1, rfl, I2, turn_N a (s1.heap.objs.size + 1) s1.heap.objs.size (Nat.ne_of_lt (Nat.lt_succ_of_lt lta)) (Nat.ne_of_lt lta), ⟨⟨.none, he⟩, hit, Nat.succ_ne_self _⟩, fun b hb => ?_, q⟩
  have hle : s1.heap.objs.size ≤ b := by
    rcases List.mem_cons.mp hb with z | z
    · rw [z]
      exact Nat.le_succ _
    · rw [List.mem_singleton.mp z]
      exact Nat.le_refl _
  exact I1.fpOk hle (I1.hok.fresh hle)
theorem walk_enumT {K : PySem.W.Frag} {a : Addr} {xs : List V} : Walk (ItN K a) xs.length (fun H => SqT K H a xs) (YPair (fun i => some (.int (i : Nat))) (fun i => xs[i]?)) := by
  refine ⟨fun i _ hi q => ⟨xs, xs[i], q, List.getElem?_eq_getElem hi⟩, fun _ q => ⟨xs, q, Nat.le_refl _⟩, fun i H v H' _ q y => ?_⟩
  obtain ⟨T, x, h1, h2, h3, h4⟩ := y
  exact ⟨T, .int (i : Nat), x, h1, h2, h3, rfl, h4 xs q⟩
theorem inK {X : Cx} {K : PySem.W.Frag} (h : X.K = K) : OpR X (compareOp .In) (rIn K false) := by
  subst h
  exact op_in_seq
/-! rules for machines: tuple(d.values()), match on a list, xs[i] += e -/
section
variable {prog : Program} {w : World} {A : Around} {E : Value → Shared → Prop} {s : Shared} {r d : Addr} {K0 : Type} [DecidableEq K0] {knd : PySem.KeyKind prog w K0} {kvs : List (K0 × Value)} {ep : Nat}
theorem code_tuple_new_vals {Q₁ : Value → Shared → Prop} (hh : A.handled = none) (hok : s.heap.IsValuesView r d ∧ s.heap.DictAt knd d kvs ep) (hn : kvs.length ≤ sizeLine)
    (h : ∀ (h' : Heap) (tk : Nat) (acc : Array Value), (∀ b o, s.heap.get? b = some o → h'.get? b = some o) → ItemsOf (fun i v => ∃ k, kvs[i]? = some (k, v)) acc kvs.length →
      Q₁ (.ref h'.objs.size) { s with heap := h'.push { cls := .type "tuple", data := .seq acc }, toks := tk }) :
    codeAny (model prog w) A (.call (.builtin "tuple.__new__") ⟨[.type "tuple", .ref r], []⟩) (wants Q₁ E) s := by
  refine codeAny_of_tree ?_
  show wpAny _ A.in1 (do checkBuiltinCall "tuple.__new__" ⟨[.type "tuple", .ref r], []⟩; again (.builtin "tuple.__new__" ⟨[.type "tuple", .ref r], []⟩)) _ _ s
  refine wpAny_bind (wpAny_of_eq (PySem.F.newCall_tuple_1 _) (wpAny_pure ⟨plainId_quiet PySem.F.plain_tuple_new _, codeAny_builtin PySem.F.entry_tuple_new ?_⟩))
  rw [Around.under_plainId PySem.F.plain_tuple_new _]
  have hsub := sub_tuple_self
  have hinit := init_tuple_lookup
  have hmh := madeHere_tuple
  have hTI : s.TypeIs (.ref r) "dict_values" := hok.1.typeIs
  have hh1 : A.in1.handled = none := hh
  wp_walk using wpAny_typeOf hTI, PySem.W.kdu_collect (A := A.in1) (PySem.W.kdl_values (prog := prog) (w := w) (knd := knd) (r := r) (d := d) (kvs := kvs) (ep := ep)) hh1 hok hn
  intro h' tk acc hk hacc
  show wpAny _ _ (Builtin.Tuple.tupleExact acc.toList.toArray >>= fun v => ret v) _ _ _
  unfold Builtin.Tuple.tupleExact
  refine wpAny_bind (wpAny_newObj_type ?_ (by show acc.toList.toArray.size ≤ sizeLine; simp only [Array.toArray_toList]; rw [hacc.1]; exact hn))
  refine wpAny_pure ?_
  have e : acc.toList.toArray = acc := by simp
  rw [e]
  exact h h' tk acc hk hacc
theorem call_tuple_vals {Q : Value → Shared → Prop} (hh : A.handled = none) (hok : s.heap.IsValuesView r d ∧ s.heap.DictAt knd d kvs ep) (hn : kvs.length ≤ sizeLine)
    (hQ : ∀ (h' : Heap) (tk : Nat) (acc : Array Value), (∀ b o, s.heap.get? b = some o → h'.get? b = some o) → ItemsOf (fun i v => ∃ k, kvs[i]? = some (k, v)) acc kvs.length →
      Q (.ref h'.objs.size) { s with heap := h'.push { cls := .type "tuple", data := .seq acc }, toks := tk }) :
    wpAny (model prog w) A (call (.type "tuple") [.ref r]) Q E s := by
  refine callType_codes (Q₁ := fun obj s₁ => s₁.TypeIs obj "tuple" ∧ Q obj s₁) PySem.F.called_tuple (PySem.F.typeCall_tuple_1 _) PySem.F.entry_object_init
    (code_tuple_new_vals (A := A.in1) hh hok hn fun h' tk acc hk hacc => ⟨⟨_, Heap.get?_push_size _ rfl, rfl⟩, hQ h' tk acc hk hacc⟩) fun obj s₁ h₁ => ?_
  exact ⟨h₁.1, PySem.F.args_object_init_2 obj _, object_init_meets PySem.F.called_tuple.init.lookup PySem.F.called_tuple.made (by decide) prog w A.in1 _ s₁ ⟨h₁.1, rfl, h₁.2⟩⟩
end
theorem kv_vals {κ : Type} : ∀ {kvs : List (κ × V)} {vs : List (κ × Value)} {us : List Value}, KV kvs vs → us.length = vs.length → (∀ (j : Nat) (u : Value), us[j]? = some u → ∃ k, vs[j]? = some (k, u)) → Vals (kvs.map (·.2)) us
  | [], [], us, _, l, _ => by
    have : us = [] := List.eq_nil_of_length_eq_zero l
    rw [this]
    exact .nil
  | p :: kvs, q :: vs, us, r, l, h => by
    match us, l with
    | u :: us, l =>
      obtain ⟨k, e⟩ := h 0 u rfl
      obtain ⟨x, h1, h2⟩ := KV.at' r e
      obtain rfl : p = (k, x) := Option.some.inj h1
      refine .cons h2 (kv_vals (vs := vs) (by cases r; assumption) (Nat.succ.inj l) fun j u e => ?_)
      exact h (j + 1) u (by simpa using e)
  | [], _ :: _, us, r, _, _ => by cases r
  | _ :: _, [], us, r, _, _ => by cases r
def tTupVals (td : TE) : TE := fun σ H Q => td σ H fun x H1 => ∃ a kvs, x = V.ref a ∧ H1 a = some (.dK kvs) ∧ kvs.length ≤ sizeLine ∧ ∀ q, H1 q = none → Q (.ref q) (upd H1 q (.tup (kvs.map (·.2))))
theorem pe_tupVals {X : Cx} {o : Expr} {p pos apos mpos : Pos} {td : TE} (hc : X.calm = true) (hg : Gl X "tuple") (hm : X.mg "tuple" = none) (hd : PE X o td) (hbase : attributeBase o "values" X.env (eval o X.env) = eval o X.env := by rfl) (hline : (apos.endLine == mpos.line) = true := by rfl)
    (na : starEach [Expr.Call (.Attribute o "values" apos) [] [] mpos] X.env = (false, eval (Expr.Call (.Attribute o "values" apos) [] [] mpos) X.env) :: starEach [] X.env := by rfl) :
    PE X (.Call (.Name "tuple" p) [.Call (.Attribute o "values" apos) [] [] mpos] [] pos) (tTupVals td) := by
  refine ⟨fun pins s σ H Q I h => ?_⟩
  refine Call_ (ld_blt I hg hm boot_tuple (PyProof.Rows.callWith_type1 (args_cons (wpAny_Call_method0_late hbase hline (thn (hd.run pins s σ H _ I h) fun v s1 ⟨x, H1, I1, r1, a, kvs, ex, ha, hl, q⟩ => ?_)) na) na))
  subst ex
  obtain rfl : v = Value.ref a := r1
  obtain ⟨_, hsys, vs, rel, dof⟩ := dk_of I1.hok ha
  obtain ⟨ep, dat⟩ := dof.dictAt
  have dat' := dat
  obtain ⟨ob, es, ho, ex, hdat, hko, hpr, hnd⟩ := dat'
  refine ⟨"dict", "dict.values", PySem.F.plainAttrs_dict, PySem.F.slot_dict_values, PySem.F.type_dict_values, ⟨ob, ho, ex.1⟩, fun b e => ?_, Calls.callWith_builtin rfl (PySem.evalArgs_none ?_)⟩
  · cases e
    exact ⟨ob, ho, ex.2.1⟩
  refine call_meetsIn PySem.F.slot_dict_values ⟨ob, ho, ex.1⟩ PySem.F.entry_dict_values (PySem.F.args_dict_values_1 _) (meets_dict_values (mixKind X.prog X.w) a hsys) ⟨⟨vs, dof⟩, ?_⟩
  have k1 : ∀ b u, s1.heap.get? b = some u → (s1.heap.push { cls := .type "dict_values", data := .fields #[.ref a] }).get? b = some u := fun b u e => Heap.get?_push_of_some _ e
  have dat1 : (s1.heap.push { cls := .type "dict_values", data := .fields #[.ref a] }).DictAt (mixKind X.prog X.w) a vs ep := dat.keep k1
  have hlv : vs.length = kvs.length := (KV.length rel).symm
  refine args_nil ?_
  refine call_tuple_vals (d := a) (knd := mixKind X.prog X.w) (I.ok.hd hc) ⟨⟨_, Heap.get?_push_size _ rfl, rfl, rfl⟩, dat1⟩ (by omega) fun h' tk acc hk hacc => ?_
  have I2 : Inv X pins σ H1 { s1 with heap := h', toks := tk } := I1.kept (t' := tk) fun b o e => hk b o (k1 b o e)
  have rv : Vals (kvs.map (·.2)) acc.toList := kv_vals rel (by rw [Array.length_toList]; exact hacc.1) fun j u e => hacc.2 j u (by rw [← Array.getElem?_toList]; exact e)
  have I3 : Inv X pins σ (upd H1 h'.objs.size (.tup (kvs.map (·.2)))) { s1 with heap := h'.push { cls := .type "tuple", data := .seq acc }, toks := tk } := by
    refine I2.laid (t' := tk) (fun b o e => Heap.get?_push_of_some _ e) (Nat.le_refl _) ⟨by rw [List.length_map]; exact hl, acc.toList, rv, ?_⟩
    have := IsTup.new h' acc
    simpa using this
  exact ⟨.ref h'.objs.size, upd H1 h'.objs.size (.tup (kvs.map (·.2))), I3, rfl, q _ (I2.hok.fresh (Nat.le_refl _))⟩
/-- xs[i], by values -/
theorem get_list {X : Cx} : PGet X (rIxL X.K) := by
  intro pins s σ H o i ov iv Q I ro ri h
  obtain ⟨p, xs, k, z, rfl, rfl, hq, he, q⟩ := h
  cases ro
  obtain ⟨t, rfl⟩ := ri
  obtain ⟨its, r, pl, hz⟩ := I.list hq
  obtain ⟨j, h1, h2, h3, h4, h5⟩ := atI_get he
  obtain ⟨w, ew, rw'⟩ := r.get h2
  have hl := r.length
  have hn := line63
  have fin : EP X pins σ Q w s := ⟨z, H, I, rw', q⟩
  by_cases h0 : 0 ≤ k
  · have hj : k.toNat = j := by
      rw [seqIndex_of h0 h5] at h1
      exact Option.some.inj h1
    exact wpAny_getItem_list pl.isList h0 (by omega) (by rw [hj]; simpa using ew) fin
  · have hj : (k + (its.toArray.size : Int)).toNat = j := by
      rw [seqIndex_neg (by omega) h4] at h1
      rw [List.size_toArray, ← hl]
      exact Option.some.inj h1
    exact wpAny_getItem_list_neg pl.isList (by omega) (by rw [List.size_toArray] <;> omega) (by omega) (by rw [hj]; simpa using ew) fin
/-! match on a list -/
abbrev TCl := Addr → List V → TS
structure PCl (X : Cx) (cs : List MatchCase) (t : TCl) : Prop where
  run : ∀ (pins : List (Addr × Obj)) (s : Shared) (σ : L2.St) (H : Hp) (D : L2.Ends) (a : Addr) (xs : List V) (first : Bool), Inv X pins σ H s → SqL X.K H a xs → t a xs D σ H →
    wpAny (model X.prog X.w) X.A (matchCases cs X.env (.ref a) first) (SP X pins D) X.xe s
def tMatchL (K : PySem.W.Frag) (te : TE) (tc : TCl) : TS := fun D σ H => te σ H fun v H1 => ∃ a xs, v = .ref a ∧ SqL K H1 a xs ∧ tc a xs D σ H1
theorem ps_matchL {X : Cx} {e : Expr} {cs : List MatchCase} {pos : Pos} {te : TE} {tc : TCl} (he : PE X e te) (hc : PCl X cs tc) : PS X (.Match e cs pos) (tMatchL X.K te tc) := by
  refine ⟨fun pins s σ H D I h => ?_⟩
  refine wpAny_Match (thn (he.run pins s σ H _ I h) fun v s1 ⟨x, H1, I1, r1, a, xs, e1, hq, q⟩ => ?_)
  subst e1
  cases r1
  exact hc.run pins s1 σ H1 D a xs true I1 hq q
theorem pcl_nil {X : Cx} : PCl X [] (fun _ _ D σ H => D.nx σ H) := ⟨fun _ _ σ H _ _ _ _ I _ h => wpAny_matchCases_nil ⟨σ, H, I, h⟩⟩
theorem pcl_any {X : Cx} {body : List Stmt} {rest : List MatchCase} {pos : Pos} {tb : TS} (hb : PSs X body tb) : PCl X (⟨.MatchAs none none pos, none, body⟩ :: rest) (fun _ _ => tb) := by
  refine ⟨fun pins s σ H D a xs first I hq h => wpAny_matchCases_cons (wpAny_matchPattern_Capture ?_)⟩
  exact wpAny_assignInOrder_none (hb.run pins s σ H D I h)
def tCaseL (word : Str) (is : List Nat) (tb : TS) (rest : TCl) : TCl := fun a xs D σ H =>
  (xs.length ≠ is.length + 1 ∧ rest a xs D σ H) ∨ ∃ z ys, xs = .str z :: ys ∧ ys.length = is.length ∧ ((z = word ∧ tb D (sets σ is ys) H) ∨ (z ≠ word ∧ rest a xs D σ H))
theorem pcl_seq {X : Cx} {e : Expr} {word : Str} {vp sp : Pos} {ps : List Pattern} {ns : List (Nat × Str)} {body : List Stmt} {rest : List MatchCase} {tb : TS} {tr : TCl} (hc : X.calm = true) (hN : X.N.Nodup) (hw : PE X e (tC (.str word))) (hcap : PCap X ps ns) (hb : PSs X body tb) (hr : PCl X rest tr)
    (hstar : (.MatchValue e vp :: ps).findIdx? (·.isStar) = none := by rfl) (hwild : ((.MatchValue e vp :: ps).all fun p => p.isWildcard || (p.isStar && p.names.isEmpty)) = false := by rfl) :
    PCl X (⟨.MatchSequence (.MatchValue e vp :: ps) sp, none, body⟩ :: rest) (tCaseL word (ns.map Prod.fst) tb tr) := by
  refine ⟨fun pins s σ H D a xs first I hq h => ?_⟩
  obtain ⟨its, rv, ht, hz⟩ := I.list hq
  have hl := rv.length
  have hl' : s.heap.IsList a its.toArray := by
    obtain ⟨o, m, e, c, d, q⟩ := ht
    exact ⟨o, e, c, m, q⟩
  have hsl : sizeLine = 16777216 := by decide
  have hfit : ((its.toArray.size : Nat) : Int) < 2 ^ 63 := by
    rw [List.size_toArray]
    omega
  have lp := hcap.len
  have miss : ∀ s', Inv X pins σ H s' → tr a xs D σ H → wpAny (model X.prog X.w) X.A (matchCases rest X.env (.ref a) false) (SP X pins D) X.xe s' := fun s' I' q => hr.run pins s' σ H D a xs false I' hq q
  refine wpAny_matchCases_cons ?_
  rcases h with ⟨hn, h⟩ | ⟨z, ys, rfl, hn, h⟩
  · rw [List.length_map] at hn
    refine matchSeq_list_miss hl' hfit (by rw [List.size_toArray, List.length_cons]; omega) ?_ hstar hwild
    exact miss _ (I.kept (t' := s.toks + 1 + 1) fun b o q => q) h
  · rw [List.length_map] at hn
    rw [List.length_cons] at hl
    refine matchSeq_list_hit hl' hfit (by rw [List.size_toArray, List.length_cons]; omega) ?_ hstar hwild
    have e1 : (Pattern.MatchValue e vp :: ps).length = its.toArray.size := by
      rw [List.size_toArray, List.length_cons]
      omega
    have key : ∀ s2 : Shared, Inv X pins σ H s2 → wpAny (model X.prog X.w) X.A (matchEach (.MatchValue e vp :: ps) X.env its) (fun r s₁ => match r with
        | none => wpAny (model X.prog X.w) X.A (matchCases rest X.env (.ref a) false) (SP X pins D) X.xe s₁
        | some bs => wpAny (model X.prog X.w) X.A (assignInOrder (bs.map fun (n, _) => bindName X.env n) (bs.map (·.2))) (fun _ s₂ => wpAny (model X.prog X.w) X.A (execs body X.env) (SP X pins D) X.xe s₂) X.xe s₁) X.xe s2 := fun s2 I1 => by
      clear e1 hfit hz ht hl'
      match its, rv, hl with
      | u :: us, .cons r1 r2, hl =>
        refine wpAny_matchEach_cons (wpAny_matchPattern_Value ?_)
        refine thn (hw.run pins s2 σ H (fun v H' => v = .str word ∧ H' = H) I1 ⟨rfl, rfl⟩) fun c s3 ⟨x, H3, I3, r3, e3, e4⟩ => ?_
        subst e3 e4
        refine thn (op_eq pins s3 σ H3 (.str z) (.str word) u c (fun v H' => v = .bl (decide (V.str z = V.str word)) ∧ H' = H3) I3 r1 r3 ⟨rfl, rfl, rfl⟩) fun d s4 ⟨y, H4, I4, r4, e5, e6⟩ => ?_
        subst e5 e6
        obtain rfl : d = Value.bool (decide (V.str z = V.str word)) := r4
        refine wpAny_truthy_bool ?_
        rcases h with ⟨rfl, h⟩ | ⟨ne, h⟩
        · rw [if_pos (decide_eq_true rfl)]
          have ul : us.length = ns.length := by
            have := r2.length
            omega
          refine hcap.each s4 us _ ul ?_
          show wpAny _ _ (assignInOrder _ _) _ _ s4
          exact bind_all hN ns us ys σ s4 _ hcap.slot ul r2 I4 fun s5 I5 => hb.run pins s5 _ H4 D I5 h
        · rw [if_neg (fun y => ne (V.str.inj (of_decide_eq_true y)))]
          exact miss s4 I4 h
    rw [e1]
    refine PySem.W.kun_itemsOf (I.ok.hd hc) hl' fun h' hx => ?_
    have I1 : Inv X pins σ H { s with heap := h', toks := s.toks + 1 + 1 } := I.kept (t' := s.toks + 1 + 1) fun b o q => hx b o (Nat.ne_of_lt (Heap.lt_size q)) q
    refine key _ ?_
    exact I1
/-- o.f within a comprehension -/
theorem pe_fldK {X : Cx} {K : PySem.W.Frag} {e : Expr} {f : Str} {pos : Pos} {ta : TE} (h : X.K = K) (he : PE X e ta) (hb : attributeBase e f X.env (eval e X.env) = eval e X.env := by rfl) : PE X (.Attribute e f pos) (tFld K ta f) := by
  subst h
  exact pe_fld he hb
/-- d.update(e), both dicts -/
def rDUpd : V → List V → Hp → VK → Prop := fun x xs H Q => ∃ (d o : Addr) (kvs more : List (Key × V)), x = .ref d ∧ xs = [.ref o] ∧ H d = some (.dK kvs) ∧ H o = some (.dK more) ∧ d ≠ o ∧ kvs.length + more.length ≤ 1000 ∧ Q .non (upd H d (.dK (mergeK kvs more)))
theorem mt_dupdate {X : Cx} : MtR X "dict.update" rDUpd := by
  intro pins s σ H x xs v us Q I rx rxs h
  obtain ⟨d, o, kvs, more, rfl, rfl, hd, ho, ne, hz, q⟩ := h
  cases rx
  obtain ⟨u, rfl, ru⟩ := rxs.one
  cases ru
  obtain ⟨z1, hd1, vs, rel, dd⟩ := dk_of I.hok hd
  obtain ⟨z2, hd2, ws, rel2, dd2⟩ := dk_of I.hok ho
  have hsl : sizeLine = 16777216 := by decide
  refine call_meetsIn PySem.F.slot_dict_update dd.typeIs PySem.F.entry_dict_update (PySem.F.args_dict_update_2 _ _) (meets_dict_update (mixKind X.prog X.w) d o ne hd2) ⟨vs, ws, dd, dd2, by rw [← rel.length, ← rel2.length]; omega, fun h' dd' _ hs => ?_⟩
  have he : ∃ q, h'.get? d = some q := let ⟨q, _, _, hq, _⟩ := dd'; ⟨q, hq⟩
  have hl : (mergeK kvs more).length ≤ sizeLine := by
    have := length_mergeK more kvs
    omega
  exact ⟨.non, _, d_write I (by rw [hd]; exact True.intro) hs he (dk_new hl hd1 (rel2.merge rel) dd'), rfl, q⟩
theorem slSK {X : Cx} {K : PySem.W.Frag} (h : X.K = K) : SlR X (rSlS K) := by
  subst h
  exact sl_tupS
theorem tupIK {X : Cx} {K : PySem.W.Frag} {tg l : Expr} {tl : TE} (h : X.K = K) (hl : PE X l tl) : PI X tg l (iTup K tl) := by
  subst h
  exact pi_tup hl
theorem neDK {X : Cx} {K : PySem.W.Frag} (h : X.K = K) (hu : X.A.units + 64 < cLine) : OpR X (compareOp .NotEq) (rNeD K) := by
  subst h
  exact op_neD hu
theorem anyK {X : Cx} {K : PySem.W.Frag} (h : X.K = K) (hc : X.calm = true) : CallR X (.builtin "any") (rAny K) := by
  subst h
  exact cr_any hc
/-- what is held behind a beat -/
def mvd (m a u d : Int) : Int := if d < u then (if m ≤ a then a else a + 1) else if u < d then (if a ≤ 0 then a else a - 1) else a
def Bt (u : Int) : Prop := u = 0 ∨ u = 1
def sp_moved (_ : PySem.W.Frag) : Sp := fun vs H Q _ => ∃ m a u d : Int, vs = [.int m, .int a, .int u, .int d] ∧ Bt u ∧ Bt d ∧ Q (.int (mvd m a u d)) H
theorem ok_moved (T : Defs K mg) : FnOk P w K mg base CX0 1 T.f_moved T.fd_moved ["most", "at", "up", "down"] (sp_moved K) := by
  refine T.F_moved.ok sc_moved (fun vs H Q E h => ?_) (fun cdv A outer s H vs Q E hr h => ?_)
  · obtain ⟨m, a, u, d, rfl, hu, hd, q⟩ := h
    rfl
  · obtain ⟨m, a, u, d, rfl, hu, hd, q⟩ := h
    refine ⟨_, PSs.nox (pss_cons (ps_if (PW.pt (pw_or (PW.pt (pw_and (pt_cmpR op_gt (pv 2) (pv 3) (nomark _)) (pw_and1 (pt_cmpR op_ge (pv 1) (pv 0) (nomark _))))) (pw_or1 (PW.pt (pw_and (pt_cmpR op_lt (pv 2) (pv 3) (nomark _)) (pw_and1 (pt_cmpR op_le (pv 1) pe_int (nomark _)))))))) (pss_one (ps_ret (pv 1))) pss_nil)
    (pss_one (ps_ret (pe_op op_sub (pe_op op_add (pv 1) (pv 2)) (pv 3))))), ?_⟩
    unfold mvd at q
    have bu : -(2 ^ 64) < u ∧ u < 2 ^ 64 := by rcases hu with rfl | rfl <;> omega
    have fin : ∀ x : Int, (if d < u then (if m ≤ a then a else a + 1) else if u < d then (if a ≤ 0 then a else a - 1) else a) = x → Q (.int x) H := fun x e => by rw [← e]; exact q
    refine ⟨_, rfl, _, rfl, _, _, rfl, rfl, _, rfl, ite2 (fun e1 => ?_) (fun e1 => ?_)⟩
    · have l : d < u := of_decide_eq_true e1
      refine ⟨_, rfl, _, rfl, _, _, rfl, rfl, _, rfl, ite2 (fun e2 => ?_) (fun e2 => ?_)⟩
      · have l2 : m ≤ a := of_decide_eq_true e2
        exact ⟨_, rfl, fin _ (by rw [if_pos l, if_pos l2])⟩
      · have l2 : ¬ m ≤ a := fun z => e2 (decide_eq_true z)
        refine ⟨_, rfl, _, rfl, _, _, rfl, rfl, _, rfl, ite2 (fun e3 => ?_) (fun e3 => ?_)⟩
        · have : u < d := of_decide_eq_true e3
          omega
        · refine iteF ⟨_, rfl, _, rfl, _, _, rfl, rfl, _, rfl, _, _, rfl, rfl, fin _ ?_⟩
          rw [if_pos l, if_neg l2]
          rcases hu with rfl | rfl <;> rcases hd with rfl | rfl <;> omega
    · have l : ¬ d < u := fun z => e1 (decide_eq_true z)
      refine ⟨_, rfl, _, rfl, _, _, rfl, rfl, _, rfl, ite2 (fun e3 => ?_) (fun e3 => ?_)⟩
      · have l3 : u < d := of_decide_eq_true e3
        refine ⟨_, rfl, _, _, rfl, rfl, _, rfl, ite2 (fun e2 => ?_) (fun e2 => ?_)⟩
        · have l2 : a ≤ 0 := of_decide_eq_true e2
          exact ⟨_, rfl, fin _ (by rw [if_neg l, if_pos l3, if_pos l2])⟩
        · have l2 : ¬ a ≤ 0 := fun z => e2 (decide_eq_true z)
          refine ⟨_, rfl, _, rfl, _, _, rfl, rfl, _, rfl, _, _, rfl, rfl, fin _ ?_⟩
          rw [if_neg l, if_pos l3, if_neg l2]
          rcases hu with rfl | rfl <;> rcases hd with rfl | rfl <;> omega
      · have l3 : ¬ u < d := fun z => e3 (decide_eq_true z)
        refine iteF ⟨_, rfl, _, rfl, _, _, rfl, rfl, _, rfl, _, _, rfl, rfl, fin _ ?_⟩
        rw [if_neg l, if_neg l3]
        omega
/-! what machines do -/
inductive Hd
  | non
  | bit (b : Int)
  | ah (bs : List Int)
  | num (i : Int)
def Hd.At (H : Hp) : Hd → V → Prop
  | .non, v => v = .non
  | .bit b, v => v = .int b
  | .ah bs, v => ∃ t, v = .ref t ∧ H t = some (.tup (bs.map V.int))
  | .num i, v => v = .int i
theorem Hd.At.keep {H H' : Hp} (s : ∀ a xs, H a = some (.tup xs) → H' a = some (.tup xs)) : ∀ {h : Hd} {v : V}, h.At H v → h.At H' v
  | .non, _, e => e
  | .bit _, _, e => e
  | .ah _, _, ⟨t, e, k⟩ => ⟨t, e, s _ _ k⟩
  | .num _, _, e => e
theorem Hd.At.same {H H' : Hp} {h : Hd} {v : V} (x : h.At H v) (s : Same H H') : h.At H' v := x.keep fun _ _ e => s _ _ e
def Hd.bitD : Hd → Int
  | .bit b => b
  | _ => 0
def Hd.ahD : Hd → List Int
  | .ah bs => bs
  | _ => []
def Hd.numD : Hd → Int
  | .num i => i
  | _ => 0
def Pie.mkr : Pie → Option Mk
  | .make m _ => some m
  | .keeper _ _ m _ _ => some m
  | _ => none
noncomputable def Pie.nums (P : Pie) : List Int := match P.mkr with
  | some m => (List.range m.rnd).map fun (i : Nat) => m.val i
  | none => [0]
noncomputable def Pie.num (P : Pie) (t : Nat) : Int := P.nums.getD (t % P.nums.length) 0
def Pie.word : Pie → Str
  | .make _ _ => "make"
  | .less _ => "less"
  | .both _ _ => "both"
  | .either _ _ => "either"
  | .oneof _ _ => "oneof"
  | .pick _ _ _ => "pick"
  | .keep _ _ _ => "keep"
  | .late _ _ => "late"
  | .keeper _ _ _ _ _ => "keeper"
def Pie.asks : Pie → List Nat
  | .make _ _ => []
  | .less a => [a]
  | .both a b => [a, b]
  | .either a b => [a, b]
  | .oneof a b => [a, b]
  | .pick a b c => [a, b, c]
  | .keep a b _ => [a, b]
  | .late a _ => [a]
  | .keeper a b _ _ _ => [a, b]
def Pie.first : Pie → Hd
  | .keep _ _ f => .bit f
  | .late _ h => .ah h
  | .keeper _ _ _ _ i => .num i
  | _ => .non
def Pie.bit (P : Pie) (x : Int) (h : Hd) (as : List Int) : Int := match P with
  | .make _ k => if x < k then 1 else 0
  | .less _ => 1 - as.getD 0 0
  | .both _ _ => as.getD 0 0 * as.getD 1 0
  | .either _ _ => as.getD 0 0 + as.getD 1 0 - as.getD 0 0 * as.getD 1 0
  | .oneof _ _ => as.getD 0 0 + as.getD 1 0 - 2 * (as.getD 0 0 * as.getD 1 0)
  | .pick _ _ _ => if as.getD 0 0 = 1 then as.getD 1 0 else as.getD 2 0
  | .keep _ _ _ => if as.getD 1 0 = 1 then as.getD 0 0 else h.bitD
  | .late _ _ => h.ahD.getD 0 0
  | .keeper _ _ _ _ _ => if x < h.numD then 1 else 0
def Pie.next (P : Pie) (h : Hd) (own : Int) (as : List Int) : Hd := match P with
  | .keep _ _ _ => .bit own
  | .late _ _ => .ah ((h.ahD ++ [as.getD 0 0]).drop 1)
  | .keeper _ _ _ mo _ => .num (mvd mo h.numD (as.getD 0 0) (as.getD 1 0))
  | _ => h
/-- what a piece holds is of its kind -/
def Pie.Hok : Pie → Hd → Prop
  | .keep _ _ _, h => ∃ b : Int, h = .bit b ∧ (b = 0 ∨ b = 1)
  | .late _ ah, h => ∃ bs : List Int, h = .ah bs ∧ Bits bs ∧ bs.length = ah.length
  | .keeper _ _ _ mo _, h => ∃ i : Int, h = .num i ∧ 0 ≤ i ∧ i ≤ mo
  | _, h => h = .non
def dPie : Pie := .less 0
def asked (P : Pie) (bs : List Int) : List Int := P.asks.map fun a => bs.getD a 0
/-- the bits of the first pieces -/
noncomputable def bup (Ps : List Pie) (t : Nat) (hs : List Hd) : Nat → List Int
  | 0 => []
  | i + 1 => bup Ps t hs i ++ [(Ps.getD i dPie).bit ((Ps.getD i dPie).num t) (hs.getD i .non) (asked (Ps.getD i dPie) (bup Ps t hs i))]
noncomputable def sta (Ps : List Pie) : Nat → List Hd
  | 0 => Ps.map Pie.first
  | t + 1 => (List.range Ps.length).map fun i => (Ps.getD i dPie).next ((sta Ps t).getD i .non) ((bup Ps t (sta Ps t) Ps.length).getD i 0) (asked (Ps.getD i dPie) (bup Ps t (sta Ps t) Ps.length))
noncomputable def bts (Ps : List Pie) (t : Nat) : List Int := bup Ps t (sta Ps t) Ps.length
theorem bup_len (Ps : List Pie) (t : Nat) (hs : List Hd) : ∀ i, (bup Ps t hs i).length = i
  | 0 => rfl
  | i + 1 => by
    show (bup Ps t hs i ++ [_]).length = i + 1
    rw [List.length_append, bup_len Ps t hs i]
    rfl
theorem bup_get {Ps : List Pie} {t : Nat} {hs : List Hd} {a : Nat} : ∀ {i : Nat}, a < i → ∀ n, i ≤ n → (bup Ps t hs n).getD a 0 = (bup Ps t hs i).getD a 0 := by
  intro i h n hn
  induction n with
  | zero => omega
  | succ n ih =>
    by_cases e : i = n + 1
    · rw [e]
    · show (bup Ps t hs n ++ [_]).getD a 0 = _
      rw [List.getD_eq_getElem?_getD, List.getElem?_append_left (by rw [bup_len]; omega), ← List.getD_eq_getElem?_getD]
      exact ih (by omega)
theorem bup_own {Ps : List Pie} {t : Nat} {hs : List Hd} {i n : Nat} (h : i < n) : (bup Ps t hs n).getD i 0 = (Ps.getD i dPie).bit ((Ps.getD i dPie).num t) (hs.getD i .non) (asked (Ps.getD i dPie) (bup Ps t hs i)) := by
  rw [bup_get (i := i + 1) (by omega) n (by omega)]
  show (bup Ps t hs i ++ [_]).getD i 0 = _
  rw [List.getD_eq_getElem?_getD, List.getElem?_append_right (by rw [bup_len]; exact Nat.le_refl _), bup_len, Nat.sub_self]
  rfl
theorem sta_len (Ps : List Pie) : ∀ t, (sta Ps t).length = Ps.length
  | 0 => List.length_map _
  | t + 1 => by
    show ((List.range Ps.length).map _).length = _
    rw [List.length_map, List.length_range]
theorem bts_len (Ps : List Pie) (t : Nat) : (bts Ps t).length = Ps.length := bup_len Ps t _ _
def B01 (x : Int) : Prop := x = 0 ∨ x = 1
theorem bits_getD {bs : List Int} (h : Bits bs) (i : Nat) : B01 (bs.getD i 0) := by
  rw [List.getD_eq_getElem?_getD]
  cases e : bs[i]? with
  | none => exact .inl rfl
  | some x => exact h x (List.mem_of_getElem? e)
theorem asked_bits {P : Pie} {bs : List Int} (h : Bits bs) : Bits (asked P bs) := fun x hx => by
  obtain ⟨a, _, rfl⟩ := List.mem_map.mp hx
  exact bits_getD h a
theorem ite01 {c : Prop} [Decidable c] : B01 (if c then (1 : Int) else 0) := by
  split
  · exact .inr rfl
  · exact .inl rfl
theorem Pie.bit01 {P : Pie} {x : Int} {h : Hd} {as : List Int} {i n : Nat} (ok : P.Ok i n) (hk : P.Hok h) (ha : Bits as) : B01 (P.bit x h as) := by
  have a0 := bits_getD ha 0
  have a1 := bits_getD ha 1
  have a2 := bits_getD ha 2
  unfold B01 at a0 a1 a2
  cases P with
  | make m k => exact ite01
  | less a => show B01 (1 - as.getD 0 0); unfold B01; omega
  | both a b =>
    show B01 (as.getD 0 0 * as.getD 1 0)
    rcases a0 with e | e <;> rcases a1 with f | f <;> rw [e, f] <;> first | exact .inl rfl | exact .inr rfl
  | either a b =>
    show B01 (as.getD 0 0 + as.getD 1 0 - as.getD 0 0 * as.getD 1 0)
    rcases a0 with e | e <;> rcases a1 with f | f <;> rw [e, f] <;> first | exact .inl rfl | exact .inr rfl
  | oneof a b =>
    show B01 (as.getD 0 0 + as.getD 1 0 - 2 * (as.getD 0 0 * as.getD 1 0))
    rcases a0 with e | e <;> rcases a1 with f | f <;> rw [e, f] <;> first | exact .inl rfl | exact .inr rfl
  | pick a b c =>
    show B01 (if as.getD 0 0 = 1 then as.getD 1 0 else as.getD 2 0)
    split
    · exact a1
    · exact a2
  | keep a b f =>
    obtain ⟨b, rfl, hb⟩ := hk
    show B01 (if as.getD 1 0 = 1 then as.getD 0 0 else b)
    split
    · exact a0
    · exact hb
  | late a ah =>
    obtain ⟨bs, rfl, hb, _⟩ := hk
    exact bits_getD hb 0
  | keeper a b m mo at_ => exact ite01
theorem mvd_mid {m a u d : Int} (hu : B01 u) (hd : B01 d) (h0 : 0 ≤ a) (h1 : a ≤ m) : 0 ≤ mvd m a u d ∧ mvd m a u d ≤ m := by
  unfold mvd
  unfold B01 at hu hd
  split
  · split <;> omega
  · split
    · split <;> omega
    · omega
theorem Pie.next_ok {P : Pie} {h : Hd} {own : Int} {as : List Int} {i n : Nat} (ok : P.Ok i n) (hk : P.Hok h) (ho : B01 own) (ha : Bits as) : P.Hok (P.next h own as) := by
  cases P with
  | keep a b f => exact ⟨own, rfl, ho⟩
  | late a ah =>
    obtain ⟨bs, rfl, hb, hl⟩ := hk
    obtain ⟨_, ⟨l1, _⟩, _⟩ : a < n ∧ (1 ≤ ah.length ∧ ah.length ≤ 16) ∧ _ := ok
    refine ⟨(bs ++ [as.getD 0 0]).drop 1, rfl, fun x hx => ?_, ?_⟩
    · rcases List.mem_append.mp (List.mem_of_mem_drop hx) with hx | hx
      · exact hb x hx
      · rw [List.mem_singleton.mp hx]
        exact bits_getD ha 0
    · rw [List.length_drop, List.length_append]
      show bs.length + 1 - 1 = _
      omega
  | keeper a b m mo at_ =>
    obtain ⟨j, rfl, h0, h1⟩ := hk
    exact ⟨_, rfl, mvd_mid (bits_getD ha 0) (bits_getD ha 1) h0 h1⟩
  | _ => exact hk
theorem Pie.first_ok {P : Pie} {i n : Nat} (ok : P.Ok i n) : P.Hok P.first := by
  cases P with
  | keep a b f =>
    obtain ⟨_, _, hf⟩ : a < i ∧ b < i ∧ f < 2 := ok
    exact ⟨_, rfl, by omega⟩
  | late a ah =>
    obtain ⟨_, _, hb⟩ : a < n ∧ (1 ≤ ah.length ∧ ah.length ≤ 16) ∧ ∀ x, x ∈ ah → 0 ≤ x ∧ x < 2 := ok
    exact ⟨ah, rfl, fun x hx => by have := hb x hx; omega, rfl⟩
  | keeper a b m mo at_ =>
    obtain ⟨_, _, _, _, _, ha⟩ : a < n ∧ b < n ∧ m.Wl ∧ 1 ≤ mo ∧ mo ≤ 64 ∧ at_ ≤ mo := ok
    exact ⟨_, rfl, by omega, by omega⟩
  | _ => rfl
theorem getD_of {α : Type} {xs : List α} {i : Nat} {x d : α} (h : xs[i]? = some x) : xs.getD i d = x := by
  rw [List.getD_eq_getElem?_getD, h]
  rfl
theorem bup_bits {n : Nat} {Ps : List Pie} {t : Nat} {hs : List Hd} (ok : PsOk n Ps) (hk : ∀ (i : Nat) (P : Pie), Ps[i]? = some P → P.Hok (hs.getD i .non)) : ∀ i, i ≤ Ps.length → Bits (bup Ps t hs i)
  | 0, _ => fun x hx => by cases hx
  | i + 1, hi => fun x hx => by
    have ih := bup_bits (t := t) ok hk i (by omega)
    rcases List.mem_append.mp hx with hx | hx
    · exact ih x hx
    · rw [List.mem_singleton.mp hx]
      have e : Ps[i]? = some Ps[i] := List.getElem?_eq_getElem (by omega)
      rw [getD_of e]
      exact Pie.bit01 (ok i _ e) (hk i _ e) (asked_bits ih)
theorem sta_ok {n : Nat} {Ps : List Pie} (ok : PsOk n Ps) : ∀ (t i : Nat) (P : Pie), Ps[i]? = some P → P.Hok ((sta Ps t).getD i .non)
  | 0, i, P, e => by
    show P.Hok ((Ps.map Pie.first).getD i .non)
    rw [getD_of (show (Ps.map Pie.first)[i]? = some P.first by rw [List.getElem?_map, e]; rfl)]
    exact Pie.first_ok (ok i P e)
  | t + 1, i, P, e => by
    have il := (List.getElem?_eq_some_iff.mp e).1
    have hb := bup_bits (t := t) ok (sta_ok ok t) Ps.length (Nat.le_refl _)
    show P.Hok (((List.range Ps.length).map _).getD i .non)
    rw [getD_of (show ((List.range Ps.length).map _)[i]? = some _ by rw [List.getElem?_map, List.getElem?_range il]; rfl)]
    dsimp only
    rw [getD_of e]
    exact Pie.next_ok (ok i P e) (sta_ok ok t i P e) (bits_getD hb i) (asked_bits hb)
theorem bts_bits {n : Nat} {Ps : List Pie} (ok : PsOk n Ps) (t : Nat) : Bits (bts Ps t) := bup_bits ok (sta_ok ok t) _ (Nat.le_refl _)
theorem sta_succ {Ps : List Pie} {t i : Nat} {P : Pie} (e : Ps[i]? = some P) : (sta Ps (t + 1)).getD i Hd.non = P.next ((sta Ps t).getD i Hd.non) ((bts Ps t).getD i 0) (asked P (bts Ps t)) := by
  have il := (List.getElem?_eq_some_iff.mp e).1
  show ((List.range Ps.length).map _).getD i Hd.non = _
  rw [getD_of (show ((List.range Ps.length).map _)[i]? = some _ by rw [List.getElem?_map, List.getElem?_range il]; rfl)]
  dsimp only
  rw [getD_of e]
  rfl
theorem bts_own {Ps : List Pie} {t i : Nat} {P : Pie} (e : Ps[i]? = some P) : (bts Ps t).getD i 0 = P.bit (P.num t) ((sta Ps t).getD i Hd.non) (asked P (bup Ps t (sta Ps t) i)) := by
  have il := (List.getElem?_eq_some_iff.mp e).1
  show (bup Ps t (sta Ps t) Ps.length).getD i 0 = _
  rw [bup_own il, getD_of e]
/-- a dict from the places to bits -/
def dkv (o : Nat) : List Int → List (Key × V)
  | [] => []
  | b :: bs => (.inl (o : Int), .int b) :: dkv (o + 1) bs
theorem dkv_len : ∀ (bs : List Int) (o : Nat), (dkv o bs).length = bs.length
  | [], _ => rfl
  | _ :: bs, o => by rw [dkv, List.length_cons, List.length_cons, dkv_len bs (o + 1)]
theorem dkv_vals : ∀ (bs : List Int) (o : Nat), (dkv o bs).map (·.2) = bs.map V.int
  | [], _ => rfl
  | b :: bs, o => by rw [dkv, List.map_cons, dkv_vals bs (o + 1)]; rfl
theorem dkv_val : ∀ (bs : List Int) (o a : Nat), valV (dkv o bs) (.inl ((o + a : Nat) : Int)) = (bs[a]?).map V.int
  | [], _, _ => rfl
  | b :: bs, o, 0 => valV_pos (p := ((.inl (o : Int), .int b) : Key × V)) rfl
  | b :: bs, o, a + 1 => by
    have h : (Sum.inl (o : Int) : Key) ≠ .inl ((o + (a + 1) : Nat) : Int) := fun e => by
      have := Sum.inl.inj e
      omega
    rw [dkv]
    have := dkv_val bs (o + 1) a
    rw [show o + 1 + a = o + (a + 1) by omega] at this
    unfold valV at this ⊢
    rw [List.find?_cons, decide_eq_false h]
    exact this
theorem dkv_any : ∀ (bs : List Int) (o c : Nat), o + bs.length ≤ c → ((dkv o bs).any fun kv => decide (kv.1 = (.inl (c : Int) : Key))) = false
  | [], _, _, _ => rfl
  | b :: bs, o, c, h => by
    rw [List.length_cons] at h
    rw [dkv, List.any_cons, dkv_any bs (o + 1) c (by omega), Bool.or_false]
    exact decide_eq_false fun e => by
      have := Sum.inl.inj e
      omega
theorem dkv_snoc : ∀ (bs : List Int) (o : Nat) (b : Int), dkv o (bs ++ [b]) = dkv o bs ++ [(.inl ((o + bs.length : Nat) : Int), .int b)]
  | [], _, _ => rfl
  | x :: bs, o, b => by
    rw [List.cons_append, dkv, dkv, List.cons_append, dkv_snoc bs (o + 1) b, List.length_cons, show o + 1 + bs.length = o + (bs.length + 1) by omega]
theorem dkv_put (bs : List Int) (b : Int) : putK (dkv 0 bs) (.inl (bs.length : Int)) (.int b) = dkv 0 (bs ++ [b]) := by
  unfold putK
  rw [dkv_any bs 0 bs.length (by omega), if_neg Bool.false_ne_true, dkv_snoc, Nat.zero_add]
theorem dkv_get (bs : List Int) (a : Nat) : (valV (dkv 0 bs) (.inl (a : Int))).getD (.int 0) = .int (bs.getD a 0) := by
  have := dkv_val bs 0 a
  rw [Nat.zero_add] at this
  rw [this, List.getD_eq_getElem?_getD]
  cases bs[a]? <;> rfl
theorem dkv_at {bs : List Int} {a : Nat} (h : a < bs.length) : valV (dkv 0 bs) (.inl (a : Int)) = some (.int (bs.getD a 0)) := by
  have := dkv_val bs 0 a
  rw [Nat.zero_add] at this
  rw [this, List.getD_eq_getElem?_getD, List.getElem?_eq_getElem h]
  rfl
theorem cl_skip {word : Str} {is : List Nat} {tb : TS} {rest : TCl} {a : Addr} {xs : List V} {D : L2.Ends} {σ : L2.St} {H : Hp} (h : xs.length ≠ is.length + 1) (r : rest a xs D σ H) : tCaseL word is tb rest a xs D σ H := .inl ⟨h, r⟩
theorem cl_no {word z : Str} {is : List Nat} {tb : TS} {rest : TCl} {a : Addr} {ys : List V} {D : L2.Ends} {σ : L2.St} {H : Hp} (hl : ys.length = is.length) (ne : z ≠ word) (r : rest a (.str z :: ys) D σ H) : tCaseL word is tb rest a (.str z :: ys) D σ H := .inr ⟨z, ys, rfl, hl, .inr ⟨ne, r⟩⟩
theorem cl_yes {word : Str} {is : List Nat} {tb : TS} {rest : TCl} {a : Addr} {ys : List V} {D : L2.Ends} {σ : L2.St} {H : Hp} (hl : ys.length = is.length) (r : tb D (sets σ is ys) H) : tCaseL word is tb rest a (.str word :: ys) D σ H := .inr ⟨word, ys, rfl, hl, .inl ⟨rfl, r⟩⟩
theorem ct_skip {word : Str} {is : List Nat} {tb : TS} {rest : TCs} {a : Addr} {xs : List V} {D : L2.Ends} {σ : L2.St} {H : Hp} (h : xs.length ≠ is.length + 1) (r : rest a xs D σ H) : tCase word is tb rest a xs D σ H := .inl ⟨h, r⟩
theorem ct_no {word z : Str} {is : List Nat} {tb : TS} {rest : TCs} {a : Addr} {ys : List V} {D : L2.Ends} {σ : L2.St} {H : Hp} (hl : ys.length = is.length) (ne : z ≠ word) (r : rest a (.str z :: ys) D σ H) : tCase word is tb rest a (.str z :: ys) D σ H := .inr ⟨z, ys, rfl, hl, .inr ⟨ne, r⟩⟩
theorem ct_yes {word : Str} {is : List Nat} {tb : TS} {rest : TCs} {a : Addr} {ys : List V} {D : L2.Ends} {σ : L2.St} {H : Hp} (hl : ys.length = is.length) (r : tb D (sets σ is ys) H) : tCase word is tb rest a (.str word :: ys) D σ H := .inr ⟨word, ys, rfl, hl, .inl ⟨rfl, r⟩⟩
/-- a piece, as a tuple -/
theorem PieAt.tup {H : Hp} {P : Pie} {v : V} (h : PieAt H P v) : ∃ t xs, v = .ref t ∧ H t = some (.tup (.str P.word :: xs)) ∧ askN P.word = some (P.asks.length : Int) ∧ xs.take P.asks.length = P.asks.map fun (a : Nat) => V.int a := by
  cases P with
  | make m k => obtain ⟨t, x, e, ht, _⟩ := h; exact ⟨t, _, e, ht, (show askN "make" = some ((0 : Nat) : Int) by decide +kernel), rfl⟩
  | late a ah => obtain ⟨t, s, e, ht, _⟩ := h; exact ⟨t, _, e, ht, (show askN "late" = some ((1 : Nat) : Int) by decide +kernel), rfl⟩
  | keeper a b m mo at_ => obtain ⟨t, x, e, ht, _⟩ := h; exact ⟨t, _, e, ht, (show askN "keeper" = some ((2 : Nat) : Int) by decide +kernel), rfl⟩
  | less a => obtain ⟨t, e, ht⟩ := h; exact ⟨t, _, e, ht, (show askN "less" = some ((1 : Nat) : Int) by decide +kernel), rfl⟩
  | both a b => obtain ⟨t, e, ht⟩ := h; exact ⟨t, _, e, ht, (show askN "both" = some ((2 : Nat) : Int) by decide +kernel), rfl⟩
  | either a b => obtain ⟨t, e, ht⟩ := h; exact ⟨t, _, e, ht, (show askN "either" = some ((2 : Nat) : Int) by decide +kernel), rfl⟩
  | oneof a b => obtain ⟨t, e, ht⟩ := h; exact ⟨t, _, e, ht, (show askN "oneof" = some ((2 : Nat) : Int) by decide +kernel), rfl⟩
  | pick a b c => obtain ⟨t, e, ht⟩ := h; exact ⟨t, _, e, ht, (show askN "pick" = some ((3 : Nat) : Int) by decide +kernel), rfl⟩
  | keep a b f => obtain ⟨t, e, ht⟩ := h; exact ⟨t, _, e, ht, (show askN "keep" = some ((2 : Nat) : Int) by decide +kernel), rfl⟩
def sp_round_numbers (_ : PySem.W.Frag) : Sp := fun vs H Q _ => ∃ m v, vs = [v] ∧ MkAt H m v ∧ m.Wl ∧ ∀ H' p, Same H H' → H p = none → H' p = some (.lst (((List.range m.rnd).map fun (i : Nat) => m.val i).map V.int)) → Q (.ref p) H'
theorem ok_round_numbers (T : Defs K mg) : FnOk P w K mg base CX0 10 T.f_round_numbers T.fd_round_numbers ["maker"] (sp_round_numbers K) := by
  have G_values_of : FnOk P w K mg base CX0 5 T.f_values_of T.fd_values_of ["maker", "beats"] (sp_values_of K) := ok_values_of T
  have G_round_of : FnOk P w K mg base CX0 9 T.f_round_of T.fd_round_of ["maker"] (sp_round_of K) := ok_round_of T
  refine T.F_round_numbers.ok sc_round_numbers (fun vs H Q E h => ?_) (fun cdv A outer s H vs Q E hr h => ?_)
  · obtain ⟨m, v, rfl, hm, ⟨ok, vd, dp, rn⟩, q⟩ := h
    rfl
  · obtain ⟨m, v, rfl, hm, ⟨ok, vd, dp, rn⟩, q⟩ := h
    refine ⟨_, PSs.nox (pss_one (ps_ret (pe_call G_values_of (hr.mono (by decide)) (by rfl) T.g_values_of T.F_values_of.kp T.b_values_of .nil pass0 (pa_cons (pv 0) (pa_cons (pe_callB (call_max2 rfl) (by rfl) T.m_max bt_max (pa_cons (pe_call G_round_of (hr.mono (by decide)) (by rfl) T.g_round_of T.F_round_of.kp T.b_round_of .nil pass0 (pa_cons (pv 0) pa_nil)) (pa_cons pe_int pa_nil))) pa_nil))))), ?_⟩
    have r1 := rnd_pos ok
    refine ⟨v, rfl, v, rfl, m, v, rfl, hm, ok, by omega, fun H1 s1 => ⟨_, _, rfl, m, v, m.rnd, congrArg (fun z => [v, V.int z]) ?_, hm.same s1, ok, by omega, fun H2 p s2 np hp => q H2 p (s1.trans s2) (s1.free np) hp⟩⟩
    split <;> omega
def sp_numbers_of (_ : PySem.W.Frag) : Sp := fun vs H Q _ => ∃ (P : Pie) (v : V) (i n : Nat), vs = [v] ∧ PieAt H P v ∧ P.Ok i n ∧ ∀ H' p, Same H H' → H p = none → H' p = some (.lst (P.nums.map V.int)) → Q (.ref p) H'
theorem ok_numbers_of (T : Defs K mg) : FnOk P w K mg base CX0 11 T.f_numbers_of T.fd_numbers_of ["piece"] (sp_numbers_of K) := by
  have G_round_numbers : FnOk P w K mg base CX0 10 T.f_round_numbers T.fd_round_numbers ["maker"] (sp_round_numbers K) := ok_round_numbers T
  refine T.F_numbers_of.ok sc_numbers_of (fun vs H Q E h => ?_) (fun cdv A outer s H vs Q E hr h => ?_)
  · obtain ⟨P, v, i, n, rfl, hP, ok, q⟩ := h
    rfl
  · obtain ⟨P, v, i, n, rfl, hP, ok, q⟩ := h
    refine ⟨_, PSs.nox (pss_one (ps_match (pv 0) (pcs_seq rfl sc_numbers_of.nd pe_str (pcap_cons (i := 1) rfl (.inl rfl) (pcap_cons (i := 2) rfl (.inl rfl) pcap_nil)) (pss_one (ps_ret (pe_call G_round_numbers (hr.mono (by decide)) (by rfl) T.g_round_numbers T.F_round_numbers.kp T.b_round_numbers .nil pass0 (pa_cons (pv 1) pa_nil))))
    (pcs_seq rfl sc_numbers_of.nd pe_str (pcap_cons (i := 3) rfl (.inl rfl) (pcap_cons (i := 4) rfl (.inl rfl) (pcap_cons (i := 1) rfl (.inl rfl) (pcap_cons (i := 5) rfl (.inl rfl) (pcap_cons (i := 6) rfl (.inl rfl) pcap_nil))))) (pss_one (ps_ret (pe_call G_round_numbers (hr.mono (by decide)) (by rfl) T.g_round_numbers T.F_round_numbers.kp T.b_round_numbers .nil pass0 (pa_cons (pv 1) pa_nil))))
    (pcs_any (pss_one (ps_ret (pe_lst (pa_cons pe_int pa_nil))))))))), ?_⟩
    cases P with
    | make m k =>
      obtain ⟨t, x, rfl, ht, hm⟩ := hP
      exact ⟨.ref t, rfl, t, _, rfl, SqT.mk ht, ct_yes rfl ⟨x, rfl, m, x, rfl, hm, ok.1, q⟩⟩
    | keeper a b m mo at_ =>
      obtain ⟨t, x, rfl, ht, hm⟩ := hP
      exact ⟨.ref t, rfl, t, _, rfl, SqT.mk ht, ct_skip (by simp) (ct_yes rfl ⟨x, rfl, m, x, rfl, hm, ok.2.2.1, q⟩)⟩
    | late a ah =>
      obtain ⟨t, s, rfl, ht, _⟩ := hP
      exact ⟨.ref t, rfl, t, _, rfl, SqT.mk ht, ct_no rfl (by decide +kernel) (ct_skip (by simp) ⟨(show 1 ≤ sizeLine by decide), fun p np => q _ p (same_upd np) np upd_same⟩)⟩
    | less a =>
      obtain ⟨t, rfl, ht⟩ := hP
      exact ⟨.ref t, rfl, t, _, rfl, SqT.mk ht, ct_skip (by simp) (ct_skip (by simp) ⟨(show 1 ≤ sizeLine by decide), fun p np => q _ p (same_upd np) np upd_same⟩)⟩
    | both a b =>
      obtain ⟨t, rfl, ht⟩ := hP
      exact ⟨.ref t, rfl, t, _, rfl, SqT.mk ht, ct_no rfl (by decide +kernel) (ct_skip (by simp) ⟨(show 1 ≤ sizeLine by decide), fun p np => q _ p (same_upd np) np upd_same⟩)⟩
    | either a b =>
      obtain ⟨t, rfl, ht⟩ := hP
      exact ⟨.ref t, rfl, t, _, rfl, SqT.mk ht, ct_no rfl (by decide +kernel) (ct_skip (by simp) ⟨(show 1 ≤ sizeLine by decide), fun p np => q _ p (same_upd np) np upd_same⟩)⟩
    | oneof a b =>
      obtain ⟨t, rfl, ht⟩ := hP
      exact ⟨.ref t, rfl, t, _, rfl, SqT.mk ht, ct_no rfl (by decide +kernel) (ct_skip (by simp) ⟨(show 1 ≤ sizeLine by decide), fun p np => q _ p (same_upd np) np upd_same⟩)⟩
    | pick a b c =>
      obtain ⟨t, rfl, ht⟩ := hP
      exact ⟨.ref t, rfl, t, _, rfl, SqT.mk ht, ct_skip (by simp) (ct_skip (by simp) ⟨(show 1 ≤ sizeLine by decide), fun p np => q _ p (same_upd np) np upd_same⟩)⟩
    | keep a b f =>
      obtain ⟨t, rfl, ht⟩ := hP
      exact ⟨.ref t, rfl, t, _, rfl, SqT.mk ht, ct_skip (by simp) (ct_skip (by simp) ⟨(show 1 ≤ sizeLine by decide), fun p np => q _ p (same_upd np) np upd_same⟩)⟩
def sp_held_first (_ : PySem.W.Frag) : Sp := fun vs H Q _ => ∃ (P : Pie) (v : V), vs = [v] ∧ PieAt H P v ∧ ∀ v', P.first.At H v' → Q v' H
theorem ok_held_first (T : Defs K mg) : FnOk P w K mg base CX0 1 T.f_held_first T.fd_held_first ["piece"] (sp_held_first K) := by
  refine T.F_held_first.ok sc_held_first (fun vs H Q E h => ?_) (fun cdv A outer s H vs Q E hr h => ?_)
  · obtain ⟨P, v, rfl, hP, q⟩ := h
    rfl
  · obtain ⟨P, v, rfl, hP, q⟩ := h
    refine ⟨_, PSs.nox (pss_one (ps_match (pv 0) (pcs_seq rfl sc_held_first.nd pe_str (pcap_cons (i := 1) rfl (.inl rfl) (pcap_cons (i := 2) rfl (.inl rfl) (pcap_cons (i := 3) rfl (.inl rfl) pcap_nil))) (pss_one (ps_ret (pv 3)))
    (pcs_seq rfl sc_held_first.nd pe_str (pcap_cons (i := 1) rfl (.inl rfl) (pcap_cons (i := 4) rfl (.inl rfl) pcap_nil)) (pss_one (ps_ret (pv 4)))
    (pcs_seq rfl sc_held_first.nd pe_str (pcap_cons (i := 1) rfl (.inl rfl) (pcap_cons (i := 2) rfl (.inl rfl) (pcap_cons (i := 5) rfl (.inl rfl) (pcap_cons (i := 6) rfl (.inl rfl) (pcap_cons (i := 7) rfl (.inl rfl) pcap_nil))))) (pss_one (ps_ret (pv 7)))
    (pcs_any (pss_one (ps_ret pe_non)))))))), ?_⟩
    cases P with
    | make m k =>
      obtain ⟨t, x, rfl, ht, hm⟩ := hP
      exact ⟨.ref t, rfl, t, _, rfl, SqT.mk ht, ct_skip (by simp) (ct_no rfl (by decide +kernel) (ct_skip (by simp) (q _ rfl)))⟩
    | keeper a b m mo at_ =>
      obtain ⟨t, x, rfl, ht, hm⟩ := hP
      exact ⟨.ref t, rfl, t, _, rfl, SqT.mk ht, ct_skip (by simp) (ct_skip (by simp) (ct_yes rfl ⟨_, rfl, q _ rfl⟩))⟩
    | late a ah =>
      obtain ⟨t, s, rfl, ht, hs⟩ := hP
      exact ⟨.ref t, rfl, t, _, rfl, SqT.mk ht, ct_skip (by simp) (ct_yes rfl ⟨_, rfl, q _ ⟨s, rfl, hs⟩⟩)⟩
    | less a =>
      obtain ⟨t, rfl, ht⟩ := hP
      exact ⟨.ref t, rfl, t, _, rfl, SqT.mk ht, ct_skip (by simp) (ct_skip (by simp) (ct_skip (by simp) (q _ rfl)))⟩
    | both a b =>
      obtain ⟨t, rfl, ht⟩ := hP
      exact ⟨.ref t, rfl, t, _, rfl, SqT.mk ht, ct_skip (by simp) (ct_no rfl (by decide +kernel) (ct_skip (by simp) (q _ rfl)))⟩
    | either a b =>
      obtain ⟨t, rfl, ht⟩ := hP
      exact ⟨.ref t, rfl, t, _, rfl, SqT.mk ht, ct_skip (by simp) (ct_no rfl (by decide +kernel) (ct_skip (by simp) (q _ rfl)))⟩
    | oneof a b =>
      obtain ⟨t, rfl, ht⟩ := hP
      exact ⟨.ref t, rfl, t, _, rfl, SqT.mk ht, ct_skip (by simp) (ct_no rfl (by decide +kernel) (ct_skip (by simp) (q _ rfl)))⟩
    | pick a b c =>
      obtain ⟨t, rfl, ht⟩ := hP
      exact ⟨.ref t, rfl, t, _, rfl, SqT.mk ht, ct_no rfl (by decide +kernel) (ct_skip (by simp) (ct_skip (by simp) (q _ rfl)))⟩
    | keep a b f =>
      obtain ⟨t, rfl, ht⟩ := hP
      exact ⟨.ref t, rfl, t, _, rfl, SqT.mk ht, ct_yes rfl ⟨_, rfl, q _ rfl⟩⟩
def sp_bits_asked (_ : PySem.W.Frag) : Sp := fun vs H Q _ => ∃ (t d : Addr) (as : List Nat) (bs : List Int), vs = [.ref t, .ref d] ∧ H t = some (.tup (as.map fun (a : Nat) => V.int a)) ∧ H d = some (.dK (dkv 0 bs)) ∧ as.length ≤ 3 ∧
  ∀ H' p, Same H H' → H p = none → H' p = some (.lst ((as.map fun a => bs.getD a 0).map V.int)) → Q (.ref p) H'
theorem ok_bits_asked (T : Defs K mg) : FnOk P w K mg base CX0 1 T.f_bits_asked T.fd_bits_asked ["asks", "bits"] (sp_bits_asked K) := by
  refine T.F_bits_asked.ok sc_bits_asked (fun vs H Q E h => ?_) (fun cdv A outer s H vs Q E hr h => ?_)
  · obtain ⟨t, d, as, bs, rfl, ht, hd, hl, q⟩ := h
    rfl
  · obtain ⟨t, d, as, bs, rfl, ht, hd, hl, q⟩ := h
    refine ⟨_, PSs.nox (pss_one (ps_ret (pe_lc (own := [("asked", 2)]) (g := gName 2) (tt := tYes) rfl sc_bits_asked.nd (pi_tup (pv 0)) (blkOk_by (N := N_bits_asked) (sc := defScope s_bits_asked) (by decide +kernel)) (fun _ _ _ _ _ => (pg_name (i := 2) sc_bits_asked.nd rfl (.inl rfl))) (fun _ _ _ _ _ => pts_nil) (fun _ _ _ _ _ => (pe_dget2 (u1 hr) (pv 1) (pv 2) pe_int ⟨rfl, rfl, rfl, rfl⟩))))), ?_⟩
    have hsl : sizeLine = 16777216 := by decide
    refine ⟨.ref t, rfl, t, rfl, ⟨_, SqT.mk ht⟩, fun C nC => ?_⟩
    refine lc_it (walk_tup (xs := as.map fun (a : Nat) => V.int a)) (fun i G => Same H G ∧ G C = some (.lst (((as.take i).map fun a => bs.getD a 0).map V.int))) ⟨same_upd nC, upd_same⟩ (fun i G _ h => SqT.mk (h.1 _ _ ht)) (fun i x G G' hi h y => ?_) (fun G h => ?_)
    · obtain ⟨sG, hC⟩ := h
      obtain ⟨rfl, hx⟩ := y
      rw [List.getElem?_map] at hx
      obtain ⟨a, ha, rfl⟩ := Option.map_eq_some_iff.mp hx
      refine ⟨rfl, yes_ite ⟨.ref d, rfl, d, rfl, .inl ⟨_, .inl (sG _ _ hd)⟩, _, rfl, _, DGet.k (k := .inl (a : Int)) (sG _ _ hd), ?_⟩⟩
      rw [dkv_get]
      refine ⟨_, hC, by rw [List.length_map, List.length_map, List.length_take]; omega, same_newer sG nC, ?_⟩
      rw [upd_same, List.take_add_one, ha, List.map_append, List.map_append]
      rfl
    · obtain ⟨sG, hC⟩ := h
      rw [List.length_map, List.take_length] at hC
      exact q G C sG nC hC
theorem andB01 {x y : Int} (hx : B01 x) (hy : B01 y) : Builtin.bitAnd x y = x * y := by
  rcases hx with rfl | rfl <;> rcases hy with rfl | rfl <;> decide
theorem orB01 {x y : Int} (hx : B01 x) (hy : B01 y) : Builtin.bitOr x y = x + y - x * y := by
  rcases hx with rfl | rfl <;> rcases hy with rfl | rfl <;> decide
theorem xorB01 {x y : Int} (hx : B01 x) (hy : B01 y) : Builtin.bitXor x y = x + y - 2 * (x * y) := by
  rcases hx with rfl | rfl <;> rcases hy with rfl | rfl <;> decide
theorem len0 {as : List Int} (h : as.length = 0) : as = [] := List.eq_nil_of_length_eq_zero h
theorem len1 {as : List Int} (h : as.length = 1) : ∃ a, as = [a] := by
  match as, h with
  | [a], _ => exact ⟨a, rfl⟩
theorem len2 {as : List Int} (h : as.length = 2) : ∃ a b, as = [a, b] := by
  match as, h with
  | [a, b], _ => exact ⟨a, b, rfl⟩
theorem len3 {as : List Int} (h : as.length = 3) : ∃ a b c, as = [a, b, c] := by
  match as, h with
  | [a, b, c], _ => exact ⟨a, b, c, rfl⟩
def sp_bit_of (_ : PySem.W.Frag) : Sp := fun vs H Q _ => ∃ (P : Pie) (v hv : V) (x : Int) (h : Hd) (l : Addr) (as : List Int) (i n : Nat), vs = [v, .int x, hv, .ref l] ∧ PieAt H P v ∧ P.Ok i n ∧ P.Hok h ∧ h.At H hv ∧ H l = some (.lst (as.map V.int)) ∧ as.length = P.asks.length ∧ Bits as ∧
  ∀ H', Same H H' → Q (.int (P.bit x h as)) H'
theorem ok_bit_of (T : Defs K mg) : FnOk P w K mg base CX0 1 T.f_bit_of T.fd_bit_of ["piece", "number", "held", "asked"] (sp_bit_of K) := by
  refine T.F_bit_of.ok sc_bit_of (fun vs H Q E h => ?_) (fun cdv A outer s H vs Q E hr h => ?_)
  · obtain ⟨P, v, hv, x, h, l, as, i, n, rfl, hP, ok, hk, hh, hl, ll, ba, q⟩ := h
    rfl
  · obtain ⟨P, v, hv, x, h, l, as, i, n, rfl, hP, ok, hk, hh, hl, ll, ba, q⟩ := h
    refine ⟨_, PSs.nox (pss_one (ps_matchL (pe_lst (pa_cons (pe_ix ix_tup (pv 0) pe_int (fun _ _ => rfl)) (StX.pa_star (pv 3) pa_nil))) (pcl_seq rfl sc_bit_of.nd pe_str pcap_nil (pss_one (ps_ret (pe_ifExp (pt_cmpR op_lt (pv 1) (pe_ix ix_tup (pv 0) pe_int (fun _ _ => rfl)) (nomark _)) pe_int pe_int)))
    (pcl_seq rfl sc_bit_of.nd pe_str (pcap_cons (i := 4) rfl (.inl rfl) pcap_nil) (pss_one (ps_ret (pe_op op_sub pe_int (pv 4))))
    (pcl_seq rfl sc_bit_of.nd pe_str (pcap_cons (i := 4) rfl (.inl rfl) (pcap_cons (i := 5) rfl (.inl rfl) pcap_nil)) (pss_one (ps_ret (pe_op op_and (pv 4) (pv 5))))
    (pcl_seq rfl sc_bit_of.nd pe_str (pcap_cons (i := 4) rfl (.inl rfl) (pcap_cons (i := 5) rfl (.inl rfl) pcap_nil)) (pss_one (ps_ret (pe_op op_or (pv 4) (pv 5))))
    (pcl_seq rfl sc_bit_of.nd pe_str (pcap_cons (i := 4) rfl (.inl rfl) (pcap_cons (i := 5) rfl (.inl rfl) pcap_nil)) (pss_one (ps_ret (pe_op op_xor (pv 4) (pv 5))))
    (pcl_seq rfl sc_bit_of.nd pe_str (pcap_cons (i := 4) rfl (.inl rfl) (pcap_cons (i := 5) rfl (.inl rfl) (pcap_cons (i := 6) rfl (.inl rfl) pcap_nil))) (pss_one (ps_ret (pe_ifExp (pt_cmpR op_eq (pv 4) pe_int (nomark _)) (pv 5) (pv 6))))
    (pcl_seq rfl sc_bit_of.nd pe_str (pcap_cons (i := 4) rfl (.inl rfl) (pcap_cons (i := 5) rfl (.inl rfl) pcap_nil)) (pss_one (ps_ret (pe_ifExp (pt_cmpR op_eq (pv 5) pe_int (nomark _)) (pv 4) (pv 2))))
    (pcl_seq rfl sc_bit_of.nd pe_str (pcap_cons (i := 4) rfl (.inl rfl) pcap_nil) (pss_one (ps_ret (pe_ifExp (pt_truth (pv 2) (by intro _; rfl)) (pe_ix ix_tup (pv 2) pe_int (fun _ _ => rfl)) (pv 4))))
    (pcl_seq rfl sc_bit_of.nd pe_str (pcap_cons (i := 4) rfl (.inl rfl) (pcap_cons (i := 5) rfl (.inl rfl) pcap_nil)) (pss_one (ps_ret (pe_ifExp (pt_cmpR op_lt (pv 1) (pv 2) (nomark _)) pe_int pe_int)))
    pcl_nil))))))))))), ?_⟩
    have hP0 := hP
    obtain ⟨t, xs, rfl, ht, _, _⟩ := hP.tup
    have hsl : sizeLine = 16777216 := by decide
    have l3 : P.asks.length ≤ 3 := by
      cases P <;> first | exact (by decide : 0 ≤ 3) | exact (by decide : 1 ≤ 3) | exact (by decide : 2 ≤ 3) | exact (by decide : 3 ≤ 3)
    refine ⟨.ref t, rfl, t, _, 0, _, rfl, rfl, SqT.mk ht, atI_nat (j := 0) rfl, .ref l, rfl, l, _, rfl, .inr (SqL.mk hl), ?_, fun d nd => ?_⟩
    · simp only [List.length_cons, List.length_append, List.length_map, List.length_nil]
      omega
    have sd := same_upd nd (o := .lst (V.str P.word :: (as.map V.int ++ [])))
    have ht2 := sd _ _ ht
    have hd := upd_same (H := H) (a := d) (o := .lst (V.str P.word :: (as.map V.int ++ [])))
    have q1 : ∀ b : Int, P.bit x h as = b → Q (.int b) (upd H d (.lst (V.str P.word :: (as.map V.int ++ [])))) := fun b e => e ▸ q _ sd
    have hP2 := hP0.same sd
    have hh2 := hh.same sd
    have fin : ∀ (K : Nat), True := fun _ => trivial
    clear fin
    refine ⟨d, _, rfl, SqL.mk upd_same, ?_⟩
    clear hd
    generalize upd H d (.lst (V.str P.word :: (as.map V.int ++ []))) = G at sd ht2 q1 hP2 hh2 ⊢
    cases P with
    | make m k =>
      obtain rfl := len0 ll
      obtain ⟨t', y, e, hy, _⟩ := hP2
      cases e
      refine cl_yes rfl ⟨_, rfl, .ref t, rfl, t, _, 2, _, rfl, rfl, SqT.mk hy, atI_nat (j := 2) rfl, _, _, rfl, rfl, _, rfl, ite2 (fun c => ?_) (fun c => ?_)⟩
      · exact q1 1 (if_pos (of_decide_eq_true c))
      · exact q1 0 (if_neg fun z => c (decide_eq_true z))
    | less a =>
      obtain ⟨a0, rfl⟩ := len1 ll
      exact cl_skip (by simp) (cl_yes rfl ⟨_, rfl, _, _, rfl, rfl, q1 _ rfl⟩)
    | both a b =>
      obtain ⟨a0, a1, rfl⟩ := len2 ll
      exact cl_skip (by simp) (cl_skip (by simp) (cl_yes rfl ⟨_, rfl, _, rfl, _, _, rfl, rfl, q1 _ (andB01 (ba a0 (by simp)) (ba a1 (by simp))).symm⟩))
    | either a b =>
      obtain ⟨a0, a1, rfl⟩ := len2 ll
      exact cl_skip (by simp) (cl_skip (by simp) (cl_no (z := "either") rfl (by decide +kernel) (cl_yes rfl ⟨_, rfl, _, rfl, _, _, rfl, rfl, q1 _ (orB01 (ba a0 (by simp)) (ba a1 (by simp))).symm⟩)))
    | oneof a b =>
      obtain ⟨a0, a1, rfl⟩ := len2 ll
      exact cl_skip (by simp) (cl_skip (by simp) (cl_no (z := "oneof") rfl (by decide +kernel) (cl_no (z := "oneof") rfl (by decide +kernel) (cl_yes rfl ⟨_, rfl, _, rfl, _, _, rfl, rfl, q1 _ (xorB01 (ba a0 (by simp)) (ba a1 (by simp))).symm⟩))))
    | pick a b c =>
      obtain ⟨a0, a1, a2, rfl⟩ := len3 ll
      refine cl_skip (by simp) (cl_skip (by simp) (cl_skip (by simp) (cl_skip (by simp) (cl_skip (by simp) (cl_yes rfl ⟨_, rfl, rfl, _, rfl, ite2 (fun c => ?_) (fun c => ?_)⟩)))))
      · exact ⟨_, rfl, q1 _ (if_pos (V.int.inj (of_decide_eq_true c)))⟩
      · exact ⟨_, rfl, q1 _ (if_neg fun z => c (decide_eq_true (congrArg V.int z)))⟩
    | keep a b f =>
      obtain ⟨a0, a1, rfl⟩ := len2 ll
      obtain ⟨b0, rfl, _⟩ := hk
      obtain rfl : hv = .int b0 := hh2
      refine cl_skip (by simp) (cl_skip (by simp) (cl_no (z := "keep") rfl (by decide +kernel) (cl_no (z := "keep") rfl (by decide +kernel) (cl_no (z := "keep") rfl (by decide +kernel) (cl_skip (by simp) (cl_yes rfl ⟨_, rfl, rfl, _, rfl, ite2 (fun c => ?_) (fun c => ?_)⟩))))))
      · exact ⟨_, rfl, q1 _ (if_pos (V.int.inj (of_decide_eq_true c)))⟩
      · exact ⟨_, rfl, q1 _ (if_neg fun z => c (decide_eq_true (congrArg V.int z)))⟩
    | late a ah =>
      obtain ⟨a0, rfl⟩ := len1 ll
      obtain ⟨bs, rfl, _, bl⟩ := hk
      obtain ⟨s, rfl, hs⟩ := hh2
      obtain ⟨_, ⟨l1, _⟩, _⟩ : a < n ∧ (1 ≤ ah.length ∧ ah.length ≤ 16) ∧ _ := ok
      cases bs with
      | nil => exact absurd bl (by simp only [List.length_nil]; omega)
      | cons b0 br =>
        exact cl_skip (by simp) (cl_no (z := "late") rfl (by decide +kernel) (cl_skip (by simp) (cl_skip (by simp) (cl_skip (by simp) (cl_skip (by simp) (cl_skip (by simp) (cl_yes rfl ⟨_, rfl, _, .inr (.inl ⟨_, SqT.mk hs, rfl⟩), iteT ⟨_, rfl, s, _, 0, _, rfl, rfl, SqT.mk hs, atI_nat (j := 0) rfl, q1 _ rfl⟩⟩)))))))
    | keeper a b m mo at_ =>
      obtain ⟨a0, a1, rfl⟩ := len2 ll
      obtain ⟨j, rfl, _⟩ := hk
      obtain rfl : hv = .int j := hh2
      refine cl_skip (by simp) (cl_skip (by simp) (cl_no (z := "keeper") rfl (by decide +kernel) (cl_no (z := "keeper") rfl (by decide +kernel) (cl_no (z := "keeper") rfl (by decide +kernel) (cl_skip (by simp) (cl_no (z := "keeper") rfl (by decide +kernel) (cl_skip (by simp) (cl_yes rfl ⟨_, rfl, _, rfl, _, _, rfl, rfl, _, rfl, ite2 (fun c => ?_) (fun c => ?_)⟩))))))))
      · exact q1 1 (if_pos (of_decide_eq_true c))
      · exact q1 0 (if_neg fun z => c (decide_eq_true z))
/-- a piece holds something -/
def Pie.hold : Pie → Bool
  | .keep _ _ _ => true
  | .late _ _ => true
  | .keeper _ _ _ _ _ => true
  | _ => false
def sp_held_behind (_ : PySem.W.Frag) : Sp := fun vs H Q _ => ∃ (P : Pie) (v hv : V) (o : Int) (h : Hd) (l : Addr) (as : List Int) (i n : Nat), vs = [v, hv, .int o, .ref l] ∧ P.hold = true ∧ PieAt H P v ∧ P.Ok i n ∧ P.Hok h ∧ h.At H hv ∧ H l = some (.lst (as.map V.int)) ∧ as.length = P.asks.length ∧ Bits as ∧
  ∀ H' v', Same H H' → (P.next h o as).At H' v' → Q v' H'
theorem ok_held_behind (T : Defs K mg) : FnOk P w K mg base CX0 2 T.f_held_behind T.fd_held_behind ["piece", "held", "own", "asked"] (sp_held_behind K) := by
  have G_moved : FnOk P w K mg base CX0 1 T.f_moved T.fd_moved ["most", "at", "up", "down"] (sp_moved K) := ok_moved T
  refine T.F_held_behind.ok sc_held_behind (fun vs H Q E h => ?_) (fun cdv A outer s H vs Q E hr h => ?_)
  · obtain ⟨P, v, hv, o, h, l, as, i, n, rfl, hld, hP, ok, hk, hh, hl, ll, ba, q⟩ := h
    rfl
  · obtain ⟨P, v, hv, o, h, l, as, i, n, rfl, hld, hP, ok, hk, hh, hl, ll, ba, q⟩ := h
    refine ⟨_, PSs.nox (pss_one (ps_matchL (pe_lst (pa_cons (pe_ix ix_tup (pv 0) pe_int (fun _ _ => rfl)) (StX.pa_star (pv 3) pa_nil))) (pcl_seq rfl sc_held_behind.nd pe_str (pcap_cons (i := 4) rfl (.inl rfl) (pcap_cons (i := 5) rfl (.inl rfl) pcap_nil)) (pss_one (ps_ret (pv 2)))
    (pcl_seq rfl sc_held_behind.nd pe_str (pcap_cons (i := 4) rfl (.inl rfl) pcap_nil) (pss_one (ps_ret (pe_slice sl_tupS (pe_op op_catS (pv 1) (pe_tup (pa_cons (pv 4) pa_nil))) (po_some pe_int) po_none)))
    (pcl_seq rfl sc_held_behind.nd pe_str (pcap_cons (i := 6) rfl (.inl rfl) (pcap_cons (i := 7) rfl (.inl rfl) pcap_nil)) (pss_one (ps_ret (pe_call G_moved (hr.mono (by decide)) (by rfl) T.g_moved T.F_moved.kp T.b_moved .nil pass0 (pa_cons (pe_ix ix_tup (pv 0) pe_int (fun _ _ => rfl)) (pa_cons (pv 1) (pa_cons (pv 6) (pa_cons (pv 7) pa_nil)))))))
    pcl_nil))))), ?_⟩
    have hP0 := hP
    obtain ⟨t, xs, rfl, ht, _, _⟩ := hP.tup
    have hsl : sizeLine = 16777216 := by decide
    have l3 : P.asks.length ≤ 3 := by
      cases P <;> first | exact (by decide : 0 ≤ 3) | exact (by decide : 1 ≤ 3) | exact (by decide : 2 ≤ 3) | exact (by decide : 3 ≤ 3)
    refine ⟨.ref t, rfl, t, _, 0, _, rfl, rfl, SqT.mk ht, atI_nat (j := 0) rfl, .ref l, rfl, l, _, rfl, .inr (SqL.mk hl), ?_, fun d nd => ?_⟩
    · simp only [List.length_cons, List.length_append, List.length_map, List.length_nil]
      omega
    have sd := same_upd nd (o := .lst (V.str P.word :: (as.map V.int ++ [])))
    have hP2 := hP0.same sd
    have hh2 := hh.same sd
    refine ⟨d, _, rfl, SqL.mk upd_same, ?_⟩
    generalize upd H d (.lst (V.str P.word :: (as.map V.int ++ []))) = G at sd hP2 hh2 ⊢
    cases P with
    | keep a b f =>
      obtain ⟨a0, a1, rfl⟩ := len2 ll
      exact cl_yes rfl ⟨_, rfl, q G _ sd rfl⟩
    | late a ah =>
      obtain ⟨a0, rfl⟩ := len1 ll
      obtain ⟨bs, rfl, _, bl⟩ := hk
      obtain ⟨s, rfl, hs⟩ := hh2
      obtain ⟨_, ⟨l1, l16⟩, _⟩ : a < n ∧ (1 ≤ ah.length ∧ ah.length ≤ 16) ∧ _ := ok
      refine cl_skip (by simp) (cl_yes rfl ⟨_, rfl, _, rfl, (show 1 ≤ sizeLine by decide), fun c nc => ?_⟩)
      have s2 := same_upd nc (o := .tup [.int a0])
      refine ⟨s, c, _, _, rfl, rfl, s2 _ _ hs, upd_same, by rw [List.length_map, List.length_singleton]; omega, fun G2 c2 s3 hc2 => ⟨1, rfl, c2, _, rfl, hc2, fun G3 c3 s4 hc3 => ?_⟩⟩
      refine q G3 _ (sd.trans (s2.trans (s3.trans s4))) ⟨c3, rfl, ?_⟩
      rw [hc3, show cutV (bs.map V.int ++ [V.int a0]) (some 1) none = (bs.map V.int ++ [V.int a0]).drop 1 from cut_hi _ 1]
      show _ = some (HO.tup (((bs ++ [a0]).drop 1).map V.int))
      rw [List.map_drop, List.map_append]
      rfl
    | keeper a b m mo at_ =>
      obtain ⟨a0, a1, rfl⟩ := len2 ll
      obtain ⟨j, rfl, _⟩ := hk
      obtain rfl : hv = .int j := hh2
      obtain ⟨t', y, e, hy, _⟩ := hP2
      cases e
      exact cl_no (z := "keeper") rfl (by decide +kernel) (cl_skip (by simp) (cl_yes rfl ⟨.ref t, rfl, t, _, 4, _, rfl, rfl, SqT.mk hy, atI_nat (j := 4) rfl, _, rfl, _, rfl, _, rfl, _, _, _, _, rfl, ba a0 (by simp), ba a1 (by simp), q G _ sd rfl⟩))
    | _ => cases hld
/-! machines as they stand -/
def lcmF (ns : List Nat) : Nat := ns.foldl (fun c n => c * n / Nat.gcd c n) 1
theorem lcmF_snoc (ns : List Nat) (n : Nat) : lcmF (ns ++ [n]) = lcmF ns * n / Nat.gcd (lcmF ns) n := by
  unfold lcmF
  rw [List.foldl_append]
  rfl
def sp_common_length (_ : PySem.W.Frag) : Sp := fun vs H Q _ => ∃ (l : Addr) (qs : List (Addr × List V)), vs = [.ref l] ∧ H l = some (.lst (qs.map fun q => V.ref q.1)) ∧ (∀ q, q ∈ qs → H q.1 = some (.lst q.2) ∧ 1 ≤ q.2.length ∧ q.2.length ≤ 100000) ∧ Q (.int (lcmF (qs.map fun q => q.2.length) : Nat)) H
theorem ok_common_length (T : Defs K mg) : FnOk P w K mg base CX0 2 T.f_common_length T.fd_common_length ["lists"] (sp_common_length K) := by
  have G_common_divisor : FnOk P w K mg base CX0 1 T.f_common_divisor T.fd_common_divisor ["one", "other"] (sp_common_divisor K) := ok_common_divisor T
  refine T.F_common_length.ok sc_common_length (fun vs H Q E h => ?_) (fun cdv A outer s H vs Q E hr h => ?_)
  · obtain ⟨l, qs, rfl, hl, hq, q⟩ := h
    rfl
  · obtain ⟨l, qs, rfl, hl, hq, q⟩ := h
    refine ⟨_, PSs.nox (pss_cons (ps_set (i := 1) sc_common_length.nd rfl (.inl rfl) pe_int)
    (pss_cons ((ps_for PassesOwn.never rfl (pi_list (pv 0)) (pg_name (i := 2) sc_common_length.nd rfl (.inl rfl)) (pss_one (ps_set (i := 1) sc_common_length.nd rfl (.inl rfl) (pe_op op_fdiv (pe_op op_mul (pv 1) (pe_callB call_len_seq (by rfl) T.m_len bt_len (pa_cons (pv 2) pa_nil))) (pe_call G_common_divisor (hr.mono (by decide)) (by rfl) T.g_common_divisor T.F_common_divisor.kp T.b_common_divisor .nil pass0 (pa_cons (pv 1) (pa_cons (pe_callB call_len_seq (by rfl) T.m_len bt_len (pa_cons (pv 2) pa_nil)) pa_nil))))))))
    (pss_one (ps_ret (pv 1))))), ?_⟩
    refine ⟨.ref l, rfl, l, rfl, ⟨_, SqL.mk hl⟩, for_list (xs := qs.map fun q => V.ref q.1) (fun i σ G => ∃ y, σ = [some (.ref l), some (.int (lcmF ((qs.take i).map fun q => q.2.length) : Nat)), y] ∧ G = H) ⟨none, rfl, rfl⟩ ?_ ?_ ?_⟩
    · rintro i σ G _ ⟨y, rfl, rfl⟩
      exact SqL.mk hl
    · rintro i x σ G hx ⟨y, rfl, rfl⟩
      rw [List.getElem?_map] at hx
      obtain ⟨p, hp, rfl⟩ := Option.map_eq_some_iff.mp hx
      obtain ⟨h1, h2, h3⟩ := hq p (List.mem_of_getElem? hp)
      refine ⟨_, rfl, .ref p.1, rfl, p.1, _, rfl, .inl (SqL.mk h1), _, _, rfl, rfl, .inr ⟨by omega, by omega⟩, _, rfl, .ref p.1, rfl, p.1, _, rfl, .inl (SqL.mk h1), _, _, rfl, ?_⟩
      generalize hc : lcmF ((qs.take i).map fun q => q.2.length) = c
      have g1 : 1 ≤ Nat.gcd c p.2.length := Nat.gcd_pos_of_pos_right c (by omega)
      have g2 : Nat.gcd c p.2.length ≤ p.2.length := Nat.le_of_dvd (by omega) (Nat.gcd_dvd_right c p.2.length)
      have ge : (if (1 : Int) > ((Int.gcd (c : Int) (p.2.length : Int) : Nat) : Int) then (1 : Int) else ((Int.gcd (c : Int) (p.2.length : Int) : Nat) : Int)) = ((Nat.gcd c p.2.length : Nat) : Int) := by
        have e : Int.gcd (c : Int) (p.2.length : Int) = Nat.gcd c p.2.length := rfl
        rw [e]
        split <;> omega
      rw [ge]
      refine ⟨_, _, rfl, rfl, ⟨by omega, by omega⟩, some (.ref p.1), ?_, rfl⟩
      have tk : qs.take (i + 1) = qs.take i ++ [p] := by
        rw [List.take_add_one, hp]
        rfl
      have e : (((c : Nat) : Int) * (p.2.length : Int)) / ((Nat.gcd c p.2.length : Nat) : Int) = ((lcmF ((qs.take (i + 1)).map fun q => q.2.length) : Nat) : Int) := by
        rw [tk, List.map_append, List.map_singleton, lcmF_snoc, hc, ← Int.natCast_mul, ← Int.natCast_ediv]
      show [some (V.ref l), some (V.int ((((c : Nat) : Int) * (p.2.length : Int)) / ((Nat.gcd c p.2.length : Nat) : Int))), some (V.ref p.1)] = _
      rw [e]
    · rintro σ G ⟨y, rfl, rfl⟩
      rw [List.length_map, List.take_length]
      exact ⟨_, rfl, q⟩
/-- where the parts of a machine stand -/
structure MA where
  dx : Addr
  pa : Addr
  aa : Addr
  na : Addr
  ha : Addr
  hg : Addr
  ca : Addr
  cm : Int
  Hn : Hp
def mfl (A : MA) (t : Int) : List (Str × V) := [("pieces", .ref A.pa), ("asks", .ref A.aa), ("numbers", .ref A.na), ("common", .int A.cm), ("held", .ref A.ha), ("holding", .ref A.hg), ("counts", .ref A.ca), ("beats", .int t)]
theorem ml_pieces (A : MA) (t : Int) : (mfl A t).lookup ("pieces" : Str) = some (.ref A.pa) := by kernel_rfl
theorem ml_asks (A : MA) (t : Int) : (mfl A t).lookup ("asks" : Str) = some (.ref A.aa) := by kernel_rfl
theorem ml_numbers (A : MA) (t : Int) : (mfl A t).lookup ("numbers" : Str) = some (.ref A.na) := by kernel_rfl
theorem ml_common (A : MA) (t : Int) : (mfl A t).lookup ("common" : Str) = some (.int A.cm) := by kernel_rfl
theorem ml_held (A : MA) (t : Int) : (mfl A t).lookup ("held" : Str) = some (.ref A.ha) := by kernel_rfl
theorem ml_holding (A : MA) (t : Int) : (mfl A t).lookup ("holding" : Str) = some (.ref A.hg) := by kernel_rfl
theorem ml_counts (A : MA) (t : Int) : (mfl A t).lookup ("counts" : Str) = some (.ref A.ca) := by kernel_rfl
theorem ml_beats (A : MA) (t : Int) : (mfl A t).lookup ("beats" : Str) = some (.int t) := by kernel_rfl
theorem ml_nobeat (A : MA) (t : Int) : (mfl A t).lookup ("beat" : Str) = none := by kernel_rfl
theorem mp_beats (A : MA) (t u : Int) : putF "beats" (.int u) (mfl A t) = mfl A u := by kernel_rfl
theorem ml_len (A : MA) (t : Int) : (mfl A t).length < 1000 := (by decide : 8 < 1000)
theorem mp_all (A : MA) : putF "beats" (.int 0) (putF "counts" (.ref A.ca) (putF "holding" (.ref A.hg) (putF "held" (.ref A.ha) (putF "common" (.int A.cm) (putF "numbers" (.ref A.na) (putF "asks" (.ref A.aa) (putF "pieces" (.ref A.pa) []))))))) = mfl A 0 := by kernel_rfl
def holdL (Ps : List Pie) : List Nat := (List.range Ps.length).filter fun i => (Ps.getD i dPie).hold
def cntL (n : Nat) (f : Nat → Int) : List V := ((List.range n).map f).map V.int
/-- what a list holds, piece by piece -/
def HeldL (H : Hp) (n : Nat) (vs : List V) (hs : Nat → Hd) : Prop := vs.length = n ∧ ∀ i, i < n → ∃ v, vs[i]? = some v ∧ (hs i).At H v
/-- the common round -/
noncomputable def cmL (Ps : List Pie) : Nat := lcmF (Ps.map fun P => P.nums.length)
structure MaAt (C : Addr) (H0 H : Hp) (M : Addr) (A : MA) (Ps : List Pie) (f : Nat → Int) (t : Nat) (hs : Nat → Hd) : Prop where
  ins : H M = some (.ins C A.dx (mfl A t))
  h0 : But M H0 A.Hn
  insn : ∃ fs, A.Hn M = some (.ins C A.dx fs)
  kp : ∀ a o, a ≠ M → A.Hn a = some o → H a = some o
  pcs : ∃ xs, A.Hn A.pa = some (.tup xs) ∧ PisAt A.Hn Ps xs
  ask : ∃ xs, A.Hn A.aa = some (.lst xs) ∧ ∀ (i : Nat) (P : Pie), Ps[i]? = some P → ∃ q, xs[i]? = some (.ref q) ∧ A.Hn q = some (.tup (P.asks.map fun (a : Nat) => V.int a))
  num : ∃ xs, A.Hn A.na = some (.lst xs) ∧ ∀ (i : Nat) (P : Pie), Ps[i]? = some P → ∃ q, xs[i]? = some (.ref q) ∧ A.Hn q = some (.lst (P.nums.map V.int))
  hdn : A.Hn A.ha = none
  hgn : A.Hn A.hg = none
  can : A.Hn A.ca = none
  ne : A.ha ≠ A.ca ∧ A.ha ≠ A.hg ∧ A.hg ≠ A.ca ∧ A.ha ≠ M ∧ A.hg ≠ M ∧ A.ca ≠ M
  held : ∃ vs, H A.ha = some (.lst vs) ∧ HeldL H Ps.length vs hs
  hold : H A.hg = some (.lst ((holdL Ps).map fun (i : Nat) => V.int i))
  cnt : H A.ca = some (.lst (cntL Ps.length f))
  cme : A.cm = (cmL Ps : Nat)
theorem PisAt.ok_get {H : Hp} {Ps : List Pie} {vs : List V} (h : PisAt H Ps vs) {i : Nat} {v : V} (e : vs[i]? = some v) : ∃ P, Ps[i]? = some P ∧ PieAt H P v := by
  have il := (List.getElem?_eq_some_iff.mp e).1
  have hl := h.len
  obtain ⟨u, hu, hp⟩ := h.get (i := i) (P := Ps[i]'(by omega)) (List.getElem?_eq_getElem (by omega))
  rw [e] at hu
  cases hu
  exact ⟨_, List.getElem?_eq_getElem (by omega), hp⟩
theorem get_snoc {α : Type} {xs : List α} {x : α} {j : Nat} (h : j < xs.length) : (xs ++ [x])[j]? = xs[j]? := List.getElem?_append_left h
theorem get_last {α : Type} {xs : List α} {x : α} : (xs ++ [x])[xs.length]? = some x := by
  rw [List.getElem?_append_right (Nat.le_refl _), Nat.sub_self]
  rfl
theorem Pie.nums_len {P : Pie} {i n : Nat} (ok : P.Ok i n) : 1 ≤ P.nums.length ∧ P.nums.length ≤ 4096 := by
  have w : ∀ m : Mk, m.Wl → 1 ≤ ((List.range m.rnd).map fun (i : Nat) => m.val i).length ∧ ((List.range m.rnd).map fun (i : Nat) => m.val i).length ≤ 4096 := fun m h => by
    rw [List.length_map, List.length_range]
    exact ⟨rnd_pos h.1, h.2.2.2⟩
  cases P with
  | make m k => exact w m ok.1
  | keeper a b m mo at_ => exact w m ok.2.2.1
  | _ => exact ⟨Nat.le_refl _, (by decide : 1 ≤ 4096)⟩
theorem first_none {P : Pie} {H : Hp} {v : V} (h : P.first.At H v) : decide (v = V.non) = !P.hold := by
  cases P with
  | keep a b f => obtain rfl : v = .int _ := h; rfl
  | late a ah => obtain ⟨t, rfl, _⟩ := h; rfl
  | keeper a b m mo at_ => obtain rfl : v = .int _ := h; rfl
  | _ => obtain rfl : v = .non := h; rfl
def sp_Machine___init__ {K : PySem.W.Frag} {mg : Str → Option Value} (T : Defs K mg) : Sp := fun vs H Q _ => ∃ (x dx pa : Addr) (xs : List V) (Ps : List Pie), vs = [.ref x, .ref pa] ∧ H x = some (.ins T.C_Machine dx []) ∧ H pa = some (.tup xs) ∧ PisAt H Ps xs ∧ Ps.length ≤ 24 ∧ PsOk Ps.length Ps ∧
  ∀ H' A, MaAt T.C_Machine H H' x A Ps (fun _ => 0) 0 (fun i => (sta Ps 0).getD i .non) → Q .non H'
theorem but_upd {x : Addr} {H : Hp} {o : HO} : But x H (upd H x o) := fun c p hc e => by rw [upd_ne hc]; exact e
theorem ok_Machine___init__ (T : Defs K mg) : FnOk P w K mg base CX0 12 T.f_Machine___init__ T.fd_Machine___init__ ["self", "pieces"] (sp_Machine___init__ T) := by
  have G_common_length : FnOk P w K mg base CX0 2 T.f_common_length T.fd_common_length ["lists"] (sp_common_length K) := ok_common_length T
  have G_asks_of : FnOk P w K mg base CX0 1 T.f_asks_of T.fd_asks_of ["piece"] (sp_asks_of K) := ok_asks_of T
  have G_numbers_of : FnOk P w K mg base CX0 11 T.f_numbers_of T.fd_numbers_of ["piece"] (sp_numbers_of K) := ok_numbers_of T
  have G_held_first : FnOk P w K mg base CX0 1 T.f_held_first T.fd_held_first ["piece"] (sp_held_first K) := ok_held_first T
  refine T.F_Machine___init__.ok sc_Machine___init__ (fun vs H Q E h => ?_) (fun cdv A outer s H vs Q E hr h => ?_)
  · obtain ⟨x, dx, pa, xs, Ps, rfl, hx, hpa, hps, n24, ok, q⟩ := h
    rfl
  · obtain ⟨x, dx, pa, xs, Ps, rfl, hx, hpa, hps, n24, ok, q⟩ := h
    refine ⟨_, PSs.nox (pss_cons (ps_fld (pv 0) (pv 1) rfl)
    (pss_cons (ps_fld (pv 0) (pe_lc (own := [("piece", 2)]) (g := gName 2) (tt := tYes) rfl sc_Machine___init__.nd (pi_tup (pv 1)) (blkOk_by (N := N_Machine___init__) (sc := defScope s_Machine___init__) (by decide +kernel)) (fun _ _ _ _ _ => (pg_name (i := 2) sc_Machine___init__.nd rfl (.inl rfl))) (fun _ _ _ _ _ => pts_nil) (fun _ _ _ _ _ => (pe_call G_asks_of (hr.mono (by decide)) (by rfl) T.g_asks_of T.F_asks_of.kp T.b_asks_of .nil pass0 (pa_cons (pv 2) pa_nil)))) rfl)
    (pss_cons (ps_fld (pv 0) (pe_lc (own := [("piece", 2)]) (g := gName 2) (tt := tYes) rfl sc_Machine___init__.nd (pi_tup (pv 1)) (blkOk_by (N := N_Machine___init__) (sc := defScope s_Machine___init__) (by decide +kernel)) (fun _ _ _ _ _ => (pg_name (i := 2) sc_Machine___init__.nd rfl (.inl rfl))) (fun _ _ _ _ _ => pts_nil) (fun _ _ _ _ _ => (pe_call G_numbers_of (hr.mono (by decide)) (by rfl) T.g_numbers_of T.F_numbers_of.kp T.b_numbers_of .nil pass0 (pa_cons (pv 2) pa_nil)))) rfl)
    (pss_cons (ps_fld (pv 0) (pe_call G_common_length (hr.mono (by decide)) (by rfl) T.g_common_length T.F_common_length.kp T.b_common_length .nil pass0 (pa_cons (pe_fld (pv 0) rfl) pa_nil)) rfl)
    (pss_cons (ps_fld (pv 0) (pe_lc (own := [("piece", 2)]) (g := gName 2) (tt := tYes) rfl sc_Machine___init__.nd (pi_tup (pv 1)) (blkOk_by (N := N_Machine___init__) (sc := defScope s_Machine___init__) (by decide +kernel)) (fun _ _ _ _ _ => (pg_name (i := 2) sc_Machine___init__.nd rfl (.inl rfl))) (fun _ _ _ _ _ => pts_nil) (fun _ _ _ _ _ => (pe_call G_held_first (hr.mono (by decide)) (by rfl) T.g_held_first T.F_held_first.kp T.b_held_first .nil pass0 (pa_cons (pv 2) pa_nil)))) rfl)
    (pss_cons (ps_fld (pv 0) (pe_lc (own := [("at", 3)]) (g := gName 3) rfl sc_Machine___init__.nd (pi_range1 (by rfl) T.m_range (pa_cons (pe_callB call_len_seq (by rfl) T.m_len bt_len (pa_cons (pv 1) pa_nil)) pa_nil)) (blkOk_by (N := N_Machine___init__) (sc := defScope s_Machine___init__) (by decide +kernel)) (fun _ _ _ _ _ => (pg_name (i := 3) sc_Machine___init__.nd rfl (.inl rfl))) (fun _ _ _ _ _ => pts_one (pt_cmpR op_notN (pe_ix (ixlK (K := K) rfl) (pe_fldK (K := K) rfl (pv 0)) (pv 3) (fun _ _ => rfl)) pe_non (nomark _))) (fun _ _ _ _ _ => (pv 3))) rfl)
    (pss_cons (ps_fld (pv 0) (pe_op op_rep (pe_lst (pa_cons pe_int pa_nil)) (pe_callB call_len_seq (by rfl) T.m_len bt_len (pa_cons (pv 1) pa_nil))) rfl)
    (pss_one (ps_fld (pv 0) pe_int rfl))))))))), ?_⟩
    have hsl : sizeLine = 16777216 := by decide
    have ll := hps.len
    have pax : pa ≠ x := ne_of hpa hx (fun z => by cases z)
    refine ⟨_, rfl, _, rfl, x, _, dx, [], rfl, hx, T.cl_Machine, T.na_Machine_pieces, (by decide : 0 < 1000), ?_⟩
    have b1 : But x H (upd H x (.ins T.C_Machine dx (putF "pieces" (.ref pa) []))) := but_upd
    have x1 := upd_same (H := H) (a := x) (o := .ins T.C_Machine dx (putF "pieces" (.ref pa) []))
    generalize upd H x (.ins T.C_Machine dx (putF "pieces" (.ref pa) [])) = H1 at b1 x1 ⊢
    -- what is asked
    refine ⟨.ref pa, rfl, pa, rfl, ⟨_, SqT.mk (b1 _ _ pax hpa)⟩, fun C nC => ?_⟩
    have Cx : C ≠ x := (ne_of_none x1 nC).symm
    refine lc_it (walk_tup (xs := xs)) (fun i G => Same H1 G ∧ ∃ rs : List V, rs.length = i ∧ (∀ (j : Nat) (P : Pie), j < i → Ps[j]? = some P → ∃ q, rs[j]? = some (.ref q) ∧ G q = some (.tup (P.asks.map fun (a : Nat) => V.int a))) ∧ G C = some (.lst rs)) ⟨same_upd nC, [], rfl, fun j P h => absurd h (by omega), upd_same⟩ (fun i G _ h => SqT.mk (h.1 _ _ (b1 _ _ pax hpa))) (fun i v G G' hi h y => ?_) (fun G h => ?_)
    · obtain ⟨sG, rs, hl, hr, hC⟩ := h
      obtain ⟨rfl, hv⟩ := y
      obtain ⟨P, hP, hpv⟩ := hps.ok_get hv
      obtain ⟨t, ys, rfl, ht, hask, htk⟩ := hpv.tup
      have tx : t ≠ x := ne_of ht hx (fun z => by cases z)
      refine ⟨rfl, yes_ite ⟨.ref t, rfl, t, P.word, ys, P.asks.length, rfl, sG _ _ (b1 _ _ tx ht), hask, fun G2 q sq hq => ?_⟩⟩
      rw [htk] at hq
      have hC2 := sq _ _ hC
      have qC : q ≠ C := ne_of hq hC2 (fun z => by cases z)
      refine ⟨_, hC2, by omega, same_newer (sG.trans sq) nC, rs ++ [.ref q], by rw [List.length_append, hl]; rfl, fun j R hj hR => ?_, upd_same⟩
      by_cases e : j < i
      · obtain ⟨q', h1, h2⟩ := hr j R e hR
        have h2' := sq _ _ h2
        exact ⟨q', by rw [get_snoc (by omega)]; exact h1, by rw [upd_ne (ne_of h2' hC2 (fun z => by cases z))]; exact h2'⟩
      · obtain rfl : j = rs.length := by omega
        rw [hl, hP] at hR
        cases hR
        exact ⟨q, get_last, by rw [upd_ne qC]; exact hq⟩
    obtain ⟨s2, as_, la, ha_, hC⟩ := h
    rw [ll] at la
    have has : ∀ (j : Nat) (P : Pie), Ps[j]? = some P → ∃ q, as_[j]? = some (.ref q) ∧ G q = some (.tup (P.asks.map fun (a : Nat) => V.int a)) := fun j P e => ha_ j P (by have := (List.getElem?_eq_some_iff.mp e).1; omega) e
    clear ha_
    refine ⟨_, rfl, x, _, dx, _, rfl, s2 _ _ x1, T.cl_Machine, T.na_Machine_asks, (by decide : 1 < 1000), ?_⟩
    have b3 : But x H (upd G x (.ins T.C_Machine dx (putF "asks" (.ref C) (putF "pieces" (.ref pa) [])))) := (b1.trans (same_but s2)).trans but_upd
    have bG : But x G (upd G x (.ins T.C_Machine dx (putF "asks" (.ref C) (putF "pieces" (.ref pa) [])))) := but_upd
    have x3 := upd_same (H := G) (a := x) (o := .ins T.C_Machine dx (putF "asks" (.ref C) (putF "pieces" (.ref pa) [])))
    generalize upd G x (.ins T.C_Machine dx (putF "asks" (.ref C) (putF "pieces" (.ref pa) []))) = H3 at b3 bG x3 ⊢
    have hC3 := bG _ _ Cx hC
    have has3 : ∀ (j : Nat) (P : Pie), Ps[j]? = some P → ∃ q, as_[j]? = some (.ref q) ∧ H3 q = some (.tup (P.asks.map fun (a : Nat) => V.int a)) := fun j P e => by
      obtain ⟨q, h1, h2⟩ := has j P e
      exact ⟨q, h1, bG _ _ (ne_of h2 (s2 _ _ x1) (fun z => by cases z)) h2⟩
    clear has bG hC s2 nC
    -- the numbers
    have hpa3 := b3 _ _ pax hpa
    have hps3 : PisAt H3 Ps xs := hps.keep fun a ys e => b3 _ _ (ne_of e hx (fun z => by cases z)) e
    refine ⟨.ref pa, rfl, pa, rfl, ⟨_, SqT.mk hpa3⟩, fun D nD => ?_⟩
    have Dx : D ≠ x := (ne_of_none x3 nD).symm
    refine lc_it (walk_tup (xs := xs)) (fun i G => Same H3 G ∧ ∃ rs : List (Addr × List V), rs.length = i ∧ (∀ (j : Nat) (P : Pie), j < i → Ps[j]? = some P → ∃ q, rs[j]? = some (q, P.nums.map V.int) ∧ q ≠ D ∧ G q = some (.lst (P.nums.map V.int))) ∧ G D = some (.lst (rs.map fun q => V.ref q.1))) ⟨same_upd nD, [], rfl, fun j P h => absurd h (by omega), upd_same⟩ (fun i G _ h => SqT.mk (h.1 _ _ hpa3)) (fun i v G G' hi h y => ?_) (fun G h => ?_)
    · obtain ⟨sG, rs, hl, hr, hD⟩ := h
      obtain ⟨rfl, hv⟩ := y
      obtain ⟨P, hP, hpv⟩ := hps3.ok_get hv
      refine ⟨rfl, yes_ite ⟨v, rfl, P, v, i, Ps.length, rfl, hpv.same sG, ok i P hP, fun G2 q sq nq hq => ?_⟩⟩
      have hD2 := sq _ _ hD
      have qD : q ≠ D := (ne_of_none hD nq).symm
      refine ⟨_, hD2, by rw [List.length_map]; omega, same_newer (sG.trans sq) nD, rs ++ [(q, P.nums.map V.int)], by rw [List.length_append, hl]; rfl, fun j R hj hR => ?_, by rw [upd_same, List.map_append]; rfl⟩
      by_cases e : j < i
      · obtain ⟨q', h1, h2, h3⟩ := hr j R e hR
        exact ⟨q', by rw [get_snoc (by omega)]; exact h1, h2, by rw [upd_ne h2]; exact sq _ _ h3⟩
      · obtain rfl : j = rs.length := by omega
        rw [hl, hP] at hR
        cases hR
        exact ⟨q, get_last, qD, by rw [upd_ne qD]; exact hq⟩
    obtain ⟨s4, qs, lq, hq_, hD⟩ := h
    rw [ll] at lq
    have hqs : ∀ (j : Nat) (P : Pie), Ps[j]? = some P → ∃ q, qs[j]? = some (q, P.nums.map V.int) ∧ q ≠ D ∧ G q = some (.lst (P.nums.map V.int)) := fun j P e => hq_ j P (by have := (List.getElem?_eq_some_iff.mp e).1; omega) e
    clear hq_
    refine ⟨_, rfl, x, _, dx, _, rfl, s4 _ _ x3, T.cl_Machine, T.na_Machine_numbers, (by decide : 2 < 1000), ?_⟩
    have b5 : But x H (upd G x (.ins T.C_Machine dx (putF "numbers" (.ref D) (putF "asks" (.ref C) (putF "pieces" (.ref pa) []))))) := (b3.trans (same_but s4)).trans but_upd
    have bG : But x G (upd G x (.ins T.C_Machine dx (putF "numbers" (.ref D) (putF "asks" (.ref C) (putF "pieces" (.ref pa) []))))) := but_upd
    have x5 := upd_same (H := G) (a := x) (o := .ins T.C_Machine dx (putF "numbers" (.ref D) (putF "asks" (.ref C) (putF "pieces" (.ref pa) []))))
    generalize upd G x (.ins T.C_Machine dx (putF "numbers" (.ref D) (putF "asks" (.ref C) (putF "pieces" (.ref pa) [])))) = H5 at b5 bG x5 ⊢
    have hD5 := bG _ _ Dx hD
    have hC5 := bG _ _ Cx (s4 _ _ hC3)
    have has5 : ∀ (j : Nat) (P : Pie), Ps[j]? = some P → ∃ q, as_[j]? = some (.ref q) ∧ H5 q = some (.tup (P.asks.map fun (a : Nat) => V.int a)) := fun j P e => by
      obtain ⟨q, h1, h2⟩ := has3 j P e
      have h2' := s4 _ _ h2
      exact ⟨q, h1, bG _ _ (ne_of h2' (s4 _ _ x3) (fun z => by cases z)) h2'⟩
    have hqs5 : ∀ (j : Nat) (P : Pie), Ps[j]? = some P → ∃ q, qs[j]? = some (q, P.nums.map V.int) ∧ H5 q = some (.lst (P.nums.map V.int)) := fun j P e => by
      obtain ⟨q, h1, h2, h3⟩ := hqs j P e
      exact ⟨q, h1, bG _ _ (ne_of h3 (s4 _ _ x3) (fun z => by cases z)) h3⟩
    clear hqs has3 bG hD s4 nD hC3 b3 x3 hpa3 hps3
    -- the common round
    refine ⟨_, rfl, x, _, dx, _, _, rfl, x5, T.cl_Machine, T.na_Machine_numbers, (by kernel_rfl), D, qs, rfl, hD5, fun q hq => ?_, ?_⟩
    · obtain ⟨j, hj⟩ := List.getElem?_of_mem hq
      have jl := (List.getElem?_eq_some_iff.mp hj).1
      have eP : Ps[j]? = some (Ps[j]'(by omega)) := List.getElem?_eq_getElem (by omega)
      obtain ⟨q', h1, h2⟩ := hqs5 j _ eP
      rw [hj] at h1
      cases h1
      have := Pie.nums_len (ok j _ eP)
      refine ⟨h2, ?_, ?_⟩
      · show 1 ≤ (List.map V.int _).length
        rw [List.length_map]
        exact this.1
      · show (List.map V.int _).length ≤ 100000
        rw [List.length_map]
        omega
    have hcm : lcmF (qs.map fun q => q.2.length) = cmL Ps := by
      unfold cmL
      congr 1
      refine List.ext_getElem? fun j => ?_
      rw [List.getElem?_map, List.getElem?_map]
      by_cases hj : j < Ps.length
      · have eP : Ps[j]? = some (Ps[j]'hj) := List.getElem?_eq_getElem hj
        obtain ⟨q, h1, _⟩ := hqs5 j _ eP
        rw [h1, eP]
        show some (List.map V.int _).length = some _
        rw [List.length_map]
      · rw [List.getElem?_eq_none (by omega), List.getElem?_eq_none (by omega)]
        rfl
    generalize lcmF (qs.map fun q => q.2.length) = cm at hcm ⊢
    refine ⟨_, rfl, x, _, dx, _, rfl, x5, T.cl_Machine, T.na_Machine_common, (by decide : 3 < 1000), ?_⟩
    have b7 : But x H (upd H5 x (.ins T.C_Machine dx (putF "common" (.int (cm : Nat)) (putF "numbers" (.ref D) (putF "asks" (.ref C) (putF "pieces" (.ref pa) [])))))) := b5.trans but_upd
    have bG : But x H5 (upd H5 x (.ins T.C_Machine dx (putF "common" (.int (cm : Nat)) (putF "numbers" (.ref D) (putF "asks" (.ref C) (putF "pieces" (.ref pa) [])))))) := but_upd
    have x7 := upd_same (H := H5) (a := x) (o := .ins T.C_Machine dx (putF "common" (.int (cm : Nat)) (putF "numbers" (.ref D) (putF "asks" (.ref C) (putF "pieces" (.ref pa) [])))))
    generalize upd H5 x (.ins T.C_Machine dx (putF "common" (.int (cm : Nat)) (putF "numbers" (.ref D) (putF "asks" (.ref C) (putF "pieces" (.ref pa) []))))) = H7 at b7 bG x7 ⊢
    have hD7 := bG _ _ Dx hD5
    have hC7 := bG _ _ Cx hC5
    have has7 : ∀ (j : Nat) (P : Pie), Ps[j]? = some P → ∃ q, as_[j]? = some (.ref q) ∧ H7 q = some (.tup (P.asks.map fun (a : Nat) => V.int a)) := fun j P e => by
      obtain ⟨q, h1, h2⟩ := has5 j P e
      exact ⟨q, h1, bG _ _ (ne_of h2 x5 (fun z => by cases z)) h2⟩
    have hqs7 : ∀ (j : Nat) (P : Pie), Ps[j]? = some P → ∃ q, (qs.map fun q => V.ref q.1)[j]? = some (.ref q) ∧ H7 q = some (.lst (P.nums.map V.int)) := fun j P e => by
      obtain ⟨q, h1, h2⟩ := hqs5 j P e
      exact ⟨q, by rw [List.getElem?_map, h1]; rfl, bG _ _ (ne_of h2 x5 (fun z => by cases z)) h2⟩
    clear has5 hqs5 bG hD5 hC5 x5
    have hpa7 := b7 _ _ pax hpa
    have hps7 : PisAt H7 Ps xs := hps.keep fun a ys e => b7 _ _ (ne_of e hx (fun z => by cases z)) e
    -- what is held
    refine ⟨.ref pa, rfl, pa, rfl, ⟨_, SqT.mk hpa7⟩, fun Eh nE => ?_⟩
    have Ex : Eh ≠ x := (ne_of_none x7 nE).symm
    refine lc_it (walk_tup (xs := xs)) (fun i G => Same H7 G ∧ ∃ vs : List V, vs.length = i ∧ (∀ (j : Nat) (P : Pie), j < i → Ps[j]? = some P → ∃ v, vs[j]? = some v ∧ P.first.At G v) ∧ G Eh = some (.lst vs)) ⟨same_upd nE, [], rfl, fun j P h => absurd h (by omega), upd_same⟩ (fun i G _ h => SqT.mk (h.1 _ _ hpa7)) (fun i v G G' hi h y => ?_) (fun G h => ?_)
    · obtain ⟨sG, vs, hl, hr, hE⟩ := h
      obtain ⟨rfl, hv⟩ := y
      obtain ⟨P, hP, hpv⟩ := hps7.ok_get hv
      have up : ∀ (u : V) (h : Hd), h.At G' u → ∀ o, h.At (upd G' Eh (.lst o)) u := fun u h z o => z.keep fun a ys e => by
        rw [upd_ne (ne_of e hE (fun z => by cases z))]
        exact e
      refine ⟨rfl, yes_ite ⟨v, rfl, P, v, rfl, hpv.same sG, fun u hu => ⟨_, hE, by omega, same_newer sG nE, vs ++ [u], by rw [List.length_append, hl]; rfl, fun j R hj hR => ?_, upd_same⟩⟩⟩
      by_cases e : j < i
      · obtain ⟨w', h1, h2⟩ := hr j R e hR
        exact ⟨w', by rw [get_snoc (by omega)]; exact h1, up _ _ h2 _⟩
      · obtain rfl : j = vs.length := by omega
        rw [hl, hP] at hR
        cases hR
        exact ⟨u, get_last, up _ _ hu _⟩
    obtain ⟨s8, vs, lv, hv_, hE⟩ := h
    rw [ll] at lv
    refine ⟨_, rfl, x, _, dx, _, rfl, s8 _ _ x7, T.cl_Machine, T.na_Machine_held, (by decide : 4 < 1000), ?_⟩
    have k9 : But x H7 (upd G x (.ins T.C_Machine dx (putF "held" (.ref Eh) (putF "common" (.int (cm : Nat)) (putF "numbers" (.ref D) (putF "asks" (.ref C) (putF "pieces" (.ref pa) []))))))) := (same_but s8).trans but_upd
    have bG : But x G (upd G x (.ins T.C_Machine dx (putF "held" (.ref Eh) (putF "common" (.int (cm : Nat)) (putF "numbers" (.ref D) (putF "asks" (.ref C) (putF "pieces" (.ref pa) []))))))) := but_upd
    have x9 := upd_same (H := G) (a := x) (o := .ins T.C_Machine dx (putF "held" (.ref Eh) (putF "common" (.int (cm : Nat)) (putF "numbers" (.ref D) (putF "asks" (.ref C) (putF "pieces" (.ref pa) []))))))
    generalize upd G x (.ins T.C_Machine dx (putF "held" (.ref Eh) (putF "common" (.int (cm : Nat)) (putF "numbers" (.ref D) (putF "asks" (.ref C) (putF "pieces" (.ref pa) [])))))) = H9 at k9 bG x9 ⊢
    have hE9 := bG _ _ Ex hE
    have hv9 : ∀ (j : Nat) (P : Pie), Ps[j]? = some P → ∃ v, vs[j]? = some v ∧ P.first.At H9 v := fun j P e => by
      obtain ⟨v, h1, h2⟩ := hv_ j P (by have := (List.getElem?_eq_some_iff.mp e).1; omega) e
      exact ⟨v, h1, h2.keep fun a ys z => bG _ _ (ne_of z (s8 _ _ x7) (fun z => by cases z)) z⟩
    clear hv_ bG hE s8
    have hpa9 := k9 _ _ pax hpa7
    -- which hold
    refine ⟨.ref pa, rfl, pa, _, rfl, .inr (SqT.mk hpa9), (xs.length : Nat), rfl, by omega, by omega, fun F nF => ?_⟩
    have Fx : F ≠ x := (ne_of_none x9 nF).symm
    refine lc_range (fun i G => Same H9 G ∧ G F = some (.lst (((List.range i).filter fun i => (Ps.getD i dPie).hold).map fun (i : Nat) => V.int i))) ⟨same_upd nF, upd_same⟩ (fun i G hi h => ?_) (fun G h => ?_)
    · obtain ⟨sG, hF⟩ := h
      rw [Int.toNat_natCast] at hi
      have eP : Ps[i]? = some (Ps[i]'(by omega)) := List.getElem?_eq_getElem (by omega)
      obtain ⟨v, h1, h2⟩ := hv9 i _ eP
      have hl2 : ((List.range i).filter fun i => (Ps.getD i dPie).hold).length ≤ i := Nat.le_trans (List.length_filter_le _ _) (by rw [List.length_range]; exact Nat.le_refl _)
      refine ⟨rfl, _, rfl, x, _, dx, _, _, rfl, sG _ _ x9, T.cl_Machine, T.na_Machine_held, (by kernel_rfl), _, rfl, Eh, _, (i : Nat), v, rfl, by rw [Int.zero_add], SqL.mk (sG _ _ hE9), atI_nat h1, rfl, _, rfl, ?_⟩
      rw [first_none h2, Bool.not_not]
      have eF : (List.range (i + 1)).filter (fun i => (Ps.getD i dPie).hold) = (List.range i).filter (fun i => (Ps.getD i dPie).hold) ++ (if (Ps[i]'(by omega)).hold = true then [i] else []) := by
        rw [List.range_succ, List.filter_append, List.filter_cons, List.filter_nil, getD_of eP]
      rw [eF]
      cases hh : (Ps[i]'(by omega)).hold with
      | true =>
        refine iteT ⟨_, rfl, _, hF, by rw [List.length_map]; omega, same_newer sG nF, ?_⟩
        rw [upd_same, List.map_append, Int.zero_add]
        rfl
      | false =>
        refine iteF ⟨sG, ?_⟩
        rw [hF, if_neg Bool.false_ne_true, List.append_nil]
    obtain ⟨s10, hF⟩ := h
    rw [Int.toNat_natCast, ll] at hF
    refine ⟨_, rfl, x, _, dx, _, rfl, s10 _ _ x9, T.cl_Machine, T.na_Machine_holding, (by decide : 5 < 1000), ?_⟩
    have k11 : But x H9 (upd G x (.ins T.C_Machine dx (putF "holding" (.ref F) (putF "held" (.ref Eh) (putF "common" (.int (cm : Nat)) (putF "numbers" (.ref D) (putF "asks" (.ref C) (putF "pieces" (.ref pa) [])))))))) := (same_but s10).trans but_upd
    have bG : But x G (upd G x (.ins T.C_Machine dx (putF "holding" (.ref F) (putF "held" (.ref Eh) (putF "common" (.int (cm : Nat)) (putF "numbers" (.ref D) (putF "asks" (.ref C) (putF "pieces" (.ref pa) [])))))))) := but_upd
    have x11 := upd_same (H := G) (a := x) (o := .ins T.C_Machine dx (putF "holding" (.ref F) (putF "held" (.ref Eh) (putF "common" (.int (cm : Nat)) (putF "numbers" (.ref D) (putF "asks" (.ref C) (putF "pieces" (.ref pa) [])))))))
    generalize upd G x (.ins T.C_Machine dx (putF "holding" (.ref F) (putF "held" (.ref Eh) (putF "common" (.int (cm : Nat)) (putF "numbers" (.ref D) (putF "asks" (.ref C) (putF "pieces" (.ref pa) []))))))) = H11 at k11 bG x11 ⊢
    have hF11 := bG _ _ Fx hF
    have hE11 := k11 _ _ Ex hE9
    have hpa11 := k11 _ _ pax hpa9
    -- the counts
    refine ⟨(show 1 ≤ sizeLine by decide), fun z0 nz0 => ?_⟩
    have s12 := same_upd nz0 (o := .lst [.int 0])
    have hz0 := upd_same (H := H11) (a := z0) (o := .lst [.int 0])
    generalize upd H11 z0 (.lst [.int 0]) = H12 at s12 hz0 ⊢
    refine ⟨.ref pa, rfl, pa, _, rfl, .inr (SqT.mk (s12 _ _ hpa11)), z0, (xs.length : Nat), _, rfl, rfl, hz0, by omega, by omega, by rw [Int.toNat_natCast, List.length_singleton]; omega, fun ca nca => ?_⟩
    have cax : ca ≠ x := (ne_of_none (s12 _ _ x11) nca).symm
    have s13 := s12.trans (same_upd nca (o := .lst (List.replicate ((xs.length : Nat) : Int).toNat [V.int 0]).flatten))
    have hca : (upd H12 ca (.lst (List.replicate ((xs.length : Nat) : Int).toNat [V.int 0]).flatten)) ca = some (.lst (cntL Ps.length (fun _ => 0))) := by
      rw [upd_same, Int.toNat_natCast, ll]
      unfold cntL
      rw [List.map_map]
      congr 2
      induction Ps.length with
      | zero => rfl
      | succ n ih =>
        rw [List.replicate_succ', List.flatten_append, ih, List.range_succ, List.map_append]
        rfl
    have nF7 : H7 F = none := by
      cases e : H7 F with
      | none => rfl
      | some o =>
        rw [k9 _ _ Fx e] at nF
        cases nF
    have nca7 : H7 ca = none := by
      cases e : H7 ca with
      | none => rfl
      | some o =>
        rw [s12 _ _ (k11 _ _ cax (k9 _ _ cax e))] at nca
        cases nca
    have EF : Eh ≠ F := ne_of_none hE9 nF
    have Eca : Eh ≠ ca := ne_of_none (s12 _ _ hE11) nca
    have Fca : F ≠ ca := ne_of_none (s12 _ _ hF11) nca
    generalize upd H12 ca (.lst (List.replicate ((xs.length : Nat) : Int).toNat [V.int 0]).flatten) = H13 at s13 hca ⊢
    refine ⟨_, rfl, x, _, dx, _, rfl, s13 _ _ x11, T.cl_Machine, T.na_Machine_counts, (by decide : 6 < 1000), ?_⟩
    refine ⟨_, rfl, x, _, dx, _, rfl, upd_same, T.cl_Machine, T.na_Machine_beats, (by decide : 7 < 1000), ?_⟩
    have bf : ∀ o1 o2, But x H13 (upd (upd H13 x o1) x o2) := fun o1 o2 => but_upd.trans but_upd
    have kk : ∀ o1 o2, But x H7 (upd (upd H13 x o1) x o2) := fun o1 o2 => ((k9.trans k11).trans (same_but s13)).trans (bf o1 o2)
    refine q _ ⟨dx, pa, C, D, Eh, F, ca, (cm : Nat), H7⟩ ⟨upd_same.trans (congrArg (fun f => some (HO.ins T.C_Machine dx f)) (mp_all ⟨dx, pa, C, D, Eh, F, ca, (cm : Nat), H7⟩)), b7, ⟨_, x7⟩, kk _ _, ⟨xs, hpa7, hps7⟩, ⟨as_, hC7, has7⟩, ⟨_, hD7, hqs7⟩, nE, nF7, nca7, ⟨Eca, EF, Fca, Ex, Fx, cax⟩, ⟨vs, bf _ _ _ _ Ex (s13 _ _ hE11), lv, fun i hi => ?_⟩, bf _ _ _ _ Fx (s13 _ _ hF11), bf _ _ _ _ cax hca, by rw [← hcm]⟩
    have eP : Ps[i]? = some Ps[i] := List.getElem?_eq_getElem hi
    obtain ⟨v, h1, h2⟩ := hv9 i _ eP
    refine ⟨v, h1, ?_⟩
    have e0 : (sta Ps 0).getD i Hd.non = Ps[i].first := getD_of (show (Ps.map Pie.first)[i]? = some Ps[i].first by rw [List.getElem?_map, eP]; rfl)
    show ((sta Ps 0).getD i Hd.non).At _ v
    rw [e0]
    exact h2.keep fun a ys e => bf _ _ _ _ (ne_of e x9 (fun z => by cases z)) (s13 _ _ (k11 _ _ (ne_of e x9 (fun z => by cases z)) e))
/-! dicts whose keys are tuples of numbers, None and tuples of numbers -/
def K1 (H : Hp) (k : NestedKey) (v : V) : Prop := (k = .none ∧ v = .non) ∨ (∃ i, k = .num i ∧ v = .int i) ∨ ∃ (b : Addr) (ns : List Int), k = .tup (ns.map .num) ∧ v = .ref b ∧ H b = some (.tup (ns.map V.int))
def K2 (H : Hp) (k : NestedKey) (b : Addr) : Prop := ∃ (ks : List NestedKey) (vs : List V), k = .tup ks ∧ H b = some (.tup vs) ∧ Paired (K1 H) ks vs
theorem K1.keep {H H' : Hp} (s : ∀ a xs, H a = some (.tup xs) → H' a = some (.tup xs)) {k : NestedKey} {v : V} (h : K1 H k v) : K1 H' k v := by
  rcases h with h | h | ⟨b, ns, e1, e2, e3⟩
  · exact .inl h
  · exact .inr (.inl h)
  · exact .inr (.inr ⟨b, ns, e1, e2, s _ _ e3⟩)
theorem K2.keep {H H' : Hp} (s : ∀ a xs, H a = some (.tup xs) → H' a = some (.tup xs)) {k : NestedKey} {b : Addr} (h : K2 H k b) : K2 H' k b := by
  obtain ⟨ks, vs, e1, e2, e3⟩ := h
  exact ⟨ks, vs, e1, s _ _ e2, Paired.mapP e3 fun _ _ z => z.keep s⟩
theorem nums_all {h : Heap} : ∀ {ns : List Int} {us : List Value}, Vals (ns.map V.int) us → NestedAll h (ns.map .num) us
  | [], _, r => by
    rw [List.map_nil] at r
    cases r
    exact .nil
  | n :: ns, _, r => by
    rw [List.map_cons] at r
    cases r with
    | cons r1 r2 =>
      obtain ⟨t, rfl⟩ := r1
      exact .cons (.int n t) (nums_all r2)
theorem K1.is {P : Program} {w : World} {H : Hp} {h : Heap} (ok : HOk P w H h) {k : NestedKey} {v : V} {u : Value} (x : K1 H k v) (r : RelV v u) : NestedIs h k u ∧ k.depth ≤ 1 := by
  rcases x with ⟨rfl, rfl⟩ | ⟨i, rfl, rfl⟩ | ⟨b, ns, rfl, rfl, e⟩
  · obtain rfl : u = Value.none := r
    exact ⟨.none, by simp [NestedKey.depth]⟩
  · obtain ⟨t, rfl⟩ := r
    exact ⟨.int i t, by simp [NestedKey.depth]⟩
  · obtain rfl : u = Value.ref b := r
    obtain ⟨_, its, rv, o, h1, h2, n, h3⟩ := (show ObjOk P w H h b (.tup (ns.map V.int)) from ok b _ e)
    refine ⟨.tup h1 h2 h3 (by simpa using nums_all rv), ?_⟩
    have : ∀ ns : List Int, NestedKey.depthAll (ns.map .num) = 0 := fun ns => by
      induction ns with
      | nil => simp [NestedKey.depthAll]
      | cons n ns ih => simp [NestedKey.depthAll, NestedKey.depth, ih]
    simp [NestedKey.depth, this]
theorem K2.is {P : Program} {w : World} {H : Hp} {h : Heap} (ok : HOk P w H h) {k : NestedKey} {b : Addr} (x : K2 H k b) : (nestedKind P w).is h k b := by
  obtain ⟨ks, vs, rfl, e, rel⟩ := x
  obtain ⟨_, its, rv, o, h1, h2, n, h3⟩ := (show ObjOk P w H h b (.tup vs) from ok b _ e)
  have all : ∀ {ks : List NestedKey} {vs : List V} {us : List Value}, Paired (K1 H) ks vs → Vals vs us → NestedAll h ks us ∧ NestedKey.depthAll ks ≤ 1 := by
    intro ks vs us rel
    induction rel generalizing us with
    | nil =>
      intro rv
      cases rv
      exact ⟨.nil, by simp [NestedKey.depthAll]⟩
    | cons h1 t ih =>
      intro rv
      cases rv with
      | cons r1 r2 =>
        obtain ⟨a1, a2⟩ := K1.is ok h1 r1
        obtain ⟨b1, b2⟩ := ih r2
        refine ⟨.cons a1 b1, ?_⟩
        simp only [NestedKey.depthAll]
        omega
  obtain ⟨a1, a2⟩ := all rel rv
  refine ⟨.tup h1 h2 h3 (by simpa using a1), ?_⟩
  simp only [NestedKey.depth]
  omega
abbrev RN (p : NestedKey × Addr × V) (q : NestedKey × Addr × Value) : Prop := p.1 = q.1 ∧ p.2.1 = q.2.1 ∧ RelV p.2.2 q.2.2
def DN (P : Program) (w : World) (a : Addr) (kvs : List (NestedKey × Addr × V)) : HO := .ext fun h => kvs.length ≤ sizeLine ∧ (a == sysModules) = false ∧ ∃ xs : List (NestedKey × Addr × Value), Paired RN kvs xs ∧ ∃ o es ep, h.get? a = some o ∧ o.ExactDict ∧ o.data = .dict es ep ∧ es.toList = xs.map (entryOfKey (nestedKind P w)) ∧ (xs.map (·.1)).Nodup
def KN (H : Hp) (kvs : List (NestedKey × Addr × V)) : Prop := ∀ x, x ∈ kvs → K2 H x.1 x.2.1
theorem KN.keep {H H' : Hp} (s : ∀ a xs, H a = some (.tup xs) → H' a = some (.tup xs)) {kvs : List (NestedKey × Addr × V)} (h : KN H kvs) : KN H' kvs := fun x hx => (h x hx).keep s
theorem dn_ok {P : Program} {w : World} {H : Hp} {h : Heap} {a : Addr} {kvs : List (NestedKey × Addr × V)} {xs : List (NestedKey × Addr × Value)} (hl : kvs.length ≤ sizeLine) (hd : (a == sysModules) = false) (rel : Paired RN kvs xs) (x : h.DictOfH (nestedKind P w) a xs) : ObjOk P w H h a (DN P w a kvs) := by
  obtain ⟨o, es, ep, h1, h2, h3, h4, _, h5⟩ := x
  refine ⟨⟨hl, hd, xs, rel, o, es, ep, h1, h2, h3, h4, h5⟩, ⟨o, h1⟩, fun g1 g2 ⟨a1, a2, ys, a3, o', es', ep', b1, b2⟩ k => ⟨a1, a2, ys, a3, o', es', ep', k _ b1, b2⟩⟩
theorem dn_of {P : Program} {w : World} {H : Hp} {h : Heap} {a : Addr} {kvs : List (NestedKey × Addr × V)} (ok : HOk P w H h) (e : H a = some (DN P w a kvs)) (hk : KN H kvs) : kvs.length ≤ sizeLine ∧ (a == sysModules) = false ∧ ∃ xs, Paired RN kvs xs ∧ h.DictOfH (nestedKind P w) a xs := by
  obtain ⟨⟨hl, hd, xs, rel, o, es, ep, h1, h2, h3, h4, h5⟩, _⟩ := (show ObjOk P w H h a (DN P w a kvs) from ok a _ e)
  refine ⟨hl, hd, xs, rel, o, es, ep, h1, h2, h3, h4, ?_, h5⟩
  have all : ∀ {l : List (NestedKey × Addr × V)} {m : List (NestedKey × Addr × Value)}, Paired RN l m → KN H l → ∀ x ∈ m, (nestedKind P w).is h x.1 x.2.1 := by
    intro l m q
    induction q with
    | nil => intro _ x hx; exact nomatch hx
    | @cons p q ps qs hq t ih =>
      intro hk x hx
      rcases List.mem_cons.mp hx with e | hx
      · subst e
        have := hk p (List.mem_cons_self ..)
        rw [hq.1, hq.2.1] at this
        exact this.is ok
      · exact ih (fun y hy => hk y (List.mem_cons_of_mem _ hy)) x hx
  exact all rel hk
def atN (kvs : List (NestedKey × Addr × V)) (k : NestedKey) : Option V := (kvs.find? fun x => decide (x.1 = k)).map (·.2.2)
theorem atN_rel {kvs : List (NestedKey × Addr × V)} {xs : List (NestedKey × Addr × Value)} (r : Paired RN kvs xs) (k : NestedKey) : RelO (atN kvs k) ((atKey xs k).map (·.2)) := by
  induction r with
  | nil => exact True.intro
  | @cons p q ps qs h t ih =>
    obtain ⟨h1, _, h2⟩ := h
    by_cases e : p.1 = k
    · have e' : q.1 = k := h1.symm.trans e
      have b : atKey (q :: qs) k = some q.2 := by simp [atKey, List.find?_cons, e']
      have c : atN (p :: ps) k = some p.2.2 := by simp [atN, List.find?_cons, e]
      rw [b, c]
      exact h2
    · have e' : ¬ q.1 = k := fun z => e (h1.trans z)
      have b : atKey (q :: qs) k = atKey qs k := by simp [atKey, List.find?_cons, e']
      have c : atN (p :: ps) k = atN ps k := by simp [atN, List.find?_cons, e]
      rw [b, c]
      exact ih
theorem dn_empty {P : Program} {w : World} {H : Hp} (h : Heap) (hb : sysModules < h.objs.size) : ObjOk P w H (h.push { cls := .type "dict", data := .dict #[] }) h.objs.size (DN P w h.objs.size []) :=
  dn_ok (xs := []) (Nat.zero_le _) (beq_eq_false_iff_ne.mpr (Ne.symm (Nat.ne_of_lt hb))) .nil (Heap.DictOfH.new h)
/-- {} -/
def tDNewN (P : Program) (w : World) : TE := fun _ H Q => ∀ p, H p = none → Q (.ref p) (upd H p (DN P w p []))
theorem pe_dnewN {X : Cx} {pos : Pos} : PE X (.Dict [] [] pos) (tDNewN X.prog X.w) := ⟨fun pins s σ H Q I h =>
  wpAny_Dict_empty ⟨.ref s.heap.objs.size, _, I.laid (a := s.heap.objs.size) (o := DN X.prog X.w s.heap.objs.size []) (t' := s.toks) (fun _ _ q => Heap.get?_push_of_some _ q) (Nat.le_refl _) (dn_empty s.heap I.big), rfl, h _ (I.hok.fresh (Nat.le_refl _))⟩⟩
/-- y in d -/
def tNIn (P : Program) (w : World) (ty td : TE) : TE := fun σ H Q => ty σ H fun y H1 => td σ H1 fun x H2 => ∃ (a b : Addr) (kvs : List (NestedKey × Addr × V)) (k : NestedKey), x = .ref a ∧ y = .ref b ∧ H2 a = some (DN P w a kvs) ∧ KN H2 kvs ∧ K2 H2 k b ∧ Q (.bl (atN kvs k).isSome) H2
theorem pc_nin {X : Cx} {i o : Expr} {ty td : TE} (hu : X.A.units + 64 < cLine) (hi : PE X i ty) (ho : PE X o td) : PC X .In i o (tNIn X.prog X.w ty td) := by
  refine ⟨fun pins s σ H Q I h => ?_⟩
  refine thn (hi.run pins s σ H _ I h) fun iv s1 ⟨y, H1, I1, ry, q1⟩ => thn (ho.run pins s1 σ H1 _ I1 q1) fun u s2 ⟨x, H2, I2, rx, a, b, kvs, k, ex, ey, ea, hk, hkey, q2⟩ => ?_
  subst ex ey
  obtain rfl : u = Value.ref a := rx
  obtain rfl : iv = Value.ref b := ry
  obtain ⟨hl, hd, xs, rel, dd⟩ := dn_of I2.hok ea hk
  refine wpAny_in_heap (knd := nestedKind X.prog X.w) (show X.A.in1.units + 8 < cLine by show X.A.units + 1 + 8 < cLine; omega) (hkey.is I2.hok) hd dd ?_
  have e : (atKey xs k).isSome = (atN kvs k).isSome := by
    rw [(atN_rel rel k).isSome_eq, Option.isSome_map]
  rw [e]
  exact ⟨.bl (atN kvs k).isSome, H2, I2.tok _, rfl, q2⟩
/-- d[y] -/
def tNGet (P : Program) (w : World) (td ty : TE) : TE := fun σ H Q => td σ H fun x H1 => ty σ H1 fun y H2 => ∃ (a b : Addr) (kvs : List (NestedKey × Addr × V)) (k : NestedKey) (v : V), x = .ref a ∧ y = .ref b ∧ H2 a = some (DN P w a kvs) ∧ KN H2 kvs ∧ K2 H2 k b ∧ atN kvs k = some v ∧ Q v H2
theorem pe_nget {X : Cx} {o i : Expr} {pos : Pos} {td ty : TE} (hu : X.A.units + 64 < cLine) (ho : PE X o td) (hi : PE X i ty) (hs : NoSl i) : PE X (.Subscript o i pos) (tNGet X.prog X.w td ty) := by
  refine ⟨fun pins s σ H Q I h => ?_⟩
  refine subD_of PySem.F.slot_dict_getitem.lookup hs (thn (ho.run pins s σ H _ I h) fun u s1 ⟨x, H1, I1, rx, q1⟩ => thn (hi.run pins s1 σ H1 _ I1 q1) fun iv s2 ⟨y, H2, I2, ry, a, b, kvs, k, v, ex, ey, ea, hk, hkey, hv, q2⟩ => ?_)
  subst ex ey
  obtain rfl : u = Value.ref a := rx
  obtain rfl : iv = Value.ref b := ry
  obtain ⟨hl, hd, xs, rel, dd⟩ := dn_of I2.hok ea hk
  obtain ⟨w', hw, rw'⟩ := RelO.some_of (v := v) (o := (atKey xs k).map (·.2)) (by rw [← hv]; exact atN_rel rel k)
  obtain ⟨p, hp, hp2⟩ := Option.map_eq_some_iff.mp hw
  refine ⟨dd.typeIs, wpAny_getItem_heap (knd := nestedKind X.prog X.w) (show X.A.in1.units + 8 < cLine by show X.A.units + 1 + 8 < cLine; omega) (hkey.is I2.hok) dd hp ?_⟩
  rw [hp2]
  exact ⟨v, H2, I2.tok _, rw', q2⟩
/-- d[y] = v, y new -/
def sNPut (P : Program) (w : World) (td ty tv : TE) : TS := fun D σ H => tv σ H fun v H1 => td σ H1 fun x H2 => ty σ H2 fun y H3 => ∃ (a b : Addr) (kvs : List (NestedKey × Addr × V)) (k : NestedKey), x = .ref a ∧ y = .ref b ∧ H3 a = some (DN P w a kvs) ∧ KN H3 kvs ∧ K2 H3 k b ∧ atN kvs k = none ∧ kvs.length < sizeLine ∧ D.nx σ (upd H3 a (DN P w a (kvs ++ [(k, b, v)])))
theorem paired_snoc {α β : Type} {R : α → β → Prop} : ∀ {xs : List α} {ys : List β} {x : α} {y : β}, Paired R xs ys → R x y → Paired R (xs ++ [x]) (ys ++ [y])
  | _, _, _, _, .nil, r => .cons r .nil
  | _, _, _, _, .cons h t, r => .cons h (paired_snoc t r)
theorem ps_nput {X : Cx} {o i value : Expr} {pos pos' : Pos} {td ty tv : TE} (hu : X.A.units + 64 < cLine) (ho : PE X o td) (hi : PE X i ty) (hv : PE X value tv) (hs : swapsWith value (some (.Subscript o i pos')) pos.line X.env = pure false) :
    PS X (.Assign [.Subscript o i pos'] value pos) (sNPut X.prog X.w td ty tv) := by
  refine ⟨fun pins s σ H D I h => ?_⟩
  refine wpAny_Assign_Subscript (thn (hv.run pins s σ H _ I h) fun r s1 ⟨v, H1, I1, rv, q1⟩ => thn (ho.run pins s1 σ H1 _ I1 q1) fun u s2 ⟨x, H2, I2, rx, q2⟩ => thn (hi.run pins s2 σ H2 _ I2 q2) fun iv s3 ⟨y, H3, I3, ry, a, b, kvs, k, ex, ey, ea, hk, hkey, hn, hl, q3⟩ => ?_) hs
  subst ex ey
  obtain rfl : u = Value.ref a := rx
  obtain rfl : iv = Value.ref b := ry
  obtain ⟨_, hd, xs, rel, dd⟩ := dn_of I3.hok ea hk
  have len := Paired.length rel
  have hno : atKey xs k = none := by
    have := atN_rel rel k
    rw [hn] at this
    cases e : atKey xs k with
    | none => rfl
    | some p => rw [e] at this; exact (show False from this).elim
  refine wpAny_setItem_heap (knd := nestedKind X.prog X.w) (hsz := by omega) (show X.A.in1.units + 8 < cLine by show X.A.units + 1 + 8 < cLine; omega) (hkey.is I3.hok) dd fun h' dd' hs => ?_
  rw [storedH_new hno] at dd'
  have he : ∃ q, h'.get? a = some q := let ⟨q, _, _, hq, _⟩ := dd'; ⟨q, hq⟩
  exact ⟨σ, _, d_write I3 (by rw [ea]; exact True.intro) hs he (dn_ok (by rw [List.length_append]; show kvs.length + 1 ≤ _; omega) hd (paired_snoc rel ⟨rfl, rfl, rv⟩) dd'), q3⟩
theorem dnewNK {X : Cx} {P : Program} {w : World} {pos : Pos} (h : X.prog = P) (h2 : X.w = w) : PE X (.Dict [] [] pos) (tDNewN P w) := by
  subst h h2
  exact pe_dnewN
theorem pninK {X : Cx} {P : Program} {w : World} {i o : Expr} {ty td : TE} (h : X.prog = P) (h2 : X.w = w) (hu : X.A.units + 64 < cLine) (hi : PE X i ty) (ho : PE X o td) : PC X .In i o (tNIn P w ty td) := by
  subst h h2
  exact pc_nin hu hi ho
theorem ngetK {X : Cx} {P : Program} {w : World} {o i : Expr} {pos : Pos} {td ty : TE} (h : X.prog = P) (h2 : X.w = w) (hu : X.A.units + 64 < cLine) (ho : PE X o td) (hi : PE X i ty) (hs : NoSl i) : PE X (.Subscript o i pos) (tNGet P w td ty) := by
  subst h h2
  exact pe_nget hu ho hi hs
theorem nputK {X : Cx} {P : Program} {w : World} {o i value : Expr} {pos pos' : Pos} {td ty tv : TE} (h : X.prog = P) (h2 : X.w = w) (hu : X.A.units + 64 < cLine) (ho : PE X o td) (hi : PE X i ty) (hv : PE X value tv) (hs : swapsWith value (some (.Subscript o i pos')) pos.line X.env = pure false) :
    PS X (.Assign [.Subscript o i pos'] value pos) (sNPut P w td ty tv) := by
  subst h h2
  exact ps_nput hu ho hi hv hs
/-! a beat -/
theorem num_at {P : Pie} {t : Nat} (h : 1 ≤ P.nums.length) : atI (P.nums.map V.int) ((t : Int) % ((P.nums.map V.int).length : Nat)) = some (.int (P.num t)) := by
  rw [List.length_map]
  have l : t % P.nums.length < P.nums.length := Nat.mod_lt _ (by omega)
  have e : ((t : Int) % (P.nums.length : Int)) = ((t % P.nums.length : Nat) : Int) := rfl
  rw [e]
  refine atI_nat ?_
  rw [List.getElem?_map, List.getElem?_eq_getElem l]
  show some (V.int _) = some (V.int (P.nums.getD (t % P.nums.length) 0))
  rw [getD_of (List.getElem?_eq_getElem l)]
theorem cntL_get {n i : Nat} {f : Nat → Int} (h : i < n) : (cntL n f)[i]? = some (.int (f i)) := by
  unfold cntL
  rw [List.getElem?_map, List.getElem?_map, List.getElem?_range h]
  rfl
theorem cntL_len (n : Nat) (f : Nat → Int) : (cntL n f).length = n := by
  unfold cntL
  rw [List.length_map, List.length_map, List.length_range]
theorem cntL_congr {n : Nat} {f g : Nat → Int} (h : ∀ i, i < n → f i = g i) : cntL n f = cntL n g := by
  unfold cntL
  rw [List.map_congr_left fun i hi => h i (List.mem_range.mp hi)]
theorem cntL_set {n i : Nat} {f : Nat → Int} {x : Int} : (cntL n f).set i (.int x) = cntL n (fun j => if j = i then x else f j) := by
  apply List.ext_getElem?
  intro j
  rw [List.getElem?_set]
  by_cases hj : j < n
  · rw [cntL_get hj, cntL_get hj]
    by_cases e : i = j
    · rw [if_pos e, if_pos (by rw [cntL_len]; omega), if_pos e.symm]
    · rw [if_neg e, if_neg fun z => e z.symm]
  · rw [List.getElem?_eq_none (by rw [cntL_len]; omega), List.getElem?_eq_none (by rw [cntL_len]; omega)]
    by_cases e : i = j
    · rw [if_pos e, if_neg (by rw [cntL_len]; omega)]
    · rw [if_neg e]
theorem holdL_get {Ps : List Pie} {k i : Nat} (h : (holdL Ps)[k]? = some i) : ∃ P, Ps[i]? = some P ∧ P.hold = true := by
  have m := List.mem_of_getElem? h
  obtain ⟨h1, h2⟩ := List.mem_filter.mp m
  have il := List.mem_range.mp h1
  have e : Ps[i]? = some Ps[i] := List.getElem?_eq_getElem il
  rw [getD_of e] at h2
  exact ⟨_, e, h2⟩
theorem holdL_new {Ps : List Pie} {k i : Nat} (h : (holdL Ps)[k]? = some i) : i ∉ (holdL Ps).take k := fun m => by
  have nd : (holdL Ps).Nodup := (List.nodup_range).filter _
  obtain ⟨j, hj⟩ := List.getElem?_of_mem m
  have hj2 := (List.getElem?_eq_some_iff.mp hj).1
  rw [List.length_take] at hj2
  rw [List.getElem?_take_of_lt (by omega)] at hj
  have kl := (List.getElem?_eq_some_iff.mp h)
  have jl := (List.getElem?_eq_some_iff.mp hj)
  obtain ⟨kl, ke⟩ := kl
  obtain ⟨jl, je⟩ := jl
  exact List.pairwise_iff_getElem.mp nd j k jl kl (by omega) (je.trans ke.symm)
theorem holdL_mem {Ps : List Pie} {i : Nat} {P : Pie} (e : Ps[i]? = some P) : i ∈ holdL Ps ↔ P.hold = true := by
  unfold holdL
  rw [List.mem_filter, List.mem_range, getD_of e]
  exact ⟨fun h => h.2, fun h => ⟨(List.getElem?_eq_some_iff.mp e).1, h⟩⟩
theorem next_none {P : Pie} {h : Hd} {o : Int} {as : List Int} (n : P.hold = false) : P.next h o as = h := by
  cases P <;> first | rfl | cases n
theorem asks3 (P : Pie) : P.asks.length ≤ 3 := by
  cases P <;> first | exact (by decide : 0 ≤ 3) | exact (by decide : 1 ≤ 3) | exact (by decide : 2 ≤ 3) | exact (by decide : 3 ≤ 3)
def Frm (M ha ca : Addr) (H H' : Hp) : Prop := ∀ a o, a ≠ M → a ≠ ha → a ≠ ca → H a = some o → H' a = some o
def sp_Machine_beat {K : PySem.W.Frag} {mg : Str → Option Value} (T : Defs K mg) : Sp := fun vs H Q _ => ∃ (x : Addr) (A : MA) (H0 : Hp) (Ps : List Pie) (f : Nat → Int) (t : Nat), vs = [.ref x] ∧ MaAt T.C_Machine H0 H x A Ps f t (fun i => (sta Ps t).getD i .non) ∧ PsOk Ps.length Ps ∧ Ps.length ≤ 24 ∧
  ∀ H' p, MaAt T.C_Machine H0 H' x A Ps (fun i => f i + (bts Ps t).getD i 0) ((t + 1 : Nat)) (fun i => (sta Ps (t + 1)).getD i .non) → Frm x A.ha A.ca H H' → H p = none → H' p = some (.tup ((bts Ps t).map V.int)) → Q (.ref p) H'
theorem ok_Machine_beat (T : Defs K mg) : FnOk P w K mg base CX0 3 T.f_Machine_beat T.fd_Machine_beat ["self"] (sp_Machine_beat T) := by
  have G_bit_of : FnOk P w K mg base CX0 1 T.f_bit_of T.fd_bit_of ["piece", "number", "held", "asked"] (sp_bit_of K) := ok_bit_of T
  have G_bits_asked : FnOk P w K mg base CX0 1 T.f_bits_asked T.fd_bits_asked ["asks", "bits"] (sp_bits_asked K) := ok_bits_asked T
  have G_held_behind : FnOk P w K mg base CX0 2 T.f_held_behind T.fd_held_behind ["piece", "held", "own", "asked"] (sp_held_behind K) := ok_held_behind T
  refine T.F_Machine_beat.ok sc_Machine_beat (fun vs H Q E h => ?_) (fun cdv A outer s H vs Q E hr h => ?_)
  · obtain ⟨x, A, H0, Ps, f, t, rfl, ma, ok, n24, q⟩ := h
    rfl
  · obtain ⟨x, A, H0, Ps, f, t, rfl, ma, ok, n24, q⟩ := h
    refine ⟨_, PSs.nox (pss_cons (ps_set (i := 1) sc_Machine_beat.nd rfl (.inl rfl) pe_dnewK)
    (pss_cons ((ps_for PassesOwn.never rfl (pi_enumT (by rfl) T.m_enumerate (pa_cons (pe_fld (pv 0) rfl) pa_nil)) (pg_tup rfl (pgs_cons (pg_name (i := 2) sc_Machine_beat.nd rfl (.inl rfl)) (pgs_cons (pg_name (i := 3) sc_Machine_beat.nd rfl (.inl rfl)) pgs_nil))) (pss_cons (ps_set (i := 4) sc_Machine_beat.nd rfl (.inl rfl) (pe_ix ix_list (pe_ix ix_list (pe_fld (pv 0) rfl) (pv 2) (fun _ _ => rfl)) (pe_op op_mod (pe_fld (pv 0) rfl) (pe_callB call_len_seq (by rfl) T.m_len bt_len (pa_cons (pe_ix ix_list (pe_fld (pv 0) rfl) (pv 2) (fun _ _ => rfl)) pa_nil))) (fun _ _ => rfl)))
    (pss_cons (ps_asg (pe_call G_bit_of (hr.mono (by decide)) (by rfl) T.g_bit_of T.F_bit_of.kp T.b_bit_of .nil pass0 (pa_cons (pv 3) (pa_cons (pv 4) (pa_cons (pe_ix ix_list (pe_fld (pv 0) rfl) (pv 2) (fun _ _ => rfl)) (pa_cons (pe_call G_bits_asked (hr.mono (by decide)) (by rfl) T.g_bits_asked T.F_bits_asked.kp T.b_bits_asked .nil pass0 (pa_cons (pe_ix ix_list (pe_fld (pv 0) rfl) (pv 2) (fun _ _ => rfl)) (pa_cons (pv 1) pa_nil))) pa_nil))))) (pg_sub (pv 1) (pv 2) (set_dict (u1 hr))))
    (pss_one (ps_augS (pe_fld (pv 0) rfl) (pv 2) get_list (pe_dget (u1 hr) (pv 1) (pv 2) (fun _ _ => rfl)) ip_add set_list))))))
    (pss_cons ((ps_for PassesOwn.never rfl (pi_list (pe_fld (pv 0) rfl)) (pg_name (i := 2) sc_Machine_beat.nd rfl (.inl rfl)) (pss_cons (ps_set (i := 5) sc_Machine_beat.nd rfl (.inl rfl) (pe_call G_bits_asked (hr.mono (by decide)) (by rfl) T.g_bits_asked T.F_bits_asked.kp T.b_bits_asked .nil pass0 (pa_cons (pe_ix ix_list (pe_fld (pv 0) rfl) (pv 2) (fun _ _ => rfl)) (pa_cons (pv 1) pa_nil))))
    (pss_one (ps_asg (pe_call G_held_behind (hr.mono (by decide)) (by rfl) T.g_held_behind T.F_held_behind.kp T.b_held_behind .nil pass0 (pa_cons (pe_ix ix_tup (pe_fld (pv 0) rfl) (pv 2) (fun _ _ => rfl)) (pa_cons (pe_ix ix_list (pe_fld (pv 0) rfl) (pv 2) (fun _ _ => rfl)) (pa_cons (pe_dget (u1 hr) (pv 1) (pv 2) (fun _ _ => rfl)) (pa_cons (pv 5) pa_nil))))) (pg_sub (pe_fld (pv 0) rfl) (pv 2) set_list))))))
    (pss_cons (ps_fldaug (pv 0) pe_int in_add)
    (pss_one (ps_ret (pe_tupVals rfl (by rfl) T.m_tuple (pv 1)))))))), ?_⟩
    have hsl : sizeLine = 16777216 := by decide
    obtain ⟨xs, hxs, hps⟩ := ma.pcs
    obtain ⟨as_, has, hask⟩ := ma.ask
    obtain ⟨ns, hns, hnum⟩ := ma.num
    obtain ⟨vs, hvs, lvs, hheld⟩ := ma.held
    obtain ⟨fs, hfs⟩ := ma.insn
    obtain ⟨n1, n2, n3, n4, n5, n6⟩ := ma.ne
    have ll := hps.len
    have hst := sta_ok ok t
    have hbt := fun i (hi : i ≤ Ps.length) => bup_bits (t := t) ok hst i hi
    have isx : ∀ a xs, A.Hn a = some (.tup xs) → a ≠ x := fun a xs e => ne_of e hfs (fun z => by cases z)
    have isl : ∀ a xs, A.Hn a = some (.lst xs) → a ≠ x := fun a xs e => ne_of e hfs (fun z => by cases z)
    intro d nd
    have s1 := same_upd nd (o := .dK [])
    have hd1 := upd_same (H := H) (a := d) (o := .dK [])
    have dx' : ∀ (a : Addr) (o : HO), H a = some o → a ≠ d := fun a o e => ne_of_none e nd
    have dca : A.ca ≠ d := dx' _ _ ma.cnt
    generalize upd H d (.dK []) = H1 at s1 hd1 ⊢
    -- what stays in the first loop
    have st : ∀ G : Hp, (∀ (a : Addr) (o : HO), a ≠ d → a ≠ A.ca → H1 a = some o → G a = some o) → (∀ (a : Addr) (o : HO), a ≠ x → A.Hn a = some o → G a = some o) ∧ G x = some (.ins T.C_Machine A.dx (mfl A t)) ∧ G A.ha = some (.lst vs) ∧ G A.hg = some (.lst ((holdL Ps).map fun (i : Nat) => V.int i)) := fun G fr =>
      ⟨fun a o ax e => fr _ _ (dx' _ _ (ma.kp a o ax e)) (ne_of_none e ma.can) (s1 _ _ (ma.kp a o ax e)), fr _ _ (dx' _ _ ma.ins) n6.symm (s1 _ _ ma.ins), fr _ _ (dx' _ _ hvs) n1 (s1 _ _ hvs), fr _ _ (dx' _ _ ma.hold) n3 (s1 _ _ ma.hold)⟩
    have fr0 : ∀ (a : Addr) (o : HO), a ≠ d → a ≠ A.ca → H1 a = some o → H1 a = some o := fun _ _ _ _ e => e
    refine ⟨_, rfl, x, _, A.dx, _, _, rfl, (st H1 fr0).2.1, T.cl_Machine, T.na_Machine_pieces, ml_pieces A t, A.pa, _, rfl, SqT.mk ((st H1 fr0).1 _ _ (isx _ _ hxs) hxs), for_it (walk_enumT (K := K) (a := A.pa) (xs := xs)) (fun i σ G => ∃ y2 y3 y4, σ = [some (.ref x), some (.ref d), y2, y3, y4, none] ∧ (∀ a o, a ≠ d → a ≠ A.ca → H1 a = some o → G a = some o) ∧ G d = some (.dK (dkv 0 (bup Ps t (sta Ps t) i))) ∧ G A.ca = some (.lst (cntL Ps.length fun j => if j < i then f j + (bts Ps t).getD j 0 else f j))) ⟨none, none, none, rfl, fr0, hd1, ?_⟩ ?_ ?_ ?_⟩
    · rw [s1 _ _ ma.cnt]
      exact congrArg (fun z => some (HO.lst z)) (cntL_congr fun i _ => (if_neg (Nat.not_lt_zero i)).symm)
    · rintro i σ G _ ⟨_, _, _, _, fr, _⟩
      exact SqT.mk ((st G fr).1 _ _ (isx _ _ hxs) hxs)
    · rintro i v σ G G' hi ⟨y2, y3, y4, rfl, fr, hd, hc⟩ ⟨T', x1, x2, rfl, nT, rfl, e1, e2⟩
      have e1 : some (V.int (i : Nat)) = some x1 := e1
      cases e1
      obtain ⟨P, hP, hpv⟩ := hps.ok_get e2
      have il := (List.getElem?_eq_some_iff.mp hP).1
      have okP := ok i P hP
      refine ⟨T', _, rfl, SqT.mk upd_same, rfl, _, _, rfl, _, _, rfl, rfl, ?_⟩
      have s2 := same_upd nT (o := .tup [.int (i : Nat), x2])
      generalize upd G T' (.tup [.int (i : Nat), x2]) = G2 at s2 ⊢
      have fr2 : ∀ a o, a ≠ d → a ≠ A.ca → H1 a = some o → G2 a = some o := fun a o h1 h2 e => s2 _ _ (fr a o h1 h2 e)
      have hd2 := s2 _ _ hd
      have hc2 := s2 _ _ hc
      clear fr hd hc s2 nT
      obtain ⟨kp2, hM2, hvs2, _⟩ := st G2 fr2
      obtain ⟨qn, hq1, hq2⟩ := hnum i P hP
      obtain ⟨qa, ha1, ha2⟩ := hask i P hP
      obtain ⟨hv, hv1, hv2⟩ := hheld i il
      have nl := Pie.nums_len okP
      have hq2' := kp2 _ _ (isl _ _ hq2) hq2
      have ha2' := kp2 _ _ (isx _ _ ha2) ha2
      have hns2 := kp2 _ _ (isl _ _ hns) hns
      have has2 := kp2 _ _ (isl _ _ has) has
      have hpv2 : PieAt G2 P x2 := hpv.keep fun a ys e => kp2 _ _ (isx _ _ e) e
      have hv2' : ((sta Ps t).getD i .non).At G2 hv := hv2.keep fun a ys e => fr2 _ _ (dx' _ _ e) (ne_of e ma.cnt (fun z => by cases z)) (s1 _ _ e)
      refine ⟨_, rfl, x, _, A.dx, _, _, rfl, hM2, T.cl_Machine, T.na_Machine_numbers, ml_numbers A t, _, rfl, A.na, _, _, _, rfl, rfl, SqL.mk hns2, atI_nat hq1, ?_⟩
      refine ⟨_, rfl, x, _, A.dx, _, _, rfl, hM2, T.cl_Machine, T.na_Machine_beats, ml_beats A t, _, rfl, x, _, A.dx, _, _, rfl, hM2, T.cl_Machine, T.na_Machine_numbers, ml_numbers A t, _, rfl, A.na, _, _, _, rfl, rfl, SqL.mk hns2, atI_nat hq1, qn, _, rfl, .inl (SqL.mk hq2'), _, _, rfl, rfl, ?_, qn, _, _, _, rfl, rfl, SqL.mk hq2', num_at nl.1, ?_⟩
      · show (0 : Int) < ((P.nums.map V.int).length : Nat)
        rw [List.length_map]
        omega
      refine ⟨_, rfl, _, rfl, _, rfl, x, _, A.dx, _, _, rfl, hM2, T.cl_Machine, T.na_Machine_held, ml_held A t, _, rfl, A.ha, _, _, _, rfl, rfl, SqL.mk hvs2, atI_nat hv1, ?_⟩
      refine ⟨_, rfl, x, _, A.dx, _, _, rfl, hM2, T.cl_Machine, T.na_Machine_asks, ml_asks A t, _, rfl, A.aa, _, _, _, rfl, rfl, SqL.mk has2, atI_nat ha1, _, rfl, qa, d, P.asks, bup Ps t (sta Ps t) i, rfl, ha2', hd2, asks3 P, fun G3 l s3 nl3 hl3 => ?_⟩
      refine ⟨P, x2, hv, P.num t, (sta Ps t).getD i .non, l, asked P (bup Ps t (sta Ps t) i), i, Ps.length, rfl, hpv2.same s3, okP, hst i P hP, hv2'.same s3, hl3, List.length_map _, asked_bits (hbt i (by omega)), fun G4 s4 => ?_⟩
      have s24 := s3.trans s4
      have hd4 := s24 _ _ hd2
      have hc4 := s24 _ _ hc2
      refine ⟨_, rfl, _, rfl, d, _, rfl, DPut.k (k := .inl (i : Int)) hd4 (by rw [dkv_len, bup_len]; omega), ?_⟩
      have eb : P.bit (P.num t) ((sta Ps t).getD i .non) (asked P (bup Ps t (sta Ps t) i)) = (bts Ps t).getD i 0 := (bts_own hP).symm
      have ed : putK (dkv 0 (bup Ps t (sta Ps t) i)) (.inl (i : Int)) (.int (P.bit (P.num t) ((sta Ps t).getD i .non) (asked P (bup Ps t (sta Ps t) i)))) = dkv 0 (bup Ps t (sta Ps t) (i + 1)) := by
        have := dkv_put (bup Ps t (sta Ps t) i) (P.bit (P.num t) ((sta Ps t).getD i .non) (asked P (bup Ps t (sta Ps t) i)))
        rw [bup_len] at this
        rw [this]
        show _ = dkv 0 (bup Ps t (sta Ps t) i ++ [_])
        rw [getD_of hP]
      rw [ed]
      have hd5 := upd_same (H := G4) (a := d) (o := .dK (dkv 0 (bup Ps t (sta Ps t) (i + 1))))
      have hc5 : (upd G4 d (.dK (dkv 0 (bup Ps t (sta Ps t) (i + 1))))) A.ca = _ := (upd_ne dca).trans hc4
      have fr5 : ∀ a o, a ≠ d → a ≠ A.ca → H1 a = some o → (upd G4 d (.dK (dkv 0 (bup Ps t (sta Ps t) (i + 1))))) a = some o := fun a o h1 h2 e => (upd_ne h1).trans (s24 _ _ (fr2 a o h1 h2 e))
      generalize upd G4 d (.dK (dkv 0 (bup Ps t (sta Ps t) (i + 1)))) = G5 at hd5 hc5 fr5 ⊢
      have hM5 := (st G5 fr5).2.1
      have gb : (bup Ps t (sta Ps t) (i + 1)).getD i 0 = (bts Ps t).getD i 0 := (bup_get (Ps := Ps) (t := t) (hs := sta Ps t) (a := i) (i := i + 1) (by omega) Ps.length (by omega)).symm
      refine ⟨_, rfl, x, _, A.dx, _, _, rfl, hM5, T.cl_Machine, T.na_Machine_counts, ml_counts A t, _, rfl, A.ca, _, _, _, rfl, rfl, SqL.mk hc5, atI_nat (cntL_get il), _, rfl, _, rfl, d, _, rfl, (dkv_at (bs := bup Ps t (sta Ps t) (i + 1)) (a := i) (by rw [bup_len]; omega)) ▸ DGet.k (k := .inl (i : Int)) hd5, ?_⟩
      rw [gb]
      refine ⟨_, _, rfl, rfl, A.ca, _, _, i, rfl, rfl, hc5, ix_at (by rw [cntL_len]; exact il), ?_⟩
      refine ⟨_, _, _, rfl, fun a o h1 h2 e => (upd_ne h2).trans (fr5 a o h1 h2 e), (upd_ne dca.symm).trans hd5, ?_⟩
      rw [upd_same, cntL_set]
      refine congrArg (fun z => some (HO.lst z)) (cntL_congr fun j _ => ?_)
      by_cases e : j = i
      · subst e
        rw [if_pos rfl, if_neg (Nat.lt_irrefl j), if_pos (Nat.lt_succ_self j)]
      · rw [if_neg e]
        by_cases e2 : j < i
        · rw [if_pos e2, if_pos (by omega)]
        · rw [if_neg e2, if_neg (by omega)]
    rintro σ G ⟨y2, y3, y4, rfl, fr, hd, hc⟩
    have hc : G A.ca = some (.lst (cntL Ps.length fun j => f j + (bts Ps t).getD j 0)) := by
      rw [hc]
      exact congrArg (fun z => some (HO.lst z)) (cntL_congr fun j hj => if_pos (by omega))
    rw [ll] at hd
    have hd : G d = some (.dK (dkv 0 (bts Ps t))) := hd
    obtain ⟨kpG, hMG, hvsG, hhgG⟩ := st G fr
    have bb : Bits (bts Ps t) := bts_bits ok t
    have dha : A.ha ≠ d := dx' _ _ hvs
    -- what is held behind
    have st2 : ∀ F : Hp, (∀ (a : Addr) (o : HO), a ≠ A.ha → G a = some o → F a = some o) → (∀ (a : Addr) (o : HO), a ≠ x → A.Hn a = some o → F a = some o) ∧ F x = some (.ins T.C_Machine A.dx (mfl A t)) ∧ F A.hg = some (.lst ((holdL Ps).map fun (i : Nat) => V.int i)) ∧ F d = some (.dK (dkv 0 (bts Ps t))) ∧ F A.ca = some (.lst (cntL Ps.length fun j => f j + (bts Ps t).getD j 0)) := fun F fr =>
      ⟨fun a o ax e => fr _ _ (ne_of_none e ma.hdn) (kpG a o ax e), fr _ _ n4.symm hMG, fr _ _ n2.symm hhgG, fr _ _ dha.symm hd, fr _ _ n1.symm hc⟩
    have fz : ∀ (a : Addr) (o : HO), a ≠ A.ha → G a = some o → G a = some o := fun _ _ _ e => e
    refine ⟨_, rfl, x, _, A.dx, _, _, rfl, hMG, T.cl_Machine, T.na_Machine_holding, ml_holding A t, A.hg, rfl, ⟨_, SqL.mk hhgG⟩, for_list (xs := (holdL Ps).map fun (i : Nat) => V.int i) (fun k σ F => ∃ y2 y5, σ = [some (.ref x), some (.ref d), y2, y3, y4, y5] ∧ (∀ (a : Addr) (o : HO), a ≠ A.ha → G a = some o → F a = some o) ∧ ∃ vs', F A.ha = some (.lst vs') ∧ HeldL F Ps.length vs' (fun i => if i ∈ (holdL Ps).take k then (sta Ps (t + 1)).getD i .non else (sta Ps t).getD i .non)) ⟨_, _, rfl, fz, vs, hvsG, lvs, fun i hi => ?_⟩ ?_ ?_ ?_⟩
    · obtain ⟨v, h1, h2⟩ := hheld i hi
      refine ⟨v, h1, ?_⟩
      show (if i ∈ (holdL Ps).take 0 then (sta Ps (t + 1)).getD i .non else (sta Ps t).getD i Hd.non).At G v
      rw [if_neg (by simp)]
      exact h2.keep fun a ys e => fr _ _ (dx' _ _ e) (ne_of e ma.cnt (fun z => by cases z)) (s1 _ _ e)
    · rintro k σ F _ ⟨_, _, _, fF, _⟩
      exact SqL.mk (st2 F fF).2.2.1
    · rintro k v σ F hk ⟨y2, y5, rfl, fF, vs', hvF, lvF, heldF⟩
      rw [List.getElem?_map] at hk
      obtain ⟨i, hki, rfl⟩ := Option.map_eq_some_iff.mp hk
      obtain ⟨P, hP, hold⟩ := holdL_get hki
      have il := (List.getElem?_eq_some_iff.mp hP).1
      have okP := ok i P hP
      have nin := holdL_new hki
      obtain ⟨kpF, hMF, hhgF, hdF, hcF⟩ := st2 F fF
      obtain ⟨qa, ha1, ha2⟩ := hask i P hP
      obtain ⟨x2, hx2, hpv⟩ := hps.get hP
      obtain ⟨hv, hv1, hv2⟩ := heldF i il
      have hv2 : (if i ∈ (holdL Ps).take k then (sta Ps (t + 1)).getD i .non else (sta Ps t).getD i Hd.non).At F hv := hv2
      rw [if_neg nin] at hv2
      have ha2' := kpF _ _ (isx _ _ ha2) ha2
      have hasF := kpF _ _ (isl _ _ has) has
      have hpvF : PieAt F P x2 := hpv.keep fun a ys e => kpF _ _ (isx _ _ e) e
      have hxsF := kpF _ _ (isx _ _ hxs) hxs
      refine ⟨_, rfl, x, _, A.dx, _, _, rfl, hMF, T.cl_Machine, T.na_Machine_asks, ml_asks A t, _, rfl, A.aa, _, _, _, rfl, rfl, SqL.mk hasF, atI_nat ha1, _, rfl, qa, d, P.asks, bts Ps t, rfl, ha2', hdF, asks3 P, fun F2 l s2 nl2 hl2 => ?_⟩
      have fF2 : ∀ (a : Addr) (o : HO), a ≠ A.ha → G a = some o → F2 a = some o := fun a o h1 e => s2 _ _ (fF a o h1 e)
      obtain ⟨kpF2, hMF2, hhgF2, hdF2, hcF2⟩ := st2 F2 fF2
      have hvF2 := s2 _ _ hvF
      refine ⟨_, rfl, x, _, A.dx, _, _, rfl, hMF2, T.cl_Machine, T.na_Machine_pieces, ml_pieces A t, _, rfl, A.pa, _, _, _, rfl, rfl, SqT.mk (s2 _ _ hxsF), atI_nat hx2, ?_⟩
      refine ⟨_, rfl, x, _, A.dx, _, _, rfl, hMF2, T.cl_Machine, T.na_Machine_held, ml_held A t, _, rfl, A.ha, _, _, _, rfl, rfl, SqL.mk hvF2, atI_nat hv1, ?_⟩
      refine ⟨_, rfl, _, rfl, d, _, rfl, (dkv_at (bs := bts Ps t) (a := i) (by rw [bts_len]; exact il)) ▸ DGet.k (k := .inl (i : Int)) hdF2, _, rfl, ?_⟩
      refine ⟨P, x2, hv, (bts Ps t).getD i 0, (sta Ps t).getD i .non, l, asked P (bts Ps t), i, Ps.length, rfl, hold, hpvF.same s2, okP, hst i P hP, hv2.same s2, hl2, List.length_map _, asked_bits bb, fun F3 v' s3 hv' => ?_⟩
      rw [← sta_succ hP] at hv'
      have fF3 : ∀ (a : Addr) (o : HO), a ≠ A.ha → G a = some o → F3 a = some o := fun a o h1 e => s3 _ _ (fF2 a o h1 e)
      obtain ⟨kpF3, hMF3, hhgF3, hdF3, hcF3⟩ := st2 F3 fF3
      have hvF3 := s3 _ _ hvF2
      refine ⟨_, rfl, x, _, A.dx, _, _, rfl, hMF3, T.cl_Machine, T.na_Machine_held, ml_held A t, _, rfl, A.ha, _, _, i, rfl, rfl, hvF3, ix_at (by rw [lvF]; exact il), ?_⟩
      have up : ∀ (u : V) (h : Hd), h.At F3 u → ∀ o, h.At (upd F3 A.ha (.lst o)) u := fun u h z o => z.keep fun a ys e => by
        rw [upd_ne (ne_of e hvF3 (fun z => by cases z))]
        exact e
      refine ⟨_, _, rfl, fun a o h1 e => (upd_ne h1).trans (fF3 a o h1 e), vs'.set i v', upd_same, by rw [List.length_set]; exact lvF, fun j hj => ?_⟩
      have tk : (holdL Ps).take (k + 1) = (holdL Ps).take k ++ [i] := by
        rw [List.take_add_one, hki]
        rfl
      by_cases e : j = i
      · subst e
        refine ⟨v', by rw [List.getElem?_set_self (by omega)], ?_⟩
        show (if j ∈ (holdL Ps).take (k + 1) then (sta Ps (t + 1)).getD j .non else (sta Ps t).getD j Hd.non).At _ v'
        rw [if_pos (by rw [tk]; simp)]
        exact up _ _ hv' _
      · obtain ⟨u, h1, h2⟩ := heldF j hj
        refine ⟨u, by rw [List.getElem?_set_ne (fun z => e z.symm)]; exact h1, ?_⟩
        have h2 : (if j ∈ (holdL Ps).take k then (sta Ps (t + 1)).getD j .non else (sta Ps t).getD j Hd.non).At F u := h2
        show (if j ∈ (holdL Ps).take (k + 1) then (sta Ps (t + 1)).getD j .non else (sta Ps t).getD j Hd.non).At _ u
        have em : (j ∈ (holdL Ps).take (k + 1)) = (j ∈ (holdL Ps).take k) := propext (by rw [tk, List.mem_append, List.mem_singleton]; exact ⟨fun z => z.resolve_right e, .inl⟩)
        simp only [em]
        exact up _ _ ((h2.same s2).same s3) _
    rintro σ F ⟨y2, y5, rfl, fF, vs', hvF, lvF, heldF⟩
    obtain ⟨kpF, hMF, hhgF, hdF, hcF⟩ := st2 F fF
    refine ⟨_, rfl, x, _, A.dx, _, _, rfl, hMF, T.cl_Machine, T.na_Machine_beats, ml_beats A t, _, _, rfl, rfl, A.dx, _, hMF, ml_len A t, ?_⟩
    rw [mp_beats, show (t : Int) + 1 = ((t + 1 : Nat) : Int) by omega]
    have hM9 := upd_same (H := F) (a := x) (o := .ins T.C_Machine A.dx (mfl A ((t + 1 : Nat) : Int)))
    have b9 : But x F (upd F x (.ins T.C_Machine A.dx (mfl A ((t + 1 : Nat) : Int)))) := but_upd
    have dx9 : d ≠ x := (dx' _ _ ma.ins).symm
    generalize upd F x (.ins T.C_Machine A.dx (mfl A ((t + 1 : Nat) : Int))) = F9 at hM9 b9 ⊢
    refine ⟨_, rfl, d, _, rfl, b9 _ _ dx9 hdF, by rw [dkv_len, bts_len]; omega, fun p np => ?_⟩
    rw [dkv_vals]
    have sp := same_upd np (o := .tup ((bts Ps t).map V.int))
    have frm : Frm x A.ha A.ca H (upd F9 p (.tup ((bts Ps t).map V.int))) := fun a o h1 h2 h3 e => sp _ _ (b9 _ _ h1 (fF _ _ h2 (fr _ _ (dx' _ _ e) h3 (s1 _ _ e))))
    have px : p ≠ x := (ne_of_none hM9 np).symm
    have pha : p ≠ A.ha := (ne_of_none (b9 _ _ n4 hvF) np).symm
    have pca : p ≠ A.ca := (ne_of_none (b9 _ _ n6 hcF) np).symm
    have npH : H p = none := by
      cases e : H p with
      | none => rfl
      | some o =>
        have := b9 _ _ px (fF _ _ pha (fr _ _ (dx' _ _ e) pca (s1 _ _ e)))
        rw [np] at this
        cases this
    refine q _ p ⟨sp _ _ hM9, ma.h0, ma.insn, fun a o ax e => sp _ _ (b9 _ _ ax (kpF a o ax e)), ⟨xs, hxs, hps⟩, ⟨as_, has, hask⟩, ⟨ns, hns, hnum⟩, ma.hdn, ma.hgn, ma.can, ma.ne, ⟨vs', sp _ _ (b9 _ _ n4 hvF), lvF, fun i hi => ?_⟩, sp _ _ (b9 _ _ n5 hhgF), sp _ _ (b9 _ _ n6 hcF), ma.cme⟩ frm npH upd_same
    obtain ⟨u, h1, h2⟩ := heldF i hi
    refine ⟨u, h1, ?_⟩
    have eP : Ps[i]? = some Ps[i] := List.getElem?_eq_getElem hi
    have e : (if i ∈ (holdL Ps).take ((holdL Ps).map fun (i : Nat) => V.int i).length then (sta Ps (t + 1)).getD i .non else (sta Ps t).getD i Hd.non) = (sta Ps (t + 1)).getD i Hd.non := by
      rw [List.length_map, List.take_length]
      by_cases hh : Ps[i].hold = true
      · rw [if_pos ((holdL_mem eP).mpr hh)]
      · rw [if_neg (fun z => hh ((holdL_mem eP).mp z)), sta_succ eP, next_none (by simpa using hh)]
    have h2 : (if i ∈ (holdL Ps).take ((holdL Ps).map fun (i : Nat) => V.int i).length then (sta Ps (t + 1)).getD i .non else (sta Ps t).getD i Hd.non).At F u := h2
    rw [e] at h2
    exact h2.keep fun a ys z => sp _ _ (b9 _ _ (ne_of z hMF (fun z => by cases z)) z)
/-! a machine until it goes round -/
theorem MaAt.bas {C : Addr} {H0 H : Hp} {M : Addr} {A : MA} {Ps : List Pie} {f : Nat → Int} {t : Nat} {hs : Nat → Hd} (ma : MaAt C H0 H M A Ps f t hs) : But M H0 H := fun a o n e => ma.kp a o n (ma.h0 a o n e)
theorem MaAt.to {C : Addr} {H0 H H' : Hp} {M D : Addr} {A : MA} {Ps : List Pie} {f : Nat → Int} {t : Nat} {hs : Nat → Hd} {oD : HO} (ma : MaAt C H0 H M A Ps f t hs) (s : ∀ (a : Addr) (o : HO), a ≠ D → H a = some o → H' a = some o) (hD : H D = some oD) (nt : ∀ xs, HO.tup xs ≠ oD) (ni : ∀ c x fs, HO.ins c x fs ≠ oD) (nD : A.Hn D = none) (ne : D ≠ A.ha ∧ D ≠ A.hg ∧ D ≠ A.ca) : MaAt C H0 H' M A Ps f t hs := by
  have nM : M ≠ D := ne_of ma.ins hD (ni _ _ _)
  obtain ⟨vs, h1, h2, h3⟩ := ma.held
  refine ⟨s _ _ nM ma.ins, ma.h0, ma.insn, fun a o ax e => s _ _ (ne_of_none e nD) (ma.kp a o ax e), ma.pcs, ma.ask, ma.num, ma.hdn, ma.hgn, ma.can, ma.ne, ⟨vs, s _ _ ne.1.symm h1, h2, fun i hi => ?_⟩, s _ _ ne.2.1.symm ma.hold, s _ _ ne.2.2.symm ma.cnt, ma.cme⟩
  obtain ⟨v, g1, g2⟩ := h3 i hi
  exact ⟨v, g1, g2.keep fun a xs e => s _ _ (ne_of e hD (nt _)) e⟩
theorem MaAt.same {C : Addr} {H0 H H' : Hp} {M : Addr} {A : MA} {Ps : List Pie} {f : Nat → Int} {t : Nat} {hs : Nat → Hd} (ma : MaAt C H0 H M A Ps f t hs) (s : Same H H') : MaAt C H0 H' M A Ps f t hs := by
  obtain ⟨vs, h1, h2, h3⟩ := ma.held
  refine ⟨s _ _ ma.ins, ma.h0, ma.insn, fun a o ax e => s _ _ (ma.kp a o ax e), ma.pcs, ma.ask, ma.num, ma.hdn, ma.hgn, ma.can, ma.ne, ⟨vs, s _ _ h1, h2, fun i hi => ?_⟩, s _ _ ma.hold, s _ _ ma.cnt, ma.cme⟩
  obtain ⟨v, g1, g2⟩ := h3 i hi
  exact ⟨v, g1, g2.same s⟩
def Hd.key : Hd → NestedKey
  | .non => .none
  | .bit b => .num b
  | .ah bs => .tup (bs.map .num)
  | .num i => .num i
/-- what it holds ahead of beat t -/
noncomputable def skey (Ps : List Pie) (t : Nat) : NestedKey := .tup (.num ((t % cmL Ps : Nat) : Int) :: (sta Ps t).map Hd.key)
theorem Hd.At.k1 {H : Hp} {h : Hd} {v : V} (x : h.At H v) : K1 H h.key v := by
  cases h with
  | non => exact .inl ⟨rfl, x⟩
  | bit b => exact .inr (.inl ⟨b, rfl, x⟩)
  | ah bs =>
    obtain ⟨t, e, k⟩ := x
    exact .inr (.inr ⟨t, bs, rfl, e, k⟩)
  | num i => exact .inr (.inl ⟨i, rfl, x⟩)
theorem paired_of {α β : Type} {R : α → β → Prop} : ∀ {xs : List α} {ys : List β}, xs.length = ys.length → (∀ (i : Nat) (x : α) (y : β), xs[i]? = some x → ys[i]? = some y → R x y) → Paired R xs ys
  | [], [], _, _ => .nil
  | [], _ :: _, h, _ => by cases h
  | _ :: _, [], h, _ => by cases h
  | x :: xs, y :: ys, h, f => .cons (f 0 x y rfl rfl) (paired_of (by simpa using h) fun i a b e1 e2 => f (i + 1) a b (by simpa using e1) (by simpa using e2))
theorem lcmF_pos : ∀ {ns : List Nat}, (∀ n, n ∈ ns → 1 ≤ n) → 1 ≤ lcmF ns := by
  intro ns h
  unfold lcmF
  have : ∀ (ns : List Nat) (c : Nat), 1 ≤ c → (∀ n, n ∈ ns → 1 ≤ n) → 1 ≤ ns.foldl (fun c n => c * n / Nat.gcd c n) c := by
    intro ns
    induction ns with
    | nil => intro c hc _; exact hc
    | cons n ns ih =>
      intro c hc h
      exact ih _ (Nat.lcm_pos hc (h n List.mem_cons_self)) fun m hm => h m (List.mem_cons_of_mem _ hm)
  exact this ns 1 (Nat.le_refl 1) h
theorem cmL_pos {Ps : List Pie} {n : Nat} (ok : PsOk n Ps) : 1 ≤ cmL Ps := lcmF_pos fun m hm => by
  obtain ⟨P, hP, rfl⟩ := List.mem_map.mp hm
  obtain ⟨j, hj⟩ := List.getElem?_of_mem hP
  exact (Pie.nums_len (ok j P hj)).1
def sp_Machine_held_now {K : PySem.W.Frag} {mg : Str → Option Value} (T : Defs K mg) : Sp := fun vs H Q _ => ∃ (x : Addr) (A : MA) (H0 : Hp) (Ps : List Pie) (f : Nat → Int) (t : Nat), vs = [.ref x] ∧ MaAt T.C_Machine H0 H x A Ps f t (fun i => (sta Ps t).getD i .non) ∧ PsOk Ps.length Ps ∧ Ps.length ≤ 24 ∧
  ∀ H' p, Same H H' → H p = none → K2 H' (skey Ps t) p → Q (.ref p) H'
theorem ok_Machine_held_now (T : Defs K mg) : FnOk P w K mg base CX0 1 T.f_Machine_held_now T.fd_Machine_held_now ["self"] (sp_Machine_held_now T) := by
  refine T.F_Machine_held_now.ok sc_Machine_held_now (fun vs H Q E h => ?_) (fun cdv A outer s H vs Q E hr h => ?_)
  · obtain ⟨x, A, H0, Ps, f, t, rfl, ma, ok, n24, q⟩ := h
    rfl
  · obtain ⟨x, A, H0, Ps, f, t, rfl, ma, ok, n24, q⟩ := h
    refine ⟨_, PSs.nox (pss_one (ps_ret (pe_tup (pa_cons (pe_op op_mod (pe_fld (pv 0) rfl) (pe_fld (pv 0) rfl)) (StX.pa_star (pe_fld (pv 0) rfl) pa_nil))))), ?_⟩
    have hsl : sizeLine = 16777216 := by decide
    have cp := cmL_pos ok
    obtain ⟨vs, hvs, lvs, hheld⟩ := ma.held
    refine ⟨_, rfl, x, _, A.dx, _, _, rfl, ma.ins, T.cl_Machine, T.na_Machine_beats, ml_beats A t, _, rfl, x, _, A.dx, _, _, rfl, ma.ins, T.cl_Machine, T.na_Machine_common, ml_common A t, _, _, rfl, rfl, by rw [ma.cme]; omega, _, rfl, x, _, A.dx, _, _, rfl, ma.ins, T.cl_Machine, T.na_Machine_held, ml_held A t, _, _, rfl, .inr (SqL.mk hvs), ?_⟩
    refine ⟨?_, fun p np => ?_⟩
    · show (vs ++ []).length + 1 ≤ _
      rw [List.append_nil]
      omega
    show Q (.ref p) (upd H p (.tup (.int ((t : Int) % A.cm) :: (vs ++ []))))
    rw [List.append_nil]
    refine q _ p (same_upd np) np ⟨_, _, rfl, upd_same, .cons (.inr (.inl ⟨_, rfl, ?_⟩)) (paired_of (by rw [List.length_map, sta_len, lvs]) fun i k v e1 e2 => ?_)⟩
    · show V.int ((t : Int) % A.cm) = _
      rw [ma.cme]
      rfl
    have il : i < Ps.length := by
      have := (List.getElem?_eq_some_iff.mp e2).1
      omega
    obtain ⟨u, h1, h2⟩ := hheld i il
    rw [e2] at h1
    cases h1
    rw [List.getElem?_map, List.getElem?_eq_getElem (by rw [sta_len]; exact il)] at e1
    cases e1
    have e3 : (sta Ps t).getD i .non = (sta Ps t)[i]'(by rw [sta_len]; exact il) := getD_of (List.getElem?_eq_getElem _)
    have h2 : ((sta Ps t).getD i .non).At H v := h2
    rw [e3] at h2
    exact (h2.same (same_upd np)).k1
theorem dn_nt {P : Program} {w : World} {a : Addr} {kvs : List (NestedKey × Addr × V)} : ∀ xs, HO.tup xs ≠ DN P w a kvs := fun xs z => by
  unfold DN at z
  cases z
theorem dn_nl {P : Program} {w : World} {a : Addr} {kvs : List (NestedKey × Addr × V)} : ∀ xs, HO.lst xs ≠ DN P w a kvs := fun xs z => by
  unfold DN at z
  cases z
theorem dn_ni {P : Program} {w : World} {a : Addr} {kvs : List (NestedKey × Addr × V)} : ∀ c x fs, HO.ins c x fs ≠ DN P w a kvs := fun c x fs z => by
  unfold DN at z
  cases z
theorem ml_noheld (A : MA) (t : Int) : (mfl A t).lookup ("held_now" : Str) = none := by kernel_rfl
/-- rows told, beat by beat -/
def ToldAt (H : Hp) (l : Addr) (Ps : List Pie) (n : Nat) : Prop := ∃ rs : List V, H l = some (.lst rs) ∧ rs.length = n ∧ ∀ j, j < n → ∃ p, rs[j]? = some (.ref p) ∧ H p = some (.tup ((bts Ps j).map V.int))
/-- ahead of beat n it holds again what it held ahead of beat s, and nothing twice ahead of that -/
structure Rep (Ps : List Pie) (n s : Nat) : Prop where
  lt : s < n
  eq : skey Ps n = skey Ps s
  no : ∀ i j, i < j → j < n → skey Ps i ≠ skey Ps j
theorem Rep.uniq {Ps : List Pie} {n s n' s' : Nat} (h : Rep Ps n s) (h' : Rep Ps n' s') : n = n' ∧ s = s' := by
  have e : n = n' := by
    rcases Nat.lt_trichotomy n n' with z | z | z
    · exact absurd h.eq.symm (h'.no s n h.lt z)
    · exact z
    · exact absurd h'.eq.symm (h.no s' n' h'.lt z)
  subst e
  refine ⟨rfl, ?_⟩
  have q := h.eq.symm.trans h'.eq
  rcases Nat.lt_trichotomy s s' with z | z | z
  · exact absurd q (h.no s s' z h'.lt)
  · exact z
  · exact absurd q.symm (h.no s' s z h.lt)
def SeenL (Ps : List Pie) (kvs : List (NestedKey × Addr × V)) (i : Nat) : Prop := kvs.length = i ∧ ∀ j, j < i → ∃ b, kvs[j]? = some (skey Ps j, b, .int (j : Nat))
theorem SeenL.snoc {Ps : List Pie} {kvs : List (NestedKey × Addr × V)} {i : Nat} (h : SeenL Ps kvs i) (b : Addr) : SeenL Ps (kvs ++ [(skey Ps i, b, .int (i : Nat))]) (i + 1) := by
  obtain ⟨hl, hj⟩ := h
  refine ⟨by rw [List.length_append, hl]; rfl, fun j jl => ?_⟩
  by_cases e : j < i
  · obtain ⟨b', hb⟩ := hj j e
    exact ⟨b', by rw [get_snoc (by omega)]; exact hb⟩
  · obtain rfl : j = i := by omega
    exact ⟨b, by rw [← hl]; rw [hl]; exact hl ▸ get_last⟩
theorem SeenL.look {Ps : List Pie} {kvs : List (NestedKey × Addr × V)} {i : Nat} (h : SeenL Ps kvs i) (k : NestedKey) : (atN kvs k = none ∧ ∀ j, j < i → skey Ps j ≠ k) ∨ ∃ j, j < i ∧ skey Ps j = k ∧ atN kvs k = some (.int (j : Nat)) := by
  obtain ⟨hl, hj⟩ := h
  unfold atN
  cases e : kvs.find? fun x => decide (x.1 = k) with
  | none =>
    refine .inl ⟨rfl, fun j jl z => ?_⟩
    obtain ⟨b, hb⟩ := hj j jl
    have := List.find?_eq_none.mp e _ (List.mem_of_getElem? hb)
    exact this (decide_eq_true z)
  | some x =>
    refine .inr ?_
    have m := List.mem_of_find?_eq_some e
    have hk := List.find?_some e
    obtain ⟨j, hx⟩ := List.getElem?_of_mem m
    have jl := (List.getElem?_eq_some_iff.mp hx).1
    obtain ⟨b, hb⟩ := hj j (by omega)
    rw [hx] at hb
    cases hb
    exact ⟨j, by omega, of_decide_eq_true hk, rfl⟩
def lenL : Option HO → Nat
  | some (.lst xs) => xs.length
  | _ => 0
def sp_run_to_settle {K : PySem.W.Frag} {mg : Str → Option Value} (T : Defs K mg) : Sp := fun vs H Q _ => ∃ (pa : Addr) (xs : List V) (Ps : List Pie), vs = [.ref pa] ∧ H pa = some (.tup xs) ∧ PisAt H Ps xs ∧ Ps.length ≤ 24 ∧ PsOk Ps.length Ps ∧
  (∀ H' tk l n s, Same H H' → Rep Ps n s → n ≤ 8192 → H' tk = some (.tup [.int (s : Nat), .ref l]) → ToldAt H' l Ps n → Q (.ref tk) H') ∧ ∀ H', Same H H' → (∀ i j, i < j → j ≤ 8192 → skey Ps i ≠ skey Ps j) → Q .non H'
theorem ok_run_to_settle (T : Defs K mg) : FnOk P w K mg base CX0 14 T.f_run_to_settle T.fd_run_to_settle ["pieces"] (sp_run_to_settle T) := by
  have G_Machine___init__ : FnOk P w K mg base CX0 12 T.f_Machine___init__ T.fd_Machine___init__ ["self", "pieces"] (sp_Machine___init__ T) := ok_Machine___init__ T
  have G_Machine_held_now : FnOk P w K mg base CX0 1 T.f_Machine_held_now T.fd_Machine_held_now ["self"] (sp_Machine_held_now T) := ok_Machine_held_now T
  have G_Machine_beat : FnOk P w K mg base CX0 3 T.f_Machine_beat T.fd_Machine_beat ["self"] (sp_Machine_beat T) := ok_Machine_beat T
  refine T.F_run_to_settle.ok sc_run_to_settle (fun vs H Q E h => ?_) (fun cdv A outer s H vs Q E hr h => ?_)
  · obtain ⟨pa, xs, Ps, rfl, hpa, hps, n24, ok, q1, q0⟩ := h
    rfl
  · obtain ⟨pa, xs, Ps, rfl, hpa, hps, n24, ok, q1, q0⟩ := h
    refine ⟨_, PSs.nox (pss_cons (ps_set (i := 1) sc_run_to_settle.nd rfl (.inl rfl) (pe_make T.mk_Machine G_Machine___init__ (hr.mono (by decide)) (by rfl) T.g_Machine T.b_Machine___init__ .nil pass0 (pa_cons (pv 0) pa_nil)))
    (pss_cons (ps_set (i := 2) sc_run_to_settle.nd rfl (.inl rfl) (dnewNK (P := P) (w := w) rfl rfl))
    (pss_cons (ps_set (i := 3) sc_run_to_settle.nd rfl (.inl rfl) (pe_lst pa_nil))
    (pss_cons (ps_while PassesOwn.never (pt_cmpR op_le (pe_callB call_len_seq (by rfl) T.m_len bt_len (pa_cons (pv 3) pa_nil)) (pe_globI (by rfl) T.i_MOST_SETTLING) (nomark _)) (pss_cons (ps_set (i := 4) sc_run_to_settle.nd rfl (.inl rfl) (pe_meth0 (pv 1) T.cl_Machine T.mt_Machine_held_now G_Machine_held_now (hr.mono (by decide)) T.b_Machine_held_now .nil pass0))
    (pss_cons (ps_if (pt_cmp (pninK (P := P) (w := w) rfl rfl hr.units (pv 4) (pv 2)) rfl) (pss_one (ps_ret (pe_tup (pa_cons (ngetK (P := P) (w := w) rfl rfl hr.units (pv 2) (pv 4) (fun _ _ => rfl)) (pa_cons (pv 3) pa_nil))))) pss_nil)
    (pss_cons (nputK (P := P) (w := w) rfl rfl hr.units (pv 2) (pv 4) (pe_callB call_len_seq (by rfl) T.m_len bt_len (pa_cons (pv 3) pa_nil)) rfl)
    (pss_one (ps_expr (pe_bm PySem.F.plainAttrs_list PySem.F.slot_list_append PySem.F.type_list_append mt_append (pv 3) (pa_cons (pe_meth0 (pv 1) T.cl_Machine T.mt_Machine_beat G_Machine_beat (hr.mono (by decide)) T.b_Machine_beat .nil pass0) pa_nil))))))))
    (pss_one (ps_ret pe_non)))))), ?_⟩
    have hsl : sizeLine = 16777216 := by decide
    have ll := hps.len
    refine ⟨_, rfl, fun x dx nx ndx ne => ?_⟩
    have s0 : Same H (upd (upd H dx (.own x)) x (.ins T.C_Machine dx [])) := fun p o e => by
      rw [upd_ne (ne_of_none e nx), upd_ne (ne_of_none e ndx)]
      exact e
    refine ⟨x, dx, pa, xs, Ps, rfl, upd_same, s0 _ _ hpa, hps.same s0, n24, ok, fun E A ma => ⟨rfl, ?_⟩⟩
    generalize upd (upd H dx (.own x)) x (.ins T.C_Machine dx []) = H1 at s0 ma
    have sH : ∀ {G : Hp} {f : Nat → Int} {t : Nat} {hs : Nat → Hd}, MaAt T.C_Machine H1 G x A Ps f t hs → Same H G := fun m p o e => m.bas p o (ne_of_none e nx) (s0 p o e)
    -- what was seen
    intro d nd
    have fresh : ∀ {G : Hp} {f : Nat → Int} {t : Nat} {hs : Nat → Hd} {D : Addr}, MaAt T.C_Machine H1 G x A Ps f t hs → G D = none → A.Hn D = none ∧ (D ≠ A.ha ∧ D ≠ A.hg ∧ D ≠ A.ca) ∧ D ≠ x ∧ H D = none := fun {G f t hs D} m nD => by
      obtain ⟨vs0, hvs0, _⟩ := m.held
      have Dx : D ≠ x := (ne_of_none m.ins nD).symm
      refine ⟨?_, ⟨(ne_of_none hvs0 nD).symm, (ne_of_none m.hold nD).symm, (ne_of_none m.cnt nD).symm⟩, Dx, ?_⟩
      · cases e : A.Hn D with
        | none => rfl
        | some o =>
          have := m.kp D o Dx e
          rw [nD] at this
          cases this
      · cases e : H D with
        | none => rfl
        | some o =>
          have := sH m D o e
          rw [nD] at this
          cases this
    obtain ⟨dn, dne, dx', ndH⟩ := fresh ma nd
    have ma1 := ma.same (same_upd nd (o := DN P w d []))
    have hd1 := upd_same (H := E) (a := d) (o := DN P w d [])
    generalize upd E d (DN P w d []) = E1 at ma1 hd1 ⊢
    clear ma nd
    -- what was told
    refine ⟨Nat.zero_le _, fun D nD => ?_⟩
    obtain ⟨nDn, Dne, Dx, nDH⟩ := fresh ma1 nD
    have dD : d ≠ D := ne_of_none hd1 nD
    have ma2 := ma1.same (same_upd nD (o := .lst []))
    have hd2 := (same_upd nD (o := .lst [])) _ _ hd1
    have hD2 := upd_same (H := E1) (a := D) (o := .lst [])
    generalize upd E1 D (.lst []) = E2 at ma2 hd2 hD2 ⊢
    clear ma1 hd1 nD
    dsimp only [gName, tSeq, tAsg, tC, L2.start]
    refine while_by (fun σ G => ∃ (i : Nat) (y4 : Option V) (rs : List V) (kvs : List (NestedKey × Addr × V)), σ = [some (.ref pa), some (.ref x), some (.ref d), some (.ref D), y4] ∧ i ≤ 8193 ∧ (∃ f, MaAt T.C_Machine H1 G x A Ps f i (fun j => (sta Ps i).getD j .non)) ∧ G D = some (.lst rs) ∧ rs.length = i ∧ (∀ j, j < i → ∃ p, rs[j]? = some (.ref p) ∧ G p = some (.tup ((bts Ps j).map V.int))) ∧ G d = some (DN P w d kvs) ∧ KN G kvs ∧ SeenL Ps kvs i ∧ ∀ a b, a < b → b < i → skey Ps a ≠ skey Ps b) (fun _ G => 9000 - lenL (G D)) ⟨0, none, [], [], rfl, by decide, ⟨_, ma2⟩, hD2, rfl, fun j h => absurd h (Nat.not_lt_zero j), hd2, fun x h => (by cases h), ⟨rfl, fun j h => absurd h (Nat.not_lt_zero j)⟩, fun a b _ h => absurd h (Nat.not_lt_zero b)⟩ ?_ ?_
    · rintro σ G ⟨i, y4, rs, kvs, rfl, hi, ⟨f, mi⟩, hD, hl, hr, hd, hk, hs, dist⟩
      refine ⟨.ref D, rfl, D, _, rfl, .inl (SqL.mk hD), _, _, rfl, rfl, _, rfl, ?_⟩
      refine ite2 (fun e => ?_) (fun e => ?_)
      rotate_left
      · have i2 : i = 8193 := by
          have : ¬ ((rs.length : Nat) : Int) ≤ 8192 := fun z => e (decide_eq_true z)
          omega
        exact q0 _ (sH mi) fun a b ab hb => dist a b ab (by omega)
      have i2 : i ≤ 8192 := by
        have := of_decide_eq_true e
        omega
      refine ⟨_, rfl, x, A.dx, _, rfl, mi.ins, ml_noheld A i, x, A, H1, Ps, f, i, rfl, mi, ok, n24, fun G1 p sp np hk2 => ?_⟩
      have m1 := mi.same sp
      have hd1 := sp _ _ hd
      have hD1 := sp _ _ hD
      have hk1 : KN G1 kvs := hk.keep fun _ _ e => sp _ _ e
      refine ⟨.ref p, rfl, .ref d, rfl, d, p, kvs, skey Ps i, rfl, rfl, hd1, hk1, hk2, _, rfl, ?_⟩
      rcases hs.look (skey Ps i) with ⟨hno, hnew⟩ | ⟨j, hj, hjk, hv⟩
      · rw [hno]
        refine iteF ⟨.ref D, rfl, D, _, rfl, .inl (SqL.mk hD1), .ref d, rfl, .ref p, rfl, d, p, kvs, skey Ps i, rfl, rfl, hd1, hk1, hk2, hno, by rw [hs.1]; omega, ?_⟩
        have m3 := m1.to (H' := upd G1 d (DN P w d (kvs ++ [(skey Ps i, p, .int (rs.length : Nat))]))) (fun a o n e => (upd_ne n).trans e) hd1 dn_nt dn_ni dn dne
        have up : ∀ (a : Addr) (o : HO), a ≠ d → G1 a = some o → (upd G1 d (DN P w d (kvs ++ [(skey Ps i, p, .int (rs.length : Nat))]))) a = some o := fun a o n e => (upd_ne n).trans e
        have hd3 := upd_same (H := G1) (a := d) (o := DN P w d (kvs ++ [(skey Ps i, p, .int (rs.length : Nat))]))
        generalize upd G1 d (DN P w d (kvs ++ [(skey Ps i, p, .int (rs.length : Nat))])) = G3 at m3 up hd3 ⊢
        have hD3 := up _ _ dD.symm hD1
        refine ⟨_, rfl, .inl ⟨rfl, _, SqL.mk hD3⟩, _, rfl, x, A.dx, _, rfl, m3.ins, ml_nobeat A i, x, A, H1, Ps, f, i, rfl, m3, ok, n24, fun G4 r m4 frm nr hr4 => ?_⟩
        have hD4 := frm _ _ Dx Dne.1 Dne.2.2 hD3
        have hd4 := frm _ _ dx' dne.1 dne.2.2 hd3
        refine ⟨D, _, _, rfl, rfl, hD4, by omega, ?_⟩
        have tk : ∀ a xs, G a = some (.tup xs) → (upd G4 D (.lst (rs ++ [V.ref r]))) a = some (.tup xs) := fun a xs e => by
          have e1 := sp _ _ e
          have e3 := up _ _ (ne_of e1 hd1 (dn_nt xs)) e1
          obtain ⟨vs0, hvs0, _⟩ := m3.held
          have e4 := frm _ _ (ne_of e3 m3.ins (fun z => by cases z)) (ne_of e3 hvs0 (fun z => by cases z)) (ne_of e3 m3.cnt (fun z => by cases z)) e3
          exact (upd_ne (ne_of e4 hD4 (fun z => by cases z))).trans e4
        have tk1 : ∀ a xs, G1 a = some (.tup xs) → (upd G4 D (.lst (rs ++ [V.ref r]))) a = some (.tup xs) := fun a xs e1 => by
          have e3 := up _ _ (ne_of e1 hd1 (dn_nt xs)) e1
          obtain ⟨vs0, hvs0, _⟩ := m3.held
          have e4 := frm _ _ (ne_of e3 m3.ins (fun z => by cases z)) (ne_of e3 hvs0 (fun z => by cases z)) (ne_of e3 m3.cnt (fun z => by cases z)) e3
          exact (upd_ne (ne_of e4 hD4 (fun z => by cases z))).trans e4
        have rD : r ≠ D := ne_of hr4 hD4 (fun z => by cases z)
        have s2 := hs.snoc p
        rw [← hl] at s2
        refine ⟨⟨rs.length + 1, _, rs ++ [.ref r], kvs ++ [(skey Ps rs.length, p, .int (rs.length : Nat))], rfl, by omega, ⟨_, by rw [hl]; exact m4.to (fun a o n e => (upd_ne n).trans e) hD4 (fun _ z => by cases z) (fun _ _ _ z => by cases z) nDn Dne⟩, upd_same, by rw [List.length_append]; rfl, fun j hj => ?_, (upd_ne dD).trans (by rw [hl]; rw [hl] at hd4; exact hd4), fun y hy => ?_, s2, fun a b ab hb => ?_⟩, ?_⟩
        · by_cases e : j < i
          · obtain ⟨p', h1, h2⟩ := hr j e
            exact ⟨p', by rw [get_snoc (by omega)]; exact h1, tk _ _ h2⟩
          · obtain rfl : j = rs.length := by omega
            exact ⟨r, get_last, (upd_ne rD).trans (by rw [hl]; exact hr4)⟩
        · rcases List.mem_append.mp hy with hy | hy
          · exact (hk1 y hy).keep tk1
          · rw [List.mem_singleton.mp hy, hl]
            exact hk2.keep tk1
        · by_cases e : b < i
          · exact dist a b ab e
          · obtain rfl : b = i := by omega
            exact hnew a ab
        · have z1 : lenL (G D) = rs.length := by rw [hD]; rfl
          have z2 : lenL ((upd G4 D (.lst (rs ++ [V.ref r]))) D) = rs.length + 1 := by rw [upd_same]; show (rs ++ [V.ref r]).length = _; rw [List.length_append]; rfl
          show 9000 - lenL ((upd G4 D (.lst (rs ++ [V.ref r]))) D) < 9000 - lenL (G D)
          rw [z1, z2]
          omega
      · rw [hv]
        refine iteT ⟨.ref d, rfl, .ref p, rfl, d, p, kvs, skey Ps i, .int (j : Nat), rfl, rfl, hd1, hk1, hk2, hv, .ref D, rfl, (show 2 ≤ sizeLine by decide), fun tk ntk => ?_⟩
        have st := same_upd ntk (o := .tup [.int (j : Nat), .ref D])
        refine q1 _ tk D i j ((sH m1).trans st) ⟨hj, hjk.symm, dist⟩ i2 upd_same ⟨rs, st _ _ hD1, hl, fun j' h' => ?_⟩
        obtain ⟨p', h1, h2⟩ := hr j' h'
        exact ⟨p', h1, st _ _ (sp _ _ h2)⟩
    · rintro σ G Q1 Q2 m ⟨a, b, c, d, e, f, g, h, i, j, k, l1, l2⟩
      exact ⟨a, b, c, d, e, f, g, h, i, j, k, l1, m _ _ l2⟩
/-! when it goes round, and the rows till then -/
def sp_settles {K : PySem.W.Frag} {mg : Str → Option Value} (T : Defs K mg) : Sp := fun vs H Q _ => ∃ (pa : Addr) (xs : List V) (Ps : List Pie), vs = [.ref pa] ∧ H pa = some (.tup xs) ∧ PisAt H Ps xs ∧ Ps.length ≤ 24 ∧ PsOk Ps.length Ps ∧
  (∀ H' tk n s, Same H H' → Rep Ps n s → n ≤ 8192 → H' tk = some (.tup [.int (s : Nat), .int ((n : Int) - (s : Nat))]) → Q (.ref tk) H') ∧ ∀ H', Same H H' → (∀ i j, i < j → j ≤ 8192 → skey Ps i ≠ skey Ps j) → Q .non H'
theorem ok_settles (T : Defs K mg) : FnOk P w K mg base CX0 15 T.f_settles T.fd_settles ["pieces"] (sp_settles T) := by
  have G_run_to_settle : FnOk P w K mg base CX0 14 T.f_run_to_settle T.fd_run_to_settle ["pieces"] (sp_run_to_settle T) := ok_run_to_settle T
  refine T.F_settles.ok sc_settles (fun vs H Q E h => ?_) (fun cdv A outer s H vs Q E hr h => ?_)
  · obtain ⟨pa, xs, Ps, rfl, hpa, hps, n24, ok, q1, q0⟩ := h
    rfl
  · obtain ⟨pa, xs, Ps, rfl, hpa, hps, n24, ok, q1, q0⟩ := h
    refine ⟨_, PSs.nox (pss_cons (ps_set (i := 1) sc_settles.nd rfl (.inl rfl) (pe_call G_run_to_settle (hr.mono (by decide)) (by rfl) T.g_run_to_settle T.F_run_to_settle.kp T.b_run_to_settle .nil pass0 (pa_cons (pv 0) pa_nil)))
    (pss_cons (ps_if (pt_cmpR op_isN (pv 1) pe_non (nomark _)) (pss_one (ps_ret pe_non)) pss_nil)
    (pss_cons (ps_asg (pv 1) (pg_tup rfl (pgs_cons (pg_name (i := 2) sc_settles.nd rfl (.inl rfl)) (pgs_cons (pg_name (i := 3) sc_settles.nd rfl (.inl rfl)) pgs_nil))))
    (pss_one (ps_ret (pe_tup (pa_cons (pv 2) (pa_cons (pe_op op_sub (pe_callB call_len_seq (by rfl) T.m_len bt_len (pa_cons (pv 3) pa_nil)) (pv 2)) pa_nil)))))))), ?_⟩
    refine ⟨.ref pa, rfl, pa, xs, Ps, rfl, hpa, hps, n24, ok, fun H1 tk l n s s1 rep n8 htk ⟨rs, hl, rl, _⟩ => ?_, fun H1 s1 no => ⟨.non, rfl, rfl, _, rfl, iteT (q0 H1 s1 no)⟩⟩
    refine ⟨.ref tk, rfl, rfl, _, rfl, iteF ⟨.ref tk, rfl, tk, _, rfl, SqT.mk htk, rfl, _, _, rfl, _, _, rfl, rfl, ?_⟩⟩
    refine ⟨.int (s : Nat), rfl, .ref l, rfl, l, _, rfl, .inl (SqL.mk hl), .int (s : Nat), rfl, _, _, rfl, rfl, (show 2 ≤ sizeLine by decide), fun t nt => ?_⟩
    refine q1 _ t n s (s1.trans (same_upd nt)) rep n8 ?_
    rw [upd_same, rl]
/-! a law's own look at a piece's bit -/
def Pie.args : Pie → List (Option Nat)
  | .make _ k => [none, some k]
  | .less a => [some a]
  | .both a b => [some a, some b]
  | .either a b => [some a, some b]
  | .oneof a b => [some a, some b]
  | .pick a b c => [some a, some b, some c]
  | .keep a b f => [some a, some b, some f]
  | .late a _ => [some a, none]
  | .keeper a b _ mo at_ => [some a, some b, none, some mo, some at_]
/-- a number, or a tuple -/
def ItmAt (H : Hp) (x : V) : Option Nat → Prop
  | some n => x = .int (n : Nat)
  | none => ∃ q ys, x = .ref q ∧ H q = some (.tup ys)
theorem mk_is {H : Hp} {m : Mk} {v : V} (h : MkAt H m v) : ∃ q ys, v = .ref q ∧ H q = some (.tup ys) := by
  cases m with
  | counter r s t => obtain ⟨a, e, h⟩ := h; exact ⟨a, _, e, h⟩
  | turned a b => obtain ⟨a, e, h⟩ := h; exact ⟨a, _, e, h⟩
  | register a b c => obtain ⟨a, e, h⟩ := h; exact ⟨a, _, e, h⟩
  | table ns => obtain ⟨a, b, e, h, _⟩ := h; exact ⟨a, _, e, h⟩
  | slow n m => obtain ⟨a, x, e, h, _⟩ := h; exact ⟨a, _, e, h⟩
  | slip n m => obtain ⟨a, x, e, h, _⟩ := h; exact ⟨a, _, e, h⟩
  | late n m => obtain ⟨a, x, e, h, _⟩ := h; exact ⟨a, _, e, h⟩
def ItmsAt (H : Hp) : List V → List (Option Nat) → Prop
  | [], [] => True
  | x :: xs, a :: as => ItmAt H x a ∧ ItmsAt H xs as
  | _, _ => False
theorem ItmsAt.len {H : Hp} : ∀ {xs : List V} {as : List (Option Nat)}, ItmsAt H xs as → xs.length = as.length
  | [], [], _ => rfl
  | x :: xs, a :: as, h => by rw [List.length_cons, List.length_cons, ItmsAt.len h.2]
theorem ItmsAt.get {H : Hp} : ∀ {xs : List V} {as : List (Option Nat)}, ItmsAt H xs as → ∀ {i : Nat} {x : V}, xs[i]? = some x → ∃ a, as[i]? = some a ∧ ItmAt H x a
  | [], [], _, i, x, e => by cases e
  | y :: ys, a :: as, h, 0, x, e => by
    cases e
    exact ⟨a, rfl, h.1⟩
  | y :: ys, a :: as, h, i + 1, x, e => ItmsAt.get h.2 (i := i) (by simpa using e)
theorem PieAt.itms {H : Hp} {P : Pie} {v : V} (h : PieAt H P v) : ∃ t xs, v = .ref t ∧ H t = some (.tup (.str P.word :: xs)) ∧ ItmsAt H xs P.args := by
  cases P with
  | make m k => obtain ⟨t, x, e, ht, hm⟩ := h; exact ⟨t, _, e, ht, mk_is hm, rfl, trivial⟩
  | late a ah => obtain ⟨t, s, e, ht, hs⟩ := h; exact ⟨t, _, e, ht, rfl, ⟨s, _, rfl, hs⟩, trivial⟩
  | keeper a b m mo at_ => obtain ⟨t, x, e, ht, hm⟩ := h; exact ⟨t, _, e, ht, rfl, rfl, mk_is hm, rfl, rfl, trivial⟩
  | less a => obtain ⟨t, e, ht⟩ := h; exact ⟨t, _, e, ht, rfl, trivial⟩
  | both a b => obtain ⟨t, e, ht⟩ := h; exact ⟨t, _, e, ht, rfl, rfl, trivial⟩
  | either a b => obtain ⟨t, e, ht⟩ := h; exact ⟨t, _, e, ht, rfl, rfl, trivial⟩
  | oneof a b => obtain ⟨t, e, ht⟩ := h; exact ⟨t, _, e, ht, rfl, rfl, trivial⟩
  | pick a b c => obtain ⟨t, e, ht⟩ := h; exact ⟨t, _, e, ht, rfl, rfl, rfl, trivial⟩
  | keep a b f => obtain ⟨t, e, ht⟩ := h; exact ⟨t, _, e, ht, rfl, rfl, rfl, trivial⟩
abbrev kS (z : Str) : Key := .inr z
theorem kS_ne {a b : Str} (h : a ≠ b) : (Sum.inr a : Key) ≠ .inr b := fun e => h (Sum.inr.inj e)
theorem due_get (a b c d : V) : valV (mergeK (mergeK [] [(kS "less", a), (kS "both", b), (kS "either", c)]) [(kS "oneof", d)]) (kS "less") = some a ∧ valV (mergeK (mergeK [] [(kS "less", a), (kS "both", b), (kS "either", c)]) [(kS "oneof", d)]) (kS "both") = some b ∧
    valV (mergeK (mergeK [] [(kS "less", a), (kS "both", b), (kS "either", c)]) [(kS "oneof", d)]) (kS "either") = some c ∧ valV (mergeK (mergeK [] [(kS "less", a), (kS "both", b), (kS "either", c)]) [(kS "oneof", d)]) (kS "oneof") = some d := by
  refine ⟨?_, ?_, ?_, ?_⟩
  · show valV (putK (putK (putK (putK [] (kS "less") a) (kS "both") b) (kS "either") c) (kS "oneof") d) _ = _
    rw [valV_put, if_neg (kS_ne (by decide +kernel)), valV_put, if_neg (kS_ne (by decide +kernel)), valV_put, if_neg (kS_ne (by decide +kernel)), valV_put, if_pos rfl]
  · show valV (putK (putK (putK (putK [] (kS "less") a) (kS "both") b) (kS "either") c) (kS "oneof") d) _ = _
    rw [valV_put, if_neg (kS_ne (by decide +kernel)), valV_put, if_neg (kS_ne (by decide +kernel)), valV_put, if_pos rfl]
  · show valV (putK (putK (putK (putK [] (kS "less") a) (kS "both") b) (kS "either") c) (kS "oneof") d) _ = _
    rw [valV_put, if_neg (kS_ne (by decide +kernel)), valV_put, if_pos rfl]
  · show valV (putK (putK (putK (putK [] (kS "less") a) (kS "both") b) (kS "either") c) (kS "oneof") d) _ = _
    rw [valV_put, if_pos rfl]
def pick1 (bs : List Int) : Option Nat → Option Int
  | some n => if n < bs.length then some (bs.getD n 0) else none
  | none => none
theorem wd_no {P : Pie} {w : Str} (z : Str) (h : P.word = z) (n : z ≠ w) : decide (V.str P.word = V.str w) = false := decide_eq_false fun e => n (h.symm.trans (V.str.inj e))
/-- what the law holds of a piece -/
def LHd (P : Pie) (h : Hd) (hv : V) : Prop := match P with
  | .keep _ _ _ => hv = .int h.bitD
  | .keeper _ _ _ _ _ => hv = .int h.numD
  | _ => True
def LLate (P : Pie) (h : Hd) (t : Nat) (tb : Nat → List Int) : Prop := match P with
  | .late a ah => h.ahD.getD 0 0 = if t < ah.length then ah.getD t 0 else (tb (t - ah.length)).getD a 0
  | _ => True
/-- lists of bits, beat by beat -/
def TldAt (H : Hp) (rs : List V) (tb : Nat → List Int) (n : Nat) : Prop := ∀ j, j < rs.length → ∃ q, rs[j]? = some (.ref q) ∧ H q = some (.lst ((tb j).map V.int)) ∧ (tb j).length = n
theorem atI_back {xs : List V} {k : Nat} {v : V} (h1 : 1 ≤ k) (h2 : k ≤ xs.length) (e : xs[xs.length - k]? = some v) : atI xs (-(k : Int)) = some v := by
  unfold atI ixN
  rw [if_neg (by omega), if_pos (by omega)]
  show xs[((-(k : Int)) + (xs.length : Int)).toNat]? = some v
  rw [show ((-(k : Int)) + (xs.length : Int)).toNat = xs.length - k by omega]
  exact e
theorem int_kit {K : PySem.W.Frag} : PySem.W.kitOne K (.type "int") (.type "int") = some true := kit_ty (by decide +kernel)
theorem tup_int {K : PySem.W.Frag} : PySem.W.kitOne K (.type "tuple") (.type "int") = some false := kit_ty (by decide +kernel)
theorem bitM {a b : Int} (ha : B01 a) (hb : B01 b) : (a + b) % 2 = a + b - 2 * (a * b) := by
  rcases ha with rfl | rfl <;> rcases hb with rfl | rfl <;> decide
theorem bitX {a b m : Int} (ha : B01 a) (hb : B01 b) (hm : m = a ∨ m = b) (ua : a ≤ m) (ub : b ≤ m) : m = a + b - a * b := by
  rcases ha with rfl | rfl <;> rcases hb with rfl | rfl <;> rcases hm with rfl | rfl <;> omega
def sp__law_bit (_ : PySem.W.Frag) : Sp := fun vs H Q _ => ∃ (P : Pie) (v hv : V) (x : Int) (b T : Addr) (bs : List Int) (rs : List V) (tb : Nat → List Int) (h : Hd) (n : Nat), vs = [v, .ref b, .ref T, .int x, hv] ∧ PieAt H P v ∧ P.Ok bs.length n ∧ P.Hok h ∧ Bits bs ∧ H b = some (.lst (bs.map V.int)) ∧ H T = some (.lst rs) ∧ TldAt H rs tb n ∧ LHd P h hv ∧ LLate P h rs.length tb ∧ bs.length ≤ 100 ∧ rs.length ≤ 1000000 ∧
  ∀ H', Same H H' → Q (.int (P.bit x h (asked P bs))) H'
theorem ok__law_bit (T : Defs K mg) : FnOk P w K mg base CX0 1 T.f__law_bit T.fd__law_bit ["_law_piece", "_law_bits_here", "_law_told", "_law_number", "_law_held"] (sp__law_bit K) := by
  refine T.F__law_bit.ok sc__law_bit (fun vs H Q E h => ?_) (fun cdv A outer s H vs Q E hr h => ?_)
  · obtain ⟨P, v, hv, x, b, T', bs, rs, tb, h, n, rfl, hP, ok, hk, hbs, hb, hT, htb, lh, llt, bl, rl, q⟩ := h
    rfl
  · obtain ⟨P, v, hv, x, b, T', bs, rs, tb, h, n, rfl, hP, ok, hk, hbs, hb, hT, htb, lh, llt, bl, rl, q⟩ := h
    refine ⟨_, PSs.nox (pss_cons (ps_par (i := 5) (j := 6) (by rfl) sc__law_bit.nd rfl rfl (by decide) rfl rfl (pa_cons (pe_ix ix_tup (pv 0) pe_int (fun _ _ => rfl)) (pa_cons (pe_lc (own := [("_law_place", 9)]) (g := gName 9) rfl sc__law_bit.nd (pi_tup (pe_slice sl_tupS (pv 0) (po_some pe_int) po_none)) (blkOk_by (N := N__law_bit) (sc := defScope s__law_bit) (by decide +kernel)) (fun _ _ _ _ _ => (pg_name (i := 9) sc__law_bit.nd rfl (.inl rfl))) (fun _ _ _ _ _ => pts_one (PW.pt (pw_and (pt_val (pe_callB (isiK (K := K) rfl) (by rfl) T.m_isinstance bt_isinstance (pa_cons (pv 9) (pa_cons (pe_bltn (v := .ty "int") (by rfl) T.m_int bt_int rfl) pa_nil)))) (pw_and1 (pt_cmpR op_lt (pv 9) (pe_callB (lenK (K := K) rfl) (by rfl) T.m_len bt_len (pa_cons (pv 1) pa_nil)) (nomark _)))))) (fun _ _ _ _ _ => (pe_ix (ixlK (K := K) rfl) (pv 1) (pv 9) (fun _ _ => rfl)))) pa_nil)) (by rfl))
    (pss_cons (ps_if (pt_cmpR op_eq (pv 5) pe_str (nomark _)) (pss_one (ps_ret (pe_callTy call_int1 (by rfl) T.m_int bt_int (pa_cons (pe_cmpR op_lt (pv 3) (pe_ix ix_tup (pv 0) pe_int (fun _ _ => rfl)) (nomark _)) pa_nil)))) pss_nil)
    (pss_cons (ps_if (pt_cmpR op_eq (pv 5) pe_str (nomark _)) (pss_one (ps_ret (pe_callTy call_int1 (by rfl) T.m_int bt_int (pa_cons (pe_cmpR op_lt (pv 3) (pv 4) (nomark _)) pa_nil)))) pss_nil)
    (pss_cons (ps_if (pt_cmpR op_eq (pv 5) pe_str (nomark _)) (pss_cons (ps_set (i := 7) sc__law_bit.nd rfl (.inl rfl) (pe_callB call_len_seq (by rfl) T.m_len bt_len (pa_cons (pe_ix ix_tup (pv 0) pe_int (fun _ _ => rfl)) pa_nil)))
    (pss_one (ps_ret (pe_ifExp (pt_cmpR op_lt (pe_callB call_len_seq (by rfl) T.m_len bt_len (pa_cons (pv 2) pa_nil)) (pv 7) (nomark _)) (pe_ix ix_tup (pe_ix ix_tup (pv 0) pe_int (fun _ _ => rfl)) (pe_callB call_len_seq (by rfl) T.m_len bt_len (pa_cons (pv 2) pa_nil)) (fun _ _ => rfl)) (pe_ix ix_list (pe_ix ix_list (pv 2) (pe_un un_neg (pv 7)) (fun _ _ => rfl)) (pe_ix ix_tup (pv 0) pe_int (fun _ _ => rfl)) (fun _ _ => rfl)))))) pss_nil)
    (pss_cons (ps_if (pt_cmpR op_eq (pv 5) pe_str (nomark _)) (pss_one (ps_ret (pe_ifExp (pt_cmpR op_eq (pe_ix ix_list (pv 1) (pe_ix ix_tup (pv 0) pe_int (fun _ _ => rfl)) (fun _ _ => rfl)) pe_int (nomark _)) (pe_ix ix_list (pv 1) (pe_ix ix_tup (pv 0) pe_int (fun _ _ => rfl)) (fun _ _ => rfl)) (pv 4)))) pss_nil)
    (pss_cons (ps_if (pt_cmpR op_eq (pv 5) pe_str (nomark _)) (pss_one (ps_ret (pe_ix ix_list (pv 6) (pe_op op_sub pe_int (pe_ix ix_list (pv 6) pe_int (fun _ _ => rfl))) (fun _ _ => rfl)))) pss_nil)
    (pss_cons (ps_set (i := 8) sc__law_bit.nd rfl (.inl rfl) (pe_disp (pps_cons pe_str (pe_op op_sub pe_int (pe_ix ix_list (pv 6) pe_int (fun _ _ => rfl))) (pps_cons pe_str (pe_op op_mul (pe_ix ix_list (pv 6) pe_int (fun _ _ => rfl)) (pe_ix ix_list (pv 6) (pe_un un_neg pe_int) (fun _ _ => rfl))) (pps_cons pe_str (pe_callB (cr_max rfl) (by rfl) T.m_max bt_max (pa_cons (pv 6) pa_nil)) pps_nil))) rfl rfl (by simp) (by decide)))
    (pss_cons (ps_expr (pe_bm PySem.F.plainAttrs_dict PySem.F.slot_dict_update PySem.F.type_dict_update mt_dupdate (pv 8) (pa_cons (pe_disp (pps_cons pe_str (pe_op op_mod (pe_op op_add (pe_ix ix_list (pv 6) pe_int (fun _ _ => rfl)) (pe_ix ix_list (pv 6) (pe_un un_neg pe_int) (fun _ _ => rfl))) pe_int) pps_nil) rfl rfl (by simp) (by decide)) pa_nil)))
    (pss_one (ps_ret (pe_dget (u1 hr) (pv 8) (pv 5) (fun _ _ => rfl)))))))))))), ?_⟩
    have hsl : sizeLine = 16777216 := by decide
    have hP0 := hP
    obtain ⟨t, xs, rfl, ht, hx⟩ := hP.itms
    have lx := hx.len
    have l5 : P.args.length ≤ 5 := by
      cases P <;> first | exact (by decide : 1 ≤ 5) | exact (by decide : 2 ≤ 5) | exact (by decide : 3 ≤ 5) | exact (by decide : 5 ≤ 5)
    refine ⟨.ref t, rfl, t, _, 0, _, rfl, rfl, SqT.mk ht, atI_nat (j := 0) rfl, .ref t, rfl, 1, rfl, t, _, rfl, ht, fun G1 c s1 hc => ?_⟩
    rw [show cutV (V.str P.word :: xs) (some 1) none = xs from cut_hi (V.str P.word :: xs) 1] at hc
    refine ⟨c, rfl, ⟨_, SqT.mk hc⟩, fun C nC => ?_⟩
    refine lc_it (walk_tup (xs := xs)) (fun i G => Same G1 G ∧ G C = some (.lst (((P.args.take i).filterMap (pick1 bs)).map V.int))) ⟨same_upd nC, upd_same⟩ (fun i G _ z => SqT.mk (z.1 _ _ hc)) (fun i y G G' hi z e => ?_) (fun G z => ?_)
    · obtain ⟨sG, hC⟩ := z
      obtain ⟨rfl, hy⟩ := e
      obtain ⟨a, ha, iy⟩ := hx.get hy
      have tk : P.args.take (i + 1) = P.args.take i ++ [a] := by
        rw [List.take_add_one, ha]
        rfl
      have fl : ((P.args.take i).filterMap (pick1 bs)).length ≤ i := Nat.le_trans (List.length_filterMap_le _ _) (by rw [List.length_take]; omega)
      cases a with
      | some k =>
        obtain rfl : y = .int (k : Nat) := iy
        refine ⟨rfl, _, rfl, _, _, _, _, _, rfl, .ty "int", .base (.int _), int_kit, _, rfl, iteT ⟨_, rfl, .ref b, rfl, b, _, rfl, .inl (SqL.mk (sG _ _ (s1 _ _ hb))), _, _, rfl, rfl, _, rfl, ?_⟩⟩
        rw [List.length_map]
        by_cases c1 : k < bs.length
        · rw [decide_eq_true (show ((k : Nat) : Int) < (bs.length : Nat) by omega)]
          refine iteT ⟨_, rfl, _, rfl, b, _, _, .int (bs.getD k 0), rfl, rfl, SqL.mk (sG _ _ (s1 _ _ hb)), atI_nat (by rw [List.getElem?_map, List.getElem?_eq_getElem c1, getD_of (List.getElem?_eq_getElem c1)]; rfl), _, hC, by rw [List.length_map]; omega, same_newer sG nC, ?_⟩
          rw [upd_same, tk, List.filterMap_append, List.map_append]
          show _ = some (HO.lst (_ ++ (([some k].filterMap (pick1 bs)).map V.int)))
          rw [show [some k].filterMap (pick1 bs) = [bs.getD k 0] by simp only [List.filterMap_cons, List.filterMap_nil, pick1, if_pos c1]]
          rfl
        · rw [decide_eq_false (show ¬ ((k : Nat) : Int) < (bs.length : Nat) by omega)]
          refine iteF ⟨sG, ?_⟩
          rw [hC, tk, List.filterMap_append, show [some k].filterMap (pick1 bs) = [] by simp only [List.filterMap_cons, List.filterMap_nil, pick1, if_neg c1], List.append_nil]
      | none =>
        obtain ⟨q', ys, rfl, hq⟩ := iy
        refine ⟨rfl, _, rfl, _, _, _, _, _, rfl, .ty "int", .base (.tup (sG _ _ (s1 _ _ hq))), tup_int, _, rfl, iteF (iteF ⟨sG, ?_⟩)⟩
        rw [hC, tk, List.filterMap_append, show [(none : Option Nat)].filterMap (pick1 bs) = [] from rfl, List.append_nil]
    obtain ⟨sG, hC⟩ := z
    rw [lx, List.take_length] at hC
    have s2 := s1.trans sG
    have ht2 := s2 _ _ ht
    have hb2 := s2 _ _ hb
    have hT2 := s2 _ _ hT
    have hP2 := hP0.same s2
    have q2 : ∀ (F : Hp) (y : Int), Same G F → P.bit x h (asked P bs) = y → Q (.int y) F := fun F y s e => e ▸ q F (s2.trans s)
    have gb := fun (k : Nat) (hk : k < bs.length) => show (bs.map V.int)[k]? = some (.int (bs.getD k 0)) by rw [List.getElem?_map, List.getElem?_eq_getElem hk, getD_of (List.getElem?_eq_getElem hk)]; rfl
    have b01 := fun (k : Nat) => bits_getD hbs k
    clear hP0 hc nC sG s1 hx
    refine ⟨_, _, rfl, ?_⟩
    cases P with
    | make m k =>
      obtain ⟨t', y, e, hy, _⟩ := hP2
      cases e
      refine ⟨_, rfl, rfl, _, rfl, iteT ⟨_, rfl, .ref t, rfl, t, _, 2, _, rfl, rfl, SqT.mk hy, atI_nat (j := 2) rfl, _, _, rfl, rfl, .inr ⟨_, rfl, ?_⟩⟩⟩
      refine q2 G _ (Same.refl G) ?_
      show (if x < (k : Int) then (1 : Int) else 0) = if decide (x < (k : Int)) = true then 1 else 0
      by_cases c : x < (k : Int)
      · rw [if_pos c, if_pos (decide_eq_true c)]
      · rw [if_neg c, if_neg (fun z => c (of_decide_eq_true z))]
    | keeper a b' m mo at_ =>
      refine ⟨_, rfl, rfl, _, rfl, ?_⟩
      rw [wd_no "keeper" rfl (by decide +kernel)]
      refine iteF ?_
      obtain ⟨i, rfl, _⟩ := hk
      obtain rfl : hv = .int i := lh
      refine ⟨_, rfl, rfl, _, rfl, iteT ⟨_, rfl, _, rfl, _, _, rfl, rfl, .inr ⟨_, rfl, ?_⟩⟩⟩
      refine q2 G _ (Same.refl G) ?_
      show (if x < i then (1 : Int) else 0) = if decide (x < i) = true then 1 else 0
      by_cases c : x < i
      · rw [if_pos c, if_pos (decide_eq_true c)]
      · rw [if_neg c, if_neg (fun z => c (of_decide_eq_true z))]
    | late a ah =>
      refine ⟨_, rfl, rfl, _, rfl, ?_⟩
      rw [wd_no "late" rfl (by decide +kernel)]
      refine iteF ?_
      refine ⟨_, rfl, rfl, _, rfl, ?_⟩
      rw [wd_no "late" rfl (by decide +kernel)]
      refine iteF ?_
      obtain ⟨t', s, e, hy, hs⟩ := hP2
      cases e
      obtain ⟨an, ⟨l1, l16⟩, _⟩ : a < n ∧ (1 ≤ ah.length ∧ ah.length ≤ 16) ∧ _ := ok
      have llt : h.ahD.getD 0 0 = if rs.length < ah.length then ah.getD rs.length 0 else (tb (rs.length - ah.length)).getD a 0 := llt
      refine ⟨_, rfl, rfl, _, rfl, iteT ⟨.ref t, rfl, t, _, 2, _, rfl, rfl, SqT.mk hy, atI_nat (j := 2) rfl, s, _, rfl, .inr (SqT.mk hs), ?_⟩⟩
      refine ⟨.ref T', rfl, T', _, rfl, .inl (SqL.mk hT2), _, rfl, _, _, rfl, rfl, _, rfl, ?_⟩
      rw [List.length_map]
      by_cases c : rs.length < ah.length
      · rw [if_pos c] at llt
        rw [decide_eq_true (show ((rs.length : Nat) : Int) < (ah.length : Nat) by omega)]
        refine iteT ⟨.ref t, rfl, t, _, 2, _, rfl, rfl, SqT.mk hy, atI_nat (j := 2) rfl, .ref T', rfl, T', _, rfl, .inl (SqL.mk hT2), s, _, _, .int (ah.getD rs.length 0), rfl, rfl, SqT.mk hs, atI_nat (by rw [List.getElem?_map, List.getElem?_eq_getElem c, getD_of (List.getElem?_eq_getElem c)]; rfl), q2 G _ (Same.refl G) llt⟩
      · rw [if_neg c] at llt
        rw [decide_eq_false (show ¬ ((rs.length : Nat) : Int) < (ah.length : Nat) by omega)]
        obtain ⟨qj, h1, h2, h3⟩ := htb (rs.length - ah.length) (by omega)
        have ai : (tb (rs.length - ah.length))[a]? = some ((tb (rs.length - ah.length)).getD a 0) := by
          have : a < (tb (rs.length - ah.length)).length := by omega
          rw [getD_of (List.getElem?_eq_getElem this)]
          exact List.getElem?_eq_getElem this
        refine iteF ⟨.ref T', rfl, _, rfl, _, rfl, T', _, _, _, rfl, rfl, SqL.mk hT2, atI_back (k := ah.length) (by omega) (by omega) h1, .ref t, rfl, t, _, 1, _, rfl, rfl, SqT.mk hy, atI_nat (j := 1) rfl, qj, _, _, _, rfl, rfl, SqL.mk (s2 _ _ h2), atI_nat (by rw [List.getElem?_map, ai]; rfl), q2 G _ (Same.refl G) llt⟩
    | keep a b' f =>
      refine ⟨_, rfl, rfl, _, rfl, ?_⟩
      rw [wd_no "keep" rfl (by decide +kernel)]
      refine iteF ?_
      refine ⟨_, rfl, rfl, _, rfl, ?_⟩
      rw [wd_no "keep" rfl (by decide +kernel)]
      refine iteF ?_
      refine ⟨_, rfl, rfl, _, rfl, ?_⟩
      rw [wd_no "keep" rfl (by decide +kernel)]
      refine iteF ?_
      obtain ⟨t', e, hy⟩ := hP2
      cases e
      obtain ⟨a1, b1, _⟩ : a < bs.length ∧ b' < bs.length ∧ f < 2 := ok
      refine ⟨_, rfl, rfl, _, rfl, iteT ⟨.ref b, rfl, .ref t, rfl, t, _, 2, _, rfl, rfl, SqT.mk hy, atI_nat (j := 2) rfl, b, _, _, _, rfl, rfl, SqL.mk hb2, atI_nat (gb b' b1), rfl, _, rfl, ite2 (fun c => ?_) (fun c => ?_)⟩⟩
      · exact ⟨.ref b, rfl, .ref t, rfl, t, _, 1, _, rfl, rfl, SqT.mk hy, atI_nat (j := 1) rfl, b, _, _, _, rfl, rfl, SqL.mk hb2, atI_nat (gb a a1), q2 G _ (Same.refl G) (if_pos (V.int.inj (of_decide_eq_true c)))⟩
      · obtain rfl : hv = .int h.bitD := lh
        exact ⟨_, rfl, q2 G _ (Same.refl G) (if_neg fun z => c (decide_eq_true (congrArg V.int z)))⟩
    | pick a b' c =>
      refine ⟨_, rfl, rfl, _, rfl, ?_⟩
      rw [wd_no "pick" rfl (by decide +kernel)]
      refine iteF ?_
      refine ⟨_, rfl, rfl, _, rfl, ?_⟩
      rw [wd_no "pick" rfl (by decide +kernel)]
      refine iteF ?_
      refine ⟨_, rfl, rfl, _, rfl, ?_⟩
      rw [wd_no "pick" rfl (by decide +kernel)]
      refine iteF ?_
      refine ⟨_, rfl, rfl, _, rfl, ?_⟩
      rw [wd_no "pick" rfl (by decide +kernel)]
      refine iteF ?_
      obtain ⟨a1, b1, c1⟩ : a < bs.length ∧ b' < bs.length ∧ c < bs.length := ok
      have hC : G C = some (.lst [.int (bs.getD a 0), .int (bs.getD b' 0), .int (bs.getD c 0)]) := by
        rw [hC]
        simp only [Pie.args, List.filterMap_cons, List.filterMap_nil, pick1, if_pos a1, if_pos b1, if_pos c1, List.map_cons, List.map_nil]
      refine ⟨_, rfl, rfl, _, rfl, iteT ⟨.ref C, rfl, .ref C, rfl, C, _, 0, _, rfl, rfl, SqL.mk hC, atI_nat (j := 0) rfl, _, _, rfl, rfl, ?_⟩⟩
      rcases b01 a with e | e
      · rw [e]
        exact ⟨C, _, _, _, rfl, rfl, SqL.mk hC, atI_nat (j := 2) rfl, q2 G _ (Same.refl G) (if_neg (show ¬ bs.getD a 0 = 1 by omega))⟩
      · rw [e]
        exact ⟨C, _, _, _, rfl, rfl, SqL.mk hC, atI_nat (j := 1) rfl, q2 G _ (Same.refl G) (if_pos e)⟩
    | less a =>
      refine ⟨_, rfl, rfl, _, rfl, ?_⟩
      rw [wd_no "less" rfl (by decide +kernel)]
      refine iteF ?_
      refine ⟨_, rfl, rfl, _, rfl, ?_⟩
      rw [wd_no "less" rfl (by decide +kernel)]
      refine iteF ?_
      refine ⟨_, rfl, rfl, _, rfl, ?_⟩
      rw [wd_no "less" rfl (by decide +kernel)]
      refine iteF ?_
      refine ⟨_, rfl, rfl, _, rfl, ?_⟩
      rw [wd_no "less" rfl (by decide +kernel)]
      refine iteF ?_
      refine ⟨_, rfl, rfl, _, rfl, ?_⟩
      rw [wd_no "less" rfl (by decide +kernel)]
      refine iteF ?_
      have a1 : a < bs.length := ok
      have hC : G C = some (.lst ([bs.getD a 0].map V.int)) := by
        rw [hC]
        simp only [Pie.args, List.filterMap_cons, List.filterMap_nil, pick1, if_pos a1]
      have hl : atI ([bs.getD a 0].map V.int) (-1) = some (.int (bs.getD a 0)) := atI_last [] _
      have h0 : atI ([bs.getD a 0].map V.int) 0 = some (.int (bs.getD a 0)) := atI_nat (j := 0) rfl
      have B := b01 a
      have A := b01 a
      have wa : -(2 ^ 64) < bs.getD a 0 ∧ bs.getD a 0 < 2 ^ 64 := by
        unfold B01 at A
        omega
      intro d nd
      have sd := same_upd nd (o := .dK [])
      refine ⟨.ref C, rfl, C, _, _, _, rfl, rfl, SqL.mk (sd _ _ hC), h0, _, _, rfl, rfl, ?_⟩
      refine ⟨.ref C, rfl, C, _, _, _, rfl, rfl, SqL.mk (sd _ _ hC), h0, .ref C, rfl, _, rfl, C, _, _, _, rfl, rfl, SqL.mk (sd _ _ hC), hl, _, _, rfl, rfl, .inl wa, ?_⟩
      refine ⟨.ref C, rfl, C, [bs.getD a 0], rfl, SqL.mk (sd _ _ hC), Nat.zero_lt_succ _, fun mx hm1 hm2 => ?_⟩
      refine ⟨upd_same, [(kS "less", .int (1 - bs.getD a 0)), (kS "both", .int (bs.getD a 0 * bs.getD a 0)), (kS "either", .int mx)], rfl, (show 3 ≤ 15 by decide), ?_⟩
      have s3 := same_newer (o := .dK (mergeK [] [(kS "less", .int (1 - bs.getD a 0)), (kS "both", .int (bs.getD a 0 * bs.getD a 0)), (kS "either", .int mx)])) sd nd
      have hd3 := upd_same (H := upd G d (.dK [])) (a := d) (o := .dK (mergeK [] [(kS "less", .int (1 - bs.getD a 0)), (kS "both", .int (bs.getD a 0 * bs.getD a 0)), (kS "either", .int mx)]))
      generalize upd (upd G d (.dK [])) d (.dK (mergeK [] [(kS "less", .int (1 - bs.getD a 0)), (kS "both", .int (bs.getD a 0 * bs.getD a 0)), (kS "either", .int mx)])) = F3 at s3 hd3 ⊢
      refine ⟨.ref d, rfl, .inr (.inr (.inl ⟨rfl, .inl ⟨_, hd3⟩⟩)), ?_⟩
      intro o no
      have so := same_upd no (o := .dK [])
      have hC3 := so _ _ (s3 _ _ hC)
      refine ⟨.ref C, rfl, C, _, _, _, rfl, rfl, SqL.mk hC3, h0, .ref C, rfl, _, rfl, C, _, _, _, rfl, rfl, SqL.mk hC3, hl, _, _, rfl, rfl, _, _, rfl, rfl, (show (0 : Int) < 2 by decide), ?_⟩
      refine ⟨upd_same, [(kS "oneof", .int ((bs.getD a 0 + bs.getD a 0) % 2))], rfl, (show 1 ≤ 15 by decide), ?_⟩
      have ne : d ≠ o := ne_of_none hd3 no
      have hd4 := same_newer (o := .dK (mergeK [] [(kS "oneof", .int ((bs.getD a 0 + bs.getD a 0) % 2))])) so no _ _ hd3
      have s4' := s3.trans (same_newer (o := .dK (mergeK [] [(kS "oneof", .int ((bs.getD a 0 + bs.getD a 0) % 2))])) so no)
      refine ⟨d, o, _, _, rfl, rfl, hd4, upd_same, ne, Nat.le_trans (Nat.add_le_add (length_mergeK _ _) (length_mergeK _ _)) (show 0 + 3 + (0 + 1) ≤ 1000 by decide), ?_⟩
      have s4 := same_newer (o := .dK (mergeK (mergeK [] [(kS "less", .int (1 - bs.getD a 0)), (kS "both", .int (bs.getD a 0 * bs.getD a 0)), (kS "either", .int mx)]) (mergeK [] [(kS "oneof", .int ((bs.getD a 0 + bs.getD a 0) % 2))]))) s4' nd
      have hd5 := upd_same (H := upd (upd F3 o (.dK [])) o (.dK (mergeK [] [(kS "oneof", .int ((bs.getD a 0 + bs.getD a 0) % 2))]))) (a := d) (o := .dK (mergeK (mergeK [] [(kS "less", .int (1 - bs.getD a 0)), (kS "both", .int (bs.getD a 0 * bs.getD a 0)), (kS "either", .int mx)]) (mergeK [] [(kS "oneof", .int ((bs.getD a 0 + bs.getD a 0) % 2))])))
      generalize upd (upd (upd F3 o (.dK [])) o (.dK (mergeK [] [(kS "oneof", .int ((bs.getD a 0 + bs.getD a 0) % 2))]))) d (.dK (mergeK (mergeK [] [(kS "less", .int (1 - bs.getD a 0)), (kS "both", .int (bs.getD a 0 * bs.getD a 0)), (kS "either", .int mx)]) (mergeK [] [(kS "oneof", .int ((bs.getD a 0 + bs.getD a 0) % 2))]))) = F4 at s4 hd5 ⊢
      have dg := (due_get (.int (1 - bs.getD a 0)) (.int (bs.getD a 0 * bs.getD a 0)) (.int mx) (.int ((bs.getD a 0 + bs.getD a 0) % 2))).1
      exact ⟨.ref d, rfl, .str "less", rfl, d, _, rfl, dg ▸ DGet.k (k := kS "less") hd5, q2 F4 _ s4 rfl⟩
    | both a b' =>
      refine ⟨_, rfl, rfl, _, rfl, ?_⟩
      rw [wd_no "both" rfl (by decide +kernel)]
      refine iteF ?_
      refine ⟨_, rfl, rfl, _, rfl, ?_⟩
      rw [wd_no "both" rfl (by decide +kernel)]
      refine iteF ?_
      refine ⟨_, rfl, rfl, _, rfl, ?_⟩
      rw [wd_no "both" rfl (by decide +kernel)]
      refine iteF ?_
      refine ⟨_, rfl, rfl, _, rfl, ?_⟩
      rw [wd_no "both" rfl (by decide +kernel)]
      refine iteF ?_
      refine ⟨_, rfl, rfl, _, rfl, ?_⟩
      rw [wd_no "both" rfl (by decide +kernel)]
      refine iteF ?_
      obtain ⟨a1, b1⟩ : a < bs.length ∧ b' < bs.length := ok
      have hC : G C = some (.lst ([bs.getD a 0, bs.getD b' 0].map V.int)) := by
        rw [hC]
        simp only [Pie.args, List.filterMap_cons, List.filterMap_nil, pick1, if_pos a1, if_pos b1]
      have hl : atI ([bs.getD a 0, bs.getD b' 0].map V.int) (-1) = some (.int (bs.getD b' 0)) := atI_last [V.int (bs.getD a 0)] _
      have h0 : atI ([bs.getD a 0, bs.getD b' 0].map V.int) 0 = some (.int (bs.getD a 0)) := atI_nat (j := 0) rfl
      have B := b01 b'
      have A := b01 a
      have wa : -(2 ^ 64) < bs.getD a 0 ∧ bs.getD a 0 < 2 ^ 64 := by
        unfold B01 at A
        omega
      intro d nd
      have sd := same_upd nd (o := .dK [])
      refine ⟨.ref C, rfl, C, _, _, _, rfl, rfl, SqL.mk (sd _ _ hC), h0, _, _, rfl, rfl, ?_⟩
      refine ⟨.ref C, rfl, C, _, _, _, rfl, rfl, SqL.mk (sd _ _ hC), h0, .ref C, rfl, _, rfl, C, _, _, _, rfl, rfl, SqL.mk (sd _ _ hC), hl, _, _, rfl, rfl, .inl wa, ?_⟩
      refine ⟨.ref C, rfl, C, [bs.getD a 0, bs.getD b' 0], rfl, SqL.mk (sd _ _ hC), Nat.zero_lt_succ _, fun mx hm1 hm2 => ?_⟩
      refine ⟨upd_same, [(kS "less", .int (1 - bs.getD a 0)), (kS "both", .int (bs.getD a 0 * bs.getD b' 0)), (kS "either", .int mx)], rfl, (show 3 ≤ 15 by decide), ?_⟩
      have s3 := same_newer (o := .dK (mergeK [] [(kS "less", .int (1 - bs.getD a 0)), (kS "both", .int (bs.getD a 0 * bs.getD b' 0)), (kS "either", .int mx)])) sd nd
      have hd3 := upd_same (H := upd G d (.dK [])) (a := d) (o := .dK (mergeK [] [(kS "less", .int (1 - bs.getD a 0)), (kS "both", .int (bs.getD a 0 * bs.getD b' 0)), (kS "either", .int mx)]))
      generalize upd (upd G d (.dK [])) d (.dK (mergeK [] [(kS "less", .int (1 - bs.getD a 0)), (kS "both", .int (bs.getD a 0 * bs.getD b' 0)), (kS "either", .int mx)])) = F3 at s3 hd3 ⊢
      refine ⟨.ref d, rfl, .inr (.inr (.inl ⟨rfl, .inl ⟨_, hd3⟩⟩)), ?_⟩
      intro o no
      have so := same_upd no (o := .dK [])
      have hC3 := so _ _ (s3 _ _ hC)
      refine ⟨.ref C, rfl, C, _, _, _, rfl, rfl, SqL.mk hC3, h0, .ref C, rfl, _, rfl, C, _, _, _, rfl, rfl, SqL.mk hC3, hl, _, _, rfl, rfl, _, _, rfl, rfl, (show (0 : Int) < 2 by decide), ?_⟩
      refine ⟨upd_same, [(kS "oneof", .int ((bs.getD a 0 + bs.getD b' 0) % 2))], rfl, (show 1 ≤ 15 by decide), ?_⟩
      have ne : d ≠ o := ne_of_none hd3 no
      have hd4 := same_newer (o := .dK (mergeK [] [(kS "oneof", .int ((bs.getD a 0 + bs.getD b' 0) % 2))])) so no _ _ hd3
      have s4' := s3.trans (same_newer (o := .dK (mergeK [] [(kS "oneof", .int ((bs.getD a 0 + bs.getD b' 0) % 2))])) so no)
      refine ⟨d, o, _, _, rfl, rfl, hd4, upd_same, ne, Nat.le_trans (Nat.add_le_add (length_mergeK _ _) (length_mergeK _ _)) (show 0 + 3 + (0 + 1) ≤ 1000 by decide), ?_⟩
      have s4 := same_newer (o := .dK (mergeK (mergeK [] [(kS "less", .int (1 - bs.getD a 0)), (kS "both", .int (bs.getD a 0 * bs.getD b' 0)), (kS "either", .int mx)]) (mergeK [] [(kS "oneof", .int ((bs.getD a 0 + bs.getD b' 0) % 2))]))) s4' nd
      have hd5 := upd_same (H := upd (upd F3 o (.dK [])) o (.dK (mergeK [] [(kS "oneof", .int ((bs.getD a 0 + bs.getD b' 0) % 2))]))) (a := d) (o := .dK (mergeK (mergeK [] [(kS "less", .int (1 - bs.getD a 0)), (kS "both", .int (bs.getD a 0 * bs.getD b' 0)), (kS "either", .int mx)]) (mergeK [] [(kS "oneof", .int ((bs.getD a 0 + bs.getD b' 0) % 2))])))
      generalize upd (upd (upd F3 o (.dK [])) o (.dK (mergeK [] [(kS "oneof", .int ((bs.getD a 0 + bs.getD b' 0) % 2))]))) d (.dK (mergeK (mergeK [] [(kS "less", .int (1 - bs.getD a 0)), (kS "both", .int (bs.getD a 0 * bs.getD b' 0)), (kS "either", .int mx)]) (mergeK [] [(kS "oneof", .int ((bs.getD a 0 + bs.getD b' 0) % 2))]))) = F4 at s4 hd5 ⊢
      have dg := (due_get (.int (1 - bs.getD a 0)) (.int (bs.getD a 0 * bs.getD b' 0)) (.int mx) (.int ((bs.getD a 0 + bs.getD b' 0) % 2))).2.1
      exact ⟨.ref d, rfl, .str "both", rfl, d, _, rfl, dg ▸ DGet.k (k := kS "both") hd5, q2 F4 _ s4 rfl⟩
    | either a b' =>
      refine ⟨_, rfl, rfl, _, rfl, ?_⟩
      rw [wd_no "either" rfl (by decide +kernel)]
      refine iteF ?_
      refine ⟨_, rfl, rfl, _, rfl, ?_⟩
      rw [wd_no "either" rfl (by decide +kernel)]
      refine iteF ?_
      refine ⟨_, rfl, rfl, _, rfl, ?_⟩
      rw [wd_no "either" rfl (by decide +kernel)]
      refine iteF ?_
      refine ⟨_, rfl, rfl, _, rfl, ?_⟩
      rw [wd_no "either" rfl (by decide +kernel)]
      refine iteF ?_
      refine ⟨_, rfl, rfl, _, rfl, ?_⟩
      rw [wd_no "either" rfl (by decide +kernel)]
      refine iteF ?_
      obtain ⟨a1, b1⟩ : a < bs.length ∧ b' < bs.length := ok
      have hC : G C = some (.lst ([bs.getD a 0, bs.getD b' 0].map V.int)) := by
        rw [hC]
        simp only [Pie.args, List.filterMap_cons, List.filterMap_nil, pick1, if_pos a1, if_pos b1]
      have hl : atI ([bs.getD a 0, bs.getD b' 0].map V.int) (-1) = some (.int (bs.getD b' 0)) := atI_last [V.int (bs.getD a 0)] _
      have h0 : atI ([bs.getD a 0, bs.getD b' 0].map V.int) 0 = some (.int (bs.getD a 0)) := atI_nat (j := 0) rfl
      have B := b01 b'
      have A := b01 a
      have wa : -(2 ^ 64) < bs.getD a 0 ∧ bs.getD a 0 < 2 ^ 64 := by
        unfold B01 at A
        omega
      intro d nd
      have sd := same_upd nd (o := .dK [])
      refine ⟨.ref C, rfl, C, _, _, _, rfl, rfl, SqL.mk (sd _ _ hC), h0, _, _, rfl, rfl, ?_⟩
      refine ⟨.ref C, rfl, C, _, _, _, rfl, rfl, SqL.mk (sd _ _ hC), h0, .ref C, rfl, _, rfl, C, _, _, _, rfl, rfl, SqL.mk (sd _ _ hC), hl, _, _, rfl, rfl, .inl wa, ?_⟩
      refine ⟨.ref C, rfl, C, [bs.getD a 0, bs.getD b' 0], rfl, SqL.mk (sd _ _ hC), Nat.zero_lt_succ _, fun mx hm1 hm2 => ?_⟩
      refine ⟨upd_same, [(kS "less", .int (1 - bs.getD a 0)), (kS "both", .int (bs.getD a 0 * bs.getD b' 0)), (kS "either", .int mx)], rfl, (show 3 ≤ 15 by decide), ?_⟩
      have s3 := same_newer (o := .dK (mergeK [] [(kS "less", .int (1 - bs.getD a 0)), (kS "both", .int (bs.getD a 0 * bs.getD b' 0)), (kS "either", .int mx)])) sd nd
      have hd3 := upd_same (H := upd G d (.dK [])) (a := d) (o := .dK (mergeK [] [(kS "less", .int (1 - bs.getD a 0)), (kS "both", .int (bs.getD a 0 * bs.getD b' 0)), (kS "either", .int mx)]))
      generalize upd (upd G d (.dK [])) d (.dK (mergeK [] [(kS "less", .int (1 - bs.getD a 0)), (kS "both", .int (bs.getD a 0 * bs.getD b' 0)), (kS "either", .int mx)])) = F3 at s3 hd3 ⊢
      refine ⟨.ref d, rfl, .inr (.inr (.inl ⟨rfl, .inl ⟨_, hd3⟩⟩)), ?_⟩
      intro o no
      have so := same_upd no (o := .dK [])
      have hC3 := so _ _ (s3 _ _ hC)
      refine ⟨.ref C, rfl, C, _, _, _, rfl, rfl, SqL.mk hC3, h0, .ref C, rfl, _, rfl, C, _, _, _, rfl, rfl, SqL.mk hC3, hl, _, _, rfl, rfl, _, _, rfl, rfl, (show (0 : Int) < 2 by decide), ?_⟩
      refine ⟨upd_same, [(kS "oneof", .int ((bs.getD a 0 + bs.getD b' 0) % 2))], rfl, (show 1 ≤ 15 by decide), ?_⟩
      have ne : d ≠ o := ne_of_none hd3 no
      have hd4 := same_newer (o := .dK (mergeK [] [(kS "oneof", .int ((bs.getD a 0 + bs.getD b' 0) % 2))])) so no _ _ hd3
      have s4' := s3.trans (same_newer (o := .dK (mergeK [] [(kS "oneof", .int ((bs.getD a 0 + bs.getD b' 0) % 2))])) so no)
      refine ⟨d, o, _, _, rfl, rfl, hd4, upd_same, ne, Nat.le_trans (Nat.add_le_add (length_mergeK _ _) (length_mergeK _ _)) (show 0 + 3 + (0 + 1) ≤ 1000 by decide), ?_⟩
      have s4 := same_newer (o := .dK (mergeK (mergeK [] [(kS "less", .int (1 - bs.getD a 0)), (kS "both", .int (bs.getD a 0 * bs.getD b' 0)), (kS "either", .int mx)]) (mergeK [] [(kS "oneof", .int ((bs.getD a 0 + bs.getD b' 0) % 2))]))) s4' nd
      have hd5 := upd_same (H := upd (upd F3 o (.dK [])) o (.dK (mergeK [] [(kS "oneof", .int ((bs.getD a 0 + bs.getD b' 0) % 2))]))) (a := d) (o := .dK (mergeK (mergeK [] [(kS "less", .int (1 - bs.getD a 0)), (kS "both", .int (bs.getD a 0 * bs.getD b' 0)), (kS "either", .int mx)]) (mergeK [] [(kS "oneof", .int ((bs.getD a 0 + bs.getD b' 0) % 2))])))
      generalize upd (upd (upd F3 o (.dK [])) o (.dK (mergeK [] [(kS "oneof", .int ((bs.getD a 0 + bs.getD b' 0) % 2))]))) d (.dK (mergeK (mergeK [] [(kS "less", .int (1 - bs.getD a 0)), (kS "both", .int (bs.getD a 0 * bs.getD b' 0)), (kS "either", .int mx)]) (mergeK [] [(kS "oneof", .int ((bs.getD a 0 + bs.getD b' 0) % 2))]))) = F4 at s4 hd5 ⊢
      have dg := (due_get (.int (1 - bs.getD a 0)) (.int (bs.getD a 0 * bs.getD b' 0)) (.int mx) (.int ((bs.getD a 0 + bs.getD b' 0) % 2))).2.2.1
      exact ⟨.ref d, rfl, .str "either", rfl, d, _, rfl, dg ▸ DGet.k (k := kS "either") hd5, q2 F4 _ s4 (bitX A B (by simpa using hm1) (hm2 _ (by simp)) (hm2 _ (by simp))).symm⟩
    | oneof a b' =>
      refine ⟨_, rfl, rfl, _, rfl, ?_⟩
      rw [wd_no "oneof" rfl (by decide +kernel)]
      refine iteF ?_
      refine ⟨_, rfl, rfl, _, rfl, ?_⟩
      rw [wd_no "oneof" rfl (by decide +kernel)]
      refine iteF ?_
      refine ⟨_, rfl, rfl, _, rfl, ?_⟩
      rw [wd_no "oneof" rfl (by decide +kernel)]
      refine iteF ?_
      refine ⟨_, rfl, rfl, _, rfl, ?_⟩
      rw [wd_no "oneof" rfl (by decide +kernel)]
      refine iteF ?_
      refine ⟨_, rfl, rfl, _, rfl, ?_⟩
      rw [wd_no "oneof" rfl (by decide +kernel)]
      refine iteF ?_
      obtain ⟨a1, b1⟩ : a < bs.length ∧ b' < bs.length := ok
      have hC : G C = some (.lst ([bs.getD a 0, bs.getD b' 0].map V.int)) := by
        rw [hC]
        simp only [Pie.args, List.filterMap_cons, List.filterMap_nil, pick1, if_pos a1, if_pos b1]
      have hl : atI ([bs.getD a 0, bs.getD b' 0].map V.int) (-1) = some (.int (bs.getD b' 0)) := atI_last [V.int (bs.getD a 0)] _
      have h0 : atI ([bs.getD a 0, bs.getD b' 0].map V.int) 0 = some (.int (bs.getD a 0)) := atI_nat (j := 0) rfl
      have B := b01 b'
      have A := b01 a
      have wa : -(2 ^ 64) < bs.getD a 0 ∧ bs.getD a 0 < 2 ^ 64 := by
        unfold B01 at A
        omega
      intro d nd
      have sd := same_upd nd (o := .dK [])
      refine ⟨.ref C, rfl, C, _, _, _, rfl, rfl, SqL.mk (sd _ _ hC), h0, _, _, rfl, rfl, ?_⟩
      refine ⟨.ref C, rfl, C, _, _, _, rfl, rfl, SqL.mk (sd _ _ hC), h0, .ref C, rfl, _, rfl, C, _, _, _, rfl, rfl, SqL.mk (sd _ _ hC), hl, _, _, rfl, rfl, .inl wa, ?_⟩
      refine ⟨.ref C, rfl, C, [bs.getD a 0, bs.getD b' 0], rfl, SqL.mk (sd _ _ hC), Nat.zero_lt_succ _, fun mx hm1 hm2 => ?_⟩
      refine ⟨upd_same, [(kS "less", .int (1 - bs.getD a 0)), (kS "both", .int (bs.getD a 0 * bs.getD b' 0)), (kS "either", .int mx)], rfl, (show 3 ≤ 15 by decide), ?_⟩
      have s3 := same_newer (o := .dK (mergeK [] [(kS "less", .int (1 - bs.getD a 0)), (kS "both", .int (bs.getD a 0 * bs.getD b' 0)), (kS "either", .int mx)])) sd nd
      have hd3 := upd_same (H := upd G d (.dK [])) (a := d) (o := .dK (mergeK [] [(kS "less", .int (1 - bs.getD a 0)), (kS "both", .int (bs.getD a 0 * bs.getD b' 0)), (kS "either", .int mx)]))
      generalize upd (upd G d (.dK [])) d (.dK (mergeK [] [(kS "less", .int (1 - bs.getD a 0)), (kS "both", .int (bs.getD a 0 * bs.getD b' 0)), (kS "either", .int mx)])) = F3 at s3 hd3 ⊢
      refine ⟨.ref d, rfl, .inr (.inr (.inl ⟨rfl, .inl ⟨_, hd3⟩⟩)), ?_⟩
      intro o no
      have so := same_upd no (o := .dK [])
      have hC3 := so _ _ (s3 _ _ hC)
      refine ⟨.ref C, rfl, C, _, _, _, rfl, rfl, SqL.mk hC3, h0, .ref C, rfl, _, rfl, C, _, _, _, rfl, rfl, SqL.mk hC3, hl, _, _, rfl, rfl, _, _, rfl, rfl, (show (0 : Int) < 2 by decide), ?_⟩
      refine ⟨upd_same, [(kS "oneof", .int ((bs.getD a 0 + bs.getD b' 0) % 2))], rfl, (show 1 ≤ 15 by decide), ?_⟩
      have ne : d ≠ o := ne_of_none hd3 no
      have hd4 := same_newer (o := .dK (mergeK [] [(kS "oneof", .int ((bs.getD a 0 + bs.getD b' 0) % 2))])) so no _ _ hd3
      have s4' := s3.trans (same_newer (o := .dK (mergeK [] [(kS "oneof", .int ((bs.getD a 0 + bs.getD b' 0) % 2))])) so no)
      refine ⟨d, o, _, _, rfl, rfl, hd4, upd_same, ne, Nat.le_trans (Nat.add_le_add (length_mergeK _ _) (length_mergeK _ _)) (show 0 + 3 + (0 + 1) ≤ 1000 by decide), ?_⟩
      have s4 := same_newer (o := .dK (mergeK (mergeK [] [(kS "less", .int (1 - bs.getD a 0)), (kS "both", .int (bs.getD a 0 * bs.getD b' 0)), (kS "either", .int mx)]) (mergeK [] [(kS "oneof", .int ((bs.getD a 0 + bs.getD b' 0) % 2))]))) s4' nd
      have hd5 := upd_same (H := upd (upd F3 o (.dK [])) o (.dK (mergeK [] [(kS "oneof", .int ((bs.getD a 0 + bs.getD b' 0) % 2))]))) (a := d) (o := .dK (mergeK (mergeK [] [(kS "less", .int (1 - bs.getD a 0)), (kS "both", .int (bs.getD a 0 * bs.getD b' 0)), (kS "either", .int mx)]) (mergeK [] [(kS "oneof", .int ((bs.getD a 0 + bs.getD b' 0) % 2))])))
      generalize upd (upd (upd F3 o (.dK [])) o (.dK (mergeK [] [(kS "oneof", .int ((bs.getD a 0 + bs.getD b' 0) % 2))]))) d (.dK (mergeK (mergeK [] [(kS "less", .int (1 - bs.getD a 0)), (kS "both", .int (bs.getD a 0 * bs.getD b' 0)), (kS "either", .int mx)]) (mergeK [] [(kS "oneof", .int ((bs.getD a 0 + bs.getD b' 0) % 2))]))) = F4 at s4 hd5 ⊢
      have dg := (due_get (.int (1 - bs.getD a 0)) (.int (bs.getD a 0 * bs.getD b' 0)) (.int mx) (.int ((bs.getD a 0 + bs.getD b' 0) % 2))).2.2.2
      exact ⟨.ref d, rfl, .str "oneof", rfl, d, _, rfl, dg ▸ DGet.k (k := kS "oneof") hd5, q2 F4 _ s4 (bitM A B).symm⟩
/-! the law's own bits, beat by beat -/
theorem late_hist {Ps : List Pie} {i a : Nat} {ah : List Int} (e : Ps[i]? = some (.late a ah)) : ∀ t : Nat, ∃ L : List Int, (sta Ps t).getD i Hd.non = .ah L ∧ L.length = ah.length ∧ ∀ j, j < ah.length → L.getD j 0 = if t + j < ah.length then ah.getD (t + j) 0 else (bts Ps (t + j - ah.length)).getD a 0
  | 0 => by
    refine ⟨ah, getD_of (show (Ps.map Pie.first)[i]? = some _ by rw [List.getElem?_map, e]; rfl), rfl, fun j hj => ?_⟩
    rw [Nat.zero_add, if_pos hj]
  | t + 1 => by
    obtain ⟨L, h1, h2, h3⟩ := late_hist e t
    refine ⟨(L ++ [(bts Ps t).getD a 0]).drop 1, ?_, by rw [List.length_drop, List.length_append]; show L.length + 1 - 1 = _; omega, fun j hj => ?_⟩
    · rw [sta_succ e, h1]
      rfl
    · rw [List.getD_eq_getElem?_getD, List.getElem?_drop]
      by_cases c : 1 + j < L.length
      · rw [List.getElem?_append_left c, ← List.getD_eq_getElem?_getD, Nat.add_comm 1 j, h3 (j + 1) (by omega), show t + (j + 1) = t + 1 + j by omega]
      · obtain rfl : j = L.length - 1 := by omega
        rw [List.getElem?_append_right (by omega), show 1 + (L.length - 1) - L.length = 0 by omega, if_neg (by omega), show t + 1 + (L.length - 1) - ah.length = t by omega]
        rfl
theorem llate_of {Ps : List Pie} {i : Nat} {P : Pie} {n : Nat} (e : Ps[i]? = some P) (ok : P.Ok i n) (t : Nat) : LLate P ((sta Ps t).getD i .non) t (bts Ps) := by
  cases P with
  | late a ah =>
    obtain ⟨L, h1, h2, h3⟩ := late_hist e t
    obtain ⟨_, ⟨l1, _⟩, _⟩ : a < n ∧ (1 ≤ ah.length ∧ ah.length ≤ 16) ∧ _ := ok
    show (Hd.ahD ((sta Ps t).getD i .non)).getD 0 0 = _
    rw [h1]
    exact h3 0 (by omega)
  | _ => trivial
theorem PieAt.last {H : Hp} {P : Pie} {v : V} (h : PieAt H P v) : ∃ t ys u, v = .ref t ∧ H t = some (.tup ys) ∧ atI ys (-1) = some u ∧ LHd P P.first u := by
  cases P with
  | make m k => obtain ⟨t, x, e, ht, hm⟩ := h; exact ⟨t, _, _, e, ht, atI_last [_, _] _, trivial⟩
  | late a ah => obtain ⟨t, s, e, ht, hs⟩ := h; exact ⟨t, _, _, e, ht, atI_last [_, _] _, trivial⟩
  | keeper a b m mo at_ => obtain ⟨t, x, e, ht, hm⟩ := h; exact ⟨t, _, _, e, ht, atI_last [_, _, _, _, _] _, rfl⟩
  | less a => obtain ⟨t, e, ht⟩ := h; exact ⟨t, _, _, e, ht, atI_last [_] _, trivial⟩
  | both a b => obtain ⟨t, e, ht⟩ := h; exact ⟨t, _, _, e, ht, atI_last [_, _] _, trivial⟩
  | either a b => obtain ⟨t, e, ht⟩ := h; exact ⟨t, _, _, e, ht, atI_last [_, _] _, trivial⟩
  | oneof a b => obtain ⟨t, e, ht⟩ := h; exact ⟨t, _, _, e, ht, atI_last [_, _] _, trivial⟩
  | pick a b c => obtain ⟨t, e, ht⟩ := h; exact ⟨t, _, _, e, ht, atI_last [_, _, _] _, trivial⟩
  | keep a b f => obtain ⟨t, e, ht⟩ := h; exact ⟨t, _, _, e, ht, atI_last [_, _, _] _, rfl⟩
/-- where a piece's maker stands in it -/
def Pie.mi : Pie → Option Nat
  | .make _ _ => some 1
  | .keeper _ _ _ _ _ => some 3
  | _ => none
theorem mi_none {P : Pie} {j : Nat} (h : P.args[j]? = some none) : (P.mi = some (j + 1) ∧ (P.word = "make" ∨ P.word = "keeper")) ∨ (P.mi = none ∧ P.word = "late") := by
  cases P with
  | make m k =>
    match j, h with
    | 0, _ => exact .inl ⟨rfl, .inl rfl⟩
    | 1, h => cases h
    | j + 2, h => cases h
  | late a ah => exact .inr ⟨rfl, rfl⟩
  | keeper a b m mo at_ =>
    match j, h with
    | 0, h => cases h
    | 1, h => cases h
    | 2, _ => exact .inl ⟨rfl, .inr rfl⟩
    | 3, h => cases h
    | 4, h => cases h
    | j + 5, h => cases h
  | less a =>
    match j, h with
    | 0, h => cases h
    | j + 1, h => cases h
  | both a b =>
    match j, h with
    | 0, h => cases h
    | 1, h => cases h
    | j + 2, h => cases h
  | either a b =>
    match j, h with
    | 0, h => cases h
    | 1, h => cases h
    | j + 2, h => cases h
  | oneof a b =>
    match j, h with
    | 0, h => cases h
    | 1, h => cases h
    | j + 2, h => cases h
  | pick a b c =>
    match j, h with
    | 0, h => cases h
    | 1, h => cases h
    | 2, h => cases h
    | j + 3, h => cases h
  | keep a b f =>
    match j, h with
    | 0, h => cases h
    | 1, h => cases h
    | 2, h => cases h
    | j + 3, h => cases h
theorem mi_some {P : Pie} {j k : Nat} (h : P.args[j]? = some (some k)) : P.mi ≠ some (j + 1) := fun e => by
  cases P with
  | make m k =>
    cases (Option.some.inj e : 1 = j + 1)
    cases h
  | keeper a b m mo at_ =>
    cases (Option.some.inj e : 3 = j + 1)
    cases h
  | _ => cases e
theorem PieAt.mkr {H : Hp} {P : Pie} {v : V} (h : PieAt H P v) : ∃ t ys, v = .ref t ∧ H t = some (.tup (V.str P.word :: ys)) ∧ ItmsAt H ys P.args ∧ ∀ m, P.mi = some m → ∃ mk x, P.mkr = some mk ∧ (V.str P.word :: ys)[m]? = some x ∧ MkAt H mk x := by
  cases P with
  | make m k => obtain ⟨t, x, e, ht, hm⟩ := h; exact ⟨t, _, e, ht, ⟨mk_is hm, rfl, trivial⟩, fun _ z => by cases z; exact ⟨m, x, rfl, rfl, hm⟩⟩
  | keeper a b m mo at_ => obtain ⟨t, x, e, ht, hm⟩ := h; exact ⟨t, _, e, ht, ⟨rfl, rfl, mk_is hm, rfl, rfl, trivial⟩, fun _ z => by cases z; exact ⟨m, x, rfl, rfl, hm⟩⟩
  | late a ah => obtain ⟨t, s, e, ht, hs⟩ := h; exact ⟨t, _, e, ht, ⟨rfl, ⟨s, _, rfl, hs⟩, trivial⟩, fun _ z => by cases z⟩
  | less a => obtain ⟨t, e, ht⟩ := h; exact ⟨t, _, e, ht, ⟨rfl, trivial⟩, fun _ z => by cases z⟩
  | both a b => obtain ⟨t, e, ht⟩ := h; exact ⟨t, _, e, ht, ⟨rfl, rfl, trivial⟩, fun _ z => by cases z⟩
  | either a b => obtain ⟨t, e, ht⟩ := h; exact ⟨t, _, e, ht, ⟨rfl, rfl, trivial⟩, fun _ z => by cases z⟩
  | oneof a b => obtain ⟨t, e, ht⟩ := h; exact ⟨t, _, e, ht, ⟨rfl, rfl, trivial⟩, fun _ z => by cases z⟩
  | pick a b c => obtain ⟨t, e, ht⟩ := h; exact ⟨t, _, e, ht, ⟨rfl, rfl, rfl, trivial⟩, fun _ z => by cases z⟩
  | keep a b f => obtain ⟨t, e, ht⟩ := h; exact ⟨t, _, e, ht, ⟨rfl, rfl, rfl, trivial⟩, fun _ z => by cases z⟩
theorem nums_mkr {P : Pie} : (P.mi = none → P.nums = [0]) ∧ ∀ m, P.mkr = some m → P.nums = (List.range m.rnd).map fun (i : Nat) => m.val i := by
  constructor
  · intro h
    cases P <;> first | rfl | cases h
  · intro m h
    cases P with
    | make m' k => cases h; rfl
    | keeper a b m' mo at_ => cases h; rfl
    | _ => cases h
theorem mkr_wl {P : Pie} {m : Mk} {i n : Nat} (h : P.mkr = some m) (ok : P.Ok i n) : m.Wl := by
  cases P with
  | make m' k => cases h; exact ok.1
  | keeper a b m' mo at_ => cases h; exact ok.2.2.1
  | _ => cases h
theorem mk_words (z : Str) : inV (.str z) [.str "make", .str "keeper"] = decide (z = "make" ∨ z = "keeper") := by
  by_cases h1 : z = "make"
  · subst h1
    decide +kernel
  · by_cases h2 : z = "keeper"
    · subst h2
      decide +kernel
    · rw [decide_eq_false (fun e => e.elim h1 h2)]
      have e1 : eqV (.str "make") (.str z) = false := by
        show (("make" : Str) == z) = false
        exact beq_false_of_ne fun e => h1 e.symm
      have e2 : eqV (.str "keeper") (.str z) = false := by
        show (("keeper" : Str) == z) = false
        exact beq_false_of_ne fun e => h2 e.symm
      show (eqV (.str "make") (.str z) || (eqV (.str "keeper") (.str z) || false)) = false
      rw [e1, e2]
      rfl
theorem keep_mvd {mo a u d : Int} (hu : B01 u) (hd : B01 d) (h0 : 0 ≤ a) (h1 : a ≤ mo) : (if (if a + u - d > 0 then a + u - d else 0) < mo then (if a + u - d > 0 then a + u - d else 0) else mo) = mvd mo a u d := by
  unfold mvd
  unfold B01 at hu hd
  split <;> split <;> split <;> (try split) <;> omega
def sp__law_bits (_ : PySem.W.Frag) : Sp := fun vs H Q _ => ∃ (pa : Addr) (xs : List V) (Ps : List Pie) (b : Nat), vs = [.ref pa, .int (b : Nat)] ∧ H pa = some (.tup xs) ∧ PisAt H Ps xs ∧ Ps.length ≤ 24 ∧ PsOk Ps.length Ps ∧ b ≤ 100000 ∧
  ∀ H' l rs, Same H H' → H l = none → H' l = some (.lst rs) → rs.length = b → TldAt H' rs (bts Ps) Ps.length → (∀ (j : Nat) (q : Addr), rs[j]? = some (.ref q) → H q = none) → Q (.ref l) H'
theorem ok__law_bits (T : Defs K mg) : FnOk P w K mg base CX0 10 T.f__law_bits T.fd__law_bits ["_law_pieces", "_law_beats"] (sp__law_bits K) := by
  have G_values_of : FnOk P w K mg base CX0 5 T.f_values_of T.fd_values_of ["maker", "beats"] (sp_values_of K) := ok_values_of T
  have G_round_of : FnOk P w K mg base CX0 9 T.f_round_of T.fd_round_of ["maker"] (sp_round_of K) := ok_round_of T
  have G__law_bit : FnOk P w K mg base CX0 1 T.f__law_bit T.fd__law_bit ["_law_piece", "_law_bits_here", "_law_told", "_law_number", "_law_held"] (sp__law_bit K) := ok__law_bit T
  refine T.F__law_bits.ok sc__law_bits (fun vs H Q E h => ?_) (fun cdv A outer s H vs Q E hr h => ?_)
  · obtain ⟨pa, xs, Ps, b, rfl, hpa, hps, n24, ok, b5, q⟩ := h
    rfl
  · obtain ⟨pa, xs, Ps, b, rfl, hpa, hps, n24, ok, b5, q⟩ := h
    refine ⟨_, PSs.nox (pss_cons (ps_par (i := 2) (j := 3) (by rfl) sc__law_bits.nd rfl rfl (by decide) rfl rfl (pa_cons (pe_lst pa_nil) (pa_cons (pe_lc (own := [("_law_piece", 9)]) (g := gName 9) (tt := tYes) rfl sc__law_bits.nd (pi_tup (pv 0)) (blkOk_by (N := N__law_bits) (sc := defScope s__law_bits) (by decide +kernel)) (fun _ _ _ _ _ => (pg_name (i := 9) sc__law_bits.nd rfl (.inl rfl))) (fun _ _ _ _ _ => pts_nil) (fun _ _ _ _ _ => (pe_ix (ixtK (K := K) rfl) (pv 9) (pe_un un_neg pe_int) (fun _ _ => rfl)))) pa_nil)) (by rfl))
    (pss_cons (ps_setLc (i := 4) (own := [("_law_piece", 9)]) (g := gName 9) (tt := tYes) rfl sc__law_bits.nd rfl rfl (sw_true rfl rfl rfl (by decide +kernel)) (pi_tup (pv 0)) (blkOk_by (N := N__law_bits) (sc := defScope s__law_bits) (by decide +kernel)) (fun _ _ _ _ _ => (pg_name (i := 9) sc__law_bits.nd rfl (.inr rfl))) (fun _ _ _ _ _ => pts_nil) (fun _ _ _ _ _ => (pe_lc (own := [("_law_one", 11)]) (g := gName 11) rfl sc__law_bits.nd (tupIK (K := K) rfl (pv 9)) (blkOk_by (by rfl)) (fun _ _ _ _ _ => (pg_name (i := 11) sc__law_bits.nd rfl (.inl rfl))) (fun _ _ _ _ _ => pts_one (PW.pt (pw_and (pt_val (pe_callB (isiK (K := K) rfl) (by rfl) T.m_isinstance bt_isinstance (pa_cons (pv 11) (pa_cons (pe_bltn (v := .ty "tuple") (by rfl) T.m_tuple bt_tuple rfl) pa_nil)))) (pw_and1 (pt_cmpR (inK (K := K) rfl) (pe_ix (ixtK (K := K) rfl) (pv 9) pe_int (fun _ _ => rfl)) (pe_tup (pa_cons pe_str (pa_cons pe_str pa_nil))) rfl))))) (fun _ _ _ _ _ => (pv 11)))))
    (pss_cons (ps_setLc (i := 5) (own := [("_law_some", 12)]) (g := gName 12) (tt := tYes) rfl sc__law_bits.nd rfl rfl (sw_true rfl rfl rfl (by decide +kernel)) (pi_list (pv 4)) (blkOk_by (N := N__law_bits) (sc := defScope s__law_bits) (by decide +kernel)) (fun _ _ _ _ _ => (pg_name (i := 12) sc__law_bits.nd rfl (.inl rfl))) (fun _ _ _ _ _ => pts_nil) (fun _ _ _ _ _ => (pe_ifExp (pt_cmpR (neDK (K := K) rfl hr.units) (pv 12) (pe_lst pa_nil) (nomark _)) (pe_call G_values_of (hr.mono (by decide)) (by rfl) T.g_values_of T.F_values_of.kp T.b_values_of .nil pass0 (pa_cons (pe_ix (ixlK (K := K) rfl) (pv 12) pe_int (fun _ _ => rfl)) (pa_cons (pe_call G_round_of (hr.mono (by decide)) (by rfl) T.g_round_of T.F_round_of.kp T.b_round_of .nil pass0 (pa_cons (pe_ix (ixlK (K := K) rfl) (pv 12) pe_int (fun _ _ => rfl)) pa_nil)) pa_nil))) (pe_lst (pa_cons pe_int pa_nil)))))
    (pss_cons ((ps_for PassesOwn.never rfl (pi_range1 (by rfl) T.m_range (pa_cons (pv 1) pa_nil)) (pg_name (i := 6) sc__law_bits.nd rfl (.inl rfl)) (pss_cons (ps_set (i := 7) sc__law_bits.nd rfl (.inl rfl) (pe_lst pa_nil))
    (pss_cons ((ps_for PassesOwn.never rfl (pi_enumT (by rfl) T.m_enumerate (pa_cons (pv 0) pa_nil)) (pg_tup rfl (pgs_cons (pg_name (i := 8) sc__law_bits.nd rfl (.inl rfl)) (pgs_cons (pg_name (i := 9) sc__law_bits.nd rfl (.inl rfl)) pgs_nil))) (pss_one (ps_expr (pe_bm PySem.F.plainAttrs_list PySem.F.slot_list_append PySem.F.type_list_append mt_append (pv 7) (pa_cons (pe_call G__law_bit (hr.mono (by decide)) (by rfl) T.g__law_bit T.F__law_bit.kp T.b__law_bit .nil pass0 (pa_cons (pv 9) (pa_cons (pv 7) (pa_cons (pv 2) (pa_cons (pe_ix ix_list (pe_ix ix_list (pv 5) (pv 8) (fun _ _ => rfl)) (pe_op op_mod (pv 6) (pe_callB call_len_seq (by rfl) T.m_len bt_len (pa_cons (pe_ix ix_list (pv 5) (pv 8) (fun _ _ => rfl)) pa_nil))) (fun _ _ => rfl)) (pa_cons (pe_ix ix_list (pv 3) (pv 8) (fun _ _ => rfl)) pa_nil)))))) pa_nil))))))
    (pss_cons (ps_expr (pe_bm PySem.F.plainAttrs_list PySem.F.slot_list_append PySem.F.type_list_append mt_append (pv 2) (pa_cons (pv 7) pa_nil)))
    (pss_one ((ps_for PassesOwn.never rfl (pi_enumT (by rfl) T.m_enumerate (pa_cons (pv 0) pa_nil)) (pg_tup rfl (pgs_cons (pg_name (i := 8) sc__law_bits.nd rfl (.inl rfl)) (pgs_cons (pg_name (i := 9) sc__law_bits.nd rfl (.inl rfl)) pgs_nil))) (pss_cons (ps_if (pt_cmpR op_eq (pe_ix ix_tup (pv 9) pe_int (fun _ _ => rfl)) pe_str (nomark _)) (pss_one (ps_asg (pe_ix ix_list (pv 7) (pv 8) (fun _ _ => rfl)) (pg_sub (pv 3) (pv 8) set_list))) pss_nil)
    (pss_one (ps_if (pt_cmpR op_eq (pe_ix ix_tup (pv 9) pe_int (fun _ _ => rfl)) pe_str (nomark _)) (pss_cons (ps_set (i := 10) sc__law_bits.nd rfl (.inl rfl) (pe_op op_sub (pe_op op_add (pe_ix ix_list (pv 3) (pv 8) (fun _ _ => rfl)) (pe_ix ix_list (pv 7) (pe_ix ix_tup (pv 9) pe_int (fun _ _ => rfl)) (fun _ _ => rfl))) (pe_ix ix_list (pv 7) (pe_ix ix_tup (pv 9) pe_int (fun _ _ => rfl)) (fun _ _ => rfl))))
    (pss_one (ps_asg (pe_callB (call_min2 rfl) (by rfl) T.m_min bt_min (pa_cons (pe_ix ix_tup (pv 9) pe_int (fun _ _ => rfl)) (pa_cons (pe_callB (call_max2 rfl) (by rfl) T.m_max bt_max (pa_cons pe_int (pa_cons (pv 10) pa_nil))) pa_nil))) (pg_sub (pv 3) (pv 8) set_list)))) pss_nil)))))))))))
    (pss_one (ps_ret (pv 2))))))), ?_⟩
    have hsl : sizeLine = 16777216 := by decide
    have ll := hps.len
    refine ⟨Nat.zero_le _, fun T' nT => ?_⟩
    have s1 := same_upd nT (o := .lst [])
    have hT1 := upd_same (H := H) (a := T') (o := .lst [])
    generalize upd H T' (.lst []) = H1 at s1 hT1 ⊢
    -- what is held ahead
    refine ⟨.ref pa, rfl, pa, rfl, ⟨_, SqT.mk (s1 _ _ hpa)⟩, fun C nC => ?_⟩
    have TC : T' ≠ C := ne_of_none hT1 nC
    refine lc_it (walk_tup (xs := xs)) (fun i G => Same H1 G ∧ ∃ hv : List V, hv.length = i ∧ (∀ (j : Nat) (P : Pie), j < i → Ps[j]? = some P → ∃ v, hv[j]? = some v ∧ LHd P P.first v) ∧ G C = some (.lst hv)) ⟨same_upd nC, [], rfl, fun j P h => absurd h (by omega), upd_same⟩ (fun i G _ h => SqT.mk (h.1 _ _ (s1 _ _ hpa))) (fun i v G G' hi h y => ?_) (fun G h => ?_)
    · obtain ⟨sG, hv, hl, hr, hC⟩ := h
      obtain ⟨rfl, hv1⟩ := y
      obtain ⟨P, hP, hpv⟩ := hps.ok_get hv1
      obtain ⟨t, ys, u, rfl, ht, hu, lu⟩ := hpv.last
      refine ⟨rfl, yes_ite ⟨.ref t, rfl, _, rfl, t, _, _, _, rfl, rfl, SqT.mk (sG _ _ (s1 _ _ ht)), hu, _, hC, by omega, same_newer sG nC, hv ++ [u], by rw [List.length_append, hl]; rfl, fun j R hj hR => ?_, upd_same⟩⟩
      by_cases e : j < i
      · obtain ⟨w', h1, h2⟩ := hr j R e hR
        exact ⟨w', by rw [get_snoc (by omega)]; exact h1, h2⟩
      · obtain rfl : j = hv.length := by omega
        rw [hl, hP] at hR
        cases hR
        exact ⟨u, get_last, lu⟩
    obtain ⟨s2, hv0, lv0, hh0, hC⟩ := h
    rw [ll] at lv0
    have hh0 : ∀ (j : Nat) (P : Pie), Ps[j]? = some P → ∃ v, hv0[j]? = some v ∧ LHd P P.first v := fun j P e => hh0 j P (by have := (List.getElem?_eq_some_iff.mp e).1; omega) e
    refine ⟨_, _, rfl, ?_⟩
    have s12 := s1.trans s2
    have nCH := s1.free nC
    have hT2 := s2 _ _ hT1
    -- the makers
    refine ⟨.ref pa, rfl, pa, rfl, ⟨_, SqT.mk (s12 _ _ hpa)⟩, fun D nD => ?_⟩
    refine lc_it (walk_tup (xs := xs)) (fun i F => Same G F ∧ ∃ rs : List Addr, rs.length = i ∧ (∀ (j : Nat) (P : Pie), j < i → Ps[j]? = some P → ∃ q, rs[j]? = some q ∧ q ≠ D ∧ ((P.mi = none ∧ F q = some (.lst [])) ∨ ∃ mk x, P.mkr = some mk ∧ MkAt H mk x ∧ F q = some (.lst [x]))) ∧ F D = some (.lst (rs.map V.ref))) ⟨same_upd nD, [], rfl, fun j P h => absurd h (by omega), upd_same⟩ (fun i F _ h => SqT.mk (h.1 _ _ (s12 _ _ hpa))) (fun i v F F' hi h y => ?_) (fun F h => ?_)
    · obtain ⟨sF, rs, hl, hr, hD⟩ := h
      obtain ⟨rfl, hv1⟩ := y
      obtain ⟨P, hP, hpv⟩ := hps.ok_get hv1
      obtain ⟨t, ys, rfl, ht, hit, hmk⟩ := hpv.mkr
      have sHF := s12.trans sF
      refine ⟨rfl, yes_ite ⟨.ref t, rfl, t, rfl, ⟨_, SqT.mk (sHF _ _ ht)⟩, fun L nL => ?_⟩⟩
      have LD : L ≠ D := (ne_of_none hD nL).symm
      refine lc_it (walk_tup (xs := V.str P.word :: ys)) (fun k E => Same F' E ∧ E L = some (.lst (match P.mi with | some m => if m < k then ((V.str P.word :: ys)[m]?).toList else [] | none => []))) ⟨same_upd nL, ?_⟩ (fun k E _ h => SqT.mk (h.1 _ _ (sHF _ _ ht))) (fun k y E E' hk h e => ?_) (fun E h => ?_)
      · rw [upd_same]
        cases P.mi <;> rfl
      · obtain ⟨sE, hL⟩ := h
        obtain ⟨rfl, hy⟩ := e
        refine ⟨rfl, y, rfl, ?_⟩
        have stay : (∀ m, P.mi = some m → m ≠ k) → E' L = some (.lst (match P.mi with | some m => if m < k + 1 then ((V.str P.word :: ys)[m]?).toList else [] | none => [])) := fun h => by
          rw [hL]
          cases e : P.mi with
          | none => rfl
          | some m =>
            have := h m e
            by_cases c : m < k
            · show some (HO.lst (if m < k then _ else _)) = some (HO.lst (if m < k + 1 then _ else _))
              rw [if_pos c, if_pos (by omega)]
            · show some (HO.lst (if m < k then _ else _)) = some (HO.lst (if m < k + 1 then _ else _))
              rw [if_neg c, if_neg (by omega)]
        cases k with
        | zero =>
          cases hy
          refine ⟨_, _, _, _, _, rfl, .ty "tuple", .base (.str _), kit_ty (by decide +kernel), _, rfl, iteF (iteF ⟨sE, stay fun m e z => ?_⟩)⟩
          subst z
          cases P <;> cases e
        | succ k =>
          have hy : ys[k]? = some y := by simpa using hy
          obtain ⟨a, ha, iy⟩ := hit.get hy
          cases a with
          | some c =>
            obtain rfl : y = .int (c : Nat) := iy
            exact ⟨_, _, _, _, _, rfl, .ty "tuple", .base (.int _), kit_ty (by decide +kernel), _, rfl, iteF (iteF ⟨sE, stay fun m e z => mi_some ha (by rw [e, z])⟩)⟩
          | none =>
            obtain ⟨q', zs, rfl, hq⟩ := iy
            refine ⟨_, _, _, _, _, rfl, .ty "tuple", .base (.tup (sE _ _ (sHF _ _ hq))), kit_ty (by decide +kernel), _, rfl, iteT ⟨.ref t, rfl, t, _, 0, _, rfl, rfl, SqT.mk (sE _ _ (sHF _ _ ht)), atI_nat (j := 0) rfl, (show 2 ≤ sizeLine by decide), fun W nW => ⟨W, _, rfl, .inr (SqT.mk upd_same), rfl, rfl, _, rfl, ?_⟩⟩⟩
            have sW := same_upd nW (o := .tup [.str "make", .str "keeper"])
            rw [if_neg Bool.false_ne_true, mk_words]
            rcases mi_none ha with ⟨e1, e2⟩ | ⟨e1, e2⟩
            · rw [decide_eq_true e2]
              have hL2 : E' L = some (.lst []) := by
                rw [hL, e1]
                show some (HO.lst (if k + 1 < k + 1 then _ else _)) = _
                rw [if_neg (by omega)]
              refine iteT ⟨_, rfl, _, sW _ _ hL2, by decide, same_newer (sE.trans sW) nL, ?_⟩
              rw [upd_same, e1]
              show _ = some (HO.lst (if k + 1 < k + 1 + 1 then _ else _))
              rw [if_pos (by omega), show (V.str P.word :: ys)[k + 1]? = some (.ref q') from hy]
              rfl
            · rw [decide_eq_false (by rw [e2]; decide +kernel)]
              refine iteF ⟨sE.trans sW, ?_⟩
              have := sW _ _ hL
              rw [this, e1]
      · obtain ⟨sE, hL⟩ := h
        have hDE := sE _ _ hD
        refine ⟨_, hDE, by rw [List.length_map]; omega, same_newer (sF.trans sE) nD, rs ++ [L], by rw [List.length_append, hl]; rfl, fun j R hj hR => ?_, by rw [upd_same, List.map_append]; rfl⟩
        by_cases e : j < i
        · obtain ⟨q', h1, h2, h3⟩ := hr j R e hR
          refine ⟨q', by rw [get_snoc (by omega)]; exact h1, h2, ?_⟩
          rcases h3 with ⟨g1, g2⟩ | ⟨mk, x, g1, g2, g3⟩
          · exact .inl ⟨g1, (upd_ne h2).trans (sE _ _ g2)⟩
          · exact .inr ⟨mk, x, g1, g2, (upd_ne h2).trans (sE _ _ g3)⟩
        · obtain rfl : j = rs.length := by omega
          rw [hl, hP] at hR
          cases hR
          refine ⟨L, get_last, LD, ?_⟩
          cases em : P.mi with
          | none =>
            rw [em] at hL
            exact .inl ⟨rfl, (upd_ne LD).trans hL⟩
          | some m =>
            obtain ⟨mk, x, g1, g2, g3⟩ := hmk m em
            rw [em] at hL
            have ml := (List.getElem?_eq_some_iff.mp g2).1
            have hL : E L = some (.lst (if m < (V.str P.word :: ys).length then ((V.str P.word :: ys)[m]?).toList else [])) := hL
            rw [if_pos ml, g2] at hL
            exact .inr ⟨mk, x, g1, g3, (upd_ne LD).trans hL⟩
    obtain ⟨s3, ms, lm, hm_, hD⟩ := h
    rw [ll] at lm
    have hm_ : ∀ (j : Nat) (P : Pie), Ps[j]? = some P → ∃ q, ms[j]? = some q ∧ q ≠ D ∧ ((P.mi = none ∧ F q = some (.lst [])) ∨ ∃ mk x, P.mkr = some mk ∧ MkAt F mk x ∧ F q = some (.lst [x])) := fun j P e => by
      obtain ⟨q, h1, h2, h3⟩ := hm_ j P (by have := (List.getElem?_eq_some_iff.mp e).1; omega) e
      refine ⟨q, h1, h2, ?_⟩
      rcases h3 with h3 | ⟨mk, x, g1, g2, g3⟩
      · exact .inl h3
      · exact .inr ⟨mk, x, g1, g2.same (s12.trans s3), g3⟩
    -- the rounds
    refine ⟨.ref D, rfl, D, rfl, ⟨_, SqL.mk hD⟩, fun R nR => ?_⟩
    refine lc_it (walk_list (xs := ms.map V.ref)) (fun i E => Same F E ∧ ∃ rs : List Addr, rs.length = i ∧ (∀ (j : Nat) (P : Pie), j < i → Ps[j]? = some P → ∃ q, rs[j]? = some q ∧ (q ≠ R ∧ q ≠ T' ∧ q ≠ C) ∧ E q = some (.lst (P.nums.map V.int))) ∧ E R = some (.lst (rs.map V.ref))) ⟨same_upd nR, [], rfl, fun j P h => absurd h (by omega), upd_same⟩ (fun i E _ h => SqL.mk (h.1 _ _ hD)) (fun i v E E' hi h y => ?_) (fun Z h => ?_)
    · obtain ⟨sE, rs, hl, hr, hR⟩ := h
      obtain ⟨rfl, hv1⟩ := y
      rw [List.length_map] at hi
      have eP : Ps[i]? = some (Ps[i]'(by omega)) := List.getElem?_eq_getElem (by omega)
      generalize (Ps[i]'(by omega)) = P at eP
      obtain ⟨q', h1, h2, h3⟩ := hm_ i P eP
      rw [List.getElem?_map, h1] at hv1
      cases hv1
      have put : ∀ (E2 : Hp) (p : Addr), Same E' E2 → E' p = none → E2 p = some (.lst (P.nums.map V.int)) → ∃ acc, E2 R = some (.lst acc) ∧ acc.length < sizeLine ∧ (Same F (upd E2 R (.lst (acc ++ [.ref p]))) ∧ ∃ rs' : List Addr, rs'.length = i + 1 ∧ (∀ (j : Nat) (P : Pie), j < i + 1 → Ps[j]? = some P → ∃ q, rs'[j]? = some q ∧ (q ≠ R ∧ q ≠ T' ∧ q ≠ C) ∧ (upd E2 R (.lst (acc ++ [.ref p]))) q = some (.lst (P.nums.map V.int))) ∧ (upd E2 R (.lst (acc ++ [.ref p]))) R = some (.lst (rs'.map V.ref))) := fun E2 p s np hp => by
        have hR2 := s _ _ hR
        have pR : p ≠ R := (ne_of_none hR np).symm
        have pT : p ≠ T' := (ne_of_none (sE _ _ (s3 _ _ hT2)) np).symm
        have pC : p ≠ C := (ne_of_none (sE _ _ (s3 _ _ hC)) np).symm
        refine ⟨_, hR2, by rw [List.length_map]; omega, same_newer (sE.trans s) nR, rs ++ [p], by rw [List.length_append, hl]; rfl, fun j R' hj hR' => ?_, by rw [upd_same, List.map_append]; rfl⟩
        by_cases e : j < i
        · obtain ⟨q'', g1, g2, g3⟩ := hr j R' e hR'
          exact ⟨q'', by rw [get_snoc (by omega)]; exact g1, g2, (upd_ne g2.1).trans (s _ _ g3)⟩
        · obtain rfl : j = rs.length := by omega
          rw [hl, eP] at hR'
          cases hR'
          exact ⟨p, get_last, ⟨pR, pT, pC⟩, (upd_ne pR).trans hp⟩
      refine ⟨rfl, yes_ite ⟨_, rfl, Nat.zero_le _, fun e0 ne0 => ?_⟩⟩
      have s0 := same_upd ne0 (o := .lst [])
      rcases h3 with ⟨g1, g2⟩ | ⟨mk, x, g1, g2, g3⟩
      · refine ⟨.list [], .list [], .lst (SqL.mk (s0 _ _ (sE _ _ g2))) .nil, .lst (SqL.mk upd_same) .nil, rfl, rfl, _, rfl, ?_⟩
        rw [show PyData.eqv (.list []) (.list []) = true from rfl]
        refine iteF ⟨(show 1 ≤ sizeLine by decide), fun p np => ?_⟩
        refine put _ p (s0.trans (same_upd np)) (s0.free np) ?_
        rw [upd_same, nums_mkr.1 g1]
        rfl
      · have wl := mkr_wl g1 (ok i P eP)
        have g2' := (g2.same sE).same s0
        have g3' := s0 _ _ (sE _ _ g3)
        have tg := (mk_tg (p := fun _ => False) (fun _ _ _ h => h) g2').dp (K := K)
        have sh : SeqAt.shaped (.list [mkd mk]) = true := ((BdA.one (mkd_bd wl.1)).lst).shaped (by have := wl.2.2.1; omega)
        refine ⟨.list [mkd mk], .list [], .lst (SqL.mk g3') (.cons tg .nil), .lst (SqL.mk upd_same) .nil, sh, rfl, _, rfl, ?_⟩
        rw [show PyData.eqv (.list [mkd mk]) (.list []) = false from rfl]
        refine iteT ⟨_, rfl, q', _, _, _, rfl, rfl, SqL.mk g3', atI_nat (j := 0) rfl, _, rfl, q', _, _, _, rfl, rfl, SqL.mk g3', atI_nat (j := 0) rfl, mk, x, rfl, g2', wl.1, by have := wl.2.2.1; omega, fun E1 s1' => ?_⟩
        refine ⟨mk, x, mk.rnd, rfl, g2'.same s1', wl.1, by have := wl.2.2.2; omega, fun E2 p s2' np hp => ?_⟩
        refine put E2 p (s0.trans (s1'.trans s2')) (s0.free (s1'.free np)) ?_
        rw [hp, nums_mkr.2 _ g1]
    obtain ⟨s4, ns, ln, hn_, hR⟩ := h
    rw [List.length_map, lm] at ln
    have hnT : ∀ (j : Nat) (P : Pie), Ps[j]? = some P → ∃ q, (ns.map V.ref)[j]? = some (.ref q) ∧ q ≠ T' ∧ q ≠ C ∧ Z q = some (.lst (P.nums.map V.int)) := fun j P e => by
      obtain ⟨q, h1, h2, h3⟩ := hn_ j P (by rw [List.length_map]; have := (List.getElem?_eq_some_iff.mp e).1; omega) e
      exact ⟨q, by rw [List.getElem?_map, h1]; rfl, h2.2.1, h2.2.2, h3⟩
    have sHZ := s12.trans (s3.trans s4)
    have hTZ := s4 _ _ (s3 _ _ hT2)
    have hCZ := s4 _ _ (s3 _ _ hC)
    have hpaZ := sHZ _ _ hpa
    have hpsZ := hps.same sHZ
    have paT : pa ≠ T' := ne_of hpaZ hTZ (fun z => by cases z)
    have paC : pa ≠ C := ne_of hpaZ hCZ (fun z => by cases z)
    have RT : R ≠ T' := (ne_of_none (s3 _ _ hT2) nR).symm
    have RC : R ≠ C := (ne_of_none (s3 _ _ hC) nR).symm
    clear hn_ hm_
    refine ⟨_, rfl, (b : Nat), rfl, by omega, by omega, for_range (fun t σ G => ∃ y6 y7 y8 y9 y10, σ = [some (.ref pa), some (.int (b : Nat)), some (.ref T'), some (.ref C), some (.ref D), some (.ref R), y6, y7, y8, y9, y10, none, none] ∧ (∀ (a : Addr) (o : HO), a ≠ T' → a ≠ C → Z a = some o → G a = some o) ∧ (∃ rs : List V, G T' = some (.lst rs) ∧ rs.length = t ∧ ∀ j, j < t → ∃ q, rs[j]? = some (.ref q) ∧ (q ≠ T' ∧ H q = none) ∧ q ≠ C ∧ G q = some (.lst ((bts Ps j).map V.int))) ∧ ∃ hv : List V, G C = some (.lst hv) ∧ hv.length = Ps.length ∧ ∀ (i : Nat) (P : Pie), Ps[i]? = some P → ∃ v, hv[i]? = some v ∧ LHd P ((sta Ps t).getD i .non) v) ⟨none, none, none, none, none, rfl, fun _ _ _ _ e => e, ⟨[], hTZ, rfl, fun j h => absurd h (Nat.not_lt_zero j)⟩, hv0, hCZ, lv0, fun i P e => ?_⟩ ?_ ?_⟩
    · obtain ⟨v, h1, h2⟩ := hh0 i P e
      refine ⟨v, h1, ?_⟩
      have e0 : (sta Ps 0).getD i Hd.non = P.first := getD_of (show (Ps.map Pie.first)[i]? = some P.first by rw [List.getElem?_map, e]; rfl)
      rw [e0]
      exact h2
    · rintro t σ G ht ⟨y6, y7, y8, y9, y10, rfl, kp, ⟨rs, hT, lr, hr⟩, hv, hC, lv, hh⟩
      rw [Int.toNat_natCast] at ht
      have hst := sta_ok ok t
      have hbt := fun i (hi : i ≤ Ps.length) => bup_bits (t := t) ok hst i hi
      refine ⟨Nat.zero_le _, fun B nB => ?_⟩
      have sB := same_upd nB (o := .lst [])
      have hB1 := upd_same (H := G) (a := B) (o := .lst [])
      have BT : B ≠ T' := (ne_of_none hT nB).symm
      have BC : B ≠ C := (ne_of_none hC nB).symm
      generalize upd G B (.lst []) = G1 at sB hB1 ⊢
      have nBZ : ∀ (a : Addr) (o : HO), a ≠ T' → a ≠ C → Z a = some o → a ≠ B := fun a o h1 h2 e => ne_of_none (kp _ _ h1 h2 e) nB
      -- what stays
      have st : ∀ F : Hp, (∀ (a : Addr) (o : HO), a ≠ B → G1 a = some o → F a = some o) → (∀ (a : Addr) (o : HO), a ≠ T' → a ≠ C → Z a = some o → F a = some o) ∧ F T' = some (.lst rs) ∧ F C = some (.lst hv) := fun F fr =>
        ⟨fun a o h1 h2 e => fr _ _ (nBZ a o h1 h2 e) (sB _ _ (kp a o h1 h2 e)), fr _ _ BT.symm (sB _ _ hT), fr _ _ BC.symm (sB _ _ hC)⟩
      have isT : ∀ a xs, Z a = some (.tup xs) → a ≠ T' ∧ a ≠ C := fun a xs e => ⟨ne_of e hTZ (fun z => by cases z), ne_of e hCZ (fun z => by cases z)⟩
      have f0 : ∀ (a : Addr) (o : HO), a ≠ B → G1 a = some o → G1 a = some o := fun _ _ _ e => e
      refine ⟨_, rfl, pa, _, rfl, SqT.mk ((st G1 f0).1 _ _ paT paC hpaZ), for_it (walk_enumT (K := K) (a := pa) (xs := xs)) (fun i σ F => ∃ y8 y9, σ = [some (.ref pa), some (.int (b : Nat)), some (.ref T'), some (.ref C), some (.ref D), some (.ref R), some (.int (0 + (t : Int))), some (.ref B), y8, y9, y10, none, none] ∧ (∀ (a : Addr) (o : HO), a ≠ B → G1 a = some o → F a = some o) ∧ F B = some (.lst ((bup Ps t (sta Ps t) i).map V.int))) ⟨_, _, rfl, f0, hB1⟩ ?_ ?_ ?_⟩
      · rintro i σ F _ ⟨_, _, _, fr, _⟩
        exact SqT.mk ((st F fr).1 _ _ paT paC hpaZ)
      · rintro i v σ F F' hi ⟨y8, y9, rfl, fr, hB⟩ ⟨T1, x1, x2, rfl, nT1, rfl, e1, e2⟩
        have e1 : some (V.int (i : Nat)) = some x1 := e1
        cases e1
        obtain ⟨P, hP, hpv⟩ := hpsZ.ok_get e2
        have il := (List.getElem?_eq_some_iff.mp hP).1
        have okP := ok i P hP
        refine ⟨T1, _, rfl, SqT.mk upd_same, rfl, _, _, rfl, _, _, rfl, rfl, ?_⟩
        have s2 := same_upd nT1 (o := .tup [.int (i : Nat), x2])
        generalize upd F T1 (.tup [.int (i : Nat), x2]) = F2 at s2 ⊢
        have fr2 : ∀ (a : Addr) (o : HO), a ≠ B → G1 a = some o → F2 a = some o := fun a o h1 e => s2 _ _ (fr a o h1 e)
        have hB2 := s2 _ _ hB
        clear fr hB s2 nT1
        obtain ⟨kp2, hT2, hC2⟩ := st F2 fr2
        obtain ⟨qn, hq1, hq2, hq3, hq4⟩ := hnT i P hP
        obtain ⟨hvv, hv1, hv2⟩ := hh i P hP
        have nl := Pie.nums_len okP
        have hqn := kp2 _ _ hq2 hq3 hq4
        have hR2 := kp2 _ _ RT RC hR
        have hpv2 : PieAt F2 P x2 := hpv.keep fun a ys e => kp2 _ _ (isT _ _ e).1 (isT _ _ e).2 e
        have num_at' : atI (P.nums.map V.int) ((0 + (t : Int)) % ((P.nums.map V.int).length : Nat)) = some (.int (P.num t)) := by
          rw [Int.zero_add]
          exact num_at nl.1
        refine ⟨_, rfl, .inl ⟨rfl, _, SqL.mk hB2⟩, _, rfl, _, rfl, _, rfl, _, rfl, _, rfl, R, _, _, _, rfl, rfl, SqL.mk hR2, atI_nat hq1, ?_⟩
        refine ⟨_, rfl, _, rfl, _, rfl, R, _, _, _, rfl, rfl, SqL.mk hR2, atI_nat hq1, qn, _, rfl, .inl (SqL.mk hqn), _, _, rfl, rfl, ?_, qn, _, _, _, rfl, rfl, SqL.mk hqn, num_at', ?_⟩
        · show (0 : Int) < ((P.nums.map V.int).length : Nat)
          rw [List.length_map]
          omega
        refine ⟨_, rfl, _, rfl, C, _, _, _, rfl, rfl, SqL.mk hC2, atI_nat hv1, ?_⟩
        refine ⟨P, x2, hvv, P.num t, B, T', bup Ps t (sta Ps t) i, rs, bts Ps, (sta Ps t).getD i .non, Ps.length, rfl, hpv2, by rw [bup_len]; exact okP, hst i P hP, hbt i (by omega), hB2, hT2, fun j hj => ?_, hv2, by rw [lr]; exact llate_of hP okP t, by rw [bup_len]; omega, by omega, fun F3 s3 => ?_⟩
        · obtain ⟨q', g1, g2, g3, g4⟩ := hr j (by omega)
          exact ⟨q', g1, fr2 _ _ (ne_of_none g4 nB) (sB _ _ g4), bts_len Ps j⟩
        refine ⟨B, _, _, rfl, rfl, s3 _ _ hB2, by rw [List.length_map, bup_len]; omega, ?_⟩
        refine ⟨_, _, rfl, fun a o h1 e => (upd_ne h1).trans (s3 _ _ (fr2 a o h1 e)), ?_⟩
        rw [upd_same]
        show _ = some (HO.lst ((bup Ps t (sta Ps t) i ++ [_]).map V.int))
        rw [List.map_append, getD_of hP]
        rfl
      rintro σ F ⟨y8, y9, rfl, fr, hB⟩
      rw [ll] at hB
      have hB : F B = some (.lst ((bts Ps t).map V.int)) := hB
      obtain ⟨kpF, hTF, hCF⟩ := st F fr
      refine ⟨_, rfl, .inl ⟨rfl, _, SqL.mk hTF⟩, _, rfl, T', _, _, rfl, rfl, hTF, by omega, ?_⟩
      have hT2 := upd_same (H := F) (a := T') (o := .lst (rs ++ [.ref B]))
      have b2 : But T' F (upd F T' (.lst (rs ++ [.ref B]))) := but_upd
      generalize upd F T' (.lst (rs ++ [.ref B])) = F2 at hT2 b2 ⊢
      have hB2 := b2 _ _ BT hB
      have hC2 := b2 _ _ TC.symm hCF
      have st2 : ∀ E : Hp, (∀ (a : Addr) (o : HO), a ≠ C → F2 a = some o → E a = some o) → (∀ (a : Addr) (o : HO), a ≠ T' → a ≠ C → Z a = some o → E a = some o) ∧ E B = some (.lst ((bts Ps t).map V.int)) ∧ E T' = some (.lst (rs ++ [.ref B])) := fun E fr =>
        ⟨fun a o h1 h2 e => fr _ _ h2 (b2 _ _ h1 (kpF a o h1 h2 e)), fr _ _ BC hB2, fr _ _ TC hT2⟩
      have g0 : ∀ (a : Addr) (o : HO), a ≠ C → F2 a = some o → F2 a = some o := fun _ _ _ e => e
      have gb : ∀ k, k < Ps.length → ((bts Ps t).map V.int)[k]? = some (.int ((bts Ps t).getD k 0)) := fun k hk => by
        have : k < (bts Ps t).length := by rw [bts_len]; exact hk
        rw [List.getElem?_map, List.getElem?_eq_getElem this, getD_of (List.getElem?_eq_getElem this)]
        rfl
      have bb : Bits (bts Ps t) := bts_bits ok t
      refine ⟨_, rfl, pa, _, rfl, SqT.mk ((st2 F2 g0).1 _ _ paT paC hpaZ), for_it (walk_enumT (K := K) (a := pa) (xs := xs)) (fun i σ E => ∃ y8 y9 y10, σ = [some (.ref pa), some (.int (b : Nat)), some (.ref T'), some (.ref C), some (.ref D), some (.ref R), some (.int (0 + (t : Int))), some (.ref B), y8, y9, y10, none, none] ∧ (∀ (a : Addr) (o : HO), a ≠ C → F2 a = some o → E a = some o) ∧ ∃ hv' : List V, E C = some (.lst hv') ∧ hv'.length = Ps.length ∧ ∀ (j : Nat) (P : Pie), Ps[j]? = some P → ∃ v, hv'[j]? = some v ∧ LHd P ((if j < i then sta Ps (t + 1) else sta Ps t).getD j .non) v) ⟨_, _, _, rfl, g0, hv, hC2, lv, fun j P e => by rw [if_neg (Nat.not_lt_zero j)]; exact hh j P e⟩ ?_ ?_ ?_⟩
      · rintro i σ E _ ⟨_, _, _, _, fr2, _⟩
        exact SqT.mk ((st2 E fr2).1 _ _ paT paC hpaZ)
      · rintro i v σ E E' hi ⟨y8, y9, y10, rfl, fr2, hv', hCE, lv', hh'⟩ ⟨T1, x1, x2, rfl, nT1, rfl, e1, e2⟩
        have e1 : some (V.int (i : Nat)) = some x1 := e1
        cases e1
        obtain ⟨P, hP, hpv⟩ := hpsZ.ok_get e2
        have il := (List.getElem?_eq_some_iff.mp hP).1
        have okP := ok i P hP
        refine ⟨T1, _, rfl, SqT.mk upd_same, rfl, _, _, rfl, _, _, rfl, rfl, ?_⟩
        have s2 := same_upd nT1 (o := .tup [.int (i : Nat), x2])
        generalize upd E T1 (.tup [.int (i : Nat), x2]) = E2 at s2 ⊢
        have fr3 : ∀ (a : Addr) (o : HO), a ≠ C → F2 a = some o → E2 a = some o := fun a o h1 e => s2 _ _ (fr2 a o h1 e)
        have hC3 := s2 _ _ hCE
        clear fr2 hCE s2 nT1
        obtain ⟨kp2, hB3, hT3⟩ := st2 E2 fr3
        have hpv2 : PieAt E2 P x2 := hpv.keep fun a ys e => kp2 _ _ (isT _ _ e).1 (isT _ _ e).2 e
        obtain ⟨vv, hv1, hv2⟩ := hh' i P hP
        rw [if_neg (Nat.lt_irrefl i)] at hv2
        -- what is held afterwards
        have fin : ∀ u : V, LHd P ((sta Ps (t + 1)).getD i .non) u → ∀ (j : Nat) (R' : Pie), Ps[j]? = some R' → ∃ v, (hv'.set i u)[j]? = some v ∧ LHd R' ((if j < i + 1 then sta Ps (t + 1) else sta Ps t).getD j .non) v := fun u hu j R' eR => by
          by_cases e : j = i
          · subst e
            rw [hP] at eR
            cases eR
            exact ⟨u, by rw [List.getElem?_set_self (by omega)], by rw [if_pos (Nat.lt_succ_self j)]; exact hu⟩
          · obtain ⟨v, h1, h2⟩ := hh' j R' eR
            refine ⟨v, by rw [List.getElem?_set_ne (fun z => e z.symm)]; exact h1, ?_⟩
            by_cases c : j < i
            · rw [if_pos c] at h2
              rw [if_pos (by omega)]
              exact h2
            · rw [if_neg c] at h2
              rw [if_neg (by omega)]
              exact h2
        have same : LHd P ((sta Ps (t + 1)).getD i .non) vv → ∀ (j : Nat) (R' : Pie), Ps[j]? = some R' → ∃ v, hv'[j]? = some v ∧ LHd R' ((if j < i + 1 then sta Ps (t + 1) else sta Ps t).getD j .non) v := fun hu j R' eR => by
          obtain ⟨v, h1, h2⟩ := fin vv hu j R' eR
          refine ⟨v, ?_, h2⟩
          by_cases e : j = i
          · subst e
            rw [List.getElem?_set_self (by omega)] at h1
            rw [hv1]
            exact h1
          · rw [List.getElem?_set_ne (fun z => e z.symm)] at h1
            exact h1
        have sn := sta_succ (t := t) hP
        have hok := hst i P hP
        cases P with
        | keep a b' f =>
          obtain ⟨tt, rfl, hy⟩ := hpv2
          refine ⟨_, rfl, tt, _, _, _, rfl, rfl, SqT.mk hy, atI_nat (j := 0) rfl, rfl, _, rfl, iteT ⟨_, rfl, _, rfl, B, _, _, _, rfl, rfl, SqL.mk hB3, atI_nat (gb i il), _, rfl, _, rfl, C, _, _, i, rfl, rfl, hC3, ix_at (by rw [lv']; exact il), ?_⟩⟩
          have hy2 : ∀ o : HO, (upd E2 C o) tt = some (.tup [.str "keep", .int (a : Nat), .int (b' : Nat), .int (f : Nat)]) := fun o => (upd_ne (ne_of hy hC3 (fun z => by cases z))).trans hy
          refine ⟨_, rfl, tt, _, _, _, rfl, rfl, SqT.mk (hy2 _), atI_nat (j := 0) rfl, rfl, _, rfl, ?_⟩
          rw [show decide (V.str "keep" = V.str "keeper") = false by decide +kernel]
          refine iteF ⟨_, _, _, rfl, fun a o h1 e => (upd_ne h1).trans (fr3 a o h1 e), _, upd_same, by rw [List.length_set]; exact lv', fin _ ?_⟩
          rw [sn]
          rfl
        | keeper a b' m mo at_ =>
          obtain ⟨tt, x, rfl, hy, _⟩ := hpv2
          obtain ⟨al, bl, _, _, _, _⟩ : a < Ps.length ∧ b' < Ps.length ∧ m.Wl ∧ 1 ≤ mo ∧ mo ≤ 64 ∧ at_ ≤ mo := okP
          obtain ⟨i0, hi0, h0, h1⟩ := hok
          rw [hi0] at hv2 sn
          obtain rfl : vv = .int i0 := hv2
          refine ⟨_, rfl, tt, _, _, _, rfl, rfl, SqT.mk hy, atI_nat (j := 0) rfl, rfl, _, rfl, ?_⟩
          rw [show decide (V.str "keeper" = V.str "keep") = false by decide +kernel]
          refine iteF ⟨_, rfl, tt, _, _, _, rfl, rfl, SqT.mk hy, atI_nat (j := 0) rfl, rfl, _, rfl, iteT ?_⟩
          refine ⟨_, rfl, _, rfl, C, _, _, _, rfl, rfl, SqL.mk hC3, atI_nat hv1, _, rfl, _, rfl, tt, _, _, _, rfl, rfl, SqT.mk hy, atI_nat (j := 1) rfl, B, _, _, _, rfl, rfl, SqL.mk hB3, atI_nat (gb a al), _, _, rfl, rfl, ?_⟩
          refine ⟨_, rfl, _, rfl, tt, _, _, _, rfl, rfl, SqT.mk hy, atI_nat (j := 2) rfl, B, _, _, _, rfl, rfl, SqL.mk hB3, atI_nat (gb b' bl), _, _, rfl, rfl, ?_⟩
          refine ⟨_, rfl, tt, _, _, _, rfl, rfl, SqT.mk hy, atI_nat (j := 4) rfl, _, rfl, _, _, rfl, _, _, rfl, ?_⟩
          refine ⟨_, rfl, _, rfl, C, _, _, i, rfl, rfl, hC3, ix_at (by rw [lv']; exact il), ?_⟩
          refine ⟨_, _, _, rfl, fun a o h1 e => (upd_ne h1).trans (fr3 a o h1 e), _, upd_same, by rw [List.length_set]; exact lv', fin _ ?_⟩
          rw [sn]
          exact congrArg V.int (keep_mvd (bits_getD bb a) (bits_getD bb b') h0 h1)
        | make m k =>
          obtain ⟨tt, x, rfl, hy, _⟩ := hpv2
          refine ⟨_, rfl, tt, _, _, _, rfl, rfl, SqT.mk hy, atI_nat (j := 0) rfl, rfl, _, rfl, ?_⟩
          rw [show decide (V.str "make" = V.str "keep") = false by decide +kernel]
          refine iteF ⟨_, rfl, tt, _, _, _, rfl, rfl, SqT.mk hy, atI_nat (j := 0) rfl, rfl, _, rfl, ?_⟩
          rw [show decide (V.str "make" = V.str "keeper") = false by decide +kernel]
          exact iteF ⟨_, _, _, rfl, fr3, hv', hC3, lv', same trivial⟩
        | late a ah =>
          obtain ⟨tt, x, rfl, hy, _⟩ := hpv2
          refine ⟨_, rfl, tt, _, _, _, rfl, rfl, SqT.mk hy, atI_nat (j := 0) rfl, rfl, _, rfl, ?_⟩
          rw [show decide (V.str "late" = V.str "keep") = false by decide +kernel]
          refine iteF ⟨_, rfl, tt, _, _, _, rfl, rfl, SqT.mk hy, atI_nat (j := 0) rfl, rfl, _, rfl, ?_⟩
          rw [show decide (V.str "late" = V.str "keeper") = false by decide +kernel]
          exact iteF ⟨_, _, _, rfl, fr3, hv', hC3, lv', same trivial⟩
        | less a =>
          obtain ⟨tt, rfl, hy⟩ := hpv2
          refine ⟨_, rfl, tt, _, _, _, rfl, rfl, SqT.mk hy, atI_nat (j := 0) rfl, rfl, _, rfl, ?_⟩
          rw [show decide (V.str "less" = V.str "keep") = false by decide +kernel]
          refine iteF ⟨_, rfl, tt, _, _, _, rfl, rfl, SqT.mk hy, atI_nat (j := 0) rfl, rfl, _, rfl, ?_⟩
          rw [show decide (V.str "less" = V.str "keeper") = false by decide +kernel]
          exact iteF ⟨_, _, _, rfl, fr3, hv', hC3, lv', same trivial⟩
        | both a b' =>
          obtain ⟨tt, rfl, hy⟩ := hpv2
          refine ⟨_, rfl, tt, _, _, _, rfl, rfl, SqT.mk hy, atI_nat (j := 0) rfl, rfl, _, rfl, ?_⟩
          rw [show decide (V.str "both" = V.str "keep") = false by decide +kernel]
          refine iteF ⟨_, rfl, tt, _, _, _, rfl, rfl, SqT.mk hy, atI_nat (j := 0) rfl, rfl, _, rfl, ?_⟩
          rw [show decide (V.str "both" = V.str "keeper") = false by decide +kernel]
          exact iteF ⟨_, _, _, rfl, fr3, hv', hC3, lv', same trivial⟩
        | either a b' =>
          obtain ⟨tt, rfl, hy⟩ := hpv2
          refine ⟨_, rfl, tt, _, _, _, rfl, rfl, SqT.mk hy, atI_nat (j := 0) rfl, rfl, _, rfl, ?_⟩
          rw [show decide (V.str "either" = V.str "keep") = false by decide +kernel]
          refine iteF ⟨_, rfl, tt, _, _, _, rfl, rfl, SqT.mk hy, atI_nat (j := 0) rfl, rfl, _, rfl, ?_⟩
          rw [show decide (V.str "either" = V.str "keeper") = false by decide +kernel]
          exact iteF ⟨_, _, _, rfl, fr3, hv', hC3, lv', same trivial⟩
        | oneof a b' =>
          obtain ⟨tt, rfl, hy⟩ := hpv2
          refine ⟨_, rfl, tt, _, _, _, rfl, rfl, SqT.mk hy, atI_nat (j := 0) rfl, rfl, _, rfl, ?_⟩
          rw [show decide (V.str "oneof" = V.str "keep") = false by decide +kernel]
          refine iteF ⟨_, rfl, tt, _, _, _, rfl, rfl, SqT.mk hy, atI_nat (j := 0) rfl, rfl, _, rfl, ?_⟩
          rw [show decide (V.str "oneof" = V.str "keeper") = false by decide +kernel]
          exact iteF ⟨_, _, _, rfl, fr3, hv', hC3, lv', same trivial⟩
        | pick a b' c =>
          obtain ⟨tt, rfl, hy⟩ := hpv2
          refine ⟨_, rfl, tt, _, _, _, rfl, rfl, SqT.mk hy, atI_nat (j := 0) rfl, rfl, _, rfl, ?_⟩
          rw [show decide (V.str "pick" = V.str "keep") = false by decide +kernel]
          refine iteF ⟨_, rfl, tt, _, _, _, rfl, rfl, SqT.mk hy, atI_nat (j := 0) rfl, rfl, _, rfl, ?_⟩
          rw [show decide (V.str "pick" = V.str "keeper") = false by decide +kernel]
          exact iteF ⟨_, _, _, rfl, fr3, hv', hC3, lv', same trivial⟩
      rintro σ E ⟨y8, y9, y10, rfl, fr2, hv', hCE, lv', hh'⟩
      obtain ⟨kpE, hBE, hTE⟩ := st2 E fr2
      refine ⟨_, _, _, _, _, rfl, kpE, ⟨_, hTE, by rw [List.length_append, lr]; rfl, fun j hj => ?_⟩, hv', hCE, lv', fun j P e => ?_⟩
      · by_cases e : j < t
        · obtain ⟨q', h1, h2, h3, h4⟩ := hr j e
          exact ⟨q', by rw [get_snoc (by omega)]; exact h1, h2, h3, fr2 _ _ h3 (b2 _ _ h2.1 (fr _ _ (ne_of_none h4 nB) (sB _ _ h4)))⟩
        · obtain rfl : j = rs.length := by omega
          refine ⟨B, get_last, ⟨BT, ?_⟩, BC, ?_⟩
          · cases e : H B with
            | none => rfl
            | some o =>
              have := kp B o (ne_of_none e nT) (ne_of_none e nCH) (sHZ B o e)
              rw [nB] at this
              cases this
          rw [lr]
          exact hBE
      · obtain ⟨v, h1, h2⟩ := hh' j P e
        rw [if_pos (by have := (List.getElem?_eq_some_iff.mp e).1; omega)] at h2
        exact ⟨v, h1, h2⟩
    · rintro σ G ⟨y6, y7, y8, y9, y10, rfl, kp, ⟨rs, hT, lr, hr⟩, hv, hC, lv, hh⟩
      rw [Int.toNat_natCast] at lr hr
      refine ⟨_, rfl, q G T' rs (fun a o e => kp a o (ne_of_none e nT) (ne_of_none e nCH) (sHZ a o e)) nT hT lr (fun j hj => ?_) fun j q'' hq => ?_⟩
      · obtain ⟨q', h1, h2, h3, h4⟩ := hr j (by omega)
        exact ⟨q', h1, h4, bts_len Ps j⟩
      · obtain ⟨q', h1, h2, h3, h4⟩ := hr j (by have := (List.getElem?_eq_some_iff.mp hq).1; omega)
        rw [h1] at hq
        cases hq
        exact h2.2
/-! texts of numbers in lists, told apart -/
def Brk (r : List Nat) : Prop := ∀ c, r.head? = some c → c < 48 ∨ 57 < c
theorem dig_split : ∀ (x y r r' : List Nat), (∀ c, c ∈ x → 48 ≤ c ∧ c ≤ 57) → (∀ c, c ∈ y → 48 ≤ c ∧ c ≤ 57) → Brk r → Brk r' → x ++ r = y ++ r' → x = y ∧ r = r'
  | [], [], _, _, _, _, _, _, h => ⟨rfl, h⟩
  | [], c :: y, r, r', _, hy, hr, _, h => by
    have h : r = c :: (y ++ r') := h
    have := hr c (by rw [h]; rfl)
    have := hy c List.mem_cons_self
    omega
  | c :: x, [], r, r', hx, _, _, hr, h => by
    have h : c :: (x ++ r) = r' := h
    have := hr c (by rw [← h]; rfl)
    have := hx c List.mem_cons_self
    omega
  | c :: x, d :: y, r, r', hx, hy, h1, h2, h => by
    have h : c :: (x ++ r) = d :: (y ++ r') := h
    injection h with e1 e2
    obtain ⟨a, b⟩ := dig_split x y r r' (fun z m => hx z (List.mem_cons_of_mem _ m)) (fun z m => hy z (List.mem_cons_of_mem _ m)) h1 h2 e2
    exact ⟨by rw [e1, a], b⟩
/-- texts which tell the things behind them -/
def Ub (d d' : PyData) : Prop := ∀ r r', Brk r → Brk r' → TL.tl d.shown ++ r = TL.tl d'.shown ++ r' → d = d' ∧ r = r'
theorem ub_int {i j : Int} (hi : 0 ≤ i) (hj : 0 ≤ j) : Ub (.int i) (.int j) := by
  intro r r' h1 h2 h
  obtain ⟨m, rfl⟩ : ∃ m : Nat, i = m := ⟨i.toNat, by omega⟩
  obtain ⟨n, rfl⟩ : ∃ n : Nat, j = n := ⟨j.toNat, by omega⟩
  have e1 : TL.tl (PyData.shown (.int (m : Int))) = TL.numL m := TL.tl_num m
  have e2 : TL.tl (PyData.shown (.int (n : Int))) = TL.numL n := TL.tl_num n
  rw [e1, e2] at h
  obtain ⟨a, b⟩ := dig_split _ _ _ _ (TL.numL_digits m) (TL.numL_digits n) h1 h2 h
  exact ⟨by rw [TL.numL_inj a], b⟩
theorem brk_of {c : Nat} (h : c < 48 ∨ 57 < c) (r : List Nat) : Brk (c :: r) := fun d e => by
  cases e
  exact h
theorem join_back : ∀ {ds ds' : List PyData}, Paired Ub ds ds' → ∀ r r', Brk r → Brk r' → TL.joinL [44, 32] (ds.map fun d => TL.tl d.shown) ++ r = TL.joinL [44, 32] (ds'.map fun d => TL.tl d.shown) ++ r' → ds = ds' ∧ r = r'
  | [], [], _, r, r', _, _, h => ⟨rfl, h⟩
  | [d], [d'], .cons u _, r, r', h1, h2, h => by
    obtain ⟨a, b⟩ := u r r' h1 h2 h
    exact ⟨by rw [a], b⟩
  | [d], _ :: _ :: _, .cons _ z, _, _, _, _, _ => by cases z
  | _ :: _ :: _, [d], .cons _ z, _, _, _, _, _ => by cases z
  | d :: e :: ds, d' :: e' :: ds', .cons u us, r, r', h1, h2, h => by
    have h : (TL.tl d.shown ++ ([44, 32] ++ TL.joinL [44, 32] ((e :: ds).map fun d => TL.tl d.shown))) ++ r = (TL.tl d'.shown ++ ([44, 32] ++ TL.joinL [44, 32] ((e' :: ds').map fun d => TL.tl d.shown))) ++ r' := h
    rw [List.append_assoc, List.append_assoc, List.append_assoc, List.append_assoc] at h
    obtain ⟨a, b⟩ := u _ _ (brk_of (.inl (by decide)) _) (brk_of (.inl (by decide)) _) h
    have b : [44, 32] ++ (TL.joinL [44, 32] ((e :: ds).map fun d => TL.tl d.shown) ++ r) = [44, 32] ++ (TL.joinL [44, 32] ((e' :: ds').map fun d => TL.tl d.shown) ++ r') := b
    have b := List.append_cancel_left b
    obtain ⟨c, k⟩ := join_back us r r' h1 h2 b
    exact ⟨by rw [a, c], k⟩
theorem shownAll_map : ∀ ds : List PyData, PyData.shownAll ds = ds.map PyData.shown
  | [] => rfl
  | d :: ds => by
    show d.shown :: PyData.shownAll ds = _
    rw [shownAll_map ds]
    rfl
theorem tl_list (ds : List PyData) : TL.tl (PyData.shown (.list ds)) = 91 :: (TL.joinL [44, 32] (ds.map fun d => TL.tl d.shown) ++ [93]) := by
  show TL.tl (listText (PyData.shownAll ds)) = _
  rw [listText_eq_join, shownAll_map, TL.tl_append, TL.tl_append, TL.tl_join, List.map_map]
  rfl
theorem tl_tuple (ds : List PyData) : TL.tl (PyData.shown (.tuple ds)) = 40 :: (TL.joinL [44, 32] (ds.map fun d => TL.tl d.shown) ++ (if ds.length = 1 then [44, 41] else [41])) := by
  show TL.tl (tupleText (PyData.shownAll ds)) = _
  unfold tupleText
  rw [shownAll_map, TL.tl_append, TL.tl_append, TL.tl_join, List.map_map, List.length_map]
  by_cases c : ds.length = 1
  · rw [if_pos c, if_pos (by rw [c]; rfl)]
    rfl
  · rw [if_neg c, if_neg (by simpa using c)]
    rfl
theorem ub_list {ds ds' : List PyData} (h : Paired Ub ds ds') : Ub (.list ds) (.list ds') := by
  intro r r' h1 h2 e
  rw [tl_list, tl_list, List.cons_append, List.cons_append] at e
  injection e with _ e
  rw [List.append_assoc, List.append_assoc] at e
  obtain ⟨a, b⟩ := join_back h _ _ (brk_of (.inr (by decide)) _) (brk_of (.inr (by decide)) _) e
  rw [a]
  injection b with _ b
  exact ⟨rfl, b⟩
theorem ub_tup {ds ds' : List PyData} (l : ds.length ≠ 1) (l' : ds'.length ≠ 1) (h : Paired Ub ds ds') : Ub (.tuple ds) (.tuple ds') := by
  intro r r' h1 h2 e
  rw [tl_tuple, tl_tuple, if_neg l, if_neg l', List.cons_append, List.cons_append] at e
  injection e with _ e
  rw [List.append_assoc, List.append_assoc] at e
  obtain ⟨a, b⟩ := join_back h _ _ (brk_of (.inl (by decide)) _) (brk_of (.inl (by decide)) _) e
  rw [a]
  injection b with _ b
  exact ⟨rfl, b⟩
theorem ub_back {d d' : PyData} (u : Ub d d') (e : d.shown = d'.shown) : d = d' := (u [] [] (fun _ z => by cases z) (fun _ z => by cases z) (by rw [e])).1
/-! what the law sees of a machine ahead of a beat -/
def Pie.isLate : Pie → Bool
  | .late _ _ => true
  | _ => false
def heldI (P : Pie) (h : Hd) : Int := match P with
  | .keep _ _ _ => h.bitD
  | .keeper _ _ _ _ _ => h.numD
  | _ => 0
def lateI (Ps : List Pie) (n : Nat) : List Nat := (List.range n).filter fun i => (Ps.getD i dPie).isLate
noncomputable def hdA (Ps : List Pie) (t i : Nat) : Hd := (sta Ps t).getD i .non
noncomputable def dRnd (Ps : List Pie) (t : Nat) : List PyData := Ps.map fun P => .int ((t % P.nums.length : Nat) : Int)
noncomputable def dCom (Ps : List Pie) (t : Nat) : List PyData := (lateI Ps Ps.length).map fun i => .list ((hdA Ps t i).ahD.map .int)
noncomputable def dHel (Ps : List Pie) (t : Nat) : List PyData := (List.range Ps.length).map fun i => .int (heldI (Ps.getD i dPie) (hdA Ps t i))
noncomputable def stD (Ps : List Pie) (t : Nat) : PyData := .tuple [.list (dRnd Ps t), .list (dCom Ps t), .list (dHel Ps t)]
theorem lcmF_dvd {ns : List Nat} {d : Nat} (h : ∀ n, n ∈ ns → n ∣ d) : lcmF ns ∣ d := by
  unfold lcmF
  have : ∀ (ns : List Nat) (c : Nat), c ∣ d → (∀ n, n ∈ ns → n ∣ d) → ns.foldl (fun c n => c * n / Nat.gcd c n) c ∣ d := by
    intro ns
    induction ns with
    | nil => intro c hc _; exact hc
    | cons n ns ih =>
      intro c hc h
      exact ih _ (Nat.lcm_dvd hc (h n List.mem_cons_self)) fun m hm => h m (List.mem_cons_of_mem _ hm)
  exact this ns 1 (Nat.one_dvd d) h
theorem dvd_lcmF {m : Nat} : ∀ (ns : List Nat) (c : Nat), (m ∣ c ∨ m ∈ ns) → m ∣ ns.foldl (fun c n => c * n / Nat.gcd c n) c
  | [], c, h => by
    rcases h with h | h
    · exact h
    · cases h
  | n :: ns, c, h => by
    have e : c * n / Nat.gcd c n = Nat.lcm c n := rfl
    show m ∣ ns.foldl (fun c n => c * n / Nat.gcd c n) (c * n / Nat.gcd c n)
    rw [e]
    refine dvd_lcmF ns _ ?_
    rcases h with h | h
    · exact .inl (Nat.dvd_trans h (Nat.dvd_lcm_left c n))
    · rcases List.mem_cons.mp h with rfl | h
      · exact .inl (Nat.dvd_lcm_right c m)
      · exact .inr h
theorem mod_dvd {a b n : Nat} (h : a ≤ b) (e : a % n = b % n) : n ∣ b - a := Nat.dvd_of_mod_eq_zero (Nat.sub_mod_eq_zero_of_mod_eq e.symm)
theorem dvd_mod {a b n : Nat} (h : a ≤ b) (d : n ∣ b - a) : a % n = b % n := by
  obtain ⟨c, hc⟩ := d
  rw [show b = a + n * c by omega, Nat.add_mul_mod_self_left]
theorem cm_modLe {ns : List Nat} {a b : Nat} (l : a ≤ b) (h : ∀ n, n ∈ ns → a % n = b % n) : a % lcmF ns = b % lcmF ns := dvd_mod l (lcmF_dvd fun n hn => mod_dvd l (h n hn))
theorem cm_mod {ns : List Nat} {a b : Nat} (h : ∀ n, n ∈ ns → a % n = b % n) : a % lcmF ns = b % lcmF ns := by
  rcases Nat.le_total a b with l | l
  · exact cm_modLe l h
  · exact (cm_modLe l fun n hn => (h n hn).symm).symm
theorem key_inj {P : Pie} {h h' : Hd} (o : P.Hok h) (o' : P.Hok h') (e : h.key = h'.key) : h = h' := by
  cases P with
  | keep a b f =>
    obtain ⟨x, rfl, _⟩ := o
    obtain ⟨y, rfl, _⟩ := o'
    have e : NestedKey.num x = .num y := e
    injection e with e
    rw [e]
  | late a ah =>
    obtain ⟨x, rfl, _⟩ := o
    obtain ⟨y, rfl, _⟩ := o'
    have e : NestedKey.tup (x.map .num) = .tup (y.map .num) := e
    injection e with e
    rw [(List.map_inj_right (fun a b z => by injection z)).mp e]
  | keeper a b m mo at_ =>
    obtain ⟨x, rfl, _⟩ := o
    obtain ⟨y, rfl, _⟩ := o'
    have e : NestedKey.num x = .num y := e
    injection e with e
    rw [e]
  | _ => exact Eq.trans (show h = .non from o) (show h' = .non from o').symm
theorem sta_ext {Ps : List Pie} {t u : Nat} (h : ∀ (i : Nat) (P : Pie), Ps[i]? = some P → hdA Ps t i = hdA Ps u i) : sta Ps t = sta Ps u := by
  refine List.ext_getElem (by rw [sta_len, sta_len]) fun i h1 h2 => ?_
  have il : i < Ps.length := by rw [sta_len] at h1; exact h1
  have e := h i _ (List.getElem?_eq_getElem il)
  unfold hdA at e
  rw [List.getD_eq_getElem?_getD, List.getD_eq_getElem?_getD, List.getElem?_eq_getElem h1, List.getElem?_eq_getElem h2] at e
  exact e
theorem sta_get {Ps : List Pie} {t i : Nat} (il : i < Ps.length) : (sta Ps t)[i]? = some (hdA Ps t i) := by
  unfold hdA
  rw [List.getD_eq_getElem?_getD, List.getElem?_eq_getElem (by rw [sta_len]; exact il)]
  rfl
/-- what both ways of seeing it come to -/
structure Seen2 (Ps : List Pie) (t u : Nat) : Prop where
  md : ∀ P, P ∈ Ps → t % P.nums.length = u % P.nums.length
  st : sta Ps t = sta Ps u
theorem seen_key {Ps : List Pie} (ok : PsOk Ps.length Ps) {t u : Nat} : skey Ps t = skey Ps u ↔ Seen2 Ps t u := by
  constructor
  · intro e
    unfold skey at e
    injection e with e
    injection e with e1 e2
    injection e1 with e1
    have e1 : t % cmL Ps = u % cmL Ps := by omega
    refine ⟨fun P hP => ?_, sta_ext fun i P hi => ?_⟩
    · obtain ⟨j, hj⟩ := List.getElem?_of_mem hP
      have d : P.nums.length ∣ cmL Ps := by
        unfold cmL
        exact dvd_lcmF _ 1 (.inr (List.mem_map.mpr ⟨P, hP, rfl⟩))
      rw [← Nat.mod_mod_of_dvd t d, ← Nat.mod_mod_of_dvd u d, e1]
    · have il := (List.getElem?_eq_some_iff.mp hi).1
      have := congrArg (fun l => l[i]?) e2
      rw [List.getElem?_map, List.getElem?_map, sta_get il, sta_get il] at this
      exact key_inj (sta_ok ok t i P hi) (sta_ok ok u i P hi) (Option.some.inj this)
  · intro ⟨h1, h2⟩
    unfold skey
    have e : t % cmL Ps = u % cmL Ps := by
      unfold cmL
      refine cm_mod fun n hn => ?_
      obtain ⟨P, hP, rfl⟩ := List.mem_map.mp hn
      exact h1 P hP
    rw [e, h2]
theorem late_in {Ps : List Pie} {i a : Nat} {ah : List Int} (e : Ps[i]? = some (.late a ah)) : i ∈ lateI Ps Ps.length := by
  unfold lateI
  refine List.mem_filter.mpr ⟨List.mem_range.mpr (List.getElem?_eq_some_iff.mp e).1, ?_⟩
  rw [getD_of e]
  rfl
theorem late_of {Ps : List Pie} {i : Nat} (h : i ∈ lateI Ps Ps.length) : ∃ a ah, Ps[i]? = some (.late a ah) := by
  unfold lateI at h
  obtain ⟨h1, h2⟩ := List.mem_filter.mp h
  have il := List.mem_range.mp h1
  have e := List.getElem?_eq_getElem il
  rw [getD_of e] at h2
  generalize Ps[i] = P at e h2
  cases P with
  | late a ah => exact ⟨a, ah, e⟩
  | _ => exact Bool.noConfusion h2
theorem seen_st {Ps : List Pie} (ok : PsOk Ps.length Ps) {t u : Nat} : stD Ps t = stD Ps u ↔ Seen2 Ps t u := by
  constructor
  · intro e
    unfold stD at e
    injection e with e
    injection e with e1 e
    injection e1 with e1
    injection e with e2 e
    injection e2 with e2
    injection e with e3 _
    injection e3 with e3
    unfold dRnd at e1
    unfold dCom at e2
    unfold dHel at e3
    have m1 := List.map_inj_left.mp e1
    have m2 := List.map_inj_left.mp e2
    have m3 := List.map_inj_left.mp e3
    refine ⟨fun P hP => ?_, sta_ext fun i P hi => ?_⟩
    · have := m1 P hP
      injection this with this
      omega
    · have il := (List.getElem?_eq_some_iff.mp hi).1
      have o1 := sta_ok ok t i P hi
      have o2 := sta_ok ok u i P hi
      have m3 := m3 i (List.mem_range.mpr il)
      rw [getD_of hi] at m3
      injection m3 with m3
      change P.Hok (hdA Ps t i) at o1
      change P.Hok (hdA Ps u i) at o2
      cases P with
      | keep a b f =>
        obtain ⟨x, ex, _⟩ := o1
        obtain ⟨y, ey, _⟩ := o2
        rw [ex, ey] at m3 ⊢
        exact congrArg Hd.bit m3
      | keeper a b m mo at_ =>
        obtain ⟨x, ex, _⟩ := o1
        obtain ⟨y, ey, _⟩ := o2
        rw [ex, ey] at m3 ⊢
        exact congrArg Hd.num m3
      | late a ah =>
        obtain ⟨x, ex, _⟩ := o1
        obtain ⟨y, ey, _⟩ := o2
        have m2 := m2 i (late_in hi)
        injection m2 with m2
        rw [ex, ey] at m2 ⊢
        exact congrArg Hd.ah ((List.map_inj_right (fun a b z => by injection z)).mp m2)
      | _ => exact Eq.trans o1 o2.symm
  · intro ⟨h1, h2⟩
    have a : dRnd Ps t = dRnd Ps u := List.map_inj_left.mpr fun P hP => by rw [h1 P hP]
    have b : dCom Ps t = dCom Ps u := by
      unfold dCom hdA
      rw [h2]
    have c : dHel Ps t = dHel Ps u := by
      unfold dHel hdA
      rw [h2]
    unfold stD
    rw [a, b, c]
theorem paired_map2 {α β : Type} {R : β → β → Prop} {f g : α → β} : ∀ {l : List α}, (∀ x, x ∈ l → R (f x) (g x)) → Paired R (l.map f) (l.map g)
  | [], _ => .nil
  | x :: l, h => .cons (h x List.mem_cons_self) (paired_map2 fun y hy => h y (List.mem_cons_of_mem _ hy))
theorem ub_bits : ∀ {bs cs : List Int}, Bits bs → Bits cs → bs.length = cs.length → Paired Ub (bs.map PyData.int) (cs.map PyData.int)
  | [], [], _, _, _ => .nil
  | [], _ :: _, _, _, h => by cases h
  | _ :: _, [], _, _, h => by cases h
  | b :: bs, c :: cs, h1, h2, h => .cons (ub_int (by rcases h1 b List.mem_cons_self with e | e <;> omega) (by rcases h2 c List.mem_cons_self with e | e <;> omega)) (ub_bits (fun x hx => h1 x (List.mem_cons_of_mem _ hx)) (fun x hx => h2 x (List.mem_cons_of_mem _ hx)) (by simpa using h))
theorem heldI_le {P : Pie} {h : Hd} {i n : Nat} (ok : P.Ok i n) (o : P.Hok h) : 0 ≤ heldI P h ∧ heldI P h ≤ 64 := by
  cases P with
  | keep a b f =>
    obtain ⟨x, rfl, hx⟩ := o
    show 0 ≤ x ∧ x ≤ 64
    omega
  | keeper a b m mo at_ =>
    obtain ⟨x, rfl, h0, h1⟩ := o
    obtain ⟨_, _, _, _, m4, _⟩ : a < n ∧ b < n ∧ m.Wl ∧ 1 ≤ mo ∧ mo ≤ 64 ∧ at_ ≤ mo := ok
    show 0 ≤ x ∧ x ≤ 64
    omega
  | _ => exact ⟨Int.le_refl 0, by show (0 : Int) ≤ 64; decide⟩
theorem heldI_at {Ps : List Pie} (ok : PsOk Ps.length Ps) {t i : Nat} (il : i < Ps.length) : 0 ≤ heldI (Ps.getD i dPie) (hdA Ps t i) ∧ heldI (Ps.getD i dPie) (hdA Ps t i) ≤ 64 := by
  have e := List.getElem?_eq_getElem il
  rw [getD_of e]
  exact heldI_le (ok i _ e) (sta_ok ok t i _ e)
theorem st_ub {Ps : List Pie} (ok : PsOk Ps.length Ps) (t u : Nat) : Ub (stD Ps t) (stD Ps u) := by
  refine ub_tup (by simp) (by simp) (.cons (ub_list (paired_map2 fun P hP => ub_int (by omega) (by omega))) (.cons (ub_list (paired_map2 fun i hi => ?_)) (.cons (ub_list (paired_map2 fun i hi => ?_)) .nil)))
  · obtain ⟨a, ah, e⟩ := late_of hi
    obtain ⟨x, ex, bx, lx⟩ := sta_ok ok t i _ e
    obtain ⟨y, ey, by_, ly⟩ := sta_ok ok u i _ e
    change hdA Ps t i = _ at ex
    change hdA Ps u i = _ at ey
    rw [ex, ey]
    exact ub_list (ub_bits bx by_ (lx.trans ly.symm))
  · have il := List.mem_range.mp hi
    exact ub_int (heldI_at ok il).1 (heldI_at ok il).1
theorem shown_key {Ps : List Pie} (ok : PsOk Ps.length Ps) {t u : Nat} : (stD Ps t).shown = (stD Ps u).shown ↔ skey Ps t = skey Ps u := by
  rw [seen_key ok, ← seen_st ok]
  exact ⟨ub_back (st_ub ok t u), fun e => by rw [e]⟩
theorem st_sho {Ps : List Pie} (ok : PsOk Ps.length Ps) (n24 : Ps.length ≤ 24) {t : Nat} (t5 : t ≤ 100000) : Sho (stD Ps t) := by
  have p12 : (10 : Nat) ^ 12 = 1000000000000 := by decide
  have a : Shs 12 3 20000 (.list (dRnd Ps t)) := by
    have := (shs_all (k := 12) (n := 0) (w := 49) (ds := dRnd Ps t) (fun d hd => by
      obtain ⟨P, _, rfl⟩ := List.mem_map.mp hd
      refine shs_int ?_
      have := Nat.mod_le t P.nums.length
      omega)).1
    refine this.mono (by decide) ?_
    unfold dRnd
    rw [List.length_map]
    omega
  have b : Shs 12 3 20000 (.list (dCom Ps t)) := by
    have := (shs_all (k := 12) (n := 1) (w := 800) (ds := dCom Ps t) (fun d hd => by
      obtain ⟨i, hi, rfl⟩ := List.mem_map.mp hd
      obtain ⟨a, ah, e⟩ := late_of hi
      obtain ⟨x, ex, bx, lx⟩ := sta_ok ok t i _ e
      change hdA Ps t i = _ at ex
      obtain ⟨_, ⟨_, l16⟩, _⟩ : a < Ps.length ∧ (1 ≤ ah.length ∧ ah.length ≤ 16) ∧ _ := ok i _ e
      rw [ex]
      have := (shs_all (k := 12) (n := 0) (w := 49) (ds := x.map PyData.int) (fun d hd => by
        obtain ⟨y, hy, rfl⟩ := List.mem_map.mp hd
        refine shs_int ?_
        rcases bx y hy with e | e <;> rw [e] <;> decide)).1
      refine this.mono (by decide) ?_
      rw [List.length_map]
      omega)).1
    refine this.mono (by decide) ?_
    have : (dCom Ps t).length ≤ 24 := by
      unfold dCom lateI
      rw [List.length_map]
      exact Nat.le_trans (List.length_filter_le _ _) (by rw [List.length_range]; exact n24)
    omega
  have c : Shs 12 3 20000 (.list (dHel Ps t)) := by
    have := (shs_all (k := 12) (n := 0) (w := 49) (ds := dHel Ps t) (fun d hd => by
      obtain ⟨i, hi, rfl⟩ := List.mem_map.mp hd
      refine shs_int ?_
      have := heldI_at ok (t := t) (List.mem_range.mp hi)
      omega)).1
    refine this.mono (by decide) ?_
    unfold dHel
    rw [List.length_map, List.length_range]
    omega
  have := (shs_all (k := 12) (n := 3) (w := 20000) (ds := [.list (dRnd Ps t), .list (dCom Ps t), .list (dHel Ps t)]) (fun d hd => by
    rcases List.mem_cons.mp hd with rfl | hd
    · exact a
    rcases List.mem_cons.mp hd with rfl | hd
    · exact b
    rcases List.mem_cons.mp hd with rfl | hd
    · exact c
    · cases hd)).2
  exact this.sho (by decide) (by decide) (by decide) (by show (12 + 3) * (3 * 20001) ≤ 16000000; decide)
/-- a call of a def whose promise holds where no text is being made -/
theorem pe_callG {X : Cx} {CX : CXT} {lv : Nat} {fa : Addr} {fdt : FuncData} {prs : List Str} {pr : Sp} {EE : XK} {nm : Str} {p0 p1 : Pos} {a1 : Expr} {as : List Expr} {ta : TA} {us0 : List Value} {vs0 : List V}
    (none_ : X.A.guards = some []) (G : GOk X.prog X.w X.K X.mg X.base CX lv fa fdt prs pr) (room : Room lv X.A) (gl : Gl X nm) (md : X.mg nm = some (.ref fa)) (kp : PySem.W.keepIn X.K (.ref fa) = true) (bs : Binds X.K fdt prs us0) (rl : Vals vs0 us0) (ps : Passes CX X EE)
    (ar : PA X (a1 :: as) ta) (nd : (nm == ("__debug__" : Str)) = false := by decide) (st : starEach (a1 :: as) X.env = (false, eval a1 X.env) :: starEach as X.env := by rfl) (pl : (backTo p1 (starEach as X.env)).any (·.1) = false := by rfl) :
    PE X (.Call (.Name nm p0) (a1 :: as) [] p1) (tCall pr vs0 EE ta) := by
  constructor
  intro pins s0 σ0 H0 Q0 I0 hh
  have go : ∀ (us : List Value) (s1 : Shared) (vs : List V) (H1 : Hp), Inv X pins σ0 H1 s1 → Vals vs us → pr (vs ++ vs0) H1 Q0 EE → wpAny (model X.prog X.w) X.A (call (.ref fa) us) (EP X pins σ0 Q0) X.xe s1 := fun us s1 vs H1 J rv hp => by
    have both_ : Vals (vs ++ vs0) (us ++ us0) := rv.append rl
    have lns : (us ++ us0).length = prs.length := both_.length.symm.trans (G.len _ _ _ _ hp)
    have body := G.run X.A X.stack s1 H1 ⟨us, []⟩ (us ++ us0) (vs ++ vs0) Q0 EE none_ room J.env0 (bs s1 us J.kIn lns) both_ hp
    refine wpAny_call (codeAny_mono body fun res s2 hres => ?_)
    match res, hres with
    | .ok (.ret u), hres => exact J.after hres
    | .ok .next, hres => exact hres.elim
    | .ok .brk, hres => exact hres.elim
    | .ok .cont, hres => exact hres.elim
    | .error er, hres => exact ps pins σ0 H1 s1 er s2 J hres
  refine wpAny_Call_Name_kw (ld_glob I0 gl md ?_ nd)
  exact PySem.W.callWith_K (h₀ := X.base) I0.ok.mod.kin kp (thn (ar.run p1 pins s0 σ0 H0 _ I0 hh) fun us s1 ⟨vs, H1, J, rv, hp⟩ => ⟨J.kIn, go us s1 vs H1 J rv hp⟩) st pl
/-! what the law holds beside -/
def sp__law_late (_ : PySem.W.Frag) : Sp := fun vs H Q _ => ∃ (v : V) (l : Addr) (a n t : Nat) (ah : List Int) (rs : List V) (Ps : List Pie), vs = [v, .ref l, .int (t : Nat)] ∧ PieAt H (.late a ah) v ∧ H l = some (.lst rs) ∧ TldAt H rs (bts Ps) Ps.length ∧ a < Ps.length ∧ t < rs.length + ah.length ∧ Q (.int (if t < ah.length then ah.getD t 0 else (bts Ps (t - ah.length)).getD a 0)) H
theorem ok__law_late (T : Defs K mg) : FnOk P w K mg base CX0 1 T.f__law_late T.fd__law_late ["_law_piece", "_law_told", "_law_beat"] (sp__law_late K) := by
  refine T.F__law_late.ok sc__law_late (fun vs H Q E h => ?_) (fun cdv A outer s H vs Q E hr h => ?_)
  · obtain ⟨v, l, a, n, t, ah, rs, Ps, rfl, hp, hl, td, al, tl, q⟩ := h
    rfl
  · obtain ⟨v, l, a, n, t, ah, rs, Ps, rfl, hp, hl, td, al, tl, q⟩ := h
    refine ⟨_, PSs.nox (pss_cons (ps_set (i := 3) sc__law_late.nd rfl (.inl rfl) (pe_callB call_len_seq (by rfl) T.m_len bt_len (pa_cons (pe_ix ix_tup (pv 0) pe_int (fun _ _ => rfl)) pa_nil)))
    (pss_one (ps_ret (pe_ifExp (pt_cmpR op_lt (pv 2) (pv 3) (nomark _)) (pe_ix ix_tup (pe_ix ix_tup (pv 0) pe_int (fun _ _ => rfl)) (pv 2) (fun _ _ => rfl)) (pe_ix ix_list (pe_ix ix_list (pv 1) (pe_op op_sub (pv 2) (pv 3)) (fun _ _ => rfl)) (pe_ix ix_tup (pv 0) pe_int (fun _ _ => rfl)) (fun _ _ => rfl)))))), ?_⟩
    obtain ⟨tt, s, rfl, ht, hs⟩ := hp
    have hsl : sizeLine = 16777216 := by decide
    refine ⟨.ref tt, rfl, tt, _, _, _, rfl, rfl, SqT.mk ht, atI_nat (j := 2) rfl, s, _, rfl, .inr (SqT.mk hs), ?_⟩
    refine ⟨_, rfl, _, rfl, _, _, rfl, rfl, _, rfl, ite2 (fun e => ?_) (fun e => ?_)⟩
    · have il : t < ah.length := by
        have : (t : Int) < ((ah.map V.int).length : Nat) := of_decide_eq_true e
        rw [List.length_map] at this
        omega
      rw [if_pos il] at q
      refine ⟨_, rfl, tt, _, _, _, rfl, rfl, SqT.mk ht, atI_nat (j := 2) rfl, _, rfl, s, _, _, _, rfl, rfl, SqT.mk hs, atI_nat (j := t) (by rw [List.getElem?_map, List.getElem?_eq_getElem il]; rfl), ?_⟩
      rw [List.getD_eq_getElem?_getD, List.getElem?_eq_getElem il] at q
      exact q
    · have il : ¬ t < ah.length := fun z => e (decide_eq_true (by
        show (t : Int) < ((ah.map V.int).length : Nat)
        rw [List.length_map]
        omega))
      rw [if_neg il] at q
      obtain ⟨q', e1, e2, e3⟩ := td (t - ah.length) (by omega)
      refine ⟨_, rfl, _, rfl, _, rfl, _, _, rfl, rfl, l, _, ((t - ah.length : Nat) : Int), _, rfl, ?_, SqL.mk hl, atI_nat e1, ?_⟩
      · show V.int ((t : Int) - ((ah.map V.int).length : Nat)) = _
        rw [List.length_map]
        exact congrArg V.int (by omega)
      refine ⟨_, rfl, tt, _, _, _, rfl, rfl, SqT.mk ht, atI_nat (j := 1) rfl, q', _, _, _, rfl, rfl, SqL.mk e2, atI_nat (j := a) (by rw [List.getElem?_map, List.getElem?_eq_getElem (by omega)]; rfl), ?_⟩
      rw [List.getD_eq_getElem?_getD, List.getElem?_eq_getElem (by omega)] at q
      exact q
theorem PieAt.ends {H : Hp} {P : Pie} {v : V} (h : PieAt H P v) : ∃ t ys u, v = .ref t ∧ H t = some (.tup (V.str P.word :: ys)) ∧ atI (V.str P.word :: ys) (-1) = some u ∧ LHd P P.first u := by
  cases P with
  | make m k => obtain ⟨t, x, e, ht, hm⟩ := h; exact ⟨t, _, _, e, ht, atI_last [_, _] _, trivial⟩
  | late a ah => obtain ⟨t, s, e, ht, hs⟩ := h; exact ⟨t, _, _, e, ht, atI_last [_, _] _, trivial⟩
  | keeper a b m mo at_ => obtain ⟨t, x, e, ht, hm⟩ := h; exact ⟨t, _, _, e, ht, atI_last [_, _, _, _, _] _, rfl⟩
  | less a => obtain ⟨t, e, ht⟩ := h; exact ⟨t, _, _, e, ht, atI_last [_] _, trivial⟩
  | both a b => obtain ⟨t, e, ht⟩ := h; exact ⟨t, _, _, e, ht, atI_last [_, _] _, trivial⟩
  | either a b => obtain ⟨t, e, ht⟩ := h; exact ⟨t, _, _, e, ht, atI_last [_, _] _, trivial⟩
  | oneof a b => obtain ⟨t, e, ht⟩ := h; exact ⟨t, _, _, e, ht, atI_last [_, _] _, trivial⟩
  | pick a b c => obtain ⟨t, e, ht⟩ := h; exact ⟨t, _, _, e, ht, atI_last [_, _, _] _, trivial⟩
  | keep a b f => obtain ⟨t, e, ht⟩ := h; exact ⟨t, _, _, e, ht, atI_last [_, _, _] _, rfl⟩
theorem keep_words (z : Str) : inV (.str z) [.str "keep", .str "keeper"] = decide (z = "keep" ∨ z = "keeper") := by
  by_cases h1 : z = "keep"
  · subst h1
    decide +kernel
  · by_cases h2 : z = "keeper"
    · subst h2
      decide +kernel
    · rw [decide_eq_false (fun e => e.elim h1 h2)]
      have e1 : eqV (.str "keep") (.str z) = false := by
        show (("keep" : Str) == z) = false
        exact beq_false_of_ne fun e => h1 e.symm
      have e2 : eqV (.str "keeper") (.str z) = false := by
        show (("keeper" : Str) == z) = false
        exact beq_false_of_ne fun e => h2 e.symm
      show (eqV (.str "keep") (.str z) || (eqV (.str "keeper") (.str z) || false)) = false
      rw [e1, e2]
      rfl
theorem heldI_of {P : Pie} {h : Hd} {u : V} (l : LHd P h u) : (P.word = "keep" ∨ P.word = "keeper") → u = .int (heldI P h) := fun w => by
  cases P with
  | keep a b f => exact l
  | keeper a b m mo at_ => exact l
  | _ => rcases w with e | e <;> (unfold Pie.word at e; dsimp only at e; exact absurd e (by decide +kernel))
theorem heldI_no {P : Pie} {h : Hd} (n : ¬ (P.word = "keep" ∨ P.word = "keeper")) : heldI P h = 0 := by
  cases P with
  | keep a b f => exact absurd (.inl rfl) n
  | keeper a b m mo at_ => exact absurd (.inr rfl) n
  | _ => rfl
/-- what is held, as the law holds it -/
noncomputable def hL (Ps : List Pie) (t i : Nat) : List V := (List.range i).map fun j => V.int (heldI (Ps.getD j dPie) (hdA Ps t j))
theorem hL_succ (Ps : List Pie) (t i : Nat) : hL Ps t (i + 1) = hL Ps t i ++ [V.int (heldI (Ps.getD i dPie) (hdA Ps t i))] := by
  unfold hL
  rw [List.range_succ, List.map_append]
  rfl
theorem hL_len (Ps : List Pie) (t i : Nat) : (hL Ps t i).length = i := by
  unfold hL
  rw [List.length_map, List.length_range]
theorem late_succ (Ps : List Pie) (i : Nat) : lateI Ps (i + 1) = lateI Ps i ++ (if (Ps.getD i dPie).isLate then [i] else []) := by
  unfold lateI
  rw [List.range_succ, List.filter_append, List.filter_cons, List.filter_nil]
theorem mi_get (P : Pie) : (valV (mergeK [] [(kS "make", V.int 1), (kS "keeper", V.int 3)]) (kS P.word)).getD (.int 0) = .int ((P.mi.getD 0 : Nat) : Int) := by
  cases P <;> (unfold Pie.word Pie.mi; dsimp only; decide +kernel)
theorem late_word (P : Pie) : decide (V.str P.word = V.str "late") = P.isLate := by
  cases P with
  | make m k =>
    show decide (V.str "make" = V.str "late") = false
    decide +kernel
  | late a ah =>
    show decide (V.str "late" = V.str "late") = true
    decide +kernel
  | keeper a b m mo at_ =>
    show decide (V.str "keeper" = V.str "late") = false
    decide +kernel
  | less a =>
    show decide (V.str "less" = V.str "late") = false
    decide +kernel
  | both a b =>
    show decide (V.str "both" = V.str "late") = false
    decide +kernel
  | either a b =>
    show decide (V.str "either" = V.str "late") = false
    decide +kernel
  | oneof a b =>
    show decide (V.str "oneof" = V.str "late") = false
    decide +kernel
  | pick a b c =>
    show decide (V.str "pick" = V.str "late") = false
    decide +kernel
  | keep a b f =>
    show decide (V.str "keep" = V.str "late") = false
    decide +kernel
theorem mi_one {P : Pie} {m : Nat} (h : P.mi = some m) : 1 ≤ m := by
  cases P <;> first | (cases h; done) | (cases h; decide)
theorem tgA_snoc {p : Addr → Prop} {H : Hp} {v : V} {d : PyData} (hv : Tg p H v d) : ∀ {vs : List V} {ds : List PyData}, TgA p H vs ds → TgA p H (vs ++ [v]) (ds ++ [d])
  | [], [], _ => .cons hv .nil
  | [], _ :: _, h => by cases h
  | _ :: _, [], h => by cases h
  | _ :: _, _ :: _, h => by
    cases h with
    | cons a b => exact .cons a (tgA_snoc hv b)
theorem tg_new {p : Addr → Prop} {H H' : Hp} {D : Addr} {o : HO} (s : Same H H') (pd : p D) {v : V} {d : PyData} (h : Tg p H v d) : Tg p (upd H' D o) v d := h.kp (fun a xs n e => ⟨(upd_ne (fun z => n (z ▸ pd))).trans (s _ _ e), n⟩) (fun a xs n e => ⟨(upd_ne (fun z => n (z ▸ pd))).trans (s _ _ e), n⟩)
theorem tgA_new {p : Addr → Prop} {H H' : Hp} {D : Addr} {o : HO} (s : Same H H') (pd : p D) {vs : List V} {ds : List PyData} (h : TgA p H vs ds) : TgA p (upd H' D o) vs ds := h.kp (fun a xs n e => ⟨(upd_ne (fun z => n (z ▸ pd))).trans (s _ _ e), n⟩) (fun a xs n e => ⟨(upd_ne (fun z => n (z ▸ pd))).trans (s _ _ e), n⟩)
noncomputable def hM (Ps : List Pie) (t i n : Nat) : List V := (List.range n).map fun j => V.int (heldI (Ps.getD j dPie) (hdA Ps (if j < i then t + 1 else t) j))
theorem hM_len (Ps : List Pie) (t i n : Nat) : (hM Ps t i n).length = n := by
  unfold hM
  rw [List.length_map, List.length_range]
theorem hM_get {Ps : List Pie} {t i n : Nat} (h : i < n) : (hM Ps t i n)[i]? = some (.int (heldI (Ps.getD i dPie) (hdA Ps t i))) := by
  unfold hM
  rw [List.getElem?_map, List.getElem?_range h]
  show some (V.int (heldI _ (hdA Ps (if i < i then t + 1 else t) i))) = _
  rw [if_neg (Nat.lt_irrefl i)]
theorem hM_zero (Ps : List Pie) (t n : Nat) : hM Ps t 0 n = hL Ps t n := rfl
theorem hM_all (Ps : List Pie) (t n : Nat) : hM Ps t n n = hL Ps (t + 1) n := by
  unfold hM hL
  refine List.map_inj_left.mpr fun j hj => ?_
  rw [if_pos (List.mem_range.mp hj)]
theorem hM_at {Ps : List Pie} {t i n j : Nat} (h : j < n) : (hM Ps t i n)[j]? = some (.int (heldI (Ps.getD j dPie) (hdA Ps (if j < i then t + 1 else t) j))) := by
  unfold hM
  rw [List.getElem?_map, List.getElem?_range h]
  rfl
theorem hM_set {Ps : List Pie} {t i n : Nat} (h : i < n) : (hM Ps t i n).set i (.int (heldI (Ps.getD i dPie) (hdA Ps (t + 1) i))) = hM Ps t (i + 1) n := by
  refine List.ext_getElem? fun j => ?_
  by_cases jn : j < n
  · by_cases e : i = j
    · subst e
      rw [List.getElem?_set_self (by rw [hM_len]; exact h), hM_at h, if_pos (Nat.lt_succ_self i)]
    · rw [List.getElem?_set_ne e, hM_at jn, hM_at jn]
      by_cases c : j < i
      · rw [if_pos c, if_pos (by omega)]
      · rw [if_neg c, if_neg (by omega)]
  · rw [List.getElem?_eq_none (by rw [List.length_set, hM_len]; omega), List.getElem?_eq_none (by rw [hM_len]; omega)]
theorem hM_skip {Ps : List Pie} {t i n : Nat} (h : i < n) (e : heldI (Ps.getD i dPie) (hdA Ps (t + 1) i) = heldI (Ps.getD i dPie) (hdA Ps t i)) : hM Ps t (i + 1) n = hM Ps t i n := by
  rw [← hM_set h, e]
  refine List.ext_getElem (by rw [List.length_set]) fun j h1 h2 => ?_
  rw [List.getElem_set]
  by_cases e : i = j
  · subst e
    rw [if_pos rfl]
    have := hM_get (Ps := Ps) (t := t) h
    rw [List.getElem?_eq_getElem h2] at this
    exact (Option.some.inj this).symm
  · rw [if_neg e]
theorem nums_len (P : Pie) : (P.nums.length : Int) = match P.mkr with | some m => (m.rnd : Int) | none => 1 := by
  unfold Pie.nums
  cases P.mkr with
  | none => rfl
  | some m =>
    show (((List.range m.rnd).map _).length : Int) = _
    rw [List.length_map, List.length_range]
def sp__law_holds {K : PySem.W.Frag} {mg : Str → Option Value} (T : Defs K mg) : Sp := fun vs H Q _ => ∃ (pa : Addr) (xs : List V) (Ps : List Pie) (b : Nat), vs = [.ref pa, .int (b : Nat)] ∧ H pa = some (.tup xs) ∧ PisAt H Ps xs ∧ Ps.length ≤ 24 ∧ PsOk Ps.length Ps ∧ b ≤ 100000 ∧
  ∀ H' l vs, Same H H' → H' l = some (.lst vs) → vs.length = b → (∀ j v, vs[j]? = some v → Tg (fun _ => False) H' v (stD Ps j)) → Q (.ref l) H'
theorem ok__law_holds (T : Defs K mg) : FnOk P w K mg base CX0 11 T.f__law_holds T.fd__law_holds ["_law_pieces", "_law_beats"] (sp__law_holds T) := by
  have G__law_bits : FnOk P w K mg base CX0 10 T.f__law_bits T.fd__law_bits ["_law_pieces", "_law_beats"] (sp__law_bits K) := ok__law_bits T
  have G_round_of : FnOk P w K mg base CX0 9 T.f_round_of T.fd_round_of ["maker"] (sp_round_of K) := ok_round_of T
  have G__law_late : FnOk P w K mg base CX0 1 T.f__law_late T.fd__law_late ["_law_piece", "_law_told", "_law_beat"] (sp__law_late K) := ok__law_late T
  refine T.F__law_holds.ok sc__law_holds (fun vs H Q E h => ?_) (fun cdv A outer s H vs Q E hr h => ?_)
  · obtain ⟨pa, xs, Ps, b, rfl, hpa, hps, n24, ok, b5, q⟩ := h
    rfl
  · obtain ⟨pa, xs, Ps, b, rfl, hpa, hps, n24, ok, b5, q⟩ := h
    refine ⟨_, PSs.nox (pss_cons (ps_asg (pe_tup (pa_cons (pe_call G__law_bits (hr.mono (by decide)) (by rfl) T.g__law_bits T.F__law_bits.kp T.b__law_bits .nil pass0 (pa_cons (pv 0) (pa_cons (pv 1) pa_nil))) (pa_cons (pe_lst pa_nil) pa_nil))) (pg_tup rfl (pgs_cons (pg_name (i := 2) sc__law_holds.nd rfl (.inr rfl)) (pgs_cons (pg_name (i := 3) sc__law_holds.nd rfl (.inl rfl)) pgs_nil))))
    (pss_cons (ps_setLc (i := 4) (own := [("_law_piece", 6)]) (g := gName 6) (tt := tYes) rfl sc__law_holds.nd rfl rfl (sw_true rfl rfl rfl (by decide +kernel)) (pi_tup (pv 0)) (blkOk_by (N := N__law_holds) (sc := defScope s__law_holds) (by decide +kernel)) (fun _ _ _ _ _ => (pg_name (i := 6) sc__law_holds.nd rfl (.inl rfl))) (fun _ _ _ _ _ => pts_nil) (fun _ _ _ _ _ => (pe_ifExp (pt_cmpR (inK (K := K) rfl) (pe_ix (ixtK (K := K) rfl) (pv 6) pe_int (fun _ _ => rfl)) (pe_tup (pa_cons pe_str (pa_cons pe_str pa_nil))) rfl) (pe_ix (ixtK (K := K) rfl) (pv 6) (pe_un un_neg pe_int) (fun _ _ => rfl)) pe_int)))
    (pss_cons (ps_set (i := 5) sc__law_holds.nd rfl (.inl rfl) (pe_lst pa_nil))
    (pss_cons ((ps_for PassesOwn.never rfl (pi_tup (pv 0)) (pg_name (i := 6) sc__law_holds.nd rfl (.inl rfl)) (pss_cons (ps_set (i := 7) sc__law_holds.nd rfl (.inl rfl) (pe_dget2 (u1 hr) (pe_disp (pps_cons pe_str pe_int (pps_cons pe_str pe_int pps_nil)) rfl rfl (by simp) (by decide)) (pe_ix ix_tup (pv 6) pe_int (fun _ _ => rfl)) pe_int ⟨rfl, rfl, rfl, rfl⟩))
    (pss_one (ps_expr (pe_bm PySem.F.plainAttrs_list PySem.F.slot_list_append PySem.F.type_list_append mt_append (pv 5) (pa_cons (pe_ifExp (pt_cmpR op_gt (pv 7) pe_int (nomark _)) (pe_call G_round_of (hr.mono (by decide)) (by rfl) T.g_round_of T.F_round_of.kp T.b_round_of .nil pass0 (pa_cons (pe_ix ix_tup (pv 6) (pv 7) (fun _ _ => rfl)) pa_nil)) pe_int) pa_nil)))))))
    (pss_cons (ps_setLc (i := 8) (own := [("_law_piece", 6)]) (g := gName 6) rfl sc__law_holds.nd rfl rfl (sw_true rfl rfl rfl (by decide +kernel)) (pi_tup (pv 0)) (blkOk_by (N := N__law_holds) (sc := defScope s__law_holds) (by decide +kernel)) (fun _ _ _ _ _ => (pg_name (i := 6) sc__law_holds.nd rfl (.inl rfl))) (fun _ _ _ _ _ => pts_one (pt_cmpR op_eq (pe_ix (ixtK (K := K) rfl) (pv 6) pe_int (fun _ _ => rfl)) pe_str (nomark _))) (fun _ _ _ _ _ => (pv 6)))
    (pss_cons ((ps_for PassesOwn.never rfl (pi_range1 (by rfl) T.m_range (pa_cons (pv 1) pa_nil)) (pg_name (i := 9) sc__law_holds.nd rfl (.inr rfl)) (pss_cons (ps_setLc (i := 10) (own := [("_law_piece", 6)]) (g := gName 6) (tt := tYes) rfl sc__law_holds.nd rfl rfl (sw_true rfl rfl rfl (by decide +kernel)) (pi_list (pv 8)) (blkOk_by (N := N__law_holds) (sc := defScope s__law_holds) (by decide +kernel)) (fun _ _ _ _ _ => (pg_name (i := 6) sc__law_holds.nd rfl (.inr rfl))) (fun _ _ _ _ _ => pts_nil) (fun _ _ _ _ _ => (pe_lc (own := [("_law_more", 13)]) (g := gName 13) (tt := tYes) rfl sc__law_holds.nd (pi_range1 (by rfl) T.m_range (pa_cons (pe_callB (lenK (K := K) rfl) (by rfl) T.m_len bt_len (pa_cons (pe_ix (ixtK (K := K) rfl) (pv 6) pe_int (fun _ _ => rfl)) pa_nil)) pa_nil)) (blkOk_by (by rfl)) (fun _ _ _ _ _ => (pg_name (i := 13) sc__law_holds.nd rfl (.inl rfl))) (fun _ _ _ _ _ => pts_nil) (fun _ _ _ _ _ => (pe_call G__law_late (hr.mono (by decide)) (by rfl) T.g__law_late T.F__law_late.kp T.b__law_late .nil pass0 (pa_cons (pv 6) (pa_cons (pv 2) (pa_cons (pe_op op_add (pv 9) (pv 13)) pa_nil))))))))
    (pss_cons (ps_expr (pe_bm PySem.F.plainAttrs_list PySem.F.slot_list_append PySem.F.type_list_append mt_append (pv 3) (pa_cons (pe_tup (pa_cons (pe_lc (own := [("_law_many", 14)]) (g := gName 14) (tt := tYes) rfl sc__law_holds.nd (pi_list (pv 5)) (blkOk_by (N := N__law_holds) (sc := defScope s__law_holds) (by decide +kernel)) (fun _ _ _ _ _ => (pg_name (i := 14) sc__law_holds.nd rfl (.inl rfl))) (fun _ _ _ _ _ => pts_nil) (fun _ _ _ _ _ => (pe_op op_mod (pv 9) (pv 14)))) (pa_cons (pv 10) (pa_cons (pe_callTy call_list_of (by rfl) T.m_list bt_list (pa_cons (pv 4) pa_nil)) pa_nil)))) pa_nil)))
    (pss_one ((ps_for PassesOwn.never rfl (pi_enumT (by rfl) T.m_enumerate (pa_cons (pv 0) pa_nil)) (pg_tup rfl (pgs_cons (pg_name (i := 11) sc__law_holds.nd rfl (.inl rfl)) (pgs_cons (pg_name (i := 6) sc__law_holds.nd rfl (.inl rfl)) pgs_nil))) (pss_cons (ps_if (pt_cmpR op_eq (pe_ix ix_tup (pv 6) pe_int (fun _ _ => rfl)) pe_str (nomark _)) (pss_one (ps_asg (pe_ix ix_list (pe_ix ix_list (pv 2) (pv 9) (fun _ _ => rfl)) (pv 11) (fun _ _ => rfl)) (pg_sub (pv 4) (pv 11) set_list))) pss_nil)
    (pss_one (ps_if (pt_cmpR op_eq (pe_ix ix_tup (pv 6) pe_int (fun _ _ => rfl)) pe_str (nomark _)) (pss_cons (ps_set (i := 12) sc__law_holds.nd rfl (.inl rfl) (pe_op op_sub (pe_ix ix_list (pe_ix ix_list (pv 2) (pv 9) (fun _ _ => rfl)) (pe_ix ix_tup (pv 6) pe_int (fun _ _ => rfl)) (fun _ _ => rfl)) (pe_ix ix_list (pe_ix ix_list (pv 2) (pv 9) (fun _ _ => rfl)) (pe_ix ix_tup (pv 6) pe_int (fun _ _ => rfl)) (fun _ _ => rfl))))
    (pss_one (ps_asg (pe_callB (call_min2 rfl) (by rfl) T.m_min bt_min (pa_cons (pe_ix ix_tup (pv 6) pe_int (fun _ _ => rfl)) (pa_cons (pe_callB (call_max2 rfl) (by rfl) T.m_max bt_max (pa_cons pe_int (pa_cons (pe_op op_add (pe_ix ix_list (pv 4) (pv 11) (fun _ _ => rfl)) (pv 12)) pa_nil))) pa_nil))) (pg_sub (pv 4) (pv 11) set_list)))) pss_nil))))))))))
    (pss_one (ps_ret (pv 3))))))))), ?_⟩
    have hsl : sizeLine = 16777216 := by decide
    have ll := hps.len
    refine ⟨_, rfl, _, rfl, pa, xs, Ps, b, rfl, hpa, hps, n24, ok, b5, fun H1 l rs s1 nl hl lrs tld fr => ?_⟩
    refine ⟨Nat.zero_le _, fun F nF => ⟨(show 2 ≤ sizeLine by decide), fun tu ntu => ⟨tu, _, rfl, SqT.mk upd_same, rfl, _, _, rfl, _, _, rfl, rfl, ?_⟩⟩⟩
    have sF := same_upd nF (o := .lst [])
    have hF1 := upd_same (H := H1) (a := F) (o := .lst [])
    have sU := same_upd ntu (o := .tup [.ref l, .ref F])
    have hF2 := sU _ _ hF1
    have s2 := sF.trans sU
    have nFH := s1.free nF
    generalize upd (upd H1 F (.lst [])) tu (.tup [.ref l, .ref F]) = H2 at s2 sU hF2 ⊢
    clear sU hF1 sF ntu
    have hl2 := s2 _ _ hl
    have sH2 := s1.trans s2
    have tld2 : TldAt H2 rs (bts Ps) Ps.length := fun j hj => by
      obtain ⟨q', e1, e2, e3⟩ := tld j hj
      exact ⟨q', e1, s2 _ _ e2, e3⟩
    -- held
    refine ⟨.ref pa, rfl, pa, rfl, ⟨_, SqT.mk (sH2 _ _ hpa)⟩, fun C nC => ?_⟩
    refine lc_it (walk_tup (xs := xs)) (fun i G => Same H2 G ∧ G C = some (.lst (hL Ps 0 i))) ⟨same_upd nC, upd_same⟩ (fun i G _ h => SqT.mk (h.1 _ _ (sH2 _ _ hpa))) (fun i v G G' hi h y => ?_) (fun G h => ?_)
    · obtain ⟨sG, hC⟩ := h
      obtain ⟨rfl, hv1⟩ := y
      obtain ⟨P, hP, hpv⟩ := hps.ok_get hv1
      obtain ⟨t, ys, u, rfl, ht, hu, lu⟩ := hpv.ends
      have ht' := sG _ _ (sH2 _ _ ht)
      refine ⟨rfl, yes_ite ⟨.ref t, rfl, t, _, 0, _, rfl, rfl, SqT.mk ht', atI_nat (j := 0) rfl, (show 2 ≤ sizeLine by decide), fun W nW => ⟨W, _, rfl, .inr (SqT.mk upd_same), rfl, rfl, _, rfl, ?_⟩⟩⟩
      have sW := same_upd nW (o := .tup [.str "keep", .str "keeper"])
      have e0 : hdA Ps 0 i = P.first := getD_of (show (Ps.map Pie.first)[i]? = some _ by rw [List.getElem?_map, hP]; rfl)
      rw [if_neg Bool.false_ne_true, keep_words]
      have hC' := sW _ _ hC
      have fin : ∀ u : V, u = .int (heldI P P.first) → ∃ acc, (upd G' W (.tup [.str "keep", .str "keeper"])) C = some (HO.lst acc) ∧ acc.length < sizeLine ∧ Same H2 (upd (upd G' W (.tup [.str "keep", .str "keeper"])) C (.lst (acc ++ [u]))) ∧ upd (upd G' W (.tup [.str "keep", .str "keeper"])) C (.lst (acc ++ [u])) C = some (.lst (hL Ps 0 (i + 1))) := fun u e => by
        refine ⟨_, hC', by rw [hL_len]; omega, same_newer (sG.trans sW) nC, ?_⟩
        rw [upd_same, hL_succ, getD_of hP, e0, e]
      by_cases wd : P.word = "keep" ∨ P.word = "keeper"
      · rw [decide_eq_true wd]
        exact iteT ⟨_, rfl, _, rfl, t, _, _, _, rfl, rfl, SqT.mk (sW _ _ ht'), hu, fin u (heldI_of lu wd)⟩
      · rw [decide_eq_false wd]
        exact iteF (fin _ (by rw [heldI_no wd]))
    obtain ⟨s3, hC⟩ := h
    rw [ll] at hC
    have sH3 := sH2.trans s3
    have nCH := sH2.free nC
    refine ⟨Nat.zero_le _, fun R nR => ?_⟩
    have sR := same_upd nR (o := .lst [])
    have hR0 := upd_same (H := G) (a := R) (o := .lst [])
    generalize upd G R (.lst []) = G0 at sR hR0 ⊢
    have sH0 := sH3.trans sR
    refine ⟨_, rfl, pa, rfl, ⟨_, SqT.mk (sH0 _ _ hpa)⟩, for_tup (xs := xs) (fun i σ E => ∃ y6 y7, σ = [some (.ref pa), some (.int (b : Nat)), some (.ref l), some (.ref F), some (.ref C), some (.ref R), y6, y7, none, none, none, none, none, none, none] ∧ Same G E ∧ E R = some (.lst ((Ps.take i).map fun P => V.int (P.nums.length : Nat)))) ⟨none, none, rfl, sR, hR0⟩ ?_ ?_ ?_⟩
    · rintro i σ E _ ⟨_, _, _, sE, _⟩
      exact SqT.mk (sE _ _ (sH3 _ _ hpa))
    · rintro i v σ E hv1 ⟨y6, y7, rfl, sE, hR⟩
      obtain ⟨P, hP, hpv⟩ := hps.ok_get hv1
      obtain ⟨t, ys, rfl, ht, hit, hmk⟩ := hpv.mkr
      have ht' := sE _ _ (sH3 _ _ ht)
      intro d nd
      refine ⟨upd_same, [(kS "make", .int 1), (kS "keeper", .int 3)], rfl, (show 2 ≤ 15 by decide), ?_⟩
      have sd := same_newer (o := .dK (mergeK [] [(kS "make", .int 1), (kS "keeper", .int 3)])) (same_upd nd (o := .dK [])) nd
      have hd := upd_same (H := upd E d (.dK [])) (a := d) (o := .dK (mergeK [] [(kS "make", .int 1), (kS "keeper", .int 3)]))
      generalize upd (upd E d (.dK [])) d (.dK (mergeK [] [(kS "make", .int 1), (kS "keeper", .int 3)])) = E1 at sd hd ⊢
      refine ⟨d, rfl, .inl ⟨_, .inl hd⟩, _, rfl, t, _, _, _, rfl, rfl, SqT.mk (sd _ _ ht'), atI_nat (j := 0) rfl, _, DGet.k (k := kS P.word) hd, ?_⟩
      rw [mi_get]
      have hR' := sd _ _ hR
      have lR : ((Ps.take i).map fun P => V.int (P.nums.length : Nat)).length < sizeLine := by
        rw [List.length_map, List.length_take]
        omega
      have fin : ∀ (E2 : Hp) (u : V), Same E1 E2 → u = .int (P.nums.length : Nat) → (upd E2 R (.lst (((Ps.take i).map fun P => V.int (P.nums.length : Nat)) ++ [u]))) R = some (.lst ((Ps.take (i + 1)).map fun P => V.int (P.nums.length : Nat))) := fun E2 u _ e => by
        rw [upd_same, List.take_add_one, hP, List.map_append, e]
        rfl
      have il := (List.getElem?_eq_some_iff.mp hP).1
      have go : ∀ m : Nat, (P.mi = some m) ∨ (P.mi = none ∧ m = 0) → P.mi.getD 0 = m := fun m h => by
        rcases h with h | ⟨h, rfl⟩ <;> rw [h] <;> rfl
      cases em : P.mi with
      | none =>
        have e1 : P.nums.length = 1 := by rw [nums_mkr.1 em]; rfl
        refine ⟨_, rfl, .inl ⟨rfl, _, SqL.mk hR'⟩, _, rfl, _, _, rfl, rfl, _, rfl, iteF ⟨R, _, _, rfl, rfl, hR', lR, ?_⟩⟩
        exact ⟨_, _, rfl, same_newer (sE.trans sd) nR, fin E1 _ (Same.refl E1) (by rw [e1]; rfl)⟩
      | some m =>
        obtain ⟨mk, x, g1, g2, g3⟩ := hmk m em
        have wl := mkr_wl g1 (ok i P hP)
        have m1 := mi_one em
        refine ⟨_, rfl, .inl ⟨rfl, _, SqL.mk hR'⟩, _, rfl, _, _, rfl, rfl, _, rfl, ite2 (fun _ => ?_) (fun e => absurd (decide_eq_true (show (0 : Int) < ((some m).getD 0 : Nat) by show (0 : Int) < (m : Nat); omega)) e)⟩
        refine ⟨_, rfl, _, rfl, t, _, _, _, rfl, rfl, SqT.mk (sd _ _ ht'), atI_nat g2, mk, x, rfl, ((g3.same sH3).same sE).same sd, wl.1, by have := wl.2.2.1; omega, fun E2 s2' => ⟨R, _, _, rfl, rfl, s2' _ _ hR', lR, ?_⟩⟩
        refine ⟨_, _, rfl, same_newer (sE.trans (sd.trans s2')) nR, fin E2 _ s2' ?_⟩
        rw [nums_mkr.2 mk g1, List.length_map, List.length_range]
    rintro σ E ⟨y6, y7, rfl, sE, hR⟩
    rw [List.take_of_length_le (by omega)] at hR
    -- the late ones
    have sHE := sH3.trans sE
    refine ⟨_, rfl, pa, rfl, ⟨_, SqT.mk (sHE _ _ hpa)⟩, fun L nL => ?_⟩
    refine lc_it (walk_tup (xs := xs)) (fun i G' => Same E G' ∧ G' L = some (.lst ((lateI Ps i).map fun j => xs.getD j .non))) ⟨same_upd nL, upd_same⟩ (fun i G' _ h => SqT.mk (h.1 _ _ (sHE _ _ hpa))) (fun i v G1 G2 hi h y => ?_) (fun G1 h => ?_)
    · obtain ⟨sG, hL⟩ := h
      obtain ⟨rfl, hv1⟩ := y
      obtain ⟨P, hP, hpv⟩ := hps.ok_get hv1
      obtain ⟨t, ys, u, rfl, ht, hu, lu⟩ := hpv.ends
      have ht' := sG _ _ (sHE _ _ ht)
      refine ⟨rfl, _, rfl, t, _, _, _, rfl, rfl, SqT.mk ht', atI_nat (j := 0) rfl, rfl, _, rfl, ?_⟩
      rw [late_word, late_succ, getD_of hP]
      cases P.isLate with
      | true => exact iteT ⟨_, rfl, _, hL, by rw [List.length_map]; exact Nat.lt_of_le_of_lt (List.length_filter_le _ _) (by rw [List.length_range]; omega), same_newer sG nL, by rw [upd_same, if_pos rfl, List.map_append]; show some (HO.lst (_ ++ [V.ref t])) = some (HO.lst (_ ++ [xs.getD i .non])); rw [getD_of hv1]⟩
      | false => exact iteF ⟨sG, by rw [if_neg Bool.false_ne_true, List.append_nil]; exact hL⟩
    obtain ⟨sG, hLs⟩ := h
    rw [ll] at hLs
    have sGZ := sE.trans sG
    have sHZ := sHE.trans sG
    have s3Z := s3.trans sGZ
    have hFZ := s3Z _ _ hF2
    have hlZ := s3Z _ _ hl2
    have hCZ := sGZ _ _ hC
    have hRZ := sG _ _ hR
    have hpaZ := sHZ _ _ hpa
    have hpsZ := hps.same sHZ
    have FC : F ≠ C := ne_of_none hF2 nC
    have lF : l ≠ F := ne_of_none hl nF
    have lC : l ≠ C := ne_of_none hl2 nC
    have RF : R ≠ F := (ne_of_none (s3 _ _ hF2) nR).symm
    have RC : R ≠ C := (ne_of_none hC nR).symm
    have LF : L ≠ F := (ne_of_none (sE _ _ (s3 _ _ hF2)) nL).symm
    have LC : L ≠ C := (ne_of_none (sE _ _ hC) nL).symm
    have isT : ∀ a ys, G1 a = some (.tup ys) → a ≠ F ∧ a ≠ C := fun a ys e => ⟨ne_of e hFZ (fun z => by cases z), ne_of e hCZ (fun z => by cases z)⟩
    have tldZ : ∀ j, j < b → ∃ q, rs[j]? = some (.ref q) ∧ q ≠ F ∧ q ≠ C ∧ G1 q = some (.lst ((bts Ps j).map V.int)) := fun j hj => by
      obtain ⟨q', e1, e2, e3⟩ := tld j (by omega)
      exact ⟨q', e1, ne_of_none e2 nF, ne_of_none (s2 _ _ e2) nC, s3Z _ _ (s2 _ _ e2)⟩
    clear hF2 hl2 hC hR sGZ s3Z tld2 sE sG sH0 sR hR0 sHE nL nR
    refine ⟨_, rfl, (b : Nat), rfl, by omega, by omega, for_range (fun t σ G => ∃ y6 y9 y10 y11 y12, σ = [some (.ref pa), some (.int (b : Nat)), some (.ref l), some (.ref F), some (.ref C), some (.ref R), y6, y7, some (.ref L), y9, y10, y11, y12, none, none] ∧ (∀ (a : Addr) (o : HO), a ≠ F → a ≠ C → G1 a = some o → G a = some o) ∧ (∃ vs : List V, G F = some (.lst vs) ∧ vs.length = t ∧ ∀ (j : Nat) (v : V), vs[j]? = some v → Tg (fun a => a = F ∨ a = C) G v (stD Ps j)) ∧ G C = some (.lst (hL Ps t Ps.length))) ⟨y6, none, none, none, none, rfl, fun _ _ _ _ e => e, ⟨[], hFZ, rfl, fun j v e => by cases e⟩, hCZ⟩ ?_ ?_⟩
    · rintro t σ G ht ⟨y6, y9, y10, y11, y12, rfl, kp, ⟨vs, hF, lv, hv⟩, hC⟩
      rw [Int.toNat_natCast] at ht
      have hlG := kp _ _ lF lC hlZ
      have hRG := kp _ _ RF RC hRZ
      have hLG := kp _ _ LF LC hLs
      have tldG : ∀ j, j < rs.length → ∃ q, rs[j]? = some (.ref q) ∧ G q = some (.lst ((bts Ps j).map V.int)) ∧ (bts Ps j).length = Ps.length := fun j hj => by
        obtain ⟨q', e1, e2, e3, e4⟩ := tldZ j (by omega)
        exact ⟨q', e1, kp _ _ e2 e3 e4, bts_len Ps j⟩
      have hpsG : PisAt G Ps xs := hpsZ.keep fun a ys e => kp _ _ (isT _ _ e).1 (isT _ _ e).2 e
      -- what is coming
      refine ⟨_, rfl, L, rfl, ⟨_, SqL.mk hLG⟩, fun D nD => ?_⟩
      refine lc_it (walk_list (xs := (lateI Ps Ps.length).map fun j => xs.getD j .non)) (fun i E => Same G E ∧ ∃ us, E D = some (.lst us) ∧ us.length = i ∧ TgA (fun a => a = F ∨ a = C ∨ a = D) E us ((dCom Ps t).take i)) ⟨same_upd nD, [], upd_same, rfl, .nil⟩ (fun i E _ h => SqL.mk (h.1 _ _ hLG)) (fun i v E E' hi h y => ?_) (fun E h => ?_)
      · obtain ⟨sE, us, hD, lu, hu⟩ := h
        obtain ⟨rfl, hv1⟩ := y
        rw [List.getElem?_map] at hv1
        obtain ⟨j, hj, rfl⟩ := Option.map_eq_some_iff.mp hv1
        obtain ⟨a, ah, eP⟩ := late_of (List.mem_of_getElem? hj)
        obtain ⟨v, ev, hpv⟩ := hpsG.get eP
        rw [getD_of ev]
        obtain ⟨La, h1, h2, h3⟩ := late_hist eP t
        obtain ⟨al, ⟨a1, a16⟩, _⟩ : a < Ps.length ∧ (1 ≤ ah.length ∧ ah.length ≤ 16) ∧ _ := ok j _ eP
        have hpvE := hpv.same sE
        obtain ⟨tt, s', rfl, htt, hs'⟩ := hpv
        have httE := sE _ _ htt
        have hsE := sE _ _ hs'
        refine ⟨rfl, yes_ite ?_⟩
        refine ⟨_, rfl, tt, _, _, _, rfl, rfl, SqT.mk httE, atI_nat (j := 2) rfl, s', _, rfl, .inr (SqT.mk hsE), ?_⟩
        refine ⟨_, rfl, by rw [List.length_map]; omega, by rw [List.length_map]; omega, fun D2 nD2 => ?_⟩
        have D2D : D2 ≠ D := (ne_of_none hD nD2).symm
        have D2F : D2 ≠ F := (ne_of_none (sE _ _ hF) nD2).symm
        have D2C : D2 ≠ C := (ne_of_none (sE _ _ hC) nD2).symm
        refine lc_range (lo := 0) (fun m E2 => Same E' E2 ∧ E2 D2 = some (.lst ((La.take m).map V.int))) ⟨same_upd nD2, upd_same⟩ (fun m E2 hm h => ?_) (fun E2 h => ?_)
        · obtain ⟨s2', hD2⟩ := h
          rw [Int.toNat_natCast, List.length_map] at hm
          refine ⟨rfl, yes_ite ⟨_, rfl, _, rfl, _, rfl, _, rfl, _, _, rfl, rfl, ?_⟩⟩
          refine ⟨.ref tt, l, a, 0, t + m, ah, rs, Ps, ?_, hpvE.same s2', s2' _ _ (sE _ _ hlG), fun j hj => ?_, al, by omega, ?_⟩
          · show [V.ref tt, .ref l, .int (0 + (t : Int) + (0 + (m : Int)))] = _
            rw [show 0 + (t : Int) + (0 + (m : Int)) = ((t + m : Nat) : Int) by omega]
          · obtain ⟨q', e1, e2, e3⟩ := tldG j hj
            exact ⟨q', e1, s2' _ _ (sE _ _ e2), e3⟩
          rw [← h3 m hm]
          refine ⟨_, hD2, by rw [List.length_map, List.length_take]; omega, same_newer s2' nD2, ?_⟩
          rw [upd_same, List.take_add_one, List.map_append, List.getD_eq_getElem?_getD, List.getElem?_eq_getElem (by omega)]
          rfl
        · obtain ⟨s2', hD2⟩ := h
          rw [Int.toNat_natCast, List.length_map, ← h2, List.take_length] at hD2
          have sL := List.length_filter_le (fun i => (Ps.getD i dPie).isLate) (List.range Ps.length)
          have jl := (List.getElem?_eq_some_iff.mp hj).1
          have jl2 : i < (List.range Ps.length).length := Nat.lt_of_lt_of_le jl sL
          rw [List.length_range] at jl2
          refine ⟨us, s2' _ _ hD, by omega, same_newer (sE.trans s2') nD, us ++ [.ref D2], upd_same, by rw [List.length_append, lu]; rfl, ?_⟩
          have ed : (dCom Ps t)[i]? = some (.list (La.map PyData.int)) := by
            unfold dCom
            rw [List.getElem?_map, hj]
            show some (PyData.list ((hdA Ps t j).ahD.map PyData.int)) = _
            have : hdA Ps t j = .ah La := h1
            rw [this]
            rfl
          rw [List.take_add_one, ed]
          exact tgA_snoc (.lst (fun z => by rcases z with z | z | z; exact D2F z; exact D2C z; exact D2D z) ((upd_ne D2D).trans hD2) (tg_ints La)) (tgA_new s2' (.inr (.inr rfl)) hu)
      obtain ⟨sE, us, hD, lu, hu⟩ := h
      rw [List.length_map] at hu
      have hu : TgA (fun a => a = F ∨ a = C) E us (dCom Ps t) := by
        have : (dCom Ps t).length = (lateI Ps Ps.length).length := by unfold dCom; rw [List.length_map]
        rw [List.take_of_length_le (by omega)] at hu
        exact hu.kp (fun a xs n e => ⟨e, fun z => n (z.elim .inl (fun z => .inr (.inl z)))⟩) (fun a xs n e => ⟨e, fun z => n (z.elim .inl (fun z => .inr (.inl z)))⟩)
      have DF : D ≠ F := (ne_of_none hF nD).symm
      have DC : D ≠ C := (ne_of_none hC nD).symm
      change gName 10 (.ref D) [some (.ref pa), some (.int (b : Nat)), some (.ref l), some (.ref F), some (.ref C), some (.ref R), y6, y7, some (.ref L), some (.int (0 + (t : Int))), y10, y11, y12, none, none] E _
      refine ⟨_, rfl, .inl ⟨rfl, _, SqL.mk (sE _ _ hF)⟩, ?_⟩
      change tCons _ _ [some (.ref pa), some (.int (b : Nat)), some (.ref l), some (.ref F), some (.ref C), some (.ref R), y6, y7, some (.ref L), some (.int (0 + (t : Int))), some (.ref D), y11, y12, none, none] E _
      -- the beats
      refine ⟨.ref R, rfl, R, rfl, ⟨_, SqL.mk (sE _ _ hRG)⟩, fun M nM => ?_⟩
      refine lc_it (walk_list (xs := Ps.map fun P => V.int (P.nums.length : Nat))) (fun i E' => Same E E' ∧ E' M = some (.lst ((Ps.take i).map fun P => V.int ((t % P.nums.length : Nat) : Int)))) ⟨same_upd nM, upd_same⟩ (fun i E' _ h => SqL.mk (h.1 _ _ (sE _ _ hRG))) (fun i v E' E2 hi h y => ?_) (fun E2 h => ?_)
      · obtain ⟨s', hM⟩ := h
        obtain ⟨rfl, hv1⟩ := y
        rw [List.getElem?_map] at hv1
        obtain ⟨P, hP, rfl⟩ := Option.map_eq_some_iff.mp hv1
        have pl := (Pie.nums_len (ok i P hP)).1
        refine ⟨rfl, yes_ite ⟨_, rfl, _, rfl, _, _, rfl, rfl, (show (0 : Int) < (P.nums.length : Nat) by omega), _, hM, by rw [List.length_map, List.length_take]; omega, same_newer s' nM, ?_⟩⟩
        rw [upd_same, List.take_add_one, hP, List.map_append]
        have e : (0 + (t : Int)) % (P.nums.length : Nat) = ((t % P.nums.length : Nat) : Int) := by
          rw [Int.zero_add]
          rfl
        show some (HO.lst (_ ++ [V.int ((0 + (t : Int)) % (P.nums.length : Nat))])) = _
        rw [e]
        rfl
      obtain ⟨sM, hM⟩ := h
      rw [List.length_map, List.take_length] at hM
      have MF : M ≠ F := (ne_of_none (sE _ _ hF) nM).symm
      have MC : M ≠ C := (ne_of_none (sE _ _ hC) nM).symm
      have hC2 := sM _ _ (sE _ _ hC)
      refine ⟨_, rfl, .ref C, rfl, C, _, rfl, .inl (SqL.mk hC2), fun Y nY => ⟨(show 3 ≤ sizeLine by decide), fun tp ntp => ?_⟩⟩
      have sY := same_upd nY (o := .lst (hL Ps t Ps.length))
      have hY := upd_same (H := E2) (a := Y) (o := .lst (hL Ps t Ps.length))
      have YF : Y ≠ F := (ne_of_none (sM _ _ (sE _ _ hF)) nY).symm
      have YC : Y ≠ C := (ne_of_none hC2 nY).symm
      generalize upd E2 Y (.lst (hL Ps t Ps.length)) = E3 at sY hY ntp ⊢
      have stp := same_upd ntp (o := .tup [.ref M, .ref D, .ref Y])
      have htp := upd_same (H := E3) (a := tp) (o := .tup [.ref M, .ref D, .ref Y])
      have hF3 := sY _ _ (sM _ _ (sE _ _ hF))
      have tF : tp ≠ F := (ne_of_none hF3 ntp).symm
      have tC' : tp ≠ C := (ne_of_none (sY _ _ hC2) ntp).symm
      generalize upd E3 tp (.tup [.ref M, .ref D, .ref Y]) = E4 at stp htp ⊢
      have hF4 := stp _ _ hF3
      have sG4 : Same G E4 := sE.trans (sM.trans (sY.trans stp))
      refine ⟨F, _, .ref tp, rfl, rfl, hF4, by omega, ?_⟩
      have hst : Tg (fun a => a = F ∨ a = C) E4 (.ref tp) (stD Ps t) := by
        have nn : ∀ a : Addr, a ≠ F → a ≠ C → ¬ (a = F ∨ a = C) := fun a h1 h2 z => z.elim h1 h2
        refine .tup (nn _ tF tC') htp (.cons (.lst (nn _ MF MC) (stp _ _ (sY _ _ hM)) ?_) (.cons (.lst (nn _ DF DC) (stp _ _ (sY _ _ (sM _ _ hD))) (hu.same (sM.trans (sY.trans stp)))) (.cons (.lst (nn _ YF YC) (stp _ _ hY) ?_) .nil)))
        · have := tg_ints (p := fun a => a = F ∨ a = C) (H := E4) (Ps.map fun P => ((t % P.nums.length : Nat) : Int))
          rw [List.map_map, List.map_map] at this
          exact this
        · have := tg_ints (p := fun a => a = F ∨ a = C) (H := E4) ((List.range Ps.length).map fun i => heldI (Ps.getD i dPie) (hdA Ps t i))
          rw [List.map_map, List.map_map] at this
          exact this
      have hv' : ∀ (j : Nat) (v : V), (vs ++ [.ref tp])[j]? = some v → Tg (fun a => a = F ∨ a = C) (upd E4 F (.lst (vs ++ [.ref tp]))) v (stD Ps j) := fun j v e => by
        by_cases z : j < vs.length
        · rw [get_snoc z] at e
          exact tg_new sG4 (.inl rfl) (hv j v e)
        · have jl := (List.getElem?_eq_some_iff.mp e).1
          rw [List.length_append] at jl
          have jl : j < vs.length + 1 := jl
          obtain rfl : j = vs.length := by omega
          rw [get_last] at e
          cases e
          rw [lv]
          exact tg_new (Same.refl E4) (.inl rfl) hst
      have hF5 := upd_same (H := E4) (a := F) (o := .lst (vs ++ [.ref tp]))
      have kp5 : ∀ (a : Addr) (o : HO), a ≠ F → a ≠ C → G1 a = some o → (upd E4 F (.lst (vs ++ [.ref tp]))) a = some o := fun a o h1 h2 e => (upd_ne h1).trans (sG4 _ _ (kp a o h1 h2 e))
      have hC5 : (upd E4 F (.lst (vs ++ [.ref tp]))) C = some (.lst (hL Ps t Ps.length)) := (upd_ne FC.symm).trans (stp _ _ (sY _ _ hC2))
      generalize upd E4 F (.lst (vs ++ [.ref tp])) = E5 at hF5 kp5 hC5 hv' ⊢
      clear hst hF4 hF3 htp stp hY sY hC2 hM sM hD sE hu tldG hpsG kp hF hC hv hlG hRG hLG sG4
      obtain ⟨B, eB, BF, BC, hB⟩ := tldZ t (by omega)
      have hB5 := kp5 _ _ BF BC hB
      have hl5 := kp5 _ _ lF lC hlZ
      have lB := bts_len Ps t
      have bb : Bits (bts Ps t) := bts_bits ok t
      have hst := sta_ok ok t
      have paF := (isT _ _ hpaZ).1
      have paC := (isT _ _ hpaZ).2
      have at_t : atI rs (0 + (t : Int)) = some (.ref B) := by
        rw [Int.zero_add]
        exact atI_nat eB
      have gb : ∀ i, i < Ps.length → ((bts Ps t).map V.int)[i]? = some (.int ((bts Ps t).getD i 0)) := fun i il => by
        rw [List.getElem?_map, List.getD_eq_getElem?_getD, List.getElem?_eq_getElem (by omega)]
        rfl
      refine ⟨_, rfl, pa, _, rfl, SqT.mk (kp5 _ _ paF paC hpaZ), for_it (walk_enumT (K := K) (a := pa) (xs := xs)) (fun i σ E => ∃ y6 y11 y12, σ = [some (.ref pa), some (.int (b : Nat)), some (.ref l), some (.ref F), some (.ref C), some (.ref R), y6, y7, some (.ref L), some (.int (0 + (t : Int))), some (.ref D), y11, y12, none, none] ∧ (∀ (a : Addr) (o : HO), a ≠ C → E5 a = some o → E a = some o) ∧ E C = some (.lst (hM Ps t i Ps.length))) ⟨_, _, _, rfl, fun _ _ _ e => e, by rw [hM_zero]; exact hC5⟩ ?_ ?_ ?_⟩
      · rintro i σ E _ ⟨_, _, _, _, fr, _⟩
        exact SqT.mk (fr _ _ paC (kp5 _ _ paF paC hpaZ))
      · rintro i v σ E E' hi ⟨y6, y11, y12, rfl, fr, hCE⟩ ⟨T1, x1, x2, rfl, nT1, rfl, e1, e2⟩
        have e1 : some (V.int (i : Nat)) = some x1 := e1
        cases e1
        obtain ⟨P, hP, hpv⟩ := hpsZ.ok_get e2
        have il := (List.getElem?_eq_some_iff.mp hP).1
        have okP := ok i P hP
        refine ⟨T1, _, rfl, SqT.mk upd_same, rfl, _, _, rfl, _, _, rfl, rfl, ?_⟩
        have s2' := same_upd nT1 (o := .tup [.int (i : Nat), x2])
        generalize upd E T1 (.tup [.int (i : Nat), x2]) = E2 at s2' ⊢
        have fr3 : ∀ (a : Addr) (o : HO), a ≠ C → E5 a = some o → E2 a = some o := fun a o h1 e => s2' _ _ (fr a o h1 e)
        have hC3 := s2' _ _ hCE
        clear fr hCE s2' nT1
        have hpv2 : PieAt E2 P x2 := hpv.keep fun a ys e => fr3 _ _ (isT _ _ e).2 (kp5 _ _ (isT _ _ e).1 (isT _ _ e).2 e)
        have hB3 := fr3 _ _ BC hB5
        have hl3 := fr3 _ _ lC hl5
        have sn := sta_succ (t := t) hP
        have hok := hst i P hP
        have gP : Ps.getD i dPie = P := getD_of hP
        have gh := hM_get (Ps := Ps) (t := t) il
        rw [gP] at gh
        have skip : heldI P (hdA Ps (t + 1) i) = heldI P (hdA Ps t i) → E2 C = some (.lst (hM Ps t (i + 1) Ps.length)) := fun e => by
          rw [hM_skip il (by rw [gP]; exact e)]
          exact hC3
        have fin : ∀ u : V, u = .int (heldI P (hdA Ps (t + 1) i)) → (upd E2 C (.lst ((hM Ps t i Ps.length).set i u))) C = some (.lst (hM Ps t (i + 1) Ps.length)) := fun u e => by
          rw [upd_same, ← hM_set il, gP, e]
        have ixC : i < (hM Ps t i Ps.length).length := by rw [hM_len]; exact il
        cases P with
        | keep a b' f =>
          obtain ⟨tt, rfl, hy⟩ := hpv2
          refine ⟨_, rfl, tt, _, _, _, rfl, rfl, SqT.mk hy, atI_nat (j := 0) rfl, rfl, _, rfl, iteT ⟨_, rfl, _, rfl, l, _, _, _, rfl, rfl, SqL.mk hl3, at_t, _, rfl, B, _, _, _, rfl, rfl, SqL.mk hB3, atI_nat (gb i il), _, rfl, _, rfl, C, _, _, i, rfl, rfl, hC3, ix_at ixC, ?_⟩⟩
          have hy2 : ∀ o : HO, (upd E2 C o) tt = some (.tup [.str "keep", .int (a : Nat), .int (b' : Nat), .int (f : Nat)]) := fun o => (upd_ne (ne_of hy hC3 (fun z => by cases z))).trans hy
          refine ⟨_, rfl, tt, _, _, _, rfl, rfl, SqT.mk (hy2 _), atI_nat (j := 0) rfl, rfl, _, rfl, ?_⟩
          rw [show decide (V.str "keep" = V.str "keeper") = false by decide +kernel]
          refine iteF ⟨_, _, _, rfl, fun a o h1 e => (upd_ne h1).trans (fr3 a o h1 e), fin _ ?_⟩
          show _ = V.int (heldI _ ((sta Ps (t + 1)).getD i .non))
          rw [sn]
          rfl
        | keeper a b' m mo at_ =>
          obtain ⟨tt, x, rfl, hy, _⟩ := hpv2
          obtain ⟨al, bl, _, _, _, _⟩ : a < Ps.length ∧ b' < Ps.length ∧ m.Wl ∧ 1 ≤ mo ∧ mo ≤ 64 ∧ at_ ≤ mo := okP
          obtain ⟨i0, hi0, h0, h1⟩ := hok
          rw [hi0] at sn
          have e0 : hdA Ps t i = .num i0 := hi0
          rw [e0] at gh
          refine ⟨_, rfl, tt, _, _, _, rfl, rfl, SqT.mk hy, atI_nat (j := 0) rfl, rfl, _, rfl, ?_⟩
          rw [show decide (V.str "keeper" = V.str "keep") = false by decide +kernel]
          refine iteF ⟨_, rfl, tt, _, _, _, rfl, rfl, SqT.mk hy, atI_nat (j := 0) rfl, rfl, _, rfl, iteT ?_⟩
          refine ⟨_, rfl, _, rfl, l, _, _, _, rfl, rfl, SqL.mk hl3, at_t, _, rfl, tt, _, _, _, rfl, rfl, SqT.mk hy, atI_nat (j := 1) rfl, B, _, _, _, rfl, rfl, SqL.mk hB3, atI_nat (gb a al), ?_⟩
          refine ⟨_, rfl, _, rfl, l, _, _, _, rfl, rfl, SqL.mk hl3, at_t, _, rfl, tt, _, _, _, rfl, rfl, SqT.mk hy, atI_nat (j := 2) rfl, B, _, _, _, rfl, rfl, SqL.mk hB3, atI_nat (gb b' bl), _, _, rfl, rfl, ?_⟩
          refine ⟨_, rfl, tt, _, _, _, rfl, rfl, SqT.mk hy, atI_nat (j := 4) rfl, _, rfl, _, rfl, C, _, _, _, rfl, rfl, SqL.mk hC3, atI_nat gh, _, rfl, _, _, rfl, rfl, _, _, rfl, _, _, rfl, ?_⟩
          refine ⟨_, rfl, _, rfl, C, _, _, i, rfl, rfl, hC3, ix_at ixC, ?_⟩
          refine ⟨_, _, _, rfl, fun a o h1 e => (upd_ne h1).trans (fr3 a o h1 e), fin _ ?_⟩
          show _ = V.int (heldI _ ((sta Ps (t + 1)).getD i .non))
          rw [sn]
          have km := keep_mvd (bits_getD bb a) (bits_getD bb b') h0 h1
          rw [Int.add_sub_assoc] at km
          exact congrArg V.int km
        | make m k =>
          obtain ⟨tt, x, rfl, hy, _⟩ := hpv2
          refine ⟨_, rfl, tt, _, _, _, rfl, rfl, SqT.mk hy, atI_nat (j := 0) rfl, rfl, _, rfl, ?_⟩
          rw [show decide (V.str "make" = V.str "keep") = false by decide +kernel]
          refine iteF ⟨_, rfl, tt, _, _, _, rfl, rfl, SqT.mk hy, atI_nat (j := 0) rfl, rfl, _, rfl, ?_⟩
          rw [show decide (V.str "make" = V.str "keeper") = false by decide +kernel]
          exact iteF ⟨_, _, _, rfl, fr3, skip rfl⟩
        | late a ah =>
          obtain ⟨tt, x, rfl, hy, _⟩ := hpv2
          refine ⟨_, rfl, tt, _, _, _, rfl, rfl, SqT.mk hy, atI_nat (j := 0) rfl, rfl, _, rfl, ?_⟩
          rw [show decide (V.str "late" = V.str "keep") = false by decide +kernel]
          refine iteF ⟨_, rfl, tt, _, _, _, rfl, rfl, SqT.mk hy, atI_nat (j := 0) rfl, rfl, _, rfl, ?_⟩
          rw [show decide (V.str "late" = V.str "keeper") = false by decide +kernel]
          exact iteF ⟨_, _, _, rfl, fr3, skip rfl⟩
        | less a =>
          obtain ⟨tt, rfl, hy⟩ := hpv2
          refine ⟨_, rfl, tt, _, _, _, rfl, rfl, SqT.mk hy, atI_nat (j := 0) rfl, rfl, _, rfl, ?_⟩
          rw [show decide (V.str "less" = V.str "keep") = false by decide +kernel]
          refine iteF ⟨_, rfl, tt, _, _, _, rfl, rfl, SqT.mk hy, atI_nat (j := 0) rfl, rfl, _, rfl, ?_⟩
          rw [show decide (V.str "less" = V.str "keeper") = false by decide +kernel]
          exact iteF ⟨_, _, _, rfl, fr3, skip rfl⟩
        | both a b' =>
          obtain ⟨tt, rfl, hy⟩ := hpv2
          refine ⟨_, rfl, tt, _, _, _, rfl, rfl, SqT.mk hy, atI_nat (j := 0) rfl, rfl, _, rfl, ?_⟩
          rw [show decide (V.str "both" = V.str "keep") = false by decide +kernel]
          refine iteF ⟨_, rfl, tt, _, _, _, rfl, rfl, SqT.mk hy, atI_nat (j := 0) rfl, rfl, _, rfl, ?_⟩
          rw [show decide (V.str "both" = V.str "keeper") = false by decide +kernel]
          exact iteF ⟨_, _, _, rfl, fr3, skip rfl⟩
        | either a b' =>
          obtain ⟨tt, rfl, hy⟩ := hpv2
          refine ⟨_, rfl, tt, _, _, _, rfl, rfl, SqT.mk hy, atI_nat (j := 0) rfl, rfl, _, rfl, ?_⟩
          rw [show decide (V.str "either" = V.str "keep") = false by decide +kernel]
          refine iteF ⟨_, rfl, tt, _, _, _, rfl, rfl, SqT.mk hy, atI_nat (j := 0) rfl, rfl, _, rfl, ?_⟩
          rw [show decide (V.str "either" = V.str "keeper") = false by decide +kernel]
          exact iteF ⟨_, _, _, rfl, fr3, skip rfl⟩
        | oneof a b' =>
          obtain ⟨tt, rfl, hy⟩ := hpv2
          refine ⟨_, rfl, tt, _, _, _, rfl, rfl, SqT.mk hy, atI_nat (j := 0) rfl, rfl, _, rfl, ?_⟩
          rw [show decide (V.str "oneof" = V.str "keep") = false by decide +kernel]
          refine iteF ⟨_, rfl, tt, _, _, _, rfl, rfl, SqT.mk hy, atI_nat (j := 0) rfl, rfl, _, rfl, ?_⟩
          rw [show decide (V.str "oneof" = V.str "keeper") = false by decide +kernel]
          exact iteF ⟨_, _, _, rfl, fr3, skip rfl⟩
        | pick a b' c =>
          obtain ⟨tt, rfl, hy⟩ := hpv2
          refine ⟨_, rfl, tt, _, _, _, rfl, rfl, SqT.mk hy, atI_nat (j := 0) rfl, rfl, _, rfl, ?_⟩
          rw [show decide (V.str "pick" = V.str "keep") = false by decide +kernel]
          refine iteF ⟨_, rfl, tt, _, _, _, rfl, rfl, SqT.mk hy, atI_nat (j := 0) rfl, rfl, _, rfl, ?_⟩
          rw [show decide (V.str "pick" = V.str "keeper") = false by decide +kernel]
          exact iteF ⟨_, _, _, rfl, fr3, skip rfl⟩
      rintro σ E ⟨y6', y11', y12', rfl, fr, hCE⟩
      rw [ll, hM_all] at hCE
      refine ⟨_, _, _, _, _, rfl, fun a o h1 h2 e => fr _ _ h2 (kp5 a o h1 h2 e), ⟨_, fr _ _ FC hF5, by rw [List.length_append, lv]; rfl, fun j v e => ?_⟩, hCE⟩
      exact (hv' j v e).keep fun a o n e => fr _ _ (fun z => n (.inr z)) e
    rintro σ G ⟨y6', y9, y10, y11, y12, rfl, kp, ⟨vs, hF, lv, hv⟩, hC⟩
    rw [Int.toNat_natCast] at lv
    refine ⟨_, rfl, q G F vs (fun a o e => kp a o ?_ ?_ (sHZ _ _ e)) hF lv fun j v e => (hv j v e).to fun a o n e => ⟨e, id⟩⟩
    · exact ne_of_none (s1 _ _ e) nF
    · exact ne_of_none (sH2 _ _ e) nC
/-- what the law has seen -/
noncomputable def seenK (Ps : List Pie) (i : Nat) : List (Key × V) := (List.range i).map fun j => (kS (stD Ps j).shown, V.int (j : Nat))
theorem seenK_succ (Ps : List Pie) (i : Nat) : seenK Ps (i + 1) = seenK Ps i ++ [(kS (stD Ps i).shown, V.int (i : Nat))] := by
  unfold seenK
  rw [List.range_succ, List.map_append]
  rfl
theorem seenK_len (Ps : List Pie) (i : Nat) : (seenK Ps i).length = i := by
  unfold seenK
  rw [List.length_map, List.length_range]
theorem seenK_look (Ps : List Pie) (i : Nat) (z : Str) : (valV (seenK Ps i) (kS z) = none ∧ ∀ j, j < i → (stD Ps j).shown ≠ z) ∨ ∃ j, j < i ∧ (stD Ps j).shown = z ∧ valV (seenK Ps i) (kS z) = some (.int (j : Nat)) := by
  unfold valV
  cases e : (seenK Ps i).find? fun kv => decide (kv.1 = kS z) with
  | none =>
    refine .inl ⟨rfl, fun j jl hz => ?_⟩
    have hm : (kS (stD Ps j).shown, V.int (j : Nat)) ∈ seenK Ps i := List.mem_map.mpr ⟨j, List.mem_range.mpr jl, rfl⟩
    exact List.find?_eq_none.mp e _ hm (decide_eq_true (congrArg kS hz))
  | some x =>
    have m := List.mem_of_find?_eq_some e
    have hk := List.find?_some e
    have hk := of_decide_eq_true hk
    obtain ⟨j, hj, rfl⟩ := List.mem_map.mp m
    exact .inr ⟨j, List.mem_range.mp hj, Sum.inr.inj hk, rfl⟩
def sp__law_settled {K : PySem.W.Frag} {mg : Str → Option Value} (T : Defs K mg) : Sp := fun vs H Q _ => ∃ (pa : Addr) (xs : List V) (Ps : List Pie) (b : Nat), vs = [.ref pa, .int (b : Nat)] ∧ H pa = some (.tup xs) ∧ PisAt H Ps xs ∧ Ps.length ≤ 24 ∧ PsOk Ps.length Ps ∧ b ≤ 100000 ∧
  (∀ H' tk n s, Same H H' → Rep Ps n s → n < b → H' tk = some (.tup [.int (s : Nat), .int ((n : Int) - (s : Nat))]) → Q (.ref tk) H') ∧ ∀ H', Same H H' → (∀ i j, i < j → j < b → skey Ps i ≠ skey Ps j) → Q .non H'
theorem ok__law_settled (T : Defs K mg) : GOk P w K mg base CX0 12 T.f__law_settled T.fd__law_settled ["_law_pieces", "_law_beats"] (sp__law_settled T) := by
  have G__law_holds : FnOk P w K mg base CX0 11 T.f__law_holds T.fd__law_holds ["_law_pieces", "_law_beats"] (sp__law_holds T) := ok__law_holds T
  refine gok_of T.F__law_settled sc__law_settled (fun vs H Q E h => ?_) (fun cdv A outer s H vs Q E hg hr h => ?_)
  · obtain ⟨pa, xs, Ps, b, rfl, hpa, hps, n24, ok, b5, q1, q0⟩ := h
    rfl
  · obtain ⟨pa, xs, Ps, b, rfl, hpa, hps, n24, ok, b5, q1, q0⟩ := h
    refine ⟨_, PSs.nox (pss_cons (ps_set (i := 2) sc__law_settled.nd rfl (.inl rfl) pe_dnewK)
    (pss_cons ((ps_for PassesOwn.never rfl (pi_enum (by rfl) T.m_enumerate (pa_cons (pe_call G__law_holds (hr.mono (by decide)) (by rfl) T.g__law_holds T.F__law_holds.kp T.b__law_holds .nil pass0 (pa_cons (pv 0) (pa_cons (pv 1) pa_nil))) pa_nil)) (pg_tup rfl (pgs_cons (pg_name (i := 3) sc__law_settled.nd rfl (.inl rfl)) (pgs_cons (pg_name (i := 4) sc__law_settled.nd rfl (.inl rfl)) pgs_nil))) (pss_cons (ps_set (i := 5) sc__law_settled.nd rfl (.inl rfl) (pe_callTy (call_strX hg (u70g hr)) (by rfl) T.m_str bt_str (pa_cons (pv 4) pa_nil)))
    (pss_cons (ps_if (pt_cmp (pc_din (u1 hr) (pv 5) (pv 2)) rfl) (pss_one (ps_ret (pe_tup (pa_cons (pe_dget (u1 hr) (pv 2) (pv 5) (fun _ _ => rfl)) (pa_cons (pe_op op_sub (pv 3) (pe_dget (u1 hr) (pv 2) (pv 5) (fun _ _ => rfl))) pa_nil))))) pss_nil)
    (pss_one (ps_asg (pv 3) (pg_sub (pv 2) (pv 5) (set_dict (u1 hr)))))))))
    (pss_one (ps_ret pe_non)))), ?_⟩
    have hsl : sizeLine = 16777216 := by decide
    intro F nF
    have sF := same_upd nF (o := .dK [])
    refine ⟨_, rfl, _, rfl, pa, xs, Ps, b, rfl, sF _ _ hpa, hps.same sF, n24, ok, b5, fun H1 l vs s1 hl lv tg => ?_⟩
    have hF1 := s1 _ _ (upd_same (H := H) (a := F) (o := .dK []))
    have sH1 : ∀ a o, H a = some o → H1 a = some o := fun a o e => s1 _ _ (sF _ _ e)
    have lF : l ≠ F := ne_of hl hF1 (fun z => by cases z)
    refine ⟨l, _, rfl, SqL.mk hl, for_it (walk_enum (xs := vs)) (fun i σ G => ∃ y3 y4 y5, σ = [some (.ref pa), some (.int (b : Nat)), some (.ref F), y3, y4, y5] ∧ (∀ a o, a ≠ F → H1 a = some o → G a = some o) ∧ G F = some (.dK (seenK Ps i)) ∧ ∀ i' j', i' < j' → j' < i → skey Ps i' ≠ skey Ps j') ⟨none, none, none, rfl, fun _ _ _ e => e, hF1, fun i' j' _ z => absurd z (Nat.not_lt_zero j')⟩ ?_ ?_ ?_⟩
    · rintro i σ G _ ⟨_, _, _, _, fr, _⟩
      exact SqL.mk (fr _ _ lF hl)
    · rintro i v σ G G' hi ⟨y3, y4, y5, rfl, fr, hF, no⟩ ⟨T1, x1, x2, rfl, nT1, rfl, e1, e2⟩
      have e1 : some (V.int (i : Nat)) = some x1 := e1
      cases e1
      refine ⟨T1, _, rfl, SqT.mk upd_same, rfl, _, _, rfl, _, _, rfl, rfl, ?_⟩
      have s2 := same_upd nT1 (o := .tup [.int (i : Nat), x2])
      generalize upd G T1 (.tup [.int (i : Nat), x2]) = G2 at s2 ⊢
      have fr2 : ∀ a o, a ≠ F → H1 a = some o → G2 a = some o := fun a o n e => s2 _ _ (fr a o n e)
      have hF2 := s2 _ _ hF
      have sH2 : Same H G2 := fun a o e => fr2 _ _ (ne_of_none e nF) (sH1 _ _ e)
      have t2 : Tg (fun _ => False) G2 x2 (stD Ps i) := (tg i x2 e2).kp (fun a xs n e => ⟨fr2 _ _ (ne_of e hF1 (fun z => by cases z)) e, n⟩) (fun a xs n e => ⟨fr2 _ _ (ne_of e hF1 (fun z => by cases z)) e, n⟩)
      clear fr hF s2 nT1
      refine ⟨_, rfl, x2, stD Ps i, rfl, t2.dp, .inr (st_sho ok n24 (by omega)), ?_⟩
      have es : strD (stD Ps i) = (stD Ps i).shown := by
        unfold stD
        rfl
      rw [es]
      refine ⟨_, rfl, _, rfl, F, _, rfl, DGet.k (k := kS (stD Ps i).shown) hF2, _, rfl, ?_⟩
      rcases seenK_look Ps i (stD Ps i).shown with ⟨e, ne⟩ | ⟨j, jl, ez, e⟩
      · rw [e]
        refine iteF ⟨_, rfl, _, rfl, _, rfl, F, _, rfl, DPut.k (k := kS (stD Ps i).shown) hF2 (by rw [seenK_len]; omega), ?_⟩
        refine ⟨_, _, _, rfl, fun a o n e => (upd_ne n).trans (fr2 a o n e), ?_, fun i' j' h1 h2 => ?_⟩
        · rw [upd_same, putK_new _ e, ← seenK_succ]
        · by_cases c : j' < i
          · exact no i' j' h1 c
          · obtain rfl : j' = i := by omega
            exact fun z => ne i' h1 ((shown_key ok).mpr z)
      · rw [e]
        have dg : DGet G2 F (.str (stD Ps i).shown) (some (.int (j : Nat))) := e ▸ DGet.k (k := kS (stD Ps i).shown) hF2
        refine iteT ⟨_, rfl, _, rfl, F, _, rfl, dg, _, rfl, _, rfl, _, rfl, F, _, rfl, dg, _, _, rfl, rfl, (show 2 ≤ sizeLine by decide), fun tk ntk => ?_⟩
        exact q1 _ tk i j (sH2.trans (same_upd ntk)) ⟨jl, (shown_key ok).mp ez.symm, no⟩ (by omega) upd_same
    rintro σ G ⟨y3, y4, y5, rfl, fr, hF, no⟩
    rw [lv] at no
    exact q0 G (fun a o e => fr _ _ (ne_of_none e nF) (sH1 _ _ e)) no
theorem neI2 {K : PySem.W.Frag} {H : Hp} {p r : Addr} {a b a' b' : Int} (hp : H p = some (.tup [.int a, .int b])) (hr : H r = some (.tup [.int a', .int b'])) (ea : a = a') (eb : b = b') {Q : VK} (q : Q (.bl false) H) : rNeD K (.ref p) (.ref r) H Q := by
  subst ea eb
  refine ⟨_, _, .tup (SqT.mk hp) (.cons (.int a) (.cons (.int b) .nil)), .tup (SqT.mk hr) (.cons (.int a) (.cons (.int b) .nil)), rfl, rfl, ?_⟩
  have e : PyData.eqv (.tuple [.int a, .int b]) (.tuple [.int a, .int b]) = true := by
    simp [PyData.eqv, PyData.eqvAll]
  rw [e]
  exact q
theorem eqI2 {K : PySem.W.Frag} {H : Hp} {p r : Addr} {a b a' b' : Int} (hp : H p = some (.tup [.int a, .int b])) (hr : H r = some (.tup [.int a', .int b'])) (ea : a = a') (eb : b = b') {Q : VK} (q : Q (.bl true) H) : rEqD K (.ref p) (.ref r) H Q := by
  subst ea eb
  refine ⟨_, _, .tup (SqT.mk hp) (.cons (.int a) (.cons (.int b) .nil)), .tup (SqT.mk hr) (.cons (.int a) (.cons (.int b) .nil)), rfl, rfl, ?_⟩
  have e : PyData.eqv (.tuple [.int a, .int b]) (.tuple [.int a, .int b]) = true := by
    simp [PyData.eqv, PyData.eqvAll]
  rw [e]
  exact q
/-- a long machine without anything held -/
def longPs (many : Nat) (inn : Mk) (k : Nat) : List Pie := [.make (.slow many inn) k, .less 0, .both 0 1]
theorem long_non {many k : Nat} {inn : Mk} (ok : PsOk 3 (longPs many inn k)) (t i : Nat) (P : Pie) (e : (longPs many inn k)[i]? = some P) : hdA (longPs many inn k) t i = .non := by
  have o := sta_ok (n := 3) ok t i P e
  change P.Hok (hdA _ t i) at o
  match i, e with
  | 0, e => cases e; exact o
  | 1, e => cases e; exact o
  | 2, e => cases e; exact o
theorem long_rep {many k : Nat} {inn : Mk} (ok : PsOk 3 (longPs many inn k)) (r64 : inn.rnd = 64) (m1 : 1 ≤ many) : Rep (longPs many inn k) (64 * many) 0 := by
  have nl : (Pie.make (.slow many inn) k).nums.length = many * 64 := by
    show ((List.range (many * inn.rnd)).map _).length = _
    rw [List.length_map, List.length_range, r64]
  have st : ∀ t u, sta (longPs many inn k) t = sta (longPs many inn k) u := fun t u => sta_ext fun i P e => by rw [long_non ok t i P e, long_non ok u i P e]
  have one : ∀ (P : Pie), P.mkr = none → P.nums.length = 1 := fun P e => by
    unfold Pie.nums
    rw [e]
    rfl
  refine ⟨by omega, (seen_key ok).mpr ⟨fun P hP => ?_, st _ _⟩, fun i j ij jn z => ?_⟩
  · rcases List.mem_cons.mp hP with rfl | hP
    · rw [nl, Nat.zero_mod, Nat.mul_comm, Nat.mod_self]
    rcases List.mem_cons.mp hP with rfl | hP
    · rw [one _ rfl, Nat.mod_one, Nat.mod_one]
    rcases List.mem_cons.mp hP with rfl | hP
    · rw [one _ rfl, Nat.mod_one, Nat.mod_one]
    · cases hP
  · have := ((seen_key ok).mp z).md _ List.mem_cons_self
    rw [nl, Nat.mod_eq_of_lt (by omega), Nat.mod_eq_of_lt (by omega)] at this
    omega
theorem odd64 : ∀ r, r < 32 → Nat.gcd (1 + 2 * r) 64 = 1 := by decide
def sp__law_long_right {K : PySem.W.Frag} {mg : Str → Option Value} (T : Defs K mg) : Sp := fun vs H Q _ => ∃ (p : Addr) (n : Nat), vs = [.ref p] ∧ Bx H p n ∧ n < 1000000 ∧ ∀ H', But p H H' → Bx H' p (n + 10) → Q (.bl true) H'
theorem ok__law_long_right (T : Defs K mg) : FnOk P w K mg base CX0 16 T.f__law_long_right T.fd__law_long_right ["_law_box_here"] (sp__law_long_right T) := by
  have G_settles : FnOk P w K mg base CX0 15 T.f_settles T.fd_settles ["pieces"] (sp_settles T) := ok_settles T
  have G__law_take : FnOk P w K mg base CX0 1 T.f__law_take T.fd__law_take ["_law_box_here", "_law_many"] (sp__law_take K) := ok__law_take T
  refine T.F__law_long_right.ok sc__law_long_right (fun vs H Q E h => ?_) (fun cdv A outer s H vs Q E hr h => ?_)
  · obtain ⟨p, n, rfl, hB, hn, q⟩ := h
    rfl
  · obtain ⟨p, n, rfl, hB, hn, q⟩ := h
    refine ⟨_, PSs.nox (pss_cons (ps_set (i := 1) sc__law_long_right.nd rfl (.inl rfl) (pe_lst (pa_cons (pe_tup (pa_cons pe_str (pa_cons pe_int (pa_cons (pe_op op_add pe_int (pe_op op_mul pe_int (pe_call G__law_take (hr.mono (by decide)) (by rfl) T.g__law_take T.F__law_take.kp T.b__law_take .nil pass0 (pa_cons (pv 0) (pa_cons pe_int pa_nil))))) (pa_cons (pe_call G__law_take (hr.mono (by decide)) (by rfl) T.g__law_take T.F__law_take.kp T.b__law_take .nil pass0 (pa_cons (pv 0) (pa_cons pe_int pa_nil))) pa_nil))))) (pa_cons (pe_tup (pa_cons pe_str (pa_cons pe_int (pa_cons (pe_call G__law_take (hr.mono (by decide)) (by rfl) T.g__law_take T.F__law_take.kp T.b__law_take .nil pass0 (pa_cons (pv 0) (pa_cons pe_int pa_nil))) pa_nil)))) pa_nil))))
    (pss_cons (ps_set (i := 2) sc__law_long_right.nd rfl (.inl rfl) (pe_op op_add pe_int (pe_call G__law_take (hr.mono (by decide)) (by rfl) T.g__law_take T.F__law_take.kp T.b__law_take .nil pass0 (pa_cons (pv 0) (pa_cons pe_int pa_nil)))))
    (pss_cons (ps_set (i := 3) sc__law_long_right.nd rfl (.inl rfl) (pe_tup (pa_cons (pe_tup (pa_cons pe_str (pa_cons (pe_tup (pa_cons pe_str (pa_cons (pv 2) (pa_cons (pe_ix ix_list (pv 1) (pe_call G__law_take (hr.mono (by decide)) (by rfl) T.g__law_take T.F__law_take.kp T.b__law_take .nil pass0 (pa_cons (pv 0) (pa_cons pe_int pa_nil))) (fun _ _ => rfl)) pa_nil)))) (pa_cons (pe_call G__law_take (hr.mono (by decide)) (by rfl) T.g__law_take T.F__law_take.kp T.b__law_take .nil pass0 (pa_cons (pv 0) (pa_cons pe_int pa_nil))) pa_nil)))) (pa_cons (pe_tup (pa_cons pe_str (pa_cons pe_int pa_nil))) (pa_cons (pe_tup (pa_cons pe_str (pa_cons pe_int (pa_cons pe_int pa_nil)))) pa_nil)))))
    (pss_cons (ps_set (i := 4) sc__law_long_right.nd rfl (.inl rfl) (pe_call G_settles (hr.mono (by decide)) (by rfl) T.g_settles T.F_settles.kp T.b_settles .nil pass0 (pa_cons (pv 3) pa_nil)))
    (pss_one (ps_ret (pe_and (pe_callB call_isi (by rfl) T.m_isinstance bt_isinstance (pa_cons (pv 4) (pa_cons (pe_bltn (v := .ty "tuple") (by rfl) T.m_tuple bt_tuple rfl) pa_nil))) (pe_one (pe_cmpR (op_eqD hr.units) (pv 4) (pe_tup (pa_cons pe_int (pa_cons (pe_op op_mul pe_int (pv 2)) pa_nil))) (nomark _)))))))))), ?_⟩
    have hsl : sizeLine = 16777216 := by decide
    refine ⟨.ref p, rfl, p, 32, n, rfl, hB, by decide, by decide, by omega, fun H1 r1 c1 B1 l1 u1 => ⟨_, _, rfl, rfl, .inl (by decide), _, _, rfl, rfl, ?_⟩⟩
    refine ⟨.ref p, rfl, p, 64, _, rfl, B1, by decide, by decide, by omega, fun H2 r2 c2 B2 l2 u2 => ⟨(show 4 ≤ sizeLine by decide), fun t1 nt1 => ?_⟩⟩
    obtain ⟨r1, rfl⟩ := nat_of l1
    obtain ⟨r2, rfl⟩ := nat_of l2
    have ht1 := upd_same (H := H2) (a := t1) (o := .tup [.str "counter", .int 64, .int (1 + 2 * (r1 : Int)), .int (r2 : Int)])
    have c3 : But p H (upd H2 t1 (.tup [.str "counter", .int 64, .int (1 + 2 * (r1 : Int)), .int (r2 : Int)])) := (c1.trans c2).new nt1
    have B3 := B2.new (o := .tup [.str "counter", .int 64, .int (1 + 2 * (r1 : Int)), .int (r2 : Int)]) nt1
    generalize upd H2 t1 (.tup [.str "counter", .int 64, .int (1 + 2 * (r1 : Int)), .int (r2 : Int)]) = G at ht1 c3 B3 ⊢
    refine ⟨.ref p, rfl, p, 64, _, rfl, B3, by decide, by decide, by omega, fun H3 r3 c4 B4 l3 u3 => ⟨(show 3 ≤ sizeLine by decide), fun t2 nt2 => ⟨(show 2 ≤ sizeLine by decide), fun I nI => ?_⟩⟩⟩
    obtain ⟨r3, rfl⟩ := nat_of l3
    have ht2 := upd_same (H := H3) (a := t2) (o := .tup [.str "turned", .int 6, .int (r3 : Int)])
    have nt1p := B3.ne_tup ht1
    have ht1' := (same_upd nt2 (o := .tup [.str "turned", .int 6, .int (r3 : Int)])) _ _ (c4 _ _ nt1p ht1)
    have c5 : But p H (upd H3 t2 (.tup [.str "turned", .int 6, .int (r3 : Int)])) := (c3.trans c4).new nt2
    have B5 := B4.new (o := .tup [.str "turned", .int 6, .int (r3 : Int)]) nt2
    generalize upd H3 t2 (.tup [.str "turned", .int 6, .int (r3 : Int)]) = G2 at ht2 ht1' c5 B5 nI ⊢
    have sI := same_upd nI (o := .lst [.ref t1, .ref t2])
    have hI := upd_same (H := G2) (a := I) (o := .lst [.ref t1, .ref t2])
    have m1 : MkAt (upd G2 I (.lst [.ref t1, .ref t2])) (.counter 64 (1 + 2 * r1) r2) (.ref t1) := ⟨t1, rfl, sI _ _ ht1'⟩
    have m2 : MkAt (upd G2 I (.lst [.ref t1, .ref t2])) (.turned 6 r3) (.ref t2) := ⟨t2, rfl, sI _ _ ht2⟩
    have c6 := c5.new nI (o := .lst [.ref t1, .ref t2])
    have B6 := B5.new nI (o := .lst [.ref t1, .ref t2])
    have Ip : I ≠ p := ne_new B5 nI
    generalize upd G2 I (.lst [.ref t1, .ref t2]) = G3 at hI m1 m2 c6 B6 ⊢
    clear sI c5 B5 ht1' ht2 c4 c3 B3 B4
    refine ⟨.ref p, rfl, p, 48, _, rfl, B6, by decide, by decide, by omega, fun H4 r4 c7 B7 l4 u4 => ⟨_, _, rfl, rfl, ?_⟩⟩
    obtain ⟨many, hmany⟩ : ∃ many : Nat, 17 + r4 = (many : Int) := ⟨(17 + r4).toNat, by omega⟩
    try dsimp only
    rw [hmany]
    refine ⟨_, rfl, _, rfl, .ref p, rfl, p, 2, _, rfl, B7, by decide, by decide, by omega, fun H5 r5 c8 B8 l5 u5 => ?_⟩
    obtain ⟨k4, rfl⟩ : ∃ k4 : Nat, many = k4 := ⟨_, rfl⟩
    obtain ⟨inn, x, ex, hm, r64, okI, vdI, dp0⟩ : ∃ (inn : Mk) (x : V), atI [V.ref t1, .ref t2] r5 = some x ∧ MkAt G3 inn x ∧ inn.rnd = 64 ∧ inn.Ok ∧ inn.inn.Vd ∧ inn.dep = 0 := by
      obtain ⟨r5, rfl⟩ := nat_of l5
      match r5, u5 with
      | 0, _ => exact ⟨.counter 64 (1 + 2 * r1) r2, .ref t1, atI_nat (j := 0) rfl, m1, by show ((List.range 64).map _).length = 64; rw [List.length_map, List.length_range], ⟨by decide, by decide, by omega, by omega⟩, ⟨by omega, by omega, odd64 r1 (by omega)⟩, rfl⟩
      | 1, _ => exact ⟨.turned 6 r3, .ref t2, atI_nat (j := 1) rfl, m2, by show ((List.range (2 ^ 6)).map _).length = 64; rw [List.length_map, List.length_range], ⟨by decide, by decide, by show r3 < 64; omega⟩, trivial, rfl⟩
      | n + 2, h => exact absurd h (by omega)
    have c78 := c7.trans c8
    refine ⟨I, _, _, _, rfl, rfl, SqL.mk (c78 _ _ Ip hI), ex, (show 3 ≤ sizeLine by decide), fun ts nts => ⟨.ref p, rfl, p, 65, _, rfl, B8.new nts, by decide, by decide, by omega, fun H6 r6 c9 B9 l6 u6 => ⟨(show 3 ≤ sizeLine by decide), fun tm ntm => ⟨(show 2 ≤ sizeLine by decide), fun tl ntl => ⟨(show 3 ≤ sizeLine by decide), fun tb ntb => ⟨(show 3 ≤ sizeLine by decide), fun tp ntp => ?_⟩⟩⟩⟩⟩⟩
    obtain ⟨r6, rfl⟩ := nat_of l6
    have hts : (upd H5 ts (.tup [.str "slow", .int (many : Int), x])) ts = some (.tup [.str "slow", .int (many : Int), x]) := upd_same
    have B8' := B8.new nts (o := .tup [.str "slow", .int (many : Int), x])
    have hts6 := c9 _ _ (B8'.ne_tup hts) hts
    have hm8 := ((hm.but B6 c78).same (same_upd nts (o := .tup [.str "slow", .int (many : Int), x]))).but B8' c9
    have big6 : But p H H6 := (c6.trans c78).trans (((But.refl p H5).new nts).trans c9)
    have stm := same_upd ntm (o := .tup [.str "make", .ref ts, .int (r6 : Int)])
    have htm := upd_same (H := H6) (a := tm) (o := .tup [.str "make", .ref ts, .int (r6 : Int)])
    have B10 := B9.new ntm (o := .tup [.str "make", .ref ts, .int (r6 : Int)])
    generalize upd H6 tm (.tup [.str "make", .ref ts, .int (r6 : Int)]) = Z1 at stm htm B10 ntl ntb ntp ⊢
    have stl := same_upd ntl (o := .tup [.str "less", .int 0])
    have htl := upd_same (H := Z1) (a := tl) (o := .tup [.str "less", .int 0])
    have B11 := B10.new ntl (o := .tup [.str "less", .int 0])
    generalize upd Z1 tl (.tup [.str "less", .int 0]) = Z2 at stl htl B11 ntb ntp ⊢
    have stb := same_upd ntb (o := .tup [.str "both", .int 0, .int 1])
    have htb := upd_same (H := Z2) (a := tb) (o := .tup [.str "both", .int 0, .int 1])
    have B12 := B11.new ntb (o := .tup [.str "both", .int 0, .int 1])
    generalize upd Z2 tb (.tup [.str "both", .int 0, .int 1]) = Z3 at stb htb B12 ntp ⊢
    have stp := same_upd ntp (o := .tup [.ref tm, .ref tl, .ref tb])
    have htp := upd_same (H := Z3) (a := tp) (o := .tup [.ref tm, .ref tl, .ref tb])
    have B13 := B12.new ntp (o := .tup [.ref tm, .ref tl, .ref tb])
    generalize upd Z3 tp (.tup [.ref tm, .ref tl, .ref tb]) = Z4 at stp htp B13 ⊢
    have s3 := stb.trans stp
    have s2 := stl.trans s3
    have s1 := stm.trans s2
    have m17 : 17 ≤ many := by omega
    have m64 : many ≤ 64 := by omega
    have er : (Mk.slow many inn).rnd = many * 64 := by show many * inn.rnd = _; rw [r64]
    have ok : PsOk 3 (longPs many inn r6) := fun i P e => by
      match i, e with
      | 0, e => cases e; exact ⟨⟨⟨by omega, m64, okI⟩, vdI, by show inn.dep + 1 ≤ 3; omega, by rw [er]; omega⟩, by omega⟩
      | 1, e => cases e; exact (show 0 < 1 by decide)
      | 2, e => cases e; exact ⟨by decide, by decide⟩
    have hps : PisAt Z4 (longPs many inn r6) [.ref tm, .ref tl, .ref tb] := .cons ⟨tm, .ref ts, rfl, s2 _ _ htm, ts, x, rfl, s1 _ _ hts6, hm8.same s1⟩ (.cons ⟨tl, rfl, s3 _ _ htl⟩ (.cons ⟨tb, rfl, stp _ _ htb⟩ .nil))
    have rep := long_rep ok r64 (by omega)
    have big : But p H Z4 := big6.trans (same_but s1)
    refine ⟨_, rfl, tp, _, longPs many inn r6, rfl, htp, hps, (show 3 ≤ 24 by decide), ok, fun H' tk n' s' sS rep' n8 htk => ?_, fun H' sS no => absurd rep.eq.symm (no 0 (64 * many) (by omega) (by omega))⟩
    obtain ⟨en, es⟩ := rep'.uniq rep
    subst es
    rw [en] at htk
    refine ⟨_, rfl, _, _, _, _, true, rfl, .ty "tuple", .base (.tup htk), kit_ty (by decide +kernel), true, rfl, ?_⟩
    rw [if_pos rfl]
    refine ⟨_, rfl, _, rfl, _, _, rfl, rfl, .inl (by decide), (show 2 ≤ sizeLine by decide), fun tu ntu => ?_⟩
    have stu := same_upd ntu (o := .tup [.int 0, .int (64 * (many : Int))])
    refine eqI2 (stu _ _ htk) upd_same rfl (by omega) (q _ ((big.trans (same_but sS)).trans (same_but stu)) (((B13.same sS).same stu).mono (by omega)))
def sp_law {K : PySem.W.Frag} {mg : Str → Option Value} (T : Defs K mg) : Sp := fun vs H Q _ => ∃ (a : Addr) (ns : List Int), vs = [.ref a] ∧ SqL K H a (ns.map V.int) ∧ ns.length ≤ 63 ∧ True ∧ ∀ H', Q (.bl true) H'
theorem ok_law (T : Defs K mg) : GOk P w K mg base CX0 17 T.f_law T.fd_law ["_law_script"] (sp_law T) := by
  have G__law_folded : FnOk P w K mg base CX0 1 T.f__law_folded T.fd__law_folded ["_law_script", "_law_many"] (sp__law_folded K) := ok__law_folded T
  have G__law_box : FnOk P w K mg base CX0 1 T.f__law_box T.fd__law_box ["_law_script", "_law_k"] (sp__law_box K) := ok__law_box T
  have G__law_machine : FnOk P w K mg base CX0 5 T.f__law_machine T.fd__law_machine ["_law_box_here", "_law_many", "_law_most", "_law_loops"] (sp__law_machine K) := ok__law_machine T
  have G__law_settled : GOk P w K mg base CX0 12 T.f__law_settled T.fd__law_settled ["_law_pieces", "_law_beats"] (sp__law_settled T) := ok__law_settled T
  have G__law_take : FnOk P w K mg base CX0 1 T.f__law_take T.fd__law_take ["_law_box_here", "_law_many"] (sp__law_take K) := ok__law_take T
  have G__law_long_right : FnOk P w K mg base CX0 16 T.f__law_long_right T.fd__law_long_right ["_law_box_here"] (sp__law_long_right T) := ok__law_long_right T
  have G_settles : FnOk P w K mg base CX0 15 T.f_settles T.fd_settles ["pieces"] (sp_settles T) := ok_settles T
  refine gok_of T.F_law sc_law (fun vs H Q E h => ?_) (fun cdv A outer s H vs Q E hg hr h => ?_)
  · obtain ⟨a, ns, rfl, hS, hlen, _, q⟩ := h
    rfl
  · obtain ⟨a, ns, rfl, hS, hlen, _, q⟩ := h
    refine ⟨_, PSs.nox (pss_cons (ps_set (i := 1) sc_law.nd rfl (.inl rfl) (pe_call G__law_folded (hr.mono (by decide)) (by rfl) T.g__law_folded T.F__law_folded.kp T.b__law_folded .nil pass0 (pa_cons (pv 0) (pa_cons pe_int pa_nil))))
    (pss_cons ((ps_for PassesOwn.never rfl (pi_range1 (by rfl) T.m_range (pa_cons (pe_callB (call_max2 rfl) (by rfl) T.m_max bt_max (pa_cons pe_int (pa_cons (pe_callB call_len_seq (by rfl) T.m_len bt_len (pa_cons (pv 1) pa_nil)) pa_nil))) pa_nil)) (pg_name (i := 2) sc_law.nd rfl (.inl rfl)) (pss_cons (ps_set (i := 3) sc_law.nd rfl (.inl rfl) (pe_call G__law_box (hr.mono (by decide)) (by rfl) T.g__law_box T.F__law_box.kp T.b__law_box .nil pass0 (pa_cons (pv 1) (pa_cons (pv 2) pa_nil))))
    (pss_cons (ps_if (PW.pt (pw_and (pt_cmpR op_eq (pe_call G__law_take (hr.mono (by decide)) (by rfl) T.g__law_take T.F__law_take.kp T.b__law_take .nil pass0 (pa_cons (pv 3) (pa_cons pe_int pa_nil))) pe_int (nomark _)) (pw_and1 (pt_not (pt_val (pe_call G__law_long_right (hr.mono (by decide)) (by rfl) T.g__law_long_right T.F__law_long_right.kp T.b__law_long_right .nil pass0 (pa_cons (pv 3) pa_nil))))))) (pss_one (ps_ret pe_bl)) pss_nil)
    (pss_one ((ps_for PassesOwn.never rfl (pi_range1 (by rfl) T.m_range (pa_cons pe_int pa_nil)) (pg_name (i := 4) sc_law.nd rfl (.inl rfl)) (pss_cons (ps_set (i := 5) sc_law.nd rfl (.inl rfl) (pe_ix ix_list (pe_lst (pa_cons pe_int (pa_cons pe_int pa_nil))) (pe_callTy call_int1 (by rfl) T.m_int bt_int (pa_cons (pe_cmpR op_eq (pe_call G__law_take (hr.mono (by decide)) (by rfl) T.g__law_take T.F__law_take.kp T.b__law_take .nil pass0 (pa_cons (pv 3) (pa_cons pe_int pa_nil))) pe_int (nomark _)) pa_nil)) (fun _ _ => rfl)))
    (pss_cons (ps_set (i := 6) sc_law.nd rfl (.inl rfl) (pe_ifExp (pt_cmpR op_eq (pv 5) pe_int (nomark _)) (pe_ix ix_list (pe_lst (pa_cons pe_int (pa_cons pe_int pa_nil))) (pe_callTy call_int1 (by rfl) T.m_int bt_int (pa_cons (pe_cmpR op_gt (pe_call G__law_take (hr.mono (by decide)) (by rfl) T.g__law_take T.F__law_take.kp T.b__law_take .nil pass0 (pa_cons (pv 3) (pa_cons pe_int pa_nil))) pe_int (nomark _)) pa_nil)) (fun _ _ => rfl)) pe_int))
    (pss_cons (ps_set (i := 7) sc_law.nd rfl (.inl rfl) (pe_call G__law_machine (hr.mono (by decide)) (by rfl) T.g__law_machine T.F__law_machine.kp T.b__law_machine .nil pass0 (pa_cons (pv 3) (pa_cons (pe_op op_add pe_int (pe_call G__law_take (hr.mono (by decide)) (by rfl) T.g__law_take T.F__law_take.kp T.b__law_take .nil pass0 (pa_cons (pv 3) (pa_cons (pv 6) pa_nil)))) (pa_cons pe_int (pa_cons pe_bl pa_nil))))))
    (pss_cons (ps_set (i := 8) sc_law.nd rfl (.inl rfl) (pe_callG hg G__law_settled (hr.mono (by decide)) (by rfl) T.g__law_settled T.F__law_settled.kp T.b__law_settled .nil pass0 (pa_cons (pv 7) (pa_cons (pv 5) pa_nil))))
    (pss_one ((ps_for PassesOwn.never rfl (pi_range1 (by rfl) T.m_range (pa_cons pe_int pa_nil)) (pg_name (i := 9) sc_law.nd rfl (.inl rfl)) (pss_cons (ps_set (i := 10) sc_law.nd rfl (.inl rfl) (pe_call G_settles (hr.mono (by decide)) (by rfl) T.g_settles T.F_settles.kp T.b_settles .nil pass0 (pa_cons (pv 7) pa_nil)))
    (pss_cons (ps_if (PW.pt (pw_and (pt_cmpR op_notN (pv 8) pe_non (nomark _)) (pw_and1 (PW.pt (pw_or (pt_not (pt_val (pe_callB call_isi (by rfl) T.m_isinstance bt_isinstance (pa_cons (pv 10) (pa_cons (pe_bltn (v := .ty "tuple") (by rfl) T.m_tuple bt_tuple rfl) pa_nil))))) (pw_or1 (pt_cmpR (op_neD hr.units) (pv 10) (pv 8) (nomark _)))))))) (pss_one (ps_ret pe_bl)) pss_nil)
    (pss_one (ps_if (PW.pt (pw_and (pt_cmpR op_isN (pv 8) pe_non (nomark _)) (pw_and (pt_cmpR op_notN (pv 10) pe_non (nomark _)) (pw_and1 (pt_cmpR op_lt (pe_callB (cr_sumT rfl) (by rfl) T.m_sum bt_sum (pa_cons (pv 10) pa_nil)) (pv 5) (nomark _)))))) (pss_one (ps_ret pe_bl)) pss_nil))))))))))))))))))
    (pss_one (ps_ret pe_bl)))), ?_⟩
    have hsl : sizeLine = 16777216 := by decide
    refine ⟨.ref a, rfl, a, ns, 3, rfl, hS, hlen, by decide, by decide, fun H1 c cs s1 nc hc lc => ?_⟩
    have hn : (if (((cs.map V.int).length : Nat) : Int) > 2 then (((cs.map V.int).length : Nat) : Int) else 2) ≤ 3 ∧ 0 ≤ (if (((cs.map V.int).length : Nat) : Int) > 2 then (((cs.map V.int).length : Nat) : Int) else 2) := by
      rw [List.length_map]
      split <;> omega
    refine ⟨.ref c, rfl, c, _, rfl, .inl (SqL.mk hc), _, _, rfl, _, rfl, by omega, by omega, for_range (fun i σ H2 => ∃ y2 y3 y4 y5 y6 y7 y8 y9 y10, σ = [some (.ref a), some (.ref c), y2, y3, y4, y5, y6, y7, y8, y9, y10] ∧ Sam H1 H2) ⟨none, none, none, none, none, none, none, none, none, rfl, Sam.refl H1⟩ ?_ ?_⟩
    rotate_left
    · rintro σ H2 ⟨y2, y3, y4, y5, y6, y7, y8, y9, y10, rfl, s2⟩
      exact q _
    rintro i σ H2 hi ⟨y2, y3, y4, y5, y6, y7, y8, y9, y10, rfl, s2⟩
    have hi2 : i < 1000 := by omega
    refine ⟨.ref c, rfl, .int (0 + (i : Int)), rfl, c, cs, i, by rw [Int.zero_add]; rfl, SqL.mk (s2.lst hc), hi2, fun H3 b s3 nb hB => ?_⟩
    have nb1 : H1 b = none := s2.free nb
    have s13 := s2.trans (Sam.of s3)
    refine nx_via (σ := [some (.ref a), some (.ref c), some (.int (0 + (i : Int))), some (.ref b), y4, y5, y6, y7, y8, y9, y10]) (fun σ Z => σ = [some (.ref a), some (.ref c), some (.int (0 + (i : Int))), some (.ref b), y4, y5, y6, y7, y8, y9, y10] ∧ But b H3 Z ∧ Bx Z b 100) (fun NN key => ?_) ?_
    · refine ⟨.ref b, rfl, b, 16, 0, rfl, hB, by decide, by decide, by decide, fun F1 r1 c1 B1 l1 u1 => ?_⟩
      refine ⟨rfl, _, rfl, ite2 (fun _ => ?_) (fun _ => iteF (key _ _ ⟨rfl, c1, B1.mono (by decide)⟩))⟩
      refine ⟨.ref b, rfl, b, _, rfl, B1, by decide, fun F2 c2 B2 => ⟨true, rfl, iteF (key _ _ ⟨rfl, c1.trans c2, B2.mono (by decide)⟩)⟩⟩
    rintro σ Z0 ⟨rfl, bZ0, BZ0⟩
    refine ⟨2, rfl, by decide, by decide, for_range (n := 2) (fun j σ G => ∃ y4 y5 y6 y7 y8 y9 y10, σ = [some (.ref a), some (.ref c), some (.int (0 + (i : Int))), some (.ref b), y4, y5, y6, y7, y8, y9, y10] ∧ But b H3 G ∧ Bx G b (100 + 40000 * j)) ⟨_, _, _, _, _, _, _, rfl, bZ0, BZ0⟩ ?_ ?_⟩
    rotate_left
    · rintro σ G ⟨y4, y5, y6, y7, y8, y9, y10, rfl, bG, BG⟩
      exact ⟨_, _, _, _, _, _, _, _, _, rfl, bus_same nb1 s13 (.of bG)⟩
    rintro j σ G hj ⟨y4, y5, y6, y7, y8, y9, y10, rfl, bG, BG⟩
    refine ⟨(show 2 ≤ sizeLine by decide), fun L nL => ⟨.ref b, rfl, b, 8, _, rfl, BG.new nL, by decide, by decide, by omega, fun F1 r1 c1 B1 l1 u1 => ⟨rfl, .inr ⟨_, rfl, ?_⟩⟩⟩⟩
    obtain ⟨bt, hb, ev⟩ : ∃ bt : Nat, (bt = 700 ∨ bt = 3000) ∧ atI ([700, 3000].map V.int) (if decide (V.int r1 = V.int 0) = true then (1 : Int) else 0) = some (.int (bt : Nat)) := by
      cases decide (V.int r1 = V.int 0) with
      | true => exact ⟨3000, .inr rfl, atI_nat (j := 1) rfl⟩
      | false => exact ⟨700, .inl rfl, atI_nat (j := 0) rfl⟩
    refine ⟨L, _, _, _, rfl, rfl, SqL.mk (c1 _ _ (ne_new BG nL) upd_same), ev, ?_⟩
    have bF1 : But b H3 F1 := bG.trans (((But.refl b G).new nL).trans c1)
    clear c1 nL ev
    refine nx_via (σ := [some (.ref a), some (.ref c), some (.int (0 + (i : Int))), some (.ref b), some (.int (0 + (j : Int))), some (.int (bt : Nat)), y6, y7, y8, y9, y10]) (fun σ Z => ∃ mo : Nat, 1 ≤ mo ∧ mo ≤ 12 ∧ σ = [some (.ref a), some (.ref c), some (.int (0 + (i : Int))), some (.ref b), some (.int (0 + (j : Int))), some (.int (bt : Nat)), some (.int (mo : Nat)), y7, y8, y9, y10] ∧ But b H3 Z ∧ Bx Z b (110 + 40000 * j)) (fun NN key => ?_) ?_
    · refine ⟨_, rfl, rfl, _, rfl, ite2 (fun _ => ?_) (fun _ => key _ _ ⟨4, by decide, by decide, rfl, bF1, B1.mono (by omega)⟩)⟩
      refine ⟨(show 2 ≤ sizeLine by decide), fun L nL => ⟨.ref b, rfl, b, 8, _, rfl, B1.new nL, by decide, by decide, by omega, fun F2 r2 c2 B2 l2 u2 => ⟨_, _, rfl, rfl, .inr ⟨_, rfl, ?_⟩⟩⟩⟩
      obtain ⟨mo, hm1, hm2, ev⟩ : ∃ mo : Nat, 1 ≤ mo ∧ mo ≤ 12 ∧ atI ([12, 7].map V.int) (if decide ((0 : Int) < r2) = true then (1 : Int) else 0) = some (.int (mo : Nat)) := by
        cases decide ((0 : Int) < r2) with
        | true => exact ⟨7, by decide, by decide, atI_nat (j := 1) rfl⟩
        | false => exact ⟨12, by decide, by decide, atI_nat (j := 0) rfl⟩
      exact ⟨L, _, _, _, rfl, rfl, SqL.mk (c2 _ _ (ne_new B1 nL) upd_same), ev, key _ _ ⟨mo, hm1, hm2, rfl, bF1.trans (((But.refl b F1).new nL).trans c2), B2.mono (by omega)⟩⟩
    rintro σ F ⟨mo, mo1, mo2, rfl, bF, BF⟩
    refine ⟨.ref b, rfl, .ref b, rfl, _, rfl, b, _, _, rfl, BF, by omega, by omega, by omega, fun F2 r2 c2 B2 l2 u2 => ⟨_, _, rfl, rfl, ?_⟩⟩
    obtain ⟨n, hn'⟩ : ∃ n : Nat, 1 + r2 = (n : Int) := ⟨(1 + r2).toNat, by omega⟩
    try dsimp only
    rw [hn']
    refine ⟨b, _, n, 6, true, rfl, B2, by omega, by omega, by omega, by decide, by decide, fun Z t xs Ps cZ BZ ht hps lps ok => ?_⟩
    have bZ := bF.trans (c2.trans cZ)
    rw [← lps] at ok
    have n24 : Ps.length ≤ 24 := by omega
    have bt5 : bt ≤ 3000 := by omega
    refine ⟨_, rfl, _, rfl, t, xs, Ps, bt, rfl, ht, hps, n24, ok, by omega, fun Z1 tk n' s s1' rep nb' htk => ?_, fun Z1 s1' no => ?_⟩
    · refine ⟨2, rfl, by decide, by decide, for_range (n := 2) (fun u σ G => ∃ y9 y10, σ = [some (.ref a), some (.ref c), some (.int (0 + (i : Int))), some (.ref b), some (.int (0 + (j : Int))), some (.int (bt : Nat)), some (.int (mo : Nat)), some (.ref t), some (.ref tk), y9, y10] ∧ Same Z1 G) ⟨_, _, rfl, Same.refl Z1⟩ ?_ ?_⟩
      rotate_left
      · rintro σ G ⟨y9, y10, rfl, sG⟩
        exact ⟨_, _, _, _, _, _, _, rfl, bZ.trans (same_but (s1'.trans sG)), (BZ.same (s1'.trans sG)).mono (by omega)⟩
      rintro u σ G hu ⟨y9, y10, rfl, sG⟩
      have sZG := s1'.trans sG
      refine ⟨_, rfl, t, xs, Ps, rfl, sZG _ _ ht, hps.same sZG, n24, ok, fun G1 tk2 n2 s2' sG1 rep2 n8 htk2 => ?_, fun G1 sG1 no => absurd rep.eq.symm (no s n' rep.lt (by omega))⟩
      obtain ⟨rfl, rfl⟩ := rep.uniq rep2
      have htk1 := sG1 _ _ (sG _ _ htk)
      refine ⟨_, rfl, rfl, _, rfl, iteT ?_⟩
      refine ⟨_, rfl, _, _, _, _, true, rfl, .ty "tuple", .base (.tup htk2), kit_ty (by decide +kernel), true, rfl, iteF ⟨_, rfl, _, rfl, neI2 htk2 htk1 rfl rfl ⟨false, rfl, iteF ?_⟩⟩⟩
      exact ⟨_, rfl, rfl, _, rfl, iteF (iteF ⟨_, _, rfl, sG.trans sG1⟩)⟩
    · refine ⟨2, rfl, by decide, by decide, for_range (n := 2) (fun u σ G => ∃ y9 y10, σ = [some (.ref a), some (.ref c), some (.int (0 + (i : Int))), some (.ref b), some (.int (0 + (j : Int))), some (.int (bt : Nat)), some (.int (mo : Nat)), some (.ref t), some .non, y9, y10] ∧ Same Z1 G) ⟨_, _, rfl, Same.refl Z1⟩ ?_ ?_⟩
      rotate_left
      · rintro σ G ⟨y9, y10, rfl, sG⟩
        exact ⟨_, _, _, _, _, _, _, rfl, bZ.trans (same_but (s1'.trans sG)), (BZ.same (s1'.trans sG)).mono (by omega)⟩
      rintro u σ G hu ⟨y9, y10, rfl, sG⟩
      have sZG := s1'.trans sG
      refine ⟨_, rfl, t, xs, Ps, rfl, sZG _ _ ht, hps.same sZG, n24, ok, fun G1 tk2 n2 s2' sG1 rep2 n8 htk2 => ?_, fun G1 sG1 no' => ?_⟩
      · have nb2 : bt ≤ n2 := by
          rcases Nat.lt_or_ge n2 bt with z | z
          · exact absurd rep2.eq.symm (no s2' n2 rep2.lt z)
          · exact z
        refine ⟨_, rfl, rfl, _, rfl, iteF (iteF ⟨_, rfl, rfl, _, rfl, iteT ⟨_, rfl, rfl, _, rfl, iteT ⟨_, rfl, tk2, [((s2' : Nat) : Int), (n2 : Int) - (s2' : Nat)], rfl, SqT.mk htk2, _, rfl, _, _, rfl, rfl, _, rfl, ?_⟩⟩⟩)⟩
        refine ite2 (fun e => absurd (of_decide_eq_true e) ?_) (fun _ => ⟨_, _, rfl, sG.trans sG1⟩)
        have es : ([((s2' : Nat) : Int), (n2 : Int) - (s2' : Nat)] : List Int).sum = n2 := by
          simp only [List.sum_cons, List.sum_nil]
          omega
        trace_state
        rw [es]
        omega
      · exact ⟨_, rfl, rfl, _, rfl, iteF (iteF ⟨_, rfl, rfl, _, rfl, iteT ⟨_, rfl, rfl, _, rfl, iteF (iteF ⟨_, _, rfl, sG.trans sG1⟩)⟩⟩)⟩
end
def d__wall : He.DefD := ⟨("_wall", none), "_wall", "_wall", defArgs s__wall, defBody s__wall, defScope s__wall, [], []⟩
def d_common_divisor : He.DefD := ⟨("common_divisor", none), "common_divisor", "common_divisor", defArgs s_common_divisor, defBody s_common_divisor, defScope s_common_divisor, [], []⟩
def d_counter_round : He.DefD := ⟨("counter_round", none), "counter_round", "counter_round", defArgs s_counter_round, defBody s_counter_round, defScope s_counter_round, [], []⟩
def d_last_for_first : He.DefD := ⟨("last_for_first", none), "last_for_first", "last_for_first", defArgs s_last_for_first, defBody s_last_for_first, defScope s_last_for_first, [], []⟩
def d_size_of : He.DefD := ⟨("size_of", none), "size_of", "size_of", defArgs s_size_of, defBody s_size_of, defScope s_size_of, [], []⟩
def d_turned_round : He.DefD := ⟨("turned_round", none), "turned_round", "turned_round", defArgs s_turned_round, defBody s_turned_round, defScope s_turned_round, [], []⟩
def d_odd_ones : He.DefD := ⟨("odd_ones", none), "odd_ones", "odd_ones", defArgs s_odd_ones, defBody s_odd_ones, defScope s_odd_ones, [], []⟩
def d_held_round : He.DefD := ⟨("held_round", none), "held_round", "held_round", defArgs s_held_round, defBody s_held_round, defScope s_held_round, [], []⟩
def d_plain_round : He.DefD := ⟨("plain_round", none), "plain_round", "plain_round", defArgs s_plain_round, defBody s_plain_round, defScope s_plain_round, [], []⟩
def d_round_of : He.DefD := ⟨("round_of", none), "round_of", "round_of", defArgs s_round_of, defBody s_round_of, defScope s_round_of, [], []⟩
def d_innermost : He.DefD := ⟨("innermost", none), "innermost", "innermost", defArgs s_innermost, defBody s_innermost, defScope s_innermost, [], []⟩
def d_inner_beat : He.DefD := ⟨("inner_beat", none), "inner_beat", "inner_beat", defArgs s_inner_beat, defBody s_inner_beat, defScope s_inner_beat, [], []⟩
def d_values_at : He.DefD := ⟨("values_at", none), "values_at", "values_at", defArgs s_values_at, defBody s_values_at, defScope s_values_at, [], []⟩
def d_values_of : He.DefD := ⟨("values_of", none), "values_of", "values_of", defArgs s_values_of, defBody s_values_of, defScope s_values_of, [], []⟩
def d_moved : He.DefD := ⟨("moved", none), "moved", "moved", defArgs s_moved, defBody s_moved, defScope s_moved, [], []⟩
def d_asks_of : He.DefD := ⟨("asks_of", none), "asks_of", "asks_of", defArgs s_asks_of, defBody s_asks_of, defScope s_asks_of, [], []⟩
def d_round_numbers : He.DefD := ⟨("round_numbers", none), "round_numbers", "round_numbers", defArgs s_round_numbers, defBody s_round_numbers, defScope s_round_numbers, [], []⟩
def d_numbers_of : He.DefD := ⟨("numbers_of", none), "numbers_of", "numbers_of", defArgs s_numbers_of, defBody s_numbers_of, defScope s_numbers_of, [], []⟩
def d_common_length : He.DefD := ⟨("common_length", none), "common_length", "common_length", defArgs s_common_length, defBody s_common_length, defScope s_common_length, [], []⟩
def d_held_first : He.DefD := ⟨("held_first", none), "held_first", "held_first", defArgs s_held_first, defBody s_held_first, defScope s_held_first, [], []⟩
def d_bits_asked : He.DefD := ⟨("bits_asked", none), "bits_asked", "bits_asked", defArgs s_bits_asked, defBody s_bits_asked, defScope s_bits_asked, [], []⟩
def d_bit_of : He.DefD := ⟨("bit_of", none), "bit_of", "bit_of", defArgs s_bit_of, defBody s_bit_of, defScope s_bit_of, [], []⟩
def d_held_behind : He.DefD := ⟨("held_behind", none), "held_behind", "held_behind", defArgs s_held_behind, defBody s_held_behind, defScope s_held_behind, [], []⟩
def d_Machine___init__ : He.DefD := ⟨("Machine", some "__init__"), "__init__", "Machine.__init__", defArgs s_Machine___init__, defBody s_Machine___init__, defScope s_Machine___init__, [], []⟩
def d_Machine_beat : He.DefD := ⟨("Machine", some "beat"), "beat", "Machine.beat", defArgs s_Machine_beat, defBody s_Machine_beat, defScope s_Machine_beat, [], []⟩
def d_Machine_beats_now : He.DefD := ⟨("Machine", some "beats_now"), "beats_now", "Machine.beats_now", defArgs s_Machine_beats_now, defBody s_Machine_beats_now, defScope s_Machine_beats_now, [], []⟩
def d_Machine_ones_now : He.DefD := ⟨("Machine", some "ones_now"), "ones_now", "Machine.ones_now", defArgs s_Machine_ones_now, defBody s_Machine_ones_now, defScope s_Machine_ones_now, [], []⟩
def d_Machine_held_now : He.DefD := ⟨("Machine", some "held_now"), "held_now", "Machine.held_now", defArgs s_Machine_held_now, defBody s_Machine_held_now, defScope s_Machine_held_now, [], []⟩
def d_run_to_settle : He.DefD := ⟨("run_to_settle", none), "run_to_settle", "run_to_settle", defArgs s_run_to_settle, defBody s_run_to_settle, defScope s_run_to_settle, [], []⟩
def d_settles : He.DefD := ⟨("settles", none), "settles", "settles", defArgs s_settles, defBody s_settles, defScope s_settles, [], []⟩
def d__law_box : He.DefD := ⟨("_law_box", none), "_law_box", "_law_box", defArgs s__law_box, defBody s__law_box, defScope s__law_box, [], []⟩
def d__law_take : He.DefD := ⟨("_law_take", none), "_law_take", "_law_take", defArgs s__law_take, defBody s__law_take, defScope s__law_take, [], []⟩
def d__law_folded : He.DefD := ⟨("_law_folded", none), "_law_folded", "_law_folded", defArgs s__law_folded, defBody s__law_folded, defScope s__law_folded, [], []⟩
def d__law_alone : He.DefD := ⟨("_law_alone", none), "_law_alone", "_law_alone", defArgs s__law_alone, defBody s__law_alone, defScope s__law_alone, [], []⟩
def d__law_maker : He.DefD := ⟨("_law_maker", none), "_law_maker", "_law_maker", defArgs s__law_maker, defBody s__law_maker, defScope s__law_maker, [], []⟩
def d__law_machine : He.DefD := ⟨("_law_machine", none), "_law_machine", "_law_machine", defArgs s__law_machine, defBody s__law_machine, defScope s__law_machine, [], []⟩
def d__law_bits : He.DefD := ⟨("_law_bits", none), "_law_bits", "_law_bits", defArgs s__law_bits, defBody s__law_bits, defScope s__law_bits, [], []⟩
def d__law_bit : He.DefD := ⟨("_law_bit", none), "_law_bit", "_law_bit", defArgs s__law_bit, defBody s__law_bit, defScope s__law_bit, [], []⟩
def d__law_holds : He.DefD := ⟨("_law_holds", none), "_law_holds", "_law_holds", defArgs s__law_holds, defBody s__law_holds, defScope s__law_holds, [], []⟩
def d__law_late : He.DefD := ⟨("_law_late", none), "_law_late", "_law_late", defArgs s__law_late, defBody s__law_late, defScope s__law_late, [], []⟩
def d__law_settled : He.DefD := ⟨("_law_settled", none), "_law_settled", "_law_settled", defArgs s__law_settled, defBody s__law_settled, defScope s__law_settled, [], []⟩
def d__law_long_right : He.DefD := ⟨("_law_long_right", none), "_law_long_right", "_law_long_right", defArgs s__law_long_right, defBody s__law_long_right, defScope s__law_long_right, [], []⟩
def d_law : He.DefD := ⟨("law", none), "law", "law", defArgs s_law, defBody s_law, defScope s_law, [], []⟩
def hfn : List He.DefD := [d__wall, d_common_divisor, d_counter_round, d_last_for_first, d_size_of, d_turned_round, d_odd_ones, d_held_round, d_plain_round, d_round_of, d_innermost, d_inner_beat, d_values_at, d_values_of, d_moved, d_asks_of, d_round_numbers, d_numbers_of, d_common_length, d_held_first, d_bits_asked, d_bit_of, d_held_behind, d_Machine___init__, d_Machine_beat, d_Machine_beats_now, d_Machine_ones_now, d_Machine_held_now, d_run_to_settle, d_settles, d__law_box, d__law_take, d__law_folded, d__law_alone, d__law_maker, d__law_machine, d__law_bits, d__law_bit, d__law_holds, d__law_late, d__law_settled, d__law_long_right, d_law]
def hfa : List He.Fa := [.glo "_wall", .glo "common_divisor", .glo "counter_round", .glo "last_for_first", .glo "size_of", .glo "turned_round", .glo "odd_ones", .glo "held_round", .glo "plain_round", .glo "round_of", .glo "innermost", .glo "inner_beat", .glo "values_at", .glo "values_of", .glo "moved", .glo "asks_of", .glo "round_numbers", .glo "numbers_of", .glo "common_length", .glo "held_first", .glo "bits_asked", .glo "bit_of", .glo "held_behind", .keep "Machine", .keep "Machine", .keep "Machine", .keep "Machine", .keep "Machine", .glo "run_to_settle", .glo "settles", .glo "_law_box", .glo "_law_take", .glo "_law_folded", .glo "_law_alone", .glo "_law_maker", .glo "_law_machine", .glo "_law_bits", .glo "_law_bit", .glo "_law_holds", .glo "_law_late", .glo "_law_settled", .glo "_law_long_right", .glo "law", .free "abs", .free "divmod", .free "enumerate", .free "int", .free "isinstance", .free "len", .free "list", .free "max", .free "min", .free "range", .free "str", .free "sum", .free "tuple", .glo "ASKED", .glo "Machine", .cls "Machine", .mkr "Machine", .noat "Machine" "asks", .noat "Machine" "beats", .noat "Machine" "common", .noat "Machine" "counts", .noat "Machine" "held", .noat "Machine" "holding", .noat "Machine" "numbers", .noat "Machine" "pieces", .meth "Machine" "beat", .meth "Machine" "beats_now", .meth "Machine" "ones_now", .meth "Machine" "held_now", .int "MOST_SETTLING" 8192]
def hts : List He.Tab := [((fun K => He.ga K "ASKED"), ["make", "less", "both", "either", "oneof", "pick", "keep", "late", "keeper"])]
def htf : List He.Defn := []
abbrev Hex (K : PySem.W.Frag) : Prop := (dicB K (He.ga K "ASKED") dl_ASKED = true)
instance (K : PySem.W.Frag) : Decidable (Hex K) := inferInstance
def hex : PySem.W.Frag → Bool := fun K => decide (Hex K)
abbrev R : PySem.W.OpenRow := PySem.W.OpenLaw.row PySem.Challenge.rw_shareones_k50_from_when_it_goes_round
abbrev hk : PySem.W.Hook := He.hookX 4 hfa hfn hts htf hex
def ob (s : PySem.W.SharedT) : He.AlX := He.obsX 4 hfa hfn hts htf hex (HandSHeadRun.getT s)
theorem ob_eq (s : PySem.W.SharedT) : ob s = hk.obs s.abs := He.obsX_eq (HandSHeadRun.getT_eq s)
def loose : List Str := "_wall" :: "common_divisor" :: "counter_round" :: "last_for_first" :: "size_of" :: "turned_round" :: "odd_ones" :: "held_round" :: "plain_round" :: "round_of" :: "innermost" :: "inner_beat" :: "values_at" :: "values_of" :: "moved" :: "asks_of" :: "round_numbers" :: "numbers_of" :: "common_length" :: "held_first" :: "bits_asked" :: "bit_of" :: "held_behind" :: "run_to_settle" :: "settles" :: "_law_box" :: "_law_take" :: "_law_folded" :: "_law_alone" :: "_law_maker" :: "_law_machine" :: "_law_bits" :: "_law_bit" :: "_law_holds" :: "_law_late" :: "_law_settled" :: "_law_long_right" :: "Machine" :: "ASKED" :: "MOST_SETTLING" :: []
theorem runF (w : World) : HandSHeadRun.RunEq R (PySem.W.view R.prog [45]) hk ob 6000 loose (w.withFollow "special-get-raises" false) := by
  intro os
  kernel_rfl
theorem runT (w : World) : HandSHeadRun.RunEq R (PySem.W.view R.prog [45]) hk ob 6000 loose (w.withFollow "special-get-raises" true) := by
  intro os
  kernel_rfl
theorem run (w : World) : HandSHeadRun.RunEq R (PySem.W.view R.prog [45]) hk ob 6000 loose w := PySem.W.byRow2 "special-get-raises" (P := fun w => HandSHeadRun.RunEq R (PySem.W.view R.prog [45]) hk ob 6000 loose w) runF runT w
theorem facts {l : PySem.W.OpenLaw} {w : World} {K : PySem.W.Frag} {h : Heap} {mg : Str → Option Value} {f : Addr} (X : K.In h) (G : h.Ns mainGlobals mg) (hfa_ : mg ("law" : Str) = some (.ref f)) (cc : He.SaysX hfa hfn hts htf hex w h K) :
    ∃ (fd : FuncData) (sp : Sp), (∀ (s : Shared) (u : Value), BindsTo s fd ⟨[u], []⟩ [("_law_script", u)]) ∧ (∀ (H : Hp) (a : Addr) (ns : List Int), ns.length ≤ 63 → Only H → SqL K H a (ns.map V.int) → sp [.ref a] H (fun v _ => v = .bl true) fun _ _ _ => False) ∧ ∀ base : Heap, K.In base → base.Ns mainGlobals mg → GOk l.prog w K mg base CX0 17 f fd ["_law_script"] sp := by
  have c : He.SaysD hfa hfn K := congrArg (fun z : He.AlT => z.1) cc.t
  obtain ⟨fd__wall, F__wall⟩ := c.def_ 0 (d := d__wall) rfl
  obtain ⟨fd_common_divisor, F_common_divisor⟩ := c.def_ 1 (d := d_common_divisor) rfl
  obtain ⟨fd_counter_round, F_counter_round⟩ := c.def_ 2 (d := d_counter_round) rfl
  obtain ⟨fd_last_for_first, F_last_for_first⟩ := c.def_ 3 (d := d_last_for_first) rfl
  obtain ⟨fd_size_of, F_size_of⟩ := c.def_ 4 (d := d_size_of) rfl
  obtain ⟨fd_turned_round, F_turned_round⟩ := c.def_ 5 (d := d_turned_round) rfl
  obtain ⟨fd_odd_ones, F_odd_ones⟩ := c.def_ 6 (d := d_odd_ones) rfl
  obtain ⟨fd_held_round, F_held_round⟩ := c.def_ 7 (d := d_held_round) rfl
  obtain ⟨fd_plain_round, F_plain_round⟩ := c.def_ 8 (d := d_plain_round) rfl
  obtain ⟨fd_round_of, F_round_of⟩ := c.def_ 9 (d := d_round_of) rfl
  obtain ⟨fd_innermost, F_innermost⟩ := c.def_ 10 (d := d_innermost) rfl
  obtain ⟨fd_inner_beat, F_inner_beat⟩ := c.def_ 11 (d := d_inner_beat) rfl
  obtain ⟨fd_values_at, F_values_at⟩ := c.def_ 12 (d := d_values_at) rfl
  obtain ⟨fd_values_of, F_values_of⟩ := c.def_ 13 (d := d_values_of) rfl
  obtain ⟨fd_moved, F_moved⟩ := c.def_ 14 (d := d_moved) rfl
  obtain ⟨fd_asks_of, F_asks_of⟩ := c.def_ 15 (d := d_asks_of) rfl
  obtain ⟨fd_round_numbers, F_round_numbers⟩ := c.def_ 16 (d := d_round_numbers) rfl
  obtain ⟨fd_numbers_of, F_numbers_of⟩ := c.def_ 17 (d := d_numbers_of) rfl
  obtain ⟨fd_common_length, F_common_length⟩ := c.def_ 18 (d := d_common_length) rfl
  obtain ⟨fd_held_first, F_held_first⟩ := c.def_ 19 (d := d_held_first) rfl
  obtain ⟨fd_bits_asked, F_bits_asked⟩ := c.def_ 20 (d := d_bits_asked) rfl
  obtain ⟨fd_bit_of, F_bit_of⟩ := c.def_ 21 (d := d_bit_of) rfl
  obtain ⟨fd_held_behind, F_held_behind⟩ := c.def_ 22 (d := d_held_behind) rfl
  obtain ⟨fd_Machine___init__, F_Machine___init__⟩ := c.def_ 23 (d := d_Machine___init__) rfl
  obtain ⟨fd_Machine_beat, F_Machine_beat⟩ := c.def_ 24 (d := d_Machine_beat) rfl
  obtain ⟨fd_Machine_beats_now, F_Machine_beats_now⟩ := c.def_ 25 (d := d_Machine_beats_now) rfl
  obtain ⟨fd_Machine_ones_now, F_Machine_ones_now⟩ := c.def_ 26 (d := d_Machine_ones_now) rfl
  obtain ⟨fd_Machine_held_now, F_Machine_held_now⟩ := c.def_ 27 (d := d_Machine_held_now) rfl
  obtain ⟨fd_run_to_settle, F_run_to_settle⟩ := c.def_ 28 (d := d_run_to_settle) rfl
  obtain ⟨fd_settles, F_settles⟩ := c.def_ 29 (d := d_settles) rfl
  obtain ⟨fd__law_box, F__law_box⟩ := c.def_ 30 (d := d__law_box) rfl
  obtain ⟨fd__law_take, F__law_take⟩ := c.def_ 31 (d := d__law_take) rfl
  obtain ⟨fd__law_folded, F__law_folded⟩ := c.def_ 32 (d := d__law_folded) rfl
  obtain ⟨fd__law_alone, F__law_alone⟩ := c.def_ 33 (d := d__law_alone) rfl
  obtain ⟨fd__law_maker, F__law_maker⟩ := c.def_ 34 (d := d__law_maker) rfl
  obtain ⟨fd__law_machine, F__law_machine⟩ := c.def_ 35 (d := d__law_machine) rfl
  obtain ⟨fd__law_bits, F__law_bits⟩ := c.def_ 36 (d := d__law_bits) rfl
  obtain ⟨fd__law_bit, F__law_bit⟩ := c.def_ 37 (d := d__law_bit) rfl
  obtain ⟨fd__law_holds, F__law_holds⟩ := c.def_ 38 (d := d__law_holds) rfl
  obtain ⟨fd__law_late, F__law_late⟩ := c.def_ 39 (d := d__law_late) rfl
  obtain ⟨fd__law_settled, F__law_settled⟩ := c.def_ 40 (d := d__law_settled) rfl
  obtain ⟨fd__law_long_right, F__law_long_right⟩ := c.def_ 41 (d := d__law_long_right) rfl
  obtain ⟨fd_law, F_law⟩ := c.def_ 42 (d := d_law) rfl
  have e := hfa_.symm.trans (He.glo_ok X G (c.fact 42 (f := .glo "law") rfl))
  cases e
  have b := FunD.bindsA (ps := ["_law_script"]) F_law fun _ _ _ _ _ _ us hl => match us, hl with | [_], _ => rfl
  have hm : Hex K := of_decide_eq_true cc.more
  have h0 := hm
  haveI : DW K w := ⟨cc.t.tab 0 rfl, h0⟩
  let T : Defs K mg := ⟨_, fd__wall, F__wall, (He.glo_ok X G (c.fact 0 (f := .glo "_wall") rfl)), (FunD.bindsN F__wall fun _ _ _ _ _ _ us hl => match us, hl with | [_], _ => rfl), _, fd_common_divisor, F_common_divisor, (He.glo_ok X G (c.fact 1 (f := .glo "common_divisor") rfl)), (FunD.bindsN F_common_divisor fun _ _ _ _ _ _ us hl => match us, hl with | [_, _], _ => rfl), _, fd_counter_round, F_counter_round, (He.glo_ok X G (c.fact 2 (f := .glo "counter_round") rfl)), (FunD.bindsN F_counter_round fun _ _ _ _ _ _ us hl => match us, hl with | [_, _, _], _ => rfl), _, fd_last_for_first, F_last_for_first, (He.glo_ok X G (c.fact 3 (f := .glo "last_for_first") rfl)), (FunD.bindsN F_last_for_first fun _ _ _ _ _ _ us hl => match us, hl with | [_, _], _ => rfl), _, fd_size_of, F_size_of, (He.glo_ok X G (c.fact 4 (f := .glo "size_of") rfl)), (FunD.bindsN F_size_of fun _ _ _ _ _ _ us hl => match us, hl with | [_], _ => rfl), _, fd_turned_round, F_turned_round, (He.glo_ok X G (c.fact 5 (f := .glo "turned_round") rfl)), (FunD.bindsN F_turned_round fun _ _ _ _ _ _ us hl => match us, hl with | [_, _], _ => rfl), _, fd_odd_ones, F_odd_ones, (He.glo_ok X G (c.fact 6 (f := .glo "odd_ones") rfl)), (FunD.bindsN F_odd_ones fun _ _ _ _ _ _ us hl => match us, hl with | [_], _ => rfl), _, fd_held_round, F_held_round, (He.glo_ok X G (c.fact 7 (f := .glo "held_round") rfl)), (FunD.bindsN F_held_round fun _ _ _ _ _ _ us hl => match us, hl with | [_, _, _], _ => rfl), _, fd_plain_round, F_plain_round, (He.glo_ok X G (c.fact 8 (f := .glo "plain_round") rfl)), (FunD.bindsN F_plain_round fun _ _ _ _ _ _ us hl => match us, hl with | [_], _ => rfl), _, fd_round_of, F_round_of, (He.glo_ok X G (c.fact 9 (f := .glo "round_of") rfl)), (FunD.bindsN F_round_of fun _ _ _ _ _ _ us hl => match us, hl with | [_], _ => rfl), _, fd_innermost, F_innermost, (He.glo_ok X G (c.fact 10 (f := .glo "innermost") rfl)), (FunD.bindsN F_innermost fun _ _ _ _ _ _ us hl => match us, hl with | [_], _ => rfl), _, fd_inner_beat, F_inner_beat, (He.glo_ok X G (c.fact 11 (f := .glo "inner_beat") rfl)), (FunD.bindsN F_inner_beat fun _ _ _ _ _ _ us hl => match us, hl with | [_, _], _ => rfl), _, fd_values_at, F_values_at, (He.glo_ok X G (c.fact 12 (f := .glo "values_at") rfl)), (FunD.bindsN F_values_at fun _ _ _ _ _ _ us hl => match us, hl with | [_, _], _ => rfl), _, fd_values_of, F_values_of, (He.glo_ok X G (c.fact 13 (f := .glo "values_of") rfl)), (FunD.bindsN F_values_of fun _ _ _ _ _ _ us hl => match us, hl with | [_, _], _ => rfl), _, fd_moved, F_moved, (He.glo_ok X G (c.fact 14 (f := .glo "moved") rfl)), (FunD.bindsN F_moved fun _ _ _ _ _ _ us hl => match us, hl with | [_, _, _, _], _ => rfl), _, fd_asks_of, F_asks_of, (He.glo_ok X G (c.fact 15 (f := .glo "asks_of") rfl)), (FunD.bindsN F_asks_of fun _ _ _ _ _ _ us hl => match us, hl with | [_], _ => rfl), _, fd_round_numbers, F_round_numbers, (He.glo_ok X G (c.fact 16 (f := .glo "round_numbers") rfl)), (FunD.bindsN F_round_numbers fun _ _ _ _ _ _ us hl => match us, hl with | [_], _ => rfl), _, fd_numbers_of, F_numbers_of, (He.glo_ok X G (c.fact 17 (f := .glo "numbers_of") rfl)), (FunD.bindsN F_numbers_of fun _ _ _ _ _ _ us hl => match us, hl with | [_], _ => rfl), _, fd_common_length, F_common_length, (He.glo_ok X G (c.fact 18 (f := .glo "common_length") rfl)), (FunD.bindsN F_common_length fun _ _ _ _ _ _ us hl => match us, hl with | [_], _ => rfl), _, fd_held_first, F_held_first, (He.glo_ok X G (c.fact 19 (f := .glo "held_first") rfl)), (FunD.bindsN F_held_first fun _ _ _ _ _ _ us hl => match us, hl with | [_], _ => rfl), _, fd_bits_asked, F_bits_asked, (He.glo_ok X G (c.fact 20 (f := .glo "bits_asked") rfl)), (FunD.bindsN F_bits_asked fun _ _ _ _ _ _ us hl => match us, hl with | [_, _], _ => rfl), _, fd_bit_of, F_bit_of, (He.glo_ok X G (c.fact 21 (f := .glo "bit_of") rfl)), (FunD.bindsN F_bit_of fun _ _ _ _ _ _ us hl => match us, hl with | [_, _, _, _], _ => rfl), _, fd_held_behind, F_held_behind, (He.glo_ok X G (c.fact 22 (f := .glo "held_behind") rfl)), (FunD.bindsN F_held_behind fun _ _ _ _ _ _ us hl => match us, hl with | [_, _, _, _], _ => rfl), _, fd_Machine___init__, F_Machine___init__, (FunD.bindsN F_Machine___init__ fun _ _ _ _ _ _ us hl => match us, hl with | [_, _], _ => rfl), _, fd_Machine_beat, F_Machine_beat, (FunD.bindsN F_Machine_beat fun _ _ _ _ _ _ us hl => match us, hl with | [_], _ => rfl), _, fd_Machine_beats_now, F_Machine_beats_now, (FunD.bindsN F_Machine_beats_now fun _ _ _ _ _ _ us hl => match us, hl with | [_], _ => rfl), _, fd_Machine_ones_now, F_Machine_ones_now, (FunD.bindsN F_Machine_ones_now fun _ _ _ _ _ _ us hl => match us, hl with | [_], _ => rfl), _, fd_Machine_held_now, F_Machine_held_now, (FunD.bindsN F_Machine_held_now fun _ _ _ _ _ _ us hl => match us, hl with | [_], _ => rfl), _, fd_run_to_settle, F_run_to_settle, (He.glo_ok X G (c.fact 28 (f := .glo "run_to_settle") rfl)), (FunD.bindsN F_run_to_settle fun _ _ _ _ _ _ us hl => match us, hl with | [_], _ => rfl), _, fd_settles, F_settles, (He.glo_ok X G (c.fact 29 (f := .glo "settles") rfl)), (FunD.bindsN F_settles fun _ _ _ _ _ _ us hl => match us, hl with | [_], _ => rfl), _, fd__law_box, F__law_box, (He.glo_ok X G (c.fact 30 (f := .glo "_law_box") rfl)), (FunD.bindsN F__law_box fun _ _ _ _ _ _ us hl => match us, hl with | [_, _], _ => rfl), _, fd__law_take, F__law_take, (He.glo_ok X G (c.fact 31 (f := .glo "_law_take") rfl)), (FunD.bindsN F__law_take fun _ _ _ _ _ _ us hl => match us, hl with | [_, _], _ => rfl), _, fd__law_folded, F__law_folded, (He.glo_ok X G (c.fact 32 (f := .glo "_law_folded") rfl)), (FunD.bindsN F__law_folded fun _ _ _ _ _ _ us hl => match us, hl with | [_, _], _ => rfl), _, fd__law_alone, F__law_alone, (He.glo_ok X G (c.fact 33 (f := .glo "_law_alone") rfl)), (FunD.bindsN F__law_alone fun _ _ _ _ _ _ us hl => match us, hl with | [_, _], _ => rfl), _, fd__law_maker, F__law_maker, (He.glo_ok X G (c.fact 34 (f := .glo "_law_maker") rfl)), (FunD.bindsN F__law_maker fun _ _ _ _ _ _ us hl => match us, hl with | [_, _, _], _ => rfl), _, fd__law_machine, F__law_machine, (He.glo_ok X G (c.fact 35 (f := .glo "_law_machine") rfl)), (FunD.bindsN F__law_machine fun _ _ _ _ _ _ us hl => match us, hl with | [_, _, _, _], _ => rfl), _, fd__law_bits, F__law_bits, (He.glo_ok X G (c.fact 36 (f := .glo "_law_bits") rfl)), (FunD.bindsN F__law_bits fun _ _ _ _ _ _ us hl => match us, hl with | [_, _], _ => rfl), _, fd__law_bit, F__law_bit, (He.glo_ok X G (c.fact 37 (f := .glo "_law_bit") rfl)), (FunD.bindsN F__law_bit fun _ _ _ _ _ _ us hl => match us, hl with | [_, _, _, _, _], _ => rfl), _, fd__law_holds, F__law_holds, (He.glo_ok X G (c.fact 38 (f := .glo "_law_holds") rfl)), (FunD.bindsN F__law_holds fun _ _ _ _ _ _ us hl => match us, hl with | [_, _], _ => rfl), _, fd__law_late, F__law_late, (He.glo_ok X G (c.fact 39 (f := .glo "_law_late") rfl)), (FunD.bindsN F__law_late fun _ _ _ _ _ _ us hl => match us, hl with | [_, _, _], _ => rfl), _, fd__law_settled, F__law_settled, (He.glo_ok X G (c.fact 40 (f := .glo "_law_settled") rfl)), (FunD.bindsN F__law_settled fun _ _ _ _ _ _ us hl => match us, hl with | [_, _], _ => rfl), _, fd__law_long_right, F__law_long_right, (He.glo_ok X G (c.fact 41 (f := .glo "_law_long_right") rfl)), (FunD.bindsN F__law_long_right fun _ _ _ _ _ _ us hl => match us, hl with | [_], _ => rfl), _, fd_law, F_law, (He.glo_ok X G (c.fact 42 (f := .glo "law") rfl)), (FunD.bindsN F_law fun _ _ _ _ _ _ us hl => match us, hl with | [_], _ => rfl), _, (He.glo_ok X G (c.fact 57 (f := .glo "Machine") rfl)), (He.cls_ok (c.fact 58 (f := .cls "Machine") rfl)), (He.mkr_ok (c.fact 59 (f := .mkr "Machine") rfl)), (He.noat_ok (c.fact 60 (f := .noat "Machine" "asks") rfl)), (He.noat_ok (c.fact 61 (f := .noat "Machine" "beats") rfl)), (He.noat_ok (c.fact 62 (f := .noat "Machine" "common") rfl)), (He.noat_ok (c.fact 63 (f := .noat "Machine" "counts") rfl)), (He.noat_ok (c.fact 64 (f := .noat "Machine" "held") rfl)), (He.noat_ok (c.fact 65 (f := .noat "Machine" "holding") rfl)), (He.noat_ok (c.fact 66 (f := .noat "Machine" "numbers") rfl)), (He.noat_ok (c.fact 67 (f := .noat "Machine" "pieces") rfl)), (He.meth_ok (c.fact 68 (f := .meth "Machine" "beat") rfl)), (He.meth_ok (c.fact 69 (f := .meth "Machine" "beats_now") rfl)), (He.meth_ok (c.fact 70 (f := .meth "Machine" "ones_now") rfl)), (He.meth_ok (c.fact 71 (f := .meth "Machine" "held_now") rfl)), _, (He.glo_ok X G (c.fact 56 (f := .glo "ASKED") rfl)), rfl, (He.free_ok X G (c.fact 43 (f := .free "abs") rfl)), (He.free_ok X G (c.fact 44 (f := .free "divmod") rfl)), (He.free_ok X G (c.fact 45 (f := .free "enumerate") rfl)), (He.free_ok X G (c.fact 46 (f := .free "int") rfl)), (He.free_ok X G (c.fact 47 (f := .free "isinstance") rfl)), (He.free_ok X G (c.fact 48 (f := .free "len") rfl)), (He.free_ok X G (c.fact 49 (f := .free "list") rfl)), (He.free_ok X G (c.fact 50 (f := .free "max") rfl)), (He.free_ok X G (c.fact 51 (f := .free "min") rfl)), (He.free_ok X G (c.fact 52 (f := .free "range") rfl)), (He.free_ok X G (c.fact 53 (f := .free "str") rfl)), (He.free_ok X G (c.fact 54 (f := .free "sum") rfl)), (He.free_ok X G (c.fact 55 (f := .free "tuple") rfl)), (He.int_ok X G (c.fact 72 (f := .int "MOST_SETTLING" 8192) rfl))⟩
  exact ⟨fd_law, sp_law T, fun s v => b s [v] rfl, fun H a ns hl _ hS => ⟨a, ns, rfl, hS, hl, trivial, fun _ => rfl⟩, fun base _ _ => ok_law T⟩
end Fq
open PySem PySem.W PySem.Calls PyProof.Rows
set_option maxHeartbeats 0 in
theorem PySem.Challenge.cw_shareones_k50_from_when_it_goes_round_holds : PySem.Challenge.rw_shareones_k50_from_when_it_goes_round.Holds := by
  w_on; o_law
  refine HandSHeadRun.head_any (r := OpenLaw.row PySem.Challenge.rw_shareones_k50_from_when_it_goes_round) (q := view (OpenLaw.row PySem.Challenge.rw_shareones_k50_from_when_it_goes_round).prog [45]) (H := Fq.hk) (ob := Fq.ob) (M := 6000) (loose := Fq.loose) (d := HandSHeadRun.topDef (OpenLaw.row PySem.Challenge.rw_shareones_k50_from_when_it_goes_round).prog 45) (kwd := []) Fq.ob_eq
    (by kernel_rfl) (fun s => by kernel_rfl) Fq.run (by kernel_rfl) (by kernel_rfl) (by kernel_rfl) (by rfl) (by first | assumption | decide +kernel) (by decide +kernel) ⟨rfl, rfl, rfl, rfl, rfl, by decide +kernel⟩ ?hw ?hc
  case hw => w_witness2
  case hc =>
    refine Fq.walk_ofG (l := PySem.Challenge.rw_shareones_k50_from_when_it_goes_round) (n := 63) (k := 17) (x := "_law_script") rfl (by decide) (by kernel_rfl) ⟨rfl, by decide, by decide⟩ ?F
    intro w mg fa h Y G hmg0
    obtain ⟨K, KX, c⟩ := Y
    have hmg : mg ("law" : PySem.Str) = some (.ref fa) := by
      have e : (HandSHeadRun.topDef (OpenLaw.row PySem.Challenge.rw_shareones_k50_from_when_it_goes_round).prog 45).name = ("law" : PySem.Str) := by kernel_rfl
      rw [← e]
      exact hmg0
    obtain ⟨fd, sp, a1, a2, a3⟩ := Fq.facts (l := PySem.Challenge.rw_shareones_k50_from_when_it_goes_round) KX G hmg c
    exact ⟨K, fd, sp, KX, a1, a2, a3⟩
