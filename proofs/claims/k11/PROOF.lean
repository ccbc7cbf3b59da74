import PyProof.Rows.All
import Wide.All
import OpenK.AllK
import Wide.FinOn
import HandS.ForMost
import HandS.IsInst
import HandS.TupLe
import HandS.Codes
import HandS.More
import HandS.TupAny
import HandS.SetKeys
import HandS.SortKw
import HandS.SortRule
import HandS.Conv
import HandS.Deep
import HandS.Exc
import HandS.ExcOwn
import HandS.WordsExc
import HandS.ExcIs
import KE.KExcIs
import KE.KMinBuiltin
import KE.GoesMore
import KE.GoesEnum
import KE.KTupSum
import KE.KeyNested
import KE.KDictKeyed
import KE.KSortTupG
import KE.KRevSl
import KE.KDictCopyH
import KE.KDictWalk
import PySem.Challenge.RW_tribunal_k11_papers_made_from_books
set_option Elab.async false
set_option linter.all false
set_option maxRecDepth 100000
set_option maxHeartbeats 4000000
namespace Toy
open PySem L2
def top (i : Nat) : Stmt := PySem.Challenge.pw_tribunal_k11_papers_made_from_books.main.body.getD i (.Pass ⟨0, 0, 0, 0⟩)
abbrev s_is_vote : Stmt := (top 7)
abbrev s_first_wrong : Stmt := (top 31)
abbrev s_Committee_init : Stmt := (inClass (top 30) 0)
abbrev s_Committee_weight_of : Stmt := (inClass (top 30) 1)
abbrev s_Committee_is_quorum : Stmt := (inClass (top 30) 2)
abbrev s_votes_by_turn : Stmt := (top 16)
abbrev s_counts : Stmt := (top 17)
abbrev s_certified_turns : Stmt := (top 14)
abbrev s_committed_turns : Stmt := (top 15)
abbrev s_missing : Stmt := (top 26)
abbrev s_Book_init : Stmt := (inClass (top 25) 0)
abbrev s_Book_belongs : Stmt := (inClass (top 25) 5)
abbrev s_Book_enter : Stmt := (inClass (top 25) 6)
abbrev s_Book_add : Stmt := (inClass (top 25) 1)
abbrev s_Book_letters : Stmt := (inClass (top 25) 2)
abbrev s_until_quorum : Stmt := (top 23)
abbrev s_prevotes : Stmt := (top 22)
abbrev s_commit_paper : Stmt := (top 21)
abbrev s_shown_turn : Stmt := (top 20)
abbrev s_shows : Stmt := (top 19)
abbrev s_law_cell : Stmt := (top 33)
abbrev s_law_is_integer : Stmt := (top 34)
abbrev s_law_row : Stmt := (top 35)
abbrev s_law_weights : Stmt := (top 36)
abbrev s_law_weight : Stmt := (top 37)
abbrev s_law_certified : Stmt := (top 38)
abbrev s_law_committed : Stmt := (top 39)
abbrev s_law_statement : Stmt := (top 40)
abbrev s_law_letters : Stmt := (top 41)
abbrev s_law_planted : Stmt := (top 42)
abbrev s_law_lift : Stmt := (top 46)
abbrev s_law_turns : Stmt := (top 43)
abbrev s_law_shown : Stmt := (top 44)
abbrev s_law_paper : Stmt := (top 45)
abbrev s_law : Stmt := (top 47)
abbrev sc_is_vote_N : List Str := ["statement"]
theorem sc_is_vote : FnScope sc_is_vote_N ["statement"] (defScope s_is_vote) := ⟨rfl, rfl, rfl, by decide +kernel, rfl, by decide +kernel, by decide +kernel⟩
abbrev sc_first_wrong_N : List Str := ["weights", "at", "weight"]
theorem sc_first_wrong : FnScope sc_first_wrong_N ["weights"] (defScope s_first_wrong) := ⟨rfl, rfl, rfl, by decide +kernel, rfl, by decide +kernel, by decide +kernel⟩
abbrev sc_Committee_init_N : List Str := ["self", "weights", "wrong"]
theorem sc_Committee_init : FnScope sc_Committee_init_N ["self", "weights"] (defScope s_Committee_init) := ⟨rfl, rfl, rfl, by decide +kernel, rfl, by decide +kernel, by decide +kernel⟩
abbrev sc_Committee_weight_of_N : List Str := ["self", "members", "listed", "member", "weight"]
theorem sc_Committee_weight_of : FnScope sc_Committee_weight_of_N ["self", "members"] (defScope s_Committee_weight_of) := ⟨rfl, rfl, rfl, by decide +kernel, rfl, by decide +kernel, by decide +kernel⟩
abbrev sc_Committee_is_quorum_N : List Str := ["self", "members"]
theorem sc_Committee_is_quorum : FnScope sc_Committee_is_quorum_N ["self", "members"] (defScope s_Committee_is_quorum) := ⟨rfl, rfl, rfl, by decide +kernel, rfl, by decide +kernel, by decide +kernel⟩
abbrev sc_votes_by_turn_N : List Str := ["letters", "kind", "height", "block", "found", "letter", "vote"]
theorem sc_votes_by_turn : FnScope sc_votes_by_turn_N ["letters", "kind", "height", "block"] (defScope s_votes_by_turn) := ⟨rfl, rfl, rfl, by decide +kernel, rfl, by decide +kernel, by decide +kernel⟩
abbrev sc_counts_N : List Str := ["prevote", "turns", "lean"]
theorem sc_counts : FnScope sc_counts_N ["prevote", "turns"] (defScope s_counts) := ⟨rfl, rfl, rfl, by decide +kernel, rfl, by decide +kernel, by decide +kernel⟩
abbrev sc_certified_turns_N : List Str := ["committee", "letters", "height", "block", "prevotes", "found", "turn", "members", "letter"]
theorem sc_certified_turns : FnScope sc_certified_turns_N ["committee", "letters", "height", "block"] (defScope s_certified_turns) := ⟨rfl, rfl, rfl, by decide +kernel, rfl, by decide +kernel, by decide +kernel⟩
abbrev sc_committed_turns_N : List Str := ["committee", "letters", "height", "block", "precommits", "found", "turn", "members", "letter"]
theorem sc_committed_turns : FnScope sc_committed_turns_N ["committee", "letters", "height", "block"] (defScope s_committed_turns) := ⟨rfl, rfl, rfl, by decide +kernel, rfl, by decide +kernel, by decide +kernel⟩
abbrev sc_missing_N : List Str := ["turns", "block", "pairs", "turn"]
theorem sc_missing : FnScope sc_missing_N ["turns", "block", "pairs"] (defScope s_missing) := ⟨rfl, rfl, rfl, by decide +kernel, rfl, by decide +kernel, by decide +kernel⟩
abbrev sc_Book_init_N : List Str := ["self", "committee", "height"]
theorem sc_Book_init : FnScope sc_Book_init_N ["self", "committee", "height"] (defScope s_Book_init) := ⟨rfl, rfl, rfl, by decide +kernel, rfl, by decide +kernel, by decide +kernel⟩
abbrev sc_Book_belongs_N : List Str := ["self", "letter", "sender", "statement", "is_member"]
theorem sc_Book_belongs : FnScope sc_Book_belongs_N ["self", "letter"] (defScope s_Book_belongs) := ⟨rfl, rfl, rfl, by decide +kernel, rfl, by decide +kernel, by decide +kernel⟩
abbrev sc_Book_enter_N : List Str := ["self", "block", "letters", "certified", "committed", "certificates", "commits"]
theorem sc_Book_enter : FnScope sc_Book_enter_N ["self", "block"] (defScope s_Book_enter) := ⟨rfl, rfl, rfl, by decide +kernel, rfl, by decide +kernel, by decide +kernel⟩
abbrev sc_Book_add_N : List Str := ["self", "letter", "block"]
theorem sc_Book_add : FnScope sc_Book_add_N ["self", "letter"] (defScope s_Book_add) := ⟨rfl, rfl, rfl, by decide +kernel, rfl, by decide +kernel, by decide +kernel⟩
abbrev sc_Book_letters_N : List Str := ["self"]
theorem sc_Book_letters : FnScope sc_Book_letters_N ["self"] (defScope s_Book_letters) := ⟨rfl, rfl, rfl, by decide +kernel, rfl, by decide +kernel, by decide +kernel⟩
abbrev sc_until_quorum_N : List Str := ["committee", "letters", "taken", "letter"]
theorem sc_until_quorum : FnScope sc_until_quorum_N ["committee", "letters"] (defScope s_until_quorum) := ⟨rfl, rfl, rfl, by decide +kernel, rfl, by decide +kernel, by decide +kernel⟩
abbrev sc_prevotes_N : List Str := ["book", "block", "turn", "prevotes", "certified", "taken", "waiting", "latest", "counting", "quorum", "leans", "found", "of", "letter", "earlier"]
theorem sc_prevotes : FnScope sc_prevotes_N ["book", "block", "turn"] (defScope s_prevotes) := ⟨rfl, rfl, rfl, by decide +kernel, rfl, by decide +kernel, by decide +kernel⟩
abbrev sc_commit_paper_N : List Str := ["book", "block", "turns", "turn", "precommits", "found", "of"]
theorem sc_commit_paper : FnScope sc_commit_paper_N ["book", "block"] (defScope s_commit_paper) := ⟨rfl, rfl, rfl, by decide +kernel, rfl, by decide +kernel, by decide +kernel⟩
abbrev sc_shown_turn_N : List Str := ["committee", "height", "block", "letters"]
theorem sc_shown_turn : FnScope sc_shown_turn_N ["committee", "height", "block", "letters"] (defScope s_shown_turn) := ⟨rfl, rfl, rfl, by decide +kernel, rfl, by decide +kernel, by decide +kernel⟩
abbrev sc_shows_N : List Str := ["committee", "height", "block", "letters"]
theorem sc_shows : FnScope sc_shows_N ["committee", "height", "block", "letters"] (defScope s_shows) := ⟨rfl, rfl, rfl, by decide +kernel, rfl, by decide +kernel, by decide +kernel⟩
abbrev sc_law_cell_N : List Str := ["script", "k"]
theorem sc_law_cell : FnScope sc_law_cell_N ["script", "k"] (defScope s_law_cell) := ⟨rfl, rfl, rfl, by decide +kernel, rfl, by decide +kernel, by decide +kernel⟩
abbrev sc_law_is_integer_N : List Str := ["actual"]
theorem sc_law_is_integer : FnScope sc_law_is_integer_N ["actual"] (defScope s_law_is_integer) := ⟨rfl, rfl, rfl, by decide +kernel, rfl, by decide +kernel, by decide +kernel⟩
abbrev sc_law_row_N : List Str := ["cell", "count", "size", "state", "row", "k"]
theorem sc_law_row : FnScope sc_law_row_N ["cell", "count", "size"] (defScope s_law_row) := ⟨rfl, rfl, rfl, by decide +kernel, rfl, by decide +kernel, by decide +kernel⟩
abbrev sc_law_weights_N : List Str := ["cell", "most", "count", "value"]
theorem sc_law_weights : FnScope sc_law_weights_N ["cell", "most"] (defScope s_law_weights) := ⟨rfl, rfl, rfl, by decide +kernel, rfl, by decide +kernel, by decide +kernel⟩
abbrev sc_law_weight_N : List Str := ["weights", "members", "k"]
theorem sc_law_weight : FnScope sc_law_weight_N ["weights", "members"] (defScope s_law_weight) := ⟨rfl, rfl, rfl, by decide +kernel, rfl, by decide +kernel, by decide +kernel⟩
abbrev sc_law_certified_N : List Str := ["weights", "letters", "height", "turn", "block", "leans", "later", "members", "letter", "statement", "holds"]
theorem sc_law_certified : FnScope sc_law_certified_N ["weights", "letters", "height", "turn", "block"] (defScope s_law_certified) := ⟨rfl, rfl, rfl, by decide +kernel, rfl, by decide +kernel, by decide +kernel⟩
abbrev sc_law_committed_N : List Str := ["weights", "letters", "height", "turn", "block", "members", "letter"]
theorem sc_law_committed : FnScope sc_law_committed_N ["weights", "letters", "height", "turn", "block"] (defScope s_law_committed) := ⟨rfl, rfl, rfl, by decide +kernel, rfl, by decide +kernel, by decide +kernel⟩
abbrev sc_law_statement_N : List Str := ["digit", "height", "block", "turn", "lean"]
theorem sc_law_statement : FnScope sc_law_statement_N ["digit", "height"] (defScope s_law_statement) := ⟨rfl, rfl, rfl, by decide +kernel, rfl, by decide +kernel, by decide +kernel⟩
abbrev sc_law_letters_N : List Str := ["cell", "count", "size", "digits", "letters", "k"]
theorem sc_law_letters : FnScope sc_law_letters_N ["cell", "count", "size"] (defScope s_law_letters) := ⟨rfl, rfl, rfl, by decide +kernel, rfl, by decide +kernel, by decide +kernel⟩
abbrev sc_law_planted_N : List Str := ["cell", "size", "digits", "letters", "early", "late", "via", "k"]
theorem sc_law_planted : FnScope sc_law_planted_N ["cell", "size"] (defScope s_law_planted) := ⟨rfl, rfl, rfl, by decide +kernel, rfl, by decide +kernel, by decide +kernel⟩
abbrev sc_law_lift_N : List Str := ["letter", "height"]
theorem sc_law_lift : FnScope sc_law_lift_N ["letter", "height"] (defScope s_law_lift) := ⟨rfl, rfl, rfl, by decide +kernel, rfl, by decide +kernel, by decide +kernel⟩
abbrev sc_law_turns_N : List Str := ["weights", "letters", "block", "height", "turn"]
theorem sc_law_turns : FnScope sc_law_turns_N ["weights", "letters", "block", "height"] (defScope s_law_turns) := ⟨rfl, rfl, rfl, by decide +kernel, rfl, by decide +kernel, by decide +kernel⟩
abbrev sc_law_shown_N : List Str := ["committee", "block", "letters", "turns", "height", "actual"]
theorem sc_law_shown : FnScope sc_law_shown_N ["committee", "block", "letters", "turns", "height"] (defScope s_law_shown) := ⟨rfl, rfl, rfl, by decide +kernel, rfl, by decide +kernel, by decide +kernel⟩
abbrev sc_law_paper_N : List Str := ["weights", "committee", "kept", "block", "paper", "turn", "height", "last", "k"]
theorem sc_law_paper : FnScope sc_law_paper_N ["weights", "committee", "kept", "block", "paper", "turn", "height"] (defScope s_law_paper) := ⟨rfl, rfl, rfl, by decide +kernel, rfl, by decide +kernel, by decide +kernel⟩
abbrev sc_law_N : List Str := ["script", "weights", "letters", "height", "near", "own", "committee", "book", "letter", "kept", "block", "turns", "paper", "e"]
theorem sc_law : FnScope sc_law_N ["script"] (defScope s_law) := ⟨rfl, rfl, rfl, by decide +kernel, rfl, by decide +kernel, by decide +kernel⟩
/-! ### what stands where -/
structure DefAt (K : PySem.W.Frag) (mg : Str → Option Value) (x : Str) (st : Stmt) (ps : List Str) (f : Addr) : Prop where
  F : ∃ fd, Fun K x x st f fd ∧ Binds K fd ps []
  g : mg x = some (.ref f)
  kp : PySem.W.keepIn K (.ref f) = true
structure MethAt (K : PySem.W.Frag) (C : Addr) (x qual : Str) (st : Stmt) (ps : List Str) (f : Addr) : Prop where
  F : ∃ fd, Fun K x qual st f fd ∧ Binds K fd ps []
  fi : PySem.W.findIn K (.ref C) x = some (some (.ref f))
  isf : PySem.W.isFn K (.ref f) = true
  kp : PySem.W.keepIn K (.ref f) = true
theorem def_mk {K : PySem.W.Frag} {x qual : Str} {st : Stmt} {f : Addr} {ps : List Str} {oc : Value} {od an : Option Addr} {osl : Array (Option Value)} {kV doc pm cdv ct : Value}
    (l : K.lookup f = some ⟨oc, od, .func (PySem.W.fnOf x qual (defArgs st) (defBody st) (defScope st) .none kV doc pm an cdv ct), osl⟩)
    (c : PySem.W.codeIn K cdv qual = true) (k : PySem.W.keepIn K (.ref f) = true)
    (h : ∀ (kV doc pm : Value) (an : Option Addr) (cdv ct : Value) (us : List Value), us.length = ps.length → bindArgs (PySem.W.fnOf x qual (defArgs st) (defBody st) (defScope st) .none kV doc pm an cdv ct) ⟨us, []⟩ = pure (ps.zip us)) :
    ∃ fd, Fun K x qual st f fd ∧ Binds K fd ps [] := by
  have F := fun_mk (st := st) l c k
  exact ⟨_, F, F.binds h⟩
theorem mg_no {K : PySem.W.Frag} {h : Heap} {mg : Str → Option Value} {n : Str} (X : K.In h) (G : h.Ns mainGlobals mg) (e : PySem.W.nsIn K mainGlobals n = some none) : mg n = none := PySem.W.mg_none_of X G e
theorem same_new {H : Hp} {p : Addr} {o : HO} (n : H p = Option.none) : Same H (upd H p o) := fun b u e => by
  rw [upd_ne (ne_of_none e n)]
  exact e
theorem same_upd {H H2 : Hp} {p : Addr} {o : HO} (s : Same H H2) (n : H p = Option.none) : Same H (upd H2 p o) := fun b u e => by
  rw [upd_ne (ne_of_none e n)]
  exact s b u e
structure Ads where
  C_Committee : Addr
  C_Book : Addr
  d_is_vote : Addr
  d_first_wrong : Addr
  d_Committee_init : Addr
  d_Committee_weight_of : Addr
  d_Committee_is_quorum : Addr
  d_votes_by_turn : Addr
  d_counts : Addr
  d_certified_turns : Addr
  d_committed_turns : Addr
  d_missing : Addr
  d_Book_init : Addr
  d_Book_belongs : Addr
  d_Book_enter : Addr
  d_Book_add : Addr
  d_Book_letters : Addr
  d_until_quorum : Addr
  d_prevotes : Addr
  d_commit_paper : Addr
  d_shown_turn : Addr
  d_shows : Addr
  d_law_cell : Addr
  d_law_is_integer : Addr
  d_law_row : Addr
  d_law_weights : Addr
  d_law_weight : Addr
  d_law_certified : Addr
  d_law_committed : Addr
  d_law_statement : Addr
  d_law_letters : Addr
  d_law_planted : Addr
  d_law_lift : Addr
  d_law_turns : Addr
  d_law_shown : Addr
  d_law_paper : Addr
  C_BadPaper : Addr
  C_TribunalError : Addr
  C_BadLine : Addr
structure Txt (K : PySem.W.Frag) (mg : Str → Option Value) (a : Ads) : Prop where
  n_len : mg "len" = none
  n_range : mg "range" = none
  n_isinstance : mg "isinstance" = none
  n_int : mg "int" = none
  n_bool : mg "bool" = none
  n_list : mg "list" = none
  n_tuple : mg "tuple" = none
  n_sum : mg "sum" = none
  n_enumerate : mg "enumerate" = none
  n_set : mg "set" = none
  n_sorted : mg "sorted" = none
  n_max : mg "max" = none
  n_min : mg "min" = none
  n_abs : mg "abs" = none
  c_KIND : ∃ t, mg "KIND" = some (.int 0 t)
  c_HEIGHT : ∃ t, mg "HEIGHT" = some (.int 1 t)
  c_TURN : ∃ t, mg "TURN" = some (.int 2 t)
  c_BLOCK : ∃ t, mg "BLOCK" = some (.int 3 t)
  c_LEAN : ∃ t, mg "LEAN" = some (.int 4 t)
  c_MOST_MEMBERS : ∃ t, mg "MOST_MEMBERS" = some (.int 16 t)
  c_MOST_WEIGHT : ∃ t, mg "MOST_WEIGHT" = some (.int 1000000000000 t)
  g_Committee : mg "Committee" = some (.ref a.C_Committee)
  cl_Committee : Cls K a.C_Committee
  kc_Committee : PySem.W.keepIn K (.ref a.C_Committee) = true
  mk_Committee : PySem.W.makesIn K a.C_Committee = true
  a_Committee_weights : NoAttr K a.C_Committee "weights"
  a_Committee_size : NoAttr K a.C_Committee "size"
  a_Committee_total : NoAttr K a.C_Committee "total"
  g_Book : mg "Book" = some (.ref a.C_Book)
  cl_Book : Cls K a.C_Book
  kc_Book : PySem.W.keepIn K (.ref a.C_Book) = true
  mk_Book : PySem.W.makesIn K a.C_Book = true
  a_Book_committee : NoAttr K a.C_Book "committee"
  a_Book_height : NoAttr K a.C_Book "height"
  a_Book_certificates : NoAttr K a.C_Book "certificates"
  a_Book_commits : NoAttr K a.C_Book "commits"
  a_Book__kept : NoAttr K a.C_Book "_kept"
  a_Book__by_block : NoAttr K a.C_Book "_by_block"
  d_is_vote : DefAt K mg "is_vote" s_is_vote ["statement"] a.d_is_vote
  d_first_wrong : DefAt K mg "_first_wrong" s_first_wrong ["weights"] a.d_first_wrong
  d_Committee_init : MethAt K a.C_Committee "__init__" "Committee.__init__" s_Committee_init ["self", "weights"] a.d_Committee_init
  d_Committee_weight_of : MethAt K a.C_Committee "weight_of" "Committee.weight_of" s_Committee_weight_of ["self", "members"] a.d_Committee_weight_of
  d_Committee_is_quorum : MethAt K a.C_Committee "is_quorum" "Committee.is_quorum" s_Committee_is_quorum ["self", "members"] a.d_Committee_is_quorum
  d_votes_by_turn : DefAt K mg "votes_by_turn" s_votes_by_turn ["letters", "kind", "height", "block"] a.d_votes_by_turn
  d_counts : DefAt K mg "counts" s_counts ["prevote", "turns"] a.d_counts
  d_certified_turns : DefAt K mg "certified_turns" s_certified_turns ["committee", "letters", "height", "block"] a.d_certified_turns
  d_committed_turns : DefAt K mg "committed_turns" s_committed_turns ["committee", "letters", "height", "block"] a.d_committed_turns
  d_missing : DefAt K mg "_missing" s_missing ["turns", "block", "pairs"] a.d_missing
  d_Book_init : MethAt K a.C_Book "__init__" "Book.__init__" s_Book_init ["self", "committee", "height"] a.d_Book_init
  d_Book_belongs : MethAt K a.C_Book "_belongs" "Book._belongs" s_Book_belongs ["self", "letter"] a.d_Book_belongs
  d_Book_enter : MethAt K a.C_Book "_enter" "Book._enter" s_Book_enter ["self", "block"] a.d_Book_enter
  d_Book_add : MethAt K a.C_Book "add" "Book.add" s_Book_add ["self", "letter"] a.d_Book_add
  d_Book_letters : MethAt K a.C_Book "letters" "Book.letters" s_Book_letters ["self"] a.d_Book_letters
  d_until_quorum : DefAt K mg "_until_quorum" s_until_quorum ["committee", "letters"] a.d_until_quorum
  d_prevotes : DefAt K mg "_prevotes" s_prevotes ["book", "block", "turn"] a.d_prevotes
  d_commit_paper : DefAt K mg "commit_paper" s_commit_paper ["book", "block"] a.d_commit_paper
  d_shown_turn : DefAt K mg "shown_turn" s_shown_turn ["committee", "height", "block", "letters"] a.d_shown_turn
  d_shows : DefAt K mg "shows" s_shows ["committee", "height", "block", "letters"] a.d_shows
  d_law_cell : DefAt K mg "_law_cell" s_law_cell ["script", "k"] a.d_law_cell
  d_law_is_integer : DefAt K mg "_law_is_integer" s_law_is_integer ["actual"] a.d_law_is_integer
  d_law_row : DefAt K mg "_law_row" s_law_row ["cell", "count", "size"] a.d_law_row
  d_law_weights : DefAt K mg "_law_weights" s_law_weights ["cell", "most"] a.d_law_weights
  d_law_weight : DefAt K mg "_law_weight" s_law_weight ["weights", "members"] a.d_law_weight
  d_law_certified : DefAt K mg "_law_certified" s_law_certified ["weights", "letters", "height", "turn", "block"] a.d_law_certified
  d_law_committed : DefAt K mg "_law_committed" s_law_committed ["weights", "letters", "height", "turn", "block"] a.d_law_committed
  d_law_statement : DefAt K mg "_law_statement" s_law_statement ["digit", "height"] a.d_law_statement
  d_law_letters : DefAt K mg "_law_letters" s_law_letters ["cell", "count", "size"] a.d_law_letters
  d_law_planted : DefAt K mg "_law_planted" s_law_planted ["cell", "size"] a.d_law_planted
  d_law_lift : DefAt K mg "_law_lift" s_law_lift ["letter", "height"] a.d_law_lift
  d_law_turns : DefAt K mg "_law_turns" s_law_turns ["weights", "letters", "block", "height"] a.d_law_turns
  d_law_shown : DefAt K mg "_law_shown" s_law_shown ["committee", "block", "letters", "turns", "height"] a.d_law_shown
  d_law_paper : DefAt K mg "_law_paper" s_law_paper ["weights", "committee", "kept", "block", "paper", "turn", "height"] a.d_law_paper
theorem Txt.m_Committee {K : PySem.W.Frag} {mg : Str → Option Value} {a : Ads} (T : Txt K mg a) : Mk K a.C_Committee a.d_Committee_init := ⟨T.mk_Committee, T.d_Committee_init.fi, T.d_Committee_init.isf, T.kc_Committee⟩
theorem Txt.me_Committee_weight_of {K : PySem.W.Frag} {mg : Str → Option Value} {a : Ads} (T : Txt K mg a) : Meth K a.C_Committee "weight_of" a.d_Committee_weight_of := ⟨T.d_Committee_weight_of.fi, T.d_Committee_weight_of.isf, T.d_Committee_weight_of.kp⟩
theorem Txt.me_Committee_is_quorum {K : PySem.W.Frag} {mg : Str → Option Value} {a : Ads} (T : Txt K mg a) : Meth K a.C_Committee "is_quorum" a.d_Committee_is_quorum := ⟨T.d_Committee_is_quorum.fi, T.d_Committee_is_quorum.isf, T.d_Committee_is_quorum.kp⟩
theorem Txt.m_Book {K : PySem.W.Frag} {mg : Str → Option Value} {a : Ads} (T : Txt K mg a) : Mk K a.C_Book a.d_Book_init := ⟨T.mk_Book, T.d_Book_init.fi, T.d_Book_init.isf, T.kc_Book⟩
theorem Txt.me_Book_belongs {K : PySem.W.Frag} {mg : Str → Option Value} {a : Ads} (T : Txt K mg a) : Meth K a.C_Book "_belongs" a.d_Book_belongs := ⟨T.d_Book_belongs.fi, T.d_Book_belongs.isf, T.d_Book_belongs.kp⟩
theorem Txt.me_Book_enter {K : PySem.W.Frag} {mg : Str → Option Value} {a : Ads} (T : Txt K mg a) : Meth K a.C_Book "_enter" a.d_Book_enter := ⟨T.d_Book_enter.fi, T.d_Book_enter.isf, T.d_Book_enter.kp⟩
theorem Txt.me_Book_add {K : PySem.W.Frag} {mg : Str → Option Value} {a : Ads} (T : Txt K mg a) : Meth K a.C_Book "add" a.d_Book_add := ⟨T.d_Book_add.fi, T.d_Book_add.isf, T.d_Book_add.kp⟩
theorem Txt.me_Book_letters {K : PySem.W.Frag} {mg : Str → Option Value} {a : Ads} (T : Txt K mg a) : Meth K a.C_Book "letters" a.d_Book_letters := ⟨T.d_Book_letters.fi, T.d_Book_letters.isf, T.d_Book_letters.kp⟩
/-! ### max and min with default=None -/
end Toy
namespace Toy0
open PySem

section
variable {prog : Program} {w : World} {A : Around} {R : Result → Shared → Prop} {I : Addr} {fp wr : List Addr} {n : Nat} {P : Nat → Value → Prop} {St : Nat → Heap → Prop}
/-- the turns of max with keywords, from the place behind j on -/
theorem maxd_run (W : Walks prog w A.in1 I fp wr n P St) (up : Nat → Nat → Bool) (cm : CmpOf prog w A.in1 .Gt P up) (Z : Addr) (nZ : Z ∉ fp) (kw : List (Str × Value)) : ∀ (k j : Nat) (s : Shared) (b0 : Value) (c : Nat), n = j + 1 + k → St (j + 1) s.heap → P (argBest up j) b0 →
    s.heap.get? Z = some { cls := .type "list", dict := none, data := .seq #[b0, b0] c, slots := #[] } → (∀ v h2 t2, P (argBest up (n - 1)) v → (∀ x o, x ∉ wr → x ≠ Z → s.heap.get? x = some o → h2.get? x = some o) → R (.ok (.ret v)) { s with heap := h2, toks := t2 }) →
    codeAny (model prog w) A (.builtin "max.loop" ⟨[.ref I, .none, .ref Z], kw⟩) R s
  | 0, j, s, b0, c, hn, st, hP, hZ, q => by
    have nw : Z ∉ wr := fun z => nZ (W.sub _ z)
    have hin : j + 1 = n := hn.symm
    refine codeAny_builtin PySem.F.entry_max_loop (by
      rw [Around.under_plainId PySem.F.plain_max_loop _]
      show wpAny _ A.in1 (seqItems? (.ref Z) >>= _) _ _ s
      refine wpAny_bind (wpAny_seqItems hZ rfl ?_)
      show wpAny _ A.in1 (tryCatch (pyNext (.ref I)) _ >>= _) _ _ s
      refine wpAny_bind (wpAny_tryCatch (W.done s _ _ (by rw [← hin]; exact st) fun h2 t2 kp => ?_))
      have hZ2 := kp Z _ nw hZ
      show wpAny _ A.in1 (updateSeq Z (fun _ => #[]) >>= _) _ _ _
      refine wpAny_bind (wpAny_updateSeq hZ2 rfl (wpAny_bind (wpAny_letGo (wpAny_pure ?_))))
      exact q b0 _ t2 (by rw [show n - 1 = j by omega]; exact hP) fun x o xw xz e => (Heap.get?_update_other _ _ (fun z => xz z.symm)).trans (kp x o xw e))
  | k + 1, j, s, b0, c, hn, st, hP, hZ, q => by
    have nw : Z ∉ wr := fun z => nZ (W.sub _ z)
    have nm : (toString "max" ++ toString ".loop" : String) = "max.loop" := by decide
    refine codeAny_builtin PySem.F.entry_max_loop (by
      rw [Around.under_plainId PySem.F.plain_max_loop _]
      show wpAny _ A.in1 (seqItems? (.ref Z) >>= _) _ _ s
      refine wpAny_bind (wpAny_seqItems hZ rfl ?_)
      show wpAny _ A.in1 (tryCatch (pyNext (.ref I)) _ >>= _) _ _ s
      refine wpAny_bind (wpAny_tryCatch (W.item (j + 1) s _ _ (by omega) st fun v h2 t2 pv st2 kp => ?_))
      have hZ2 := kp Z _ nw hZ
      show wpAny _ A.in1 (tryCatch (holding [v, v] (richCompare .Gt v b0 >>= _)) _ >>= _) _ _ _
      refine wpAny_bind (wpAny_tryCatch (wpAny_holding (wpAny_bind (cm (j + 1) (argBest up j) v b0 _ _ _ pv hP ?_))))
      refine wpAny_bind (wpAny_holding (wpAny_truthy_bool (wpAny_bind (wpAny_letGo (wpAny_pure ?_)))))
      cases eb : up (j + 1) (argBest up j) with
      | true =>
        simp only [if_true]
        refine wpAny_bind (wpAny_updateSeq hZ2 rfl (wpAny_bind (wpAny_letGo ?_)))
        rw [nm]
        refine wpAny_pure ⟨plainId_quiet PySem.F.plain_max_loop _, maxd_run W up cm Z nZ kw k (j + 1) _ v _ (by omega) (W.frame _ _ _ st2 fun x hx o e => ?_) (by simp only [argBest, eb, if_true]; exact pv) (Heap.get?_update_self _ hZ2 rfl) fun v3 h3 t3 p3 kp3 => ?_⟩
        · exact (Heap.get?_update_other _ _ (fun z : Z = x => nZ (by rw [z]; exact hx))).trans e
        · exact q v3 h3 t3 p3 fun x o xw xz e => kp3 x o xw xz ((Heap.get?_update_other _ _ (fun z => xz z.symm)).trans (kp x o xw e))
      | false =>
        simp only [Bool.false_eq_true, if_false]
        refine wpAny_bind (wpAny_letGo ?_)
        rw [nm]
        refine wpAny_pure ⟨plainId_quiet PySem.F.plain_max_loop _, maxd_run W up cm Z nZ kw k (j + 1) _ b0 c (by omega) st2 (by simp only [argBest, eb, Bool.false_eq_true, if_false]; exact hP) hZ2 fun v3 h3 t3 p3 kp3 => ?_⟩
        exact q v3 h3 t3 p3 fun x o xw xz e => kp3 x o xw xz (kp x o xw e))
/-- its first turn -/
theorem maxd_start (W : Walks prog w A.in1 I fp wr n P St) (up : Nat → Nat → Bool) (cm : CmpOf prog w A.in1 .Gt P up) (Z : Addr) (nZ : Z ∉ fp) (d : Value) {s : Shared} {c : Nat} (st : St 0 s.heap) (hZ : s.heap.get? Z = some { cls := .type "list", dict := none, data := .seq #[] c, slots := #[] })
    (q0 : n = 0 → ∀ h2 t2, (∀ x o, x ∉ wr → x ≠ Z → s.heap.get? x = some o → h2.get? x = some o) → R (.ok (.ret d)) { s with heap := h2, toks := t2 })
    (q : 0 < n → ∀ v h2 t2, P (argBest up (n - 1)) v → (∀ x o, x ∉ wr → x ≠ Z → s.heap.get? x = some o → h2.get? x = some o) → R (.ok (.ret v)) { s with heap := h2, toks := t2 }) :
    codeAny (model prog w) A (.builtin "max.loop" ⟨[.ref I, .none, .ref Z], [(Str.ofString "default", d)]⟩) R s := by
  have nw : Z ∉ wr := fun z => nZ (W.sub _ z)
  have nm : (toString "max" ++ toString ".loop" : String) = "max.loop" := by decide
  refine codeAny_builtin PySem.F.entry_max_loop (by
    rw [Around.under_plainId PySem.F.plain_max_loop _]
    show wpAny _ A.in1 (seqItems? (.ref Z) >>= _) _ _ s
    refine wpAny_bind (wpAny_seqItems hZ rfl ?_)
    show wpAny _ A.in1 (tryCatch (pyNext (.ref I)) _ >>= _) _ _ s
    rcases Nat.eq_zero_or_pos n with n0 | n0
    · refine wpAny_bind (wpAny_tryCatch (W.done s _ _ (by rw [n0]; exact st) fun h2 t2 kp => ?_))
      show wpAny _ A.in1 (rule _ >>= _) _ _ _
      exact wpAny_bind (wpAny_rule (wpAny_pure (q0 n0 h2 t2 fun x o xw _ e => kp x o xw e)))
    · refine wpAny_bind (wpAny_tryCatch (W.item 0 s _ _ n0 st fun v h2 t2 pv st2 kp => ?_))
      have hZ2 := kp Z _ nw hZ
      show wpAny _ A.in1 (updateSeq Z (fun _ => #[v, v]) >>= _) _ _ _
      refine wpAny_bind (wpAny_updateSeq hZ2 rfl ?_)
      rw [nm]
      refine wpAny_pure ⟨plainId_quiet PySem.F.plain_max_loop _, maxd_run W up cm Z nZ _ (n - 1) 0 _ v _ (by omega) (W.frame _ _ _ st2 fun x hx o e => ?_) pv (Heap.get?_update_self _ hZ2 rfl) fun v3 h3 t3 p3 kp3 => ?_⟩
      · exact (Heap.get?_update_other _ _ (fun z : Z = x => nZ (by rw [z]; exact hx))).trans e
      · exact q n0 v3 h3 t3 p3 fun x o xw xz e => kp3 x o xw xz ((Heap.get?_update_other _ _ (fun z => xz z.symm)).trans (kp x o xw e)))
end
section
variable {prog : Program} {w : World} {A : Around} {E : Value → Shared → Prop} {s : Shared} {l : Addr} {xs : Array (Int × Tok)}
theorem maxd_args (a d : Value) : argsOk "max" ⟨[a], [(Str.ofString "default", d)]⟩ := by
  unfold argsOk
  kernel_rfl
theorem maxd_call {d : Value} {Q : Value → Shared → Prop} (hh : A.handled = none) (hl : s.heap.IsList l (intItems xs)) (q0 : xs.size = 0 → ∀ h2 t2, (∀ b o, s.heap.get? b = some o → h2.get? b = some o) → Q d { s with heap := h2, toks := t2 })
    (q : 0 < xs.size → ∀ v h2 t2, (intItems xs)[argBest (fun i j => decide (numAt xs i > numAt xs j)) (xs.size - 1)]? = some v → (∀ b o, s.heap.get? b = some o → h2.get? b = some o) → Q v { s with heap := h2, toks := t2 }) :
    wpAny (model prog w) A (call (.builtin "max") [.ref l] [(Str.ofString "default", d)]) Q E s := by
  have nm : (toString "max" ++ toString ".loop" : String) = "max.loop" := by decide
  refine PyProof.Rows.kmb_tree PySem.F.kind_max PySem.F.plain_max PySem.F.entry_max (maxd_args _ _) ?_
  show wpAny _ A.in1 (Builtin.Builtins.bindParams "max" ["key", "default"] 0 ⟨[], [(Str.ofString "default", d)]⟩ >>= _) _ _ s
  refine wpAny_bind (wpAny_of_eq (show Builtin.Builtins.bindParams "max" ["key", "default"] 0 ⟨[], [(Str.ofString "default", d)]⟩ = pure [none, some d] from rfl) ?_)
  refine wpAny_bind (wpAny_pure (wpAny_bind (iter_intList hl fun s2 e st hfp ne => ?_)))
  subst e
  refine wpAny_bind (wpAny_newObj_type ?_)
  have W := Walks.list (prog := prog) (w := w) (A := A.in1) hh s.heap.objs.size l ne (intItems xs)
  have hsz : (intItems xs).size = xs.size := by simp [intItems]
  rw [nm]
  have nS := fun hm => Nat.lt_irrefl _ (hfp _ hm)
  refine wpAny_pure ⟨plainId_quiet PySem.F.plain_max_loop _, ?_⟩
  refine maxd_start (c := 0) W (fun i j => decide (numAt xs i > numAt xs j)) (CmpOf.ints_gt (numAt xs) (fun _ _ => intItems_at)) _ nS d ?_ ?_ (fun n0 h2 t2 kp => ?_) fun n0 v h2 t2 p kp => ?_
  · exact W.frame _ _ _ st fun b _ o e => Heap.get?_push_of_some _ e
  · exact Heap.get?_push_size _ rfl
  · exact q0 (hsz ▸ n0) h2 t2 (old_kept fun b o nb e => kp b o nb (Nat.ne_of_lt (Heap.lt_size e)) (Heap.get?_push_of_some _ e))
  · rw [hsz] at n0 p
    exact q n0 v h2 t2 p (old_kept fun b o nb e => kp b o nb (Nat.ne_of_lt (Heap.lt_size e)) (Heap.get?_push_of_some _ e))
end

section
variable {prog : Program} {w : World} {A : Around} {R : Result → Shared → Prop} {I : Addr} {fp wr : List Addr} {n : Nat} {P : Nat → Value → Prop} {St : Nat → Heap → Prop}
/-- the turns of min with keywords, from the place behind j on -/
theorem mind_run (W : Walks prog w A.in1 I fp wr n P St) (up : Nat → Nat → Bool) (cm : CmpOf prog w A.in1 .Lt P up) (Z : Addr) (nZ : Z ∉ fp) (kw : List (Str × Value)) : ∀ (k j : Nat) (s : Shared) (b0 : Value) (c : Nat), n = j + 1 + k → St (j + 1) s.heap → P (argBest up j) b0 →
    s.heap.get? Z = some { cls := .type "list", dict := none, data := .seq #[b0, b0] c, slots := #[] } → (∀ v h2 t2, P (argBest up (n - 1)) v → (∀ x o, x ∉ wr → x ≠ Z → s.heap.get? x = some o → h2.get? x = some o) → R (.ok (.ret v)) { s with heap := h2, toks := t2 }) →
    codeAny (model prog w) A (.builtin "min.loop" ⟨[.ref I, .none, .ref Z], kw⟩) R s
  | 0, j, s, b0, c, hn, st, hP, hZ, q => by
    have nw : Z ∉ wr := fun z => nZ (W.sub _ z)
    have hin : j + 1 = n := hn.symm
    refine codeAny_builtin PySem.F.entry_min_loop (by
      rw [Around.under_plainId PySem.F.plain_min_loop _]
      show wpAny _ A.in1 (seqItems? (.ref Z) >>= _) _ _ s
      refine wpAny_bind (wpAny_seqItems hZ rfl ?_)
      show wpAny _ A.in1 (tryCatch (pyNext (.ref I)) _ >>= _) _ _ s
      refine wpAny_bind (wpAny_tryCatch (W.done s _ _ (by rw [← hin]; exact st) fun h2 t2 kp => ?_))
      have hZ2 := kp Z _ nw hZ
      show wpAny _ A.in1 (updateSeq Z (fun _ => #[]) >>= _) _ _ _
      refine wpAny_bind (wpAny_updateSeq hZ2 rfl (wpAny_bind (wpAny_letGo (wpAny_pure ?_))))
      exact q b0 _ t2 (by rw [show n - 1 = j by omega]; exact hP) fun x o xw xz e => (Heap.get?_update_other _ _ (fun z => xz z.symm)).trans (kp x o xw e))
  | k + 1, j, s, b0, c, hn, st, hP, hZ, q => by
    have nw : Z ∉ wr := fun z => nZ (W.sub _ z)
    have nm : (toString "min" ++ toString ".loop" : String) = "min.loop" := by decide
    refine codeAny_builtin PySem.F.entry_min_loop (by
      rw [Around.under_plainId PySem.F.plain_min_loop _]
      show wpAny _ A.in1 (seqItems? (.ref Z) >>= _) _ _ s
      refine wpAny_bind (wpAny_seqItems hZ rfl ?_)
      show wpAny _ A.in1 (tryCatch (pyNext (.ref I)) _ >>= _) _ _ s
      refine wpAny_bind (wpAny_tryCatch (W.item (j + 1) s _ _ (by omega) st fun v h2 t2 pv st2 kp => ?_))
      have hZ2 := kp Z _ nw hZ
      show wpAny _ A.in1 (tryCatch (holding [v, v] (richCompare .Lt v b0 >>= _)) _ >>= _) _ _ _
      refine wpAny_bind (wpAny_tryCatch (wpAny_holding (wpAny_bind (cm (j + 1) (argBest up j) v b0 _ _ _ pv hP ?_))))
      refine wpAny_bind (wpAny_holding (wpAny_truthy_bool (wpAny_bind (wpAny_letGo (wpAny_pure ?_)))))
      cases eb : up (j + 1) (argBest up j) with
      | true =>
        simp only [if_true]
        refine wpAny_bind (wpAny_updateSeq hZ2 rfl (wpAny_bind (wpAny_letGo ?_)))
        rw [nm]
        refine wpAny_pure ⟨plainId_quiet PySem.F.plain_min_loop _, mind_run W up cm Z nZ kw k (j + 1) _ v _ (by omega) (W.frame _ _ _ st2 fun x hx o e => ?_) (by simp only [argBest, eb, if_true]; exact pv) (Heap.get?_update_self _ hZ2 rfl) fun v3 h3 t3 p3 kp3 => ?_⟩
        · exact (Heap.get?_update_other _ _ (fun z : Z = x => nZ (by rw [z]; exact hx))).trans e
        · exact q v3 h3 t3 p3 fun x o xw xz e => kp3 x o xw xz ((Heap.get?_update_other _ _ (fun z => xz z.symm)).trans (kp x o xw e))
      | false =>
        simp only [Bool.false_eq_true, if_false]
        refine wpAny_bind (wpAny_letGo ?_)
        rw [nm]
        refine wpAny_pure ⟨plainId_quiet PySem.F.plain_min_loop _, mind_run W up cm Z nZ kw k (j + 1) _ b0 c (by omega) st2 (by simp only [argBest, eb, Bool.false_eq_true, if_false]; exact hP) hZ2 fun v3 h3 t3 p3 kp3 => ?_⟩
        exact q v3 h3 t3 p3 fun x o xw xz e => kp3 x o xw xz (kp x o xw e))
/-- its first turn -/
theorem mind_start (W : Walks prog w A.in1 I fp wr n P St) (up : Nat → Nat → Bool) (cm : CmpOf prog w A.in1 .Lt P up) (Z : Addr) (nZ : Z ∉ fp) (d : Value) {s : Shared} {c : Nat} (st : St 0 s.heap) (hZ : s.heap.get? Z = some { cls := .type "list", dict := none, data := .seq #[] c, slots := #[] })
    (q0 : n = 0 → ∀ h2 t2, (∀ x o, x ∉ wr → x ≠ Z → s.heap.get? x = some o → h2.get? x = some o) → R (.ok (.ret d)) { s with heap := h2, toks := t2 })
    (q : 0 < n → ∀ v h2 t2, P (argBest up (n - 1)) v → (∀ x o, x ∉ wr → x ≠ Z → s.heap.get? x = some o → h2.get? x = some o) → R (.ok (.ret v)) { s with heap := h2, toks := t2 }) :
    codeAny (model prog w) A (.builtin "min.loop" ⟨[.ref I, .none, .ref Z], [(Str.ofString "default", d)]⟩) R s := by
  have nw : Z ∉ wr := fun z => nZ (W.sub _ z)
  have nm : (toString "min" ++ toString ".loop" : String) = "min.loop" := by decide
  refine codeAny_builtin PySem.F.entry_min_loop (by
    rw [Around.under_plainId PySem.F.plain_min_loop _]
    show wpAny _ A.in1 (seqItems? (.ref Z) >>= _) _ _ s
    refine wpAny_bind (wpAny_seqItems hZ rfl ?_)
    show wpAny _ A.in1 (tryCatch (pyNext (.ref I)) _ >>= _) _ _ s
    rcases Nat.eq_zero_or_pos n with n0 | n0
    · refine wpAny_bind (wpAny_tryCatch (W.done s _ _ (by rw [n0]; exact st) fun h2 t2 kp => ?_))
      show wpAny _ A.in1 (rule _ >>= _) _ _ _
      exact wpAny_bind (wpAny_rule (wpAny_pure (q0 n0 h2 t2 fun x o xw _ e => kp x o xw e)))
    · refine wpAny_bind (wpAny_tryCatch (W.item 0 s _ _ n0 st fun v h2 t2 pv st2 kp => ?_))
      have hZ2 := kp Z _ nw hZ
      show wpAny _ A.in1 (updateSeq Z (fun _ => #[v, v]) >>= _) _ _ _
      refine wpAny_bind (wpAny_updateSeq hZ2 rfl ?_)
      rw [nm]
      refine wpAny_pure ⟨plainId_quiet PySem.F.plain_min_loop _, mind_run W up cm Z nZ _ (n - 1) 0 _ v _ (by omega) (W.frame _ _ _ st2 fun x hx o e => ?_) pv (Heap.get?_update_self _ hZ2 rfl) fun v3 h3 t3 p3 kp3 => ?_⟩
      · exact (Heap.get?_update_other _ _ (fun z : Z = x => nZ (by rw [z]; exact hx))).trans e
      · exact q n0 v3 h3 t3 p3 fun x o xw xz e => kp3 x o xw xz ((Heap.get?_update_other _ _ (fun z => xz z.symm)).trans (kp x o xw e)))
end
section
variable {prog : Program} {w : World} {A : Around} {E : Value → Shared → Prop} {s : Shared} {l : Addr} {xs : Array (Int × Tok)}
theorem mind_args (a d : Value) : argsOk "min" ⟨[a], [(Str.ofString "default", d)]⟩ := by
  unfold argsOk
  kernel_rfl
theorem mind_call {d : Value} {Q : Value → Shared → Prop} (hh : A.handled = none) (hl : s.heap.IsList l (intItems xs)) (q0 : xs.size = 0 → ∀ h2 t2, (∀ b o, s.heap.get? b = some o → h2.get? b = some o) → Q d { s with heap := h2, toks := t2 })
    (q : 0 < xs.size → ∀ v h2 t2, (intItems xs)[argBest (fun i j => decide (numAt xs i < numAt xs j)) (xs.size - 1)]? = some v → (∀ b o, s.heap.get? b = some o → h2.get? b = some o) → Q v { s with heap := h2, toks := t2 }) :
    wpAny (model prog w) A (call (.builtin "min") [.ref l] [(Str.ofString "default", d)]) Q E s := by
  have nm : (toString "min" ++ toString ".loop" : String) = "min.loop" := by decide
  refine PyProof.Rows.kmb_tree PySem.F.kind_min PySem.F.plain_min PySem.F.entry_min (mind_args _ _) ?_
  show wpAny _ A.in1 (Builtin.Builtins.bindParams "min" ["key", "default"] 0 ⟨[], [(Str.ofString "default", d)]⟩ >>= _) _ _ s
  refine wpAny_bind (wpAny_of_eq (show Builtin.Builtins.bindParams "min" ["key", "default"] 0 ⟨[], [(Str.ofString "default", d)]⟩ = pure [none, some d] from rfl) ?_)
  refine wpAny_bind (wpAny_pure (wpAny_bind (iter_intList hl fun s2 e st hfp ne => ?_)))
  subst e
  refine wpAny_bind (wpAny_newObj_type ?_)
  have W := Walks.list (prog := prog) (w := w) (A := A.in1) hh s.heap.objs.size l ne (intItems xs)
  have hsz : (intItems xs).size = xs.size := by simp [intItems]
  rw [nm]
  have nS := fun hm => Nat.lt_irrefl _ (hfp _ hm)
  refine wpAny_pure ⟨plainId_quiet PySem.F.plain_min_loop _, ?_⟩
  refine mind_start (c := 0) W (fun i j => decide (numAt xs i < numAt xs j)) (CmpOf.ints_lt (numAt xs) (fun _ _ => intItems_at)) _ nS d ?_ ?_ (fun n0 h2 t2 kp => ?_) fun n0 v h2 t2 p kp => ?_
  · exact W.frame _ _ _ st fun b _ o e => Heap.get?_push_of_some _ e
  · exact Heap.get?_push_size _ rfl
  · exact q0 (hsz ▸ n0) h2 t2 (old_kept fun b o nb e => kp b o nb (Nat.ne_of_lt (Heap.lt_size e)) (Heap.get?_push_of_some _ e))
  · rw [hsz] at n0 p
    exact q n0 v h2 t2 p (old_kept fun b o nb e => kp b o nb (Nat.ne_of_lt (Heap.lt_size e)) (Heap.get?_push_of_some _ e))
end
end Toy0
namespace Toy
open PySem L2
section
open PyProof.Rows

/-- max(xs, default=d) of a list of ints -/
def rmaxd (K : PySem.W.Frag) : List V → List V → Hp → VK → Prop := fun vs zs H Q => ∃ (a : Addr) (ns : List Int) (d : V), vs = [V.ref a] ∧ zs = [d] ∧ SqL K H a (ns.map V.int) ∧ (ns = [] → Q d H) ∧ ∀ m, m ∈ ns → (∀ y, y ∈ ns → y ≤ m) → Q (.int m) H
theorem cr_maxd {X : Cx} (hc : X.calm = true) : CallRK X (.builtin "max") [Str.ofString "default"] (rmaxd X.K) := by
  intro pins s σ H vs zs us wz Q I r rz h
  obtain ⟨a, ns, d, rfl, rfl, hs, q0, q⟩ := h
  obtain ⟨its, rv, hl, _⟩ := I.list hs
  obtain rfl := Vals.ref1 r
  obtain ⟨w1, rfl, e1⟩ := vals1 rz
  obtain ⟨xs, e⟩ := rv.ints.allInts.items
  have hn : numsOf (intItems xs).toList = ns := by rw [← e]; exact rv.ints.numsOf
  rw [nums_intItems] at hn
  have hl2 := hl.isList
  rw [e] at hl2
  have hlen : ns.length = xs.size := by rw [← hn, List.length_map, Array.length_toList]
  refine Toy0.maxd_call (I.ok.hd hc) hl2 (fun n0 h2 t2 kp => ?_) fun n0 v h2 t2 hv kp => ?_
  · exact ⟨d, H, I.kept kp, e1, q0 (List.eq_nil_of_length_eq_zero (by omega))⟩
  · obtain ⟨t, rfl⟩ := intItems_at hv
    obtain ⟨h1, h3⟩ := argBest_gt (numAt xs) (xs.size - 1)
    refine ⟨.int _, H, I.kept kp, ⟨_, rfl⟩, q _ ?_ fun y hy => ?_⟩
    · rw [← hn, numAt_eq]
      exact PySem.getD_mem (by rw [List.length_map, Array.length_toList]; omega)
    · rw [← hn] at hy
      obtain ⟨j, hj, rfl⟩ := mem_getD hy
      rw [List.length_map, Array.length_toList] at hj
      have := h3 j (by omega)
      rwa [← numAt_eq]

/-- min(xs, default=d) of a list of ints -/
def rmind (K : PySem.W.Frag) : List V → List V → Hp → VK → Prop := fun vs zs H Q => ∃ (a : Addr) (ns : List Int) (d : V), vs = [V.ref a] ∧ zs = [d] ∧ SqL K H a (ns.map V.int) ∧ (ns = [] → Q d H) ∧ ∀ m, m ∈ ns → (∀ y, y ∈ ns → m ≤ y) → Q (.int m) H
theorem cr_mind {X : Cx} (hc : X.calm = true) : CallRK X (.builtin "min") [Str.ofString "default"] (rmind X.K) := by
  intro pins s σ H vs zs us wz Q I r rz h
  obtain ⟨a, ns, d, rfl, rfl, hs, q0, q⟩ := h
  obtain ⟨its, rv, hl, _⟩ := I.list hs
  obtain rfl := Vals.ref1 r
  obtain ⟨w1, rfl, e1⟩ := vals1 rz
  obtain ⟨xs, e⟩ := rv.ints.allInts.items
  have hn : numsOf (intItems xs).toList = ns := by rw [← e]; exact rv.ints.numsOf
  rw [nums_intItems] at hn
  have hl2 := hl.isList
  rw [e] at hl2
  have hlen : ns.length = xs.size := by rw [← hn, List.length_map, Array.length_toList]
  refine Toy0.mind_call (I.ok.hd hc) hl2 (fun n0 h2 t2 kp => ?_) fun n0 v h2 t2 hv kp => ?_
  · exact ⟨d, H, I.kept kp, e1, q0 (List.eq_nil_of_length_eq_zero (by omega))⟩
  · obtain ⟨t, rfl⟩ := intItems_at hv
    obtain ⟨h1, h3⟩ := argBest_lt (numAt xs) (xs.size - 1)
    refine ⟨.int _, H, I.kept kp, ⟨_, rfl⟩, q _ ?_ fun y hy => ?_⟩
    · rw [← hn, numAt_eq]
      exact PySem.getD_mem (by rw [List.length_map, Array.length_toList]; omega)
    · rw [← hn] at hy
      obtain ⟨j, hj, rfl⟩ := mem_getD hy
      rw [List.length_map, Array.length_toList] at hj
      have := h3 j (by omega)
      rwa [← numAt_eq]
end

section
open PyProof.Rows
/-! ### own rules: set(list of ints), k in that set; enumerate(a tuple) -/
theorem any_firstMet (zs : List Int) (k : Int) : (PyProof.Rows.firstMet (fun i => zs.getD i 0) zs.length).any (· == k) = decide (k ∈ zs) := by
  rw [PyProof.Rows.firstMet_any, Bool.eq_iff_iff, List.any_eq_true, decide_eq_true_iff]
  constructor
  · rintro ⟨y, hy, e⟩
    obtain ⟨i, hi, rfl⟩ := List.mem_map.mp hy
    have hi' : i < zs.length := List.mem_range.mp hi
    have e' : zs.getD i 0 = k := by simpa using e
    rw [← e', List.getD_eq_getElem?_getD, List.getElem?_eq_getElem hi']
    exact List.getElem_mem hi'
  · intro hk
    obtain ⟨i, hi, e⟩ := List.getElem_of_mem hk
    refine ⟨k, List.mem_map.mpr ⟨i, List.mem_range.mpr hi, ?_⟩, by simp⟩
    show zs.getD i 0 = k
    rw [List.getD_eq_getElem?_getD, List.getElem?_eq_getElem hi]
    exact e
/-- set(xs), xs a list of ints -/
def rSetOfL (K : PySem.W.Frag) : List V → Hp → VK → Prop := fun vs H Q => ∃ (l : Addr) (zs : List Int), vs = [V.ref l] ∧ SqL K H l (zs.map V.int) ∧ zs.length ≤ 1000 ∧
  ∀ (p : Addr) (n : Nat), H p = Option.none → Q (.ref p) (upd H p (.set (fun k => decide (k ∈ zs)) n))
theorem cr_set {X : Cx} (calm : X.calm = true) : CallR X (.type "set") (rSetOfL X.K) := by
  intro pins sh σ H vs us Q I rel hyp
  obtain ⟨l, zs, rfl, hl, few, q⟩ := hyp
  rw [Vals.ref1 rel]
  obtain ⟨its, rv, pl, _⟩ := I.list hl
  have isI := ints_of_vals rv
  have same : its.toArray.size = zs.length := by
    have e := rv.length
    rw [List.length_map] at e
    rw [List.size_toArray]
    exact e.symm
  refine PySem.call_set_list (items := its.toArray) (ns := zs) (I.ok.hd calm) pl.isList (by simpa using isI) (by rw [same]; unfold scanBound; omega) fun h' tk S kp => ?_
  have fresh : H sh.heap.objs.size = Option.none := I.hok.fresh (Nat.le_refl _)
  have e : (fun k => (PyProof.Rows.firstMet (fun i => zs.getD i 0) its.toArray.size).any (· == k)) = fun k => decide (k ∈ zs) := by
    funext k
    rw [same]
    exact any_firstMet zs k
  rw [e] at S
  exact ⟨.ref sh.heap.objs.size, upd H sh.heap.objs.size (.set (fun k => decide (k ∈ zs)) _), I.laid (t' := tk) (fun b o ho => kp b o (Heap.lt_size ho) ho) (Nat.le_refl _) S, rfl, q _ _ fresh⟩
/-- k in such a set -/
def rInSt (neg : Bool) : R2 := fun x y H Q => ∃ (k : Int) (b : Addr) (S : Int → Bool) (n : Nat), x = V.int k ∧ y = V.ref b ∧ H b = some (.set S n) ∧ Q (.bl (if neg then !S k else S k)) H
theorem op_in_set {X : Cx} : OpR X (compareOp .In) (rInSt false) := by
  intro pins sh σ H x y v u Q I r1 r2 hyp
  obtain ⟨k, b, S, n, rfl, rfl, hb, q⟩ := hyp
  obtain ⟨tk, rfl⟩ := r1
  cases r2
  have hS : sh.heap.SetOf (intKind X.prog X.w) b S n := I.hok b _ hb
  exact PySem.wpAny_inSet_of (PySem.intKind_is _ _ _ _) rfl hS ⟨.bl (S k), H, I.tok _, rfl, q⟩
/-- the pairs of enumerate over the tuple at a -/
def Itu (K : PySem.W.Frag) (a : Addr) : It where
  go i H := ∃ (ys : List V) (y : V), SqT K H a ys ∧ ys[i]? = some y
  yld i H v H' := ∃ (p : Addr) (y : V), v = .ref p ∧ H p = Option.none ∧ H' = upd H p (.tup [.int (i : Nat), y]) ∧ ∀ ys, SqT K H a ys → ys[i]? = some y
  stop i H := ∃ ys : List V, SqT K H a ys ∧ ys.length = i
theorem turn_enumT {P : Program} {w : World} {K : PySem.W.Frag} {elts : List Expr} {kk : Nat} {tpos : Pos} (a en it : Addr) (na : a ≠ it) (ne : en ≠ it) (nea : en ≠ a) :
    Turn P w K (.Tuple elts kk tpos) (Itu K a) [en, it] en (fun i h => (∃ old, IsEnum h en it ((i : Nat) : Int) old) ∧ h.IsTupleIter it a i) where
  mem := List.mem_cons_self
  obj := by
    rintro i h ⟨⟨old, he⟩, ⟨o, ho, hc, hd⟩⟩ b hb
    rcases List.mem_cons.mp hb with rfl | hb
    · exact ⟨_, he, fun v z => nomatch z⟩
    · rw [List.mem_singleton.mp hb]
      exact ⟨o, ho, fun v z => by rw [hd] at z; cases z⟩
  keep := by
    rintro i h h' ⟨⟨old, he⟩, hi⟩ kp
    exact ⟨⟨old, kp en List.mem_cons_self _ he⟩, hi.at fun o z => kp it (List.mem_cons_of_mem _ List.mem_cons_self) o z⟩
  item := by
    intro X hP hw hK calm i pins sh σ H E I fp st hg
    subst hP hw hK
    obtain ⟨⟨old, he⟩, hit⟩ := st
    obtain ⟨ys, y, hy, hix⟩ := hg
    obtain ⟨its, rv, tp, _⟩ := I.tuple hy
    obtain ⟨u, hu, ru⟩ := rv.get hix
    have hT : sh.heap.IsTuple a its.toArray := tp
    have hlen : i < its.toArray.size := by
      rw [List.size_toArray]
      exact (List.getElem?_eq_some_iff.mp hu).1
    have len : en < sh.heap.objs.size := Heap.lt_size he
    have lit : it < sh.heap.objs.size := by
      obtain ⟨_, z, _⟩ := hit
      exact Heap.lt_size z
    refine wpAny_pyNext_enum_itemD (Draws.tuple (by simp [I.ok.hd calm]) it a na its.toArray) he ⟨hit, hT⟩ hlen ne (by simp [ne, nea]) fun x h' tk hx ho hst hnew hsz kp => ?_
    have ex : x = u := by
      rw [List.getElem?_toArray, hu] at hx
      exact (Option.some.inj hx).symm
    subst ex
    refine ⟨_, rfl, wpAny_letOwnedTupleGo_enum (s := { sh with heap := h', toks := tk + 1 }) ho fun h2 he2 sb => ?_⟩
    have new2 : h2.get? sh.heap.objs.size = some { cls := .type "tuple", data := .seq #[.int i tk, x] } := (sb.2 _ (Nat.ne_of_gt len)).trans hnew
    have okN : ObjOk X.prog X.w (upd H sh.heap.objs.size (.tup [.int (i : Nat), y])) h2 sh.heap.objs.size (.tup [.int (i : Nat), y]) := by
      refine ⟨(by show 2 ≤ sizeLine; decide), [.int i tk, x], .cons ⟨_, rfl⟩ (.cons ru .nil), ?_⟩
      exact ⟨_, new2, rfl, _, rfl⟩
    have I2 : Inv X pins σ (upd H sh.heap.objs.size (.tup [.int (i : Nat), y])) { sh with heap := h2, toks := tk + 1 } := by
      refine I.turnedNew (ch := [en, it]) (fun b ob hb z => ?_) fp (Nat.le_refl _) okN
      have b1 : b ≠ en := fun q => hb (by rw [q]; exact List.mem_cons_self)
      have b2 : b ≠ it := fun q => hb (by rw [q]; exact List.mem_cons_of_mem _ List.mem_cons_self)
      exact (sb.2 b b1).trans (kp b ob b1 b2 z)
    refine ⟨.ref sh.heap.objs.size, _, I2, rfl, ⟨_, y, rfl, I.hok.fresh (Nat.le_refl _), rfl, fun zs hz => ?_⟩, ⟨⟨x, ?_⟩, hst.1.at fun o z => (sb.2 it (Ne.symm ne)).trans z⟩, fun b hb => ?_⟩
    · rw [I.tuple_inj hz hy]
      exact hix
    · have e1 : ((i + 1 : Nat) : Int) = (i : Int) + 1 := by omega
      rw [e1]
      exact he2
    · have lb : b < sh.heap.objs.size := by
        rcases List.mem_cons.mp hb with rfl | hb
        · exact len
        · rw [List.mem_singleton.mp hb]
          exact lit
      rw [upd_ne (Nat.ne_of_lt lb)]
      exact (fp b hb).1
  done := by
    intro X hP hw hK calm i pins sh σ H E I fp st hg
    subst hP hw hK
    obtain ⟨⟨old, he⟩, hit⟩ := st
    obtain ⟨ys, hy, rfl⟩ := hg
    obtain ⟨its, rv, tp, _⟩ := I.tuple hy
    have hT : sh.heap.IsTuple a its.toArray := tp
    have e : ys.length = its.toArray.size := by
      rw [List.size_toArray]
      exact rv.length
    rw [e] at hit
    obtain ⟨g0, g1, g2, g3, g4, g5⟩ := fp it (List.mem_cons_of_mem _ List.mem_cons_self)
    exact wpAny_pyNext_enum_endD (Draws.tuple (by simp [I.ok.hd calm]) it a na its.toArray) he ⟨hit, hT⟩ fun h' eb => ⟨rfl, I.turned (t' := sh.toks) (fun b o hb z => eb b o hb z) g0 g1 g3 g4 g5⟩
  self := by
    rintro A i s Q E ⟨⟨_, he⟩, _⟩ h
    exact wpAny_pyIter_enum he h
theorem meets_enum1 {v : Value} {o : Obj} {Z : Heap → Prop} (B : Begins v o Z) :
    Meets (Builtin.«enumerate.__new__» ⟨[.type "enumerate", v], []⟩) (fun _ R s => Z s.heap ∧
      R (.ok (.ret (.ref (s.heap.push o).objs.size))) { s with heap := (s.heap.push o).push { cls := .type "enumerate", data := .fields #[.none, .bool false, .ref s.heap.objs.size, rawInt 0, .none, .none] } }) :=
  .of_wp fun prog w A R s hyp => by
    obtain ⟨hp, g, d, tk, os⟩ := s
    obtain ⟨hz, hyp⟩ := hyp
    have sube := sub_enumerate
    have step : ∀ {A' : Around} {E' : Value → Shared → Prop} {Q' : Value → Shared → Prop}, Q' (.ref hp.objs.size) ⟨hp.push o, g, d, tk, os⟩ → wpAny (model prog w) A' (pyIter v) Q' E' ⟨hp, g, d, tk, os⟩ :=
      fun z => B.iter prog w _ _ ⟨hp, g, d, tk, os⟩ _ hz z
    wp_walk using step
    refine wpAny_stack_any fun st => wpAny_pure ?_
    split
    · rename_i c _ _ _ _ _
      cases (c == Value.type "enumerate") <;> (wp_walk using step; exact ⟨_, rfl, hyp⟩)
    · wp_walk using step
      exact ⟨_, rfl, hyp⟩
theorem call_enum1 {prog : Program} {w : World} {A : Around} {E : Value → Shared → Prop} {s : Shared} {v : Value} {o : Obj} {Z : Heap → Prop} {Q : Value → Shared → Prop} (B : Begins v o Z) (hz : Z s.heap)
    (fin : ∀ h', IsEnum h' (s.heap.objs.size + 1) s.heap.objs.size 0 .none → h'.get? s.heap.objs.size = some o → (∀ b u, s.heap.get? b = some u → h'.get? b = some u) → Q (.ref (s.heap.objs.size + 1)) { s with heap := h' }) :
    wpAny (model prog w) A (call (.type "enumerate") [v]) Q E s := by
  have size1 : (s.heap.push o).objs.size = s.heap.objs.size + 1 := Heap.size_push ..
  refine callType_new F.called_enumerate (by decide) (F.typeCall_enumerate_1 _) (F.newCall_enumerate_1 _) (fun obj => F.args_object_init_2 obj _) F.entry_enumerate_new (meets_enum1 B) ⟨hz, ?_⟩
  rw [size1]
  have isE : IsEnum ((s.heap.push o).push { cls := .type "enumerate", data := .fields #[.none, .bool false, .ref s.heap.objs.size, rawInt 0, .none, .none] }) (s.heap.objs.size + 1) s.heap.objs.size 0 .none := by
    have z := Heap.get?_push_size (s.heap.push o) (o := { cls := .type "enumerate", data := .fields #[.none, .bool false, .ref s.heap.objs.size, rawInt 0, .none, .none] }) rfl
    rwa [size1] at z
  exact ⟨⟨_, isE, rfl⟩, fin _ isE (Heap.get?_push_of_some _ (Heap.get?_push_size _ B.free)) fun b u z => Heap.get?_push_of_some _ (Heap.get?_push_of_some _ z)⟩
def iEnumT (K : PySem.W.Frag) (ta : TA) : TI := fun σ H R => ta σ H fun vs H1 => ∃ (a : Addr) (ys : List V), vs = [.ref a] ∧ SqT K H1 a ys ∧ R (Itu K a) H1
theorem pi_enumT {X : Cx} {e : Expr} {ta : TA} {p pos tpos : Pos} {elts : List Expr} {kk : Nat} (gl : Gl X "enumerate") (no : X.mg "enumerate" = none) (pa : PA X [e] ta) (plain : starEach [e] X.env = [(false, eval e X.env)] := by rfl) :
    PI X (.Tuple elts kk tpos) (.Call (.Name "enumerate" p) [e] [] pos) (iEnumT X.K ta) := by
  constructor
  intro pins s σ H R I hyp
  refine PyProof.Rows.Call_ (ld_blt I gl no boot_enumerate (PyProof.Rows.callWith_type1 (thn (pa.run pos pins s σ H _ I hyp) fun us s1 got => ?_) plain rfl))
  obtain ⟨vs, H1, I1, rel, a, ys, rfl, hy, q⟩ := got
  rw [Vals.ref1 rel]
  obtain ⟨its, rv, tp, _⟩ := I1.tuple hy
  have hT : s1.heap.IsTuple a its.toArray := tp
  have la : a < s1.heap.objs.size := by
    obtain ⟨_, z, _⟩ := hT
    exact Heap.lt_size z
  refine call_enum1 (begins_tuple a its.toArray) hT fun h' isE hit kp => wpAny_pyIter_enum isE ?_
  have I2 : Inv X pins σ H1 { s1 with heap := h' } := I1.kept (t' := s1.toks) kp
  refine ⟨s1.heap.objs.size + 1, [s1.heap.objs.size + 1, s1.heap.objs.size], _, _, H1, rfl, I2, turn_enumT a (s1.heap.objs.size + 1) s1.heap.objs.size (Nat.ne_of_lt la) (Nat.succ_ne_self _) (Nat.ne_of_gt (Nat.lt_succ_of_lt la)), ⟨⟨.none, isE⟩, _, hit, rfl, rfl⟩, fun b hb => ?_, q⟩
  have le : s1.heap.objs.size ≤ b := by
    rcases List.mem_cons.mp hb with rfl | hb
    · exact Nat.le_succ _
    · rw [List.mem_singleton.mp hb]
      exact Nat.le_refl _
  exact I1.fpOk le (I1.hok.fresh le)
/-- the forms that one uses: a word by the turn -/
theorem for_enumT {K : PySem.W.Frag} {a : Addr} {ys : List V} {g : TG} {tb : TS} {D : Ends} {σ : L2.St} {H : Hp} (Pv : Nat → L2.St → Hp → Prop) (h0 : Pv 0 σ H) (src : ∀ i σ H, i ≤ ys.length → Pv i σ H → SqT K H a ys)
    (turn : ∀ i y σ H p, ys[i]? = some y → Pv i σ H → H p = Option.none → g (.ref p) σ (upd H p (.tup [.int (i : Nat), y])) fun σ2 H2 => tb { D with nx := Pv (i + 1), ct := Pv (i + 1), bk := D.nx } σ2 H2) (fin : ∀ σ H, Pv ys.length σ H → D.nx σ H) :
    ∃ W : Nat → Nat → L2.St → Hp → Prop, (∃ m, W 0 m σ H) ∧ ∀ i m σ H, W i m σ H →
      ((Itu K a).stop i H ∧ D.nx σ H) ∨ ((Itu K a).go i H ∧ ∃ N : L2.St → Hp → Prop, (∀ σ' H', N σ' H' → ∃ m', m' < m ∧ W (i + 1) m' σ' H') ∧ ∀ x H', (Itu K a).yld i H x H' → g x σ H' fun σ2 H2 => tb { D with nx := N, ct := N, bk := D.nx } σ2 H2) := by
  refine ⟨fun i m σ H => m + i = ys.length ∧ Pv i σ H, ⟨ys.length, Nat.add_zero _, h0⟩, ?_⟩
  rintro i m σ H ⟨em, pv⟩
  have s := src i σ H (by omega) pv
  rcases Nat.lt_or_ge i ys.length with lt | ge
  · refine .inr ⟨⟨ys, ys[i], s, List.getElem?_eq_getElem lt⟩, Pv (i + 1), fun σ' H' z => ⟨m - 1, by omega, by omega, z⟩, ?_⟩
    rintro x H' ⟨p, y, rfl, hp, rfl, hy⟩
    exact turn i y σ H p (hy ys s) pv hp
  · have e : i = ys.length := by omega
    subst e
    exact .inl ⟨⟨ys, s, rfl⟩, fin σ H pv⟩
theorem lc_enumT {K : PySem.W.Frag} {a : Addr} {ys : List V} {g : TG} {tt : TT} {te : TE} {vs : List Nat} {σ : L2.St} {H1 : Hp} {D : Addr} {Qd : Hp → Prop} (Pv : Nat → Hp → Prop) (h0 : Pv 0 (upd H1 D (.lst []))) (src : ∀ i H, i ≤ ys.length → Pv i H → SqT K H a ys)
    (turn : ∀ i y H p, ys[i]? = some y → Pv i H → H p = Option.none → g (.ref p) (wipe σ vs) (upd H p (.tup [.int (i : Nat), y])) fun σ2 H2 => wipe σ2 vs = wipe σ vs ∧ tt σ2 H2 fun b H3 =>
      if b = true then te σ2 H3 fun y H4 => ∃ acc, H4 D = some (.lst acc) ∧ acc.length < sizeLine ∧ Pv (i + 1) (upd H4 D (.lst (acc ++ [y]))) else Pv (i + 1) H3) (fin : ∀ H, Pv ys.length H → Qd H) :
    ∃ W : Nat → Nat → Hp → Prop, (∃ m, W 0 m (upd H1 D (.lst []))) ∧ ∀ i m H, W i m H →
      ((Itu K a).stop i H ∧ Qd H) ∨ ((Itu K a).go i H ∧ ∃ Nx : Hp → Prop, (∀ H', Nx H' → ∃ m', m' < m ∧ W (i + 1) m' H') ∧ ∀ x H', (Itu K a).yld i H x H' → g x (wipe σ vs) H' fun σ2 H2 => wipe σ2 vs = wipe σ vs ∧ tt σ2 H2 fun b H3 =>
        if b = true then te σ2 H3 fun y H4 => ∃ acc, H4 D = some (.lst acc) ∧ acc.length < sizeLine ∧ Nx (upd H4 D (.lst (acc ++ [y]))) else Nx H3) := by
  refine ⟨fun i m H => m + i = ys.length ∧ Pv i H, ⟨ys.length, Nat.add_zero _, h0⟩, ?_⟩
  rintro i m H ⟨em, pv⟩
  have s := src i H (by omega) pv
  rcases Nat.lt_or_ge i ys.length with lt | ge
  · refine .inr ⟨⟨ys, ys[i], s, List.getElem?_eq_getElem lt⟩, Pv (i + 1), fun H' z => ⟨m - 1, by omega, by omega, z⟩, ?_⟩
    rintro x H' ⟨p, y, rfl, hp, rfl, hy⟩
    exact turn i y H p (hy ys s) pv hp
  · have e : i = ys.length := by omega
    subst e
    exact .inl ⟨⟨ys, s, rfl⟩, fin H pv⟩
/-- sum(t), t a tuple of ints -/
def rSumT (K : PySem.W.Frag) : List V → Hp → VK → Prop := fun vs H Q => ∃ (a : Addr) (zs : List Int), vs = [V.ref a] ∧ SqT K H a (zs.map V.int) ∧ Q (.int zs.sum) H
theorem cr_sumT {X : Cx} (calm : X.calm = true) : CallR X (.builtin "sum") (rSumT X.K) := by
  intro pins sh σ H vs us Q I rel hyp
  obtain ⟨a, zs, rfl, hz, q⟩ := hyp
  rw [Vals.ref1 rel]
  obtain ⟨its, rv, tp, _⟩ := I.tuple hz
  have hT : sh.heap.IsTuple a its.toArray := tp
  have isI : IntsAre its zs := Vals.ints rv
  obtain ⟨xs, ex⟩ := isI.allInts.items
  have en : numsOf (intItems xs).toList = zs := by
    rw [← ex]
    exact isI.numsOf
  rw [nums_intItems] at en
  rw [ex] at hT
  refine PySem.W.ktm_sumG (I.ok.hd calm) hT fun h' tk t' kp => ?_
  rw [preSum_eq, List.take_of_length_le (by simp), en]
  exact ⟨.int zs.sum, H, I.kept kp, ⟨_, rfl⟩, q⟩
/-- enumerate over a list, by a word -/
theorem for_enumL {K : PySem.W.Frag} {a : Addr} {ys : List V} {g : TG} {tb : TS} {D : Ends} {σ : L2.St} {H : Hp} (Pv : Nat → L2.St → Hp → Prop) (h0 : Pv 0 σ H) (src : ∀ i σ H, i ≤ ys.length → Pv i σ H → SqL K H a ys)
    (turn : ∀ i y σ H p, ys[i]? = some y → Pv i σ H → H p = Option.none → g (.ref p) σ (upd H p (.tup [.int (i : Nat), y])) fun σ2 H2 => tb { D with nx := Pv (i + 1), ct := Pv (i + 1), bk := D.nx } σ2 H2) (fin : ∀ σ H, Pv ys.length σ H → D.nx σ H) :
    ∃ W : Nat → Nat → L2.St → Hp → Prop, (∃ m, W 0 m σ H) ∧ ∀ i m σ H, W i m σ H →
      ((Ite K a).stop i H ∧ D.nx σ H) ∨ ((Ite K a).go i H ∧ ∃ N : L2.St → Hp → Prop, (∀ σ' H', N σ' H' → ∃ m', m' < m ∧ W (i + 1) m' σ' H') ∧ ∀ x H', (Ite K a).yld i H x H' → g x σ H' fun σ2 H2 => tb { D with nx := N, ct := N, bk := D.nx } σ2 H2) := by
  refine ⟨fun i m σ H => m + i = ys.length ∧ Pv i σ H, ⟨ys.length, Nat.add_zero _, h0⟩, ?_⟩
  rintro i m σ H ⟨em, pv⟩
  have s := src i σ H (by omega) pv
  rcases Nat.lt_or_ge i ys.length with lt | ge
  · refine .inr ⟨⟨ys, ys[i], s, List.getElem?_eq_getElem lt⟩, Pv (i + 1), fun σ' H' z => ⟨m - 1, by omega, by omega, z⟩, ?_⟩
    rintro x H' ⟨p, y, rfl, hp, rfl, hy⟩
    exact turn i y σ H p (hy ys s) pv hp
  · have e : i = ys.length := by omega
    subst e
    exact .inl ⟨⟨ys, s, Nat.le_refl _⟩, fin σ H pv⟩
/-- k in xs, xs a list of ints -/
theorem inV_ints (zs : List Int) (k : Int) : inV (V.int k) (zs.map V.int) = decide (k ∈ zs) := by
  induction zs with
  | nil => rfl
  | cons a r ih =>
    have e : inV (V.int k) ((a :: r).map V.int) = (eqV (V.int a) (V.int k) || inV (V.int k) (r.map V.int)) := rfl
    rw [e, ih]
    by_cases h : a = k
    · subst h
      simp [eqV]
    · have h' : ¬ k = a := fun z => h z.symm
      simp [eqV, h, h']
theorem flat_ints (zs : List Int) : (zs.map V.int).all flatV = true := by
  rw [List.all_eq_true]
  intro x hx
  obtain ⟨z, _, rfl⟩ := List.mem_map.mp hx
  rfl
end

/-! ### sorted(a list of pairs of an int and a text) whose ints ascend already -/
section
open PyProof.Rows PyProof.Rows.G
theorem zip_selfV : ∀ l : List Value, l.zip l = l.map fun v => (v, v)
  | [] => rfl
  | v :: l => by rw [List.zip_cons_cons, zip_selfV l]; rfl
def tsShape : Nat → Bool := fun i => decide (i = 1)
theorem ts_key {h : Heap} {p : Addr} {o : Obj} {n : Nat} {t : Int} {b : Str} {u v : Tok} (g : h.get? p = some o) (c : o.cls = .type "tuple") (d : o.data = .seq #[.int t u, .str b v] n) :
    tupKeyC h tsShape (.ref p) = some [Sum.inl t, Sum.inr b.cps.toList] := by
  unfold tupKeyC
  have e : isTupObj h (.ref p) = true := by simp [isTupObj, g, c]
  rw [if_pos e]
  simp [tupKey, g, d, tupItems, tsShape]
theorem ts_tup {h : Heap} {p : Addr} {o : Obj} {n : Nat} {t : Int} {b : Str} {u v : Tok} (g : h.get? p = some o) (c : o.cls = .type "tuple") (d : o.data = .seq #[.int t u, .str b v] n) :
    TupOf h tsShape (.ref p) (.int t u) := ⟨p, o, _, n, rfl, g, c, d, rfl, fun _ => ⟨t, u, rfl⟩, fun e => by simp [tsShape] at e⟩
def TsAt (H : Hp) (ps : List Addr) (ts : List (Int × Str)) : Prop := ps.length = ts.length ∧ ∀ i, i < ts.length → H (ps.getD i 0) = some (.tup [.int (ts.getD i default).1, .str (ts.getD i default).2])
def rSortTS (K : PySem.W.Frag) : List V → Hp → VK → Prop := fun vs H Q => ∃ (a : Addr) (ps : List Addr) (ts : List (Int × Str)), vs = [V.ref a] ∧ SqL K H a (ps.map V.ref) ∧ TsAt H ps ts ∧ (∀ i j, i < j → j < ts.length → (ts.getD i default).1 < (ts.getD j default).1) ∧
  ∀ q, H q = none → Q (.ref q) (upd H q (.lst (ps.map V.ref)))
theorem refs_vals : ∀ {ps : List Addr} {us : List Value}, Vals (ps.map V.ref) us → us = ps.map Value.ref
  | [], _, .nil => rfl
  | p :: ps, _, .cons r rs => by
    obtain rfl := refs_vals rs
    cases r
    rfl
theorem ts_all {P : Program} {w : World} {H : Hp} {h : Heap} (ok : HOk P w H h) : ∀ {ps : List Addr} {ts : List (Int × Str)}, TsAt H ps ts → ∃ fs, TupsOf h tsShape (ps.map Value.ref) fs
  | [], _, _ => ⟨[], .nil⟩
  | p :: ps, [], l => nomatch l.1
  | p :: ps, x :: ts, l => by
    obtain ⟨fs, r⟩ := ts_all ok (ps := ps) (ts := ts) ⟨Nat.succ.inj l.1, fun i hi => l.2 (i + 1) (Nat.succ_lt_succ hi)⟩
    obtain ⟨_, its, rv, o, g, c, n, d⟩ := ok _ _ (l.2 0 (Nat.succ_pos _))
    obtain ⟨u1, u2, rfl, ⟨t1, rfl⟩, q2⟩ := vals2 rv
    obtain ⟨t2, rfl⟩ := q2
    exact ⟨_, .cons (ts_tup g c d) r⟩
theorem ts_keys {P : Program} {w : World} {H : Hp} {h : Heap} (ok : HOk P w H h) {ps : List Addr} {ts : List (Int × Str)} (l : TsAt H ps ts) (i : Nat) (hi : i < ts.length) :
    tupKeyC h tsShape (.ref (ps.getD i 0)) = some [Sum.inl (ts.getD i default).1, Sum.inr (ts.getD i default).2.cps.toList] := by
  obtain ⟨_, its, rv, o, g, c, n, d⟩ := ok _ _ (l.2 i hi)
  obtain ⟨u1, u2, rfl, ⟨t1, rfl⟩, q2⟩ := vals2 rv
  obtain ⟨t2, rfl⟩ := q2
  exact ts_key g c d
theorem cr_sortTS {X : Cx} : CallR X (.builtin "sorted") (rSortTS X.K) := by
  intro pins s σ H vs us Q I r h
  obtain ⟨a, ps, ts, rfl, hs, hx, asc, q⟩ := h
  obtain ⟨its, rv, hl, hz⟩ := I.list hs
  obtain ⟨u, rfl, ru⟩ := vals1 r
  obtain rfl : u = Value.ref a := ru
  obtain rfl := refs_vals rv
  obtain ⟨fs, tf⟩ := ts_all I.hok hx
  have hlen := hx.1
  have key := ts_keys I.hok hx
  have at_ : ∀ i, i < ts.length → (pairsOf (ps.map Value.ref))[i]? = some (.ref (ps.getD i 0), .ref (ps.getD i 0)) := fun i hi => by
    rw [← Array.getElem?_toList, pairsOf_toList, zip_selfV, List.getElem?_map, List.getElem?_map, List.getElem?_eq_getElem (by omega)]
    simp [List.getD_eq_getElem?_getD, List.getElem?_eq_getElem (show i < ps.length by omega)]
  have ks : ∀ v, v ∈ ps.map Value.ref → ∃ l, tupKeyC s.heap tsShape v = some l := fun v hv => by
    obtain ⟨p, hp, rfl⟩ := List.mem_map.mp hv
    obtain ⟨i, hi, rfl⟩ := List.getElem_of_mem hp
    have := key i (by omega)
    rw [List.getD_eq_getElem?_getD, List.getElem?_eq_getElem hi] at this
    exact ⟨_, this⟩
  have kk : ∀ i, i < ts.length → KK (tupKindC s.heap tsShape) (pairsOf (ps.map Value.ref)) i = [Sum.inl (ts.getD i default).1, Sum.inr (ts.getD i default).2.cps.toList] := fun i hi => by
    unfold KK
    rw [at_ i hi]
    show (tupKeyC s.heap tsShape _).getD _ = _
    rw [key i hi]
    rfl
  have so : SortedToK (tupKindC s.heap tsShape) (pairsOf (ps.map Value.ref)) (pairsOf (ps.map Value.ref)).size := by
    intro i j ij hj
    rw [pairsOf_size, List.length_map, hlen] at hj
    rcases Nat.lt_or_ge i j with c | c
    · refine PyProof.Rows.KeyOrd.kle_of_klt ?_
      rw [kk i (by omega), kk j hj]
      show lexLt itemOrd _ _ = true
      exact lex_true.mpr (.inl (decide_eq_true (asc i j c hj)))
    · have : i = j := by omega
      subst this
      exact PyProof.Rows.KeyOrd.kle_refl _
  refine sorted_tups hl.isList tf ks (by rw [List.length_map]; rw [List.length_map] at hz; exact hz) fun st' pe sr sb => ?_
  have e := sorted_stable_unique (κ := tupKindC s.heap tsShape) (tupKeys ks) pe (.refl _) sr so sb (.refl _)
  rw [e]
  have e2 : (pairsOf (ps.map Value.ref)).map (·.2) = (ps.map Value.ref).toArray := by
    apply Array.toList_inj.mp
    rw [Array.toList_map, pairsOf_toList, zip_selfV, List.map_map]
    simp
  rw [e2]
  obtain ⟨n, hn⟩ := sortedAll_at s.heap (ps.map Value.ref) (ps.map Value.ref).toArray
  refine ⟨.ref _, upd H _ (.lst (ps.map V.ref)), I.laid (t' := s.toks) (fun b o e => sortedAll_old e) (Nat.le_succ _) ⟨?_, ps.map Value.ref, n, ?_, hn⟩, rfl, q _ (I.hok.fresh (Nat.le_succ _))⟩
  · rw [List.length_map]
    rw [List.length_map] at hz
    exact hz
  · exact rv
end

/-! ### the mathematics of weights -/
/-- the weights at the places below n that f lists, in order -/
def pick (ws : List Int) (f : Int → Bool) : Nat → List Int
  | 0 => []
  | n + 1 => if f (n : Int) then pick ws f n ++ [ws.getD n 0] else pick ws f n
def wt (ws : List Int) (f : Int → Bool) (n : Nat) : Int := (pick ws f n).sum
theorem wt_succ (ws : List Int) (f : Int → Bool) (n : Nat) : wt ws f (n + 1) = wt ws f n + (if f (n : Int) then ws.getD n 0 else 0) := by
  unfold wt
  rw [pick]
  split
  · rw [List.sum_append, List.sum_cons, List.sum_nil, Int.add_zero]
  · rw [Int.add_zero]
theorem pick_len (ws : List Int) (f : Int → Bool) : ∀ n, (pick ws f n).length ≤ n
  | 0 => Nat.le_refl _
  | n + 1 => by
    have ih := pick_len ws f n
    rw [pick]
    split
    · rw [List.length_append, List.length_singleton]
      omega
    · omega
theorem wt_congr (ws : List Int) (f g : Int → Bool) : ∀ n, (∀ k : Nat, k < n → f k = g k) → wt ws f n = wt ws g n
  | 0, _ => rfl
  | n + 1, h => by
    rw [wt_succ, wt_succ, wt_congr ws f g n fun k hk => h k (Nat.lt_succ_of_lt hk), h n (Nat.lt_succ_self n)]
theorem wt_take (ws : List Int) : ∀ n, n ≤ ws.length → wt ws (fun _ => true) n = (ws.take n).sum
  | 0, _ => by simp [wt, pick]
  | n + 1, h => by
    have hn : n < ws.length := h
    rw [wt_succ, wt_take ws n (Nat.le_of_lt hn), if_pos rfl, sum_take (List.getElem?_eq_getElem hn), List.getD_eq_getElem?_getD, List.getElem?_eq_getElem hn]
    rfl
theorem wt_all (ws : List Int) : wt ws (fun _ => true) ws.length = ws.sum := by
  rw [wt_take ws _ (Nat.le_refl _), List.take_length]
theorem wt_not (ws : List Int) (f : Int → Bool) : ∀ n, wt ws f n + wt ws (fun k => !f k) n = wt ws (fun _ => true) n
  | 0 => rfl
  | n + 1 => by
    have ih := wt_not ws f n
    rw [wt_succ, wt_succ, wt_succ, if_pos rfl]
    cases f (n : Int)
    · simp
      omega
    · simp
      omega
theorem wt_both (ws : List Int) (f g : Int → Bool) (pos : ∀ k : Nat, 0 ≤ ws.getD k 0) : ∀ n, wt ws f n + wt ws g n ≤ wt ws (fun k => f k && g k) n + wt ws (fun _ => true) n
  | 0 => Int.le_refl _
  | n + 1 => by
    have ih := wt_both ws f g pos n
    have p := pos n
    rw [wt_succ, wt_succ, wt_succ, wt_succ, if_pos rfl]
    cases f (n : Int) <;> cases g (n : Int) <;> simp only [Bool.and_self, Bool.and_true, Bool.and_false, Bool.true_and, Bool.false_and, if_true, Bool.false_eq_true, if_false] <;> omega
/-- the weight of some listed members -/
def wOf (ws ms : List Int) : Int := wt ws (fun k => decide (k ∈ ms)) ws.length
/-- the places below n that f lists -/
def sel (f : Int → Bool) : Nat → List Int
  | 0 => []
  | n + 1 => if f (n : Int) then sel f n ++ [(n : Int)] else sel f n
theorem sel_len (f : Int → Bool) : ∀ n, (sel f n).length ≤ n
  | 0 => Nat.le_refl _
  | n + 1 => by
    have ih := sel_len f n
    rw [sel]
    split
    · rw [List.length_append, List.length_singleton]
      omega
    · omega
theorem mem_sel (f : Int → Bool) (k : Nat) : ∀ n, (k : Int) ∈ sel f n ↔ k < n ∧ f k = true
  | 0 => by simp [sel]
  | n + 1 => by
    have ih := mem_sel f k n
    rw [sel]
    split
    · rename_i h
      rw [List.mem_append, ih, List.mem_singleton]
      constructor
      · rintro (⟨h1, h2⟩ | h1)
        · exact ⟨by omega, h2⟩
        · have e : k = n := by omega
          subst e
          exact ⟨Nat.lt_succ_self _, h⟩
      · rintro ⟨h1, h2⟩
        rcases Nat.lt_or_ge k n with h3 | h3
        · exact .inl ⟨h3, h2⟩
        · exact .inr (by omega)
    · rename_i h
      rw [ih]
      constructor
      · rintro ⟨h1, h2⟩
        exact ⟨by omega, h2⟩
      · rintro ⟨h1, h2⟩
        refine ⟨?_, h2⟩
        rcases Nat.lt_or_ge k n with h3 | h3
        · exact h3
        · have e : k = n := by omega
          subst e
          exact absurd h2 h
/-- who is not listed weighs what is left -/
theorem wOf_rest (ws ms : List Int) : wOf ws ms + wOf ws (sel (fun k => !decide (k ∈ ms)) ws.length) = ws.sum := by
  unfold wOf
  rw [wt_congr ws (fun k => decide (k ∈ sel (fun k => !decide (k ∈ ms)) ws.length)) (fun k => !decide (k ∈ ms)) ws.length fun k hk => ?_]
  · rw [wt_not, wt_all]
  · rw [Bool.eq_iff_iff, decide_eq_true_iff, mem_sel]
    exact ⟨fun z => z.2, fun z => ⟨hk, z⟩⟩
theorem wOf_common (ws ms ns : List Int) (pos : ∀ k : Nat, 0 ≤ ws.getD k 0) : wOf ws ms + wOf ws ns ≤ wOf ws (ms.filter fun k => decide (k ∈ ns)) + ws.sum := by
  unfold wOf
  have h := wt_both ws (fun k => decide (k ∈ ms)) (fun k => decide (k ∈ ns)) pos ws.length
  rw [wt_all] at h
  rw [wt_congr ws (fun k => decide (k ∈ ms.filter fun k => decide (k ∈ ns))) (fun k => decide (k ∈ ms) && decide (k ∈ ns)) ws.length fun k _ => ?_]
  · exact h
  · rw [Bool.eq_iff_iff]
    simp [List.mem_filter]

/-! ### a committee as it stands -/
theorem ne_ws : ¬ (("weights" : Str) = "size") := by decide +kernel
theorem ne_wt : ¬ (("weights" : Str) = "total") := by decide +kernel
theorem ne_st : ¬ (("size" : Str) = "total") := by decide +kernel
def cfs (t : Addr) (ws : List Int) : List (Str × V) := putF "total" (.int ws.sum) (putF "size" (.int ws.length) (putF "weights" (.ref t) []))
theorem cfs_w (t : Addr) (ws : List Int) : (cfs t ws).lookup ("weights" : Str) = some (.ref t) := by
  unfold cfs
  rw [lookup_putF, if_neg ne_wt, lookup_putF, if_neg ne_ws, lookup_putF, if_pos rfl]
theorem cfs_s (t : Addr) (ws : List Int) : (cfs t ws).lookup ("size" : Str) = some (.int ws.length) := by
  unfold cfs
  rw [lookup_putF, if_neg ne_st, lookup_putF, if_pos rfl]
theorem cfs_t (t : Addr) (ws : List Int) : (cfs t ws).lookup ("total" : Str) = some (.int ws.sum) := by
  unfold cfs
  rw [lookup_putF, if_pos rfl]
theorem cfs_no (t : Addr) (ws : List Int) {m : Str} (h1 : ¬ m = "weights") (h2 : ¬ m = "size") (h3 : ¬ m = "total") : (cfs t ws).lookup m = none := by
  unfold cfs
  rw [lookup_putF, if_neg h3, lookup_putF, if_neg h2, lookup_putF, if_neg h1]
  all_goals rfl
def CommAt (C : Addr) (H : Hp) (p : Addr) (ws : List Int) : Prop := ∃ dx t, H p = some (.ins C dx (cfs t ws)) ∧ H t = some (.tup (ws.map V.int))
theorem CommAt.same {C : Addr} {H H' : Hp} {p : Addr} {ws : List Int} (h : CommAt C H p ws) (s : Same H H') : CommAt C H' p ws := by
  obtain ⟨dx, t, h1, h2⟩ := h
  exact ⟨dx, t, s _ _ h1, s _ _ h2⟩
/-- weights that a committee takes -/
def GoodW (ws : List Int) : Prop := 0 < ws.length ∧ ws.length ≤ 16 ∧ ∀ w ∈ ws, 1 ≤ w ∧ w ≤ 1000000000000

/-! ### the data: a statement as the tuple that it is -/
inductive Kd where
  | prop | pre | com
  deriving DecidableEq
def Kd.s : Kd → Str
  | .prop => "proposal"
  | .pre => "prevote"
  | .com => "precommit"
structure Sm where
  k : Kd
  h : Int
  t : Int
  b : Option Str
  l : Option Int
def oS : Option Str → V
  | none => .non
  | some x => .str x
def oI : Option Int → V
  | none => .non
  | some x => .int x
def Sm.vals (m : Sm) : List V := match m.k with
  | .pre => [.str m.k.s, .int m.h, .int m.t, oS m.b, oI m.l]
  | _ => [.str m.k.s, .int m.h, .int m.t, oS m.b]
def SmAt (H : Hp) (p : Addr) (m : Sm) : Prop := H p = some (.tup m.vals)
theorem at0 (m : Sm) : atI m.vals 0 = some (.str m.k.s) := by
  cases m with | mk k h t b l => cases k <;> rfl
theorem at1 (m : Sm) : atI m.vals 1 = some (.int m.h) := by
  cases m with | mk k h t b l => cases k <;> rfl
theorem at2 (m : Sm) : atI m.vals 2 = some (.int m.t) := by
  cases m with | mk k h t b l => cases k <;> rfl
theorem at3 (m : Sm) : atI m.vals 3 = some (oS m.b) := by
  cases m with | mk k h t b l => cases k <;> rfl
theorem at4 (m : Sm) (e : m.k = .pre) : atI m.vals 4 = some (oI m.l) := by
  cases m with | mk k h t b l => cases k <;> first | rfl | cases e
theorem ks_pp : ¬ (("proposal" : Str) = "prevote") := by decide +kernel
theorem ks_pc : ¬ (("proposal" : Str) = "precommit") := by decide +kernel
theorem ks_vc : ¬ (("prevote" : Str) = "precommit") := by decide +kernel
theorem ks_vp : ¬ (("prevote" : Str) = "proposal") := fun e => ks_pp e.symm
theorem ks_cp : ¬ (("precommit" : Str) = "proposal") := fun e => ks_pc e.symm
theorem ks_cv : ¬ (("precommit" : Str) = "prevote") := fun e => ks_vc e.symm
theorem kd_inj (a b : Kd) : a.s = b.s ↔ a = b := by
  cases a <;> cases b <;> simp [Kd.s, ks_pp, ks_pc, ks_vc, ks_vp, ks_cp, ks_cv]
theorem dec_kd (a b : Kd) : decide (V.str a.s = V.str b.s) = decide (a = b) := by
  rw [Bool.eq_iff_iff, decide_eq_true_iff, decide_eq_true_iff]
  constructor
  · intro e
    injection e with e
    exact (kd_inj a b).mp e
  · intro e
    rw [e]
theorem kprop (a : Kd) : (V.str a.s = V.str "proposal") = (a = .prop) := propext (by simpa [Kd.s] using decide_eq_decide.mp (dec_kd a .prop))
theorem kpre (a : Kd) : (V.str a.s = V.str "prevote") = (a = .pre) := propext (by simpa [Kd.s] using decide_eq_decide.mp (dec_kd a .pre))
theorem kcom (a : Kd) : (V.str a.s = V.str "precommit") = (a = .com) := propext (by simpa [Kd.s] using decide_eq_decide.mp (dec_kd a .com))
theorem koS (a b : Option Str) : (oS a = oS b) = (a = b) := propext (by
  cases a <;> cases b <;> simp [oS])
theorem koSn (a : Option Str) : (oS a = V.non) = (a = none) := koS a none
theorem koIn (a : Option Int) : (oI a = V.non) = (a = none) := by cases a <;> simp [oI]
theorem dec_oS (a b : Option Str) : decide (oS a = oS b) = decide (a = b) := by
  rw [Bool.eq_iff_iff, decide_eq_true_iff, decide_eq_true_iff]
  constructor
  · intro e
    cases a <;> cases b <;> first | rfl | cases e
    rfl
  · intro e
    rw [e]
theorem dec_oSn (a : Option Str) : decide (oS a = V.non) = decide (a = none) := dec_oS a none
theorem dec_oIn (a : Option Int) : decide (oI a = V.non) = decide (a = none) := by
  cases a <;> rfl
theorem scal_oS (a b : Option Str) : scal (oS a) (oS b) = true := by
  cases a <;> cases b <;> rfl
/-! ### the mirror -/
def abandM (x y : Sm) : Bool :=
  if x.k = .com ∧ y.k = .pre ∧ x.b ≠ none ∧ y.b ≠ none ∧ x.b ≠ y.b ∧ x.t < y.t then (match y.l with | none => true | some l => decide (l < x.t)) else false
def clashM (x y : Sm) : Bool :=
  if x.h ≠ y.h then false
  else if x.k = y.k then (decide (x.k ≠ .prop) && (decide (x.t = y.t) && decide (x.b ≠ y.b)))
  else (abandM x y || abandM y x)
theorem clashM_comm (x y : Sm) : clashM x y = clashM y x := by
  unfold clashM
  by_cases h1 : x.h = y.h
  · by_cases h2 : x.k = y.k
    · simp only [h1, h2, ne_eq, not_true_eq_false, if_false, if_true]
      congr 1
      congr 1
      · exact decide_eq_decide.mpr ⟨Eq.symm, Eq.symm⟩
      · exact decide_eq_decide.mpr ⟨Ne.symm, Ne.symm⟩
    · have h3 : ¬ y.k = x.k := fun e => h2 e.symm
      simp only [h1, h2, h3, ne_eq, not_true_eq_false, if_false, Bool.or_comm]
  · have h3 : ¬ y.h = x.h := fun e => h1 e.symm
    simp only [h1, h3, ne_eq, not_false_eq_true, if_true]
def OkS (b : Option Str) : Prop := ∀ x, b = some x → PyData.strOk x = true
theorem okA : OkS (some "a") := fun x e => by
  cases e
  decide +kernel
theorem okB : OkS (some "b") := fun x e => by
  cases e
  decide +kernel
theorem okN : OkS none := fun x e => nomatch e
theorem pick5 {i : Int} (h0 : 0 ≤ i) (h5 : i < 5) : ∃ b : Option Str, atI [V.str "a", V.str "b", V.str "a", V.str "b", V.non] i = some (oS b) ∧ OkS b := by
  have h : i = 0 ∨ i = 1 ∨ i = 2 ∨ i = 3 ∨ i = 4 := by omega
  rcases h with rfl | rfl | rfl | rfl | rfl
  · exact ⟨some "a", rfl, okA⟩
  · exact ⟨some "b", rfl, okB⟩
  · exact ⟨some "a", rfl, okA⟩
  · exact ⟨some "b", rfl, okB⟩
  · exact ⟨none, rfl, okN⟩
def Sm.dat (m : Sm) : List PyData := match m.k with
  | .pre => [.str m.k.s, .int m.h, .int m.t, (match m.b with | none => .none | some x => .str x), (match m.l with | none => .none | some x => .int x)]
  | _ => [.str m.k.s, .int m.h, .int m.t, (match m.b with | none => .none | some x => .str x)]
theorem dp_oS {K : PySem.W.Frag} {H : Hp} (b : Option Str) : Dp K H (oS b) (match b with | none => .none | some x => .str x) := by
  cases b with
  | none => exact .non
  | some x => exact .str x
theorem dp_oI {K : PySem.W.Frag} {H : Hp} (b : Option Int) : Dp K H (oI b) (match b with | none => .none | some x => .int x) := by
  cases b with
  | none => exact .non
  | some x => exact .int x
theorem dp_sm {K : PySem.W.Frag} {H : Hp} {p : Addr} {m : Sm} (h : H p = some (.tup m.vals)) : Dp K H (.ref p) (.tuple m.dat) := by
  refine .tup (SqT.of h) ?_
  obtain ⟨mk, mh, mt, mb, ml⟩ := m
  cases mk
  · exact .cons (.str _) (.cons (.int _) (.cons (.int _) (.cons (dp_oS _) .nil)))
  · exact .cons (.str _) (.cons (.int _) (.cons (.int _) (.cons (dp_oS _) (.cons (dp_oI _) .nil))))
  · exact .cons (.str _) (.cons (.int _) (.cons (.int _) (.cons (dp_oS _) .nil)))
theorem ks_ok (k : Kd) : PyData.strOk k.s = true := by
  cases k <;> decide +kernel
theorem shaped_sm (m : Sm) (o : OkS m.b) : SeqAt.shaped (.tuple m.dat) = true := by
  obtain ⟨mk, mh, mt, mb, ml⟩ := m
  cases mk <;> cases mb <;> cases ml <;> simp [Sm.dat, SeqAt.shaped, PyData.canLay0, PyData.canLayAll0, PyData.depth, PyData.depthAll, ks_ok] <;> exact o _ rfl
theorem eqv_sm (m : Sm) (o : OkS m.b) : PyData.eqv (.tuple m.dat) (.tuple m.dat) = true := SeqAt.eqv_refl _ (by
  obtain ⟨mk, mh, mt, mb, ml⟩ := m
  cases mk <;> cases mb <;> cases ml <;> simp [Sm.dat, PyData.canLay0, PyData.canLayAll0, ks_ok] <;> exact o _ rfl)
def spVote (K : PySem.W.Frag) : Sp := fun vs H Q _ => ∃ (p : Addr) (m : Sm), vs = [.ref p] ∧ SmAt H p m ∧ ∀ H', Same H H' → Q (.bl (decide (m.k ≠ .prop))) H'
def spAband (K : PySem.W.Frag) : Sp := fun vs H Q _ => ∃ (p q : Addr) (m n : Sm), vs = [.ref p, .ref q] ∧ SmAt H p m ∧ SmAt H q n ∧ ∀ H', Same H H' → Q (.bl (abandM m n)) H'
def spClash (K : PySem.W.Frag) : Sp := fun vs H Q _ => ∃ (p q : Addr) (m n : Sm), vs = [.ref p, .ref q] ∧ SmAt H p m ∧ SmAt H q n ∧ ∀ H', Same H H' → Q (.bl (clashM m n)) H'

/-! ### letters, lists of letters, what is due -/
structure Lt where
  w : Int
  m : Sm
instance : Inhabited Lt := ⟨⟨0, ⟨.prop, 0, 0, none, none⟩⟩⟩
def LtAt (H : Hp) (p : Addr) (x : Lt) : Prop := ∃ q, H p = some (.tup [.int x.w, .ref q]) ∧ SmAt H q x.m
theorem LtAt.same {H H' : Hp} {p : Addr} {x : Lt} (h : LtAt H p x) (s : Same H H') : LtAt H' p x := by
  obtain ⟨q, h1, h2⟩ := h
  exact ⟨q, s _ _ h1, s _ _ h2⟩
theorem ne_lst {H : Hp} {p l : Addr} {xs ys : List V} (h : H p = some (.tup xs)) (hl : H l = some (.lst ys)) : p ≠ l := fun e => by
  rw [e, hl] at h
  cases h
theorem LtAt.upd {H : Hp} {p l : Addr} {x : Lt} {ys : List V} {o : HO} (h : LtAt H p x) (hl : H l = some (.lst ys)) : LtAt (upd H l o) p x := by
  obtain ⟨q, h1, h2⟩ := h
  have h2' : H q = some (.tup x.m.vals) := h2
  refine ⟨q, ?_, ?_⟩
  · rw [upd_ne (ne_lst h1 hl)]
    exact h1
  · unfold SmAt
    rw [upd_ne (ne_lst h2' hl)]
    exact h2
def LsAt (H : Hp) (ps : List Addr) (xs : List Lt) : Prop := ps.length = xs.length ∧ ∀ i, i < xs.length → LtAt H (ps.getD i 0) (xs.getD i default)
theorem LsAt.nil {H : Hp} : LsAt H [] [] := ⟨rfl, fun i h => absurd h (Nat.not_lt_zero i)⟩
theorem LsAt.same {H H' : Hp} {ps : List Addr} {xs : List Lt} (h : LsAt H ps xs) (s : Same H H') : LsAt H' ps xs := ⟨h.1, fun i hi => (h.2 i hi).same s⟩
theorem LsAt.upd {H : Hp} {ps : List Addr} {xs : List Lt} {l : Addr} {ys : List V} {o : HO} (h : LsAt H ps xs) (hl : H l = some (.lst ys)) : LsAt (upd H l o) ps xs := ⟨h.1, fun i hi => (h.2 i hi).upd hl⟩
theorem getD_left {α : Type} {d : α} {xs ys : List α} {i : Nat} (h : i < xs.length) : (xs ++ ys).getD i d = xs.getD i d := by
  rw [List.getD_eq_getElem?_getD, List.getD_eq_getElem?_getD, List.getElem?_append_left h]
theorem getD_last {α : Type} {d : α} {xs : List α} {x : α} : (xs ++ [x]).getD xs.length d = x := by
  rw [List.getD_eq_getElem?_getD, List.getElem?_append_right (Nat.le_refl _), Nat.sub_self]
  rfl
theorem LsAt.snoc {H : Hp} {ps : List Addr} {xs : List Lt} {p : Addr} {x : Lt} (h : LsAt H ps xs) (e : LtAt H p x) : LsAt H (ps ++ [p]) (xs ++ [x]) := by
  refine ⟨by rw [List.length_append, List.length_append, h.1]; rfl, fun i hi => ?_⟩
  rw [List.length_append, List.length_singleton] at hi
  rcases Nat.lt_or_ge i xs.length with z | z
  · rw [getD_left (by rw [h.1]; exact z), getD_left z]
    exact h.2 i z
  · have ei : i = xs.length := by omega
    subst ei
    rw [getD_last]
    have : (ps ++ [p]).getD xs.length 0 = p := by rw [← h.1, getD_last]
    rw [this]
    exact e
theorem at_refs {ps : List Addr} {i : Nat} (h : i < ps.length) : (ps.map V.ref)[i]? = some (.ref (ps.getD i 0)) := by
  rw [List.getElem?_map, List.getD_eq_getElem?_getD, List.getElem?_eq_getElem h]
  rfl
def ownOf (xs : List Lt) (who : Int) : List Lt := xs.filter fun x => decide (x.w = who)
theorem take_succ_getD {α : Type} {d : α} {xs : List α} {i : Nat} (h : i < xs.length) : xs.take (i + 1) = xs.take i ++ [xs.getD i d] := by
  rw [List.take_add_one, List.getElem?_eq_getElem h, List.getD_eq_getElem?_getD, List.getElem?_eq_getElem h]
  rfl
theorem own_yes {xs : List Lt} {who : Int} {i : Nat} (h : i < xs.length) (e : (xs.getD i default).w = who) : ownOf (xs.take (i + 1)) who = ownOf (xs.take i) who ++ [xs.getD i default] := by
  unfold ownOf
  rw [take_succ_getD (d := default) h, List.filter_append, List.filter_cons_of_pos (by exact decide_eq_true e)]
  rfl
theorem own_no {xs : List Lt} {who : Int} {i : Nat} (h : i < xs.length) (e : ¬ (xs.getD i default).w = who) : ownOf (xs.take (i + 1)) who = ownOf (xs.take i) who := by
  unfold ownOf
  rw [take_succ_getD (d := default) h, List.filter_append, List.filter_cons_of_neg (by simpa using e), List.filter_nil, List.append_nil]
theorem own_len (xs : List Lt) (who : Int) : (ownOf xs who).length ≤ xs.length := List.length_filter_le _ _
theorem own_mem {xs : List Lt} {who : Int} {x : Lt} (h : x ∈ ownOf xs who) : x ∈ xs ∧ x.w = who := by
  unfold ownOf at h
  rw [List.mem_filter] at h
  exact ⟨h.1, of_decide_eq_true h.2⟩
theorem getD_mem2 {α : Type} {d : α} {xs : List α} {i : Nat} (h : i < xs.length) : xs.getD i d ∈ xs := by
  rw [List.getD_eq_getElem?_getD, List.getElem?_eq_getElem h]
  exact List.getElem_mem h
/-- the first letter before place n with which the one at place a clashes -/
def rowDue (own : List Lt) (a : Nat) : Nat → Option (Lt × Lt)
  | 0 => none
  | n + 1 => match rowDue own a n with
    | some r => some r
    | none => if clashM (own.getD n default).m (own.getD a default).m then some (own.getD n default, own.getD a default) else none
def colDue (own : List Lt) : Nat → Option (Lt × Lt)
  | 0 => none
  | n + 1 => match colDue own n with
    | some r => some r
    | none => rowDue own n n
def due (own : List Lt) : Option (Lt × Lt) := colDue own own.length
theorem row_mono {own : List Lt} {a i : Nat} {r : Lt × Lt} (h : rowDue own a i = some r) : ∀ d, rowDue own a (i + d) = some r
  | 0 => h
  | d + 1 => by
    show rowDue own a (i + d + 1) = some r
    rw [rowDue, row_mono h d]
theorem col_mono {own : List Lt} {i : Nat} {r : Lt × Lt} (h : colDue own i = some r) : ∀ d, colDue own (i + d) = some r
  | 0 => h
  | d + 1 => by
    show colDue own (i + d + 1) = some r
    rw [colDue, col_mono h d]
theorem row_no {own : List Lt} {a n : Nat} (h : rowDue own a n = none) (c : clashM (own.getD n default).m (own.getD a default).m = false) : rowDue own a (n + 1) = none := by
  rw [rowDue, h]
  show (if _ then _ else _) = _
  rw [c]
  rfl
theorem due_at {own : List Lt} {a n : Nat} (ha : a < own.length) (hn : n < a) (hc : colDue own a = none) (h : rowDue own a n = none) (c : clashM (own.getD n default).m (own.getD a default).m = true) :
    due own = some (own.getD n default, own.getD a default) := by
  have h1 : rowDue own a (n + 1) = some (own.getD n default, own.getD a default) := by
    rw [rowDue, h]
    show (if _ then _ else _) = _
    rw [c]
    rfl
  have h2 : rowDue own a a = some (own.getD n default, own.getD a default) := by
    have := row_mono h1 (a - (n + 1))
    rwa [Nat.add_sub_cancel' hn] at this
  have h3 : colDue own (a + 1) = some (own.getD n default, own.getD a default) := by
    rw [colDue, hc]
    exact h2
  have := col_mono h3 (own.length - (a + 1))
  rw [Nat.add_sub_cancel' ha] at this
  exact this
theorem col_no {own : List Lt} {a : Nat} (hc : colDue own a = none) (h : rowDue own a a = none) : colDue own (a + 1) = none := by
  rw [colDue, hc]
  exact h
theorem row_ok {own : List Lt} {a : Nat} (ha : a < own.length) : ∀ n, n ≤ own.length → ∀ f s, rowDue own a n = some (f, s) → f ∈ own ∧ s ∈ own ∧ clashM f.m s.m = true
  | 0, _, f, s, h => nomatch h
  | n + 1, hn, f, s, h => by
    rw [rowDue] at h
    split at h
    · rename_i r e
      cases h
      exact row_ok ha n (Nat.le_of_lt hn) f s e
    · split at h
      · rename_i c
        cases h
        exact ⟨getD_mem2 hn, getD_mem2 ha, c⟩
      · cases h
theorem col_ok {own : List Lt} : ∀ n, n ≤ own.length → ∀ f s, colDue own n = some (f, s) → f ∈ own ∧ s ∈ own ∧ clashM f.m s.m = true
  | 0, _, f, s, h => nomatch h
  | n + 1, hn, f, s, h => by
    rw [colDue] at h
    split at h
    · rename_i r e
      cases h
      exact col_ok n (Nat.le_of_lt hn) f s e
    · exact row_ok hn n (Nat.le_of_lt hn) f s h
theorem due_ok {own : List Lt} {f s : Lt} (h : due own = some (f, s)) : f ∈ own ∧ s ∈ own ∧ clashM f.m s.m = true := col_ok _ (Nat.le_refl _) f s h
def DueAt (H : Hp) (v : V) : Option (Lt × Lt) → Prop
  | none => v = .non
  | some r => ∃ p a b, v = .ref p ∧ H p = some (.tup [.ref a, .ref b]) ∧ LtAt H a r.1 ∧ LtAt H b r.2
def OkL (xs : List Lt) : Prop := ∀ x ∈ xs, OkS x.m.b
def Lt.dat (x : Lt) : PyData := .tuple [.int x.w, .tuple x.m.dat]
theorem dp_lt {K : PySem.W.Frag} {H : Hp} {p : Addr} {x : Lt} (h : LtAt H p x) : Dp K H (.ref p) x.dat := by
  obtain ⟨q, h1, h2⟩ := h
  exact .tup (SqT.of h1) (.cons (.int _) (.cons (dp_sm h2) .nil))
theorem lay_sm (m : Sm) (o : OkS m.b) : PyData.canLay0 (.tuple m.dat) = true := by
  have h := shaped_sm m o
  exact (Bool.and_eq_true_iff.mp h).1
theorem depth_sm (m : Sm) : PyData.depth (.tuple m.dat) = 1 := by
  obtain ⟨mk, mh, mt, mb, ml⟩ := m
  cases mk <;> cases mb <;> cases ml <;> simp [Sm.dat, PyData.depth, PyData.depthAll]
theorem lay_lt {x : Lt} (o : OkS x.m.b) : PyData.canLay0 x.dat = true := by
  simp only [Lt.dat, PyData.canLay0, PyData.canLayAll0, Bool.true_and, Bool.and_true]
  exact lay_sm x.m o
theorem depth_lt (x : Lt) : PyData.depth x.dat = 2 := by
  have h := depth_sm x.m
  simp only [Lt.dat, PyData.depth, PyData.depthAll] at h ⊢
  omega
theorem shaped_lt {x : Lt} (o : OkS x.m.b) : SeqAt.shaped x.dat = true := by
  unfold SeqAt.shaped
  rw [lay_lt o, depth_lt]
  rfl
theorem eqv_lt {x : Lt} (o : OkS x.m.b) : PyData.eqv x.dat x.dat = true := SeqAt.eqv_refl _ (lay_lt o)
theorem LsAt.cons {H : Hp} {p : Addr} {ps : List Addr} {x : Lt} {xs : List Lt} (h : LsAt H (p :: ps) (x :: xs)) : LtAt H p x ∧ LsAt H ps xs :=
  ⟨h.2 0 (Nat.succ_pos _), Nat.succ.inj h.1, fun i hi => h.2 (i + 1) (Nat.succ_lt_succ hi)⟩
theorem dp_lts {K : PySem.W.Frag} {H : Hp} : ∀ {ps : List Addr} {xs : List Lt}, LsAt H ps xs → DpAll K H (ps.map V.ref) (xs.map Lt.dat)
  | [], [], _ => .nil
  | p :: ps, x :: xs, h => .cons (dp_lt h.cons.1) (dp_lts h.cons.2)
  | [], x :: xs, h => nomatch h.1
  | p :: ps, [], h => nomatch h.1
theorem lay_lts : ∀ {xs : List Lt}, OkL xs → PyData.canLayAll0 (xs.map Lt.dat) = true
  | [], _ => by simp [PyData.canLayAll0]
  | x :: xs, o => by
    simp only [List.map_cons, PyData.canLayAll0]
    rw [lay_lt (o x List.mem_cons_self), lay_lts fun y hy => o y (List.mem_cons_of_mem _ hy)]
    rfl
theorem depth_lts : ∀ xs : List Lt, PyData.depthAll (xs.map Lt.dat) ≤ 2
  | [] => by simp [PyData.depthAll]
  | x :: xs => by
    have := depth_lts xs
    have := depth_lt x
    simp only [List.map_cons, PyData.depthAll]
    omega
theorem shaped_lts {xs : List Lt} (o : OkL xs) : SeqAt.shaped (.list (xs.map Lt.dat)) = true := by
  have h := depth_lts xs
  unfold SeqAt.shaped
  have e : PyData.depth (.list (xs.map Lt.dat)) = PyData.depthAll (xs.map Lt.dat) + 1 := by simp only [PyData.depth]
  have l : PyData.canLay0 (.list (xs.map Lt.dat)) = true := by simp only [PyData.canLay0, lay_lts o]
  rw [l, e, decide_eq_true (show PyData.depthAll (xs.map Lt.dat) + 1 ≤ 64 by omega)]
  rfl
theorem eqv_lts {xs : List Lt} (o : OkL xs) : PyData.eqv (.list (xs.map Lt.dat)) (.list (xs.map Lt.dat)) = true := SeqAt.eqv_refl _ (by
  simp only [PyData.canLay0, lay_lts o])

/-! ### dicts whose keys are letters (tuples of an int and a tuple) -/
section
open PyProof.Rows
def vKey : V → NestedKey
  | .int i => .num i
  | .str x => .text x
  | _ => .none
def ltKey (x : Lt) : NestedKey := .tup [.num x.w, .tup (x.m.vals.map vKey)]
def FlatK : V → Prop
  | .non => True
  | .int _ => True
  | .str _ => True
  | _ => False
theorem vals_flatK (m : Sm) : ∀ v ∈ m.vals, FlatK v := by
  have hb : FlatK (oS m.b) := by cases m.b <;> exact True.intro
  have hl : FlatK (oI m.l) := by cases m.l <;> exact True.intro
  intro v hv
  obtain ⟨mk, mh, mt, mb, ml⟩ := m
  cases mk <;> simp only [Sm.vals, List.mem_cons, List.not_mem_nil, or_false] at hv <;> (rcases hv with rfl | rfl | rfl | rfl | rfl <;> first | assumption | exact True.intro)
theorem nested_vals {h : Heap} : ∀ {xs : List V} {us : List Value}, (∀ v ∈ xs, FlatK v) → Vals xs us → NestedAll h (xs.map vKey) us
  | _, _, _, .nil => .nil
  | v :: xs, u :: us, f, .cons r rs => by
    refine .cons ?_ (nested_vals (fun w hw => f w (List.mem_cons_of_mem _ hw)) rs)
    have fv := f v List.mem_cons_self
    cases v with
    | non =>
      cases r
      exact .none
    | int i =>
      obtain ⟨t, rfl⟩ := r
      exact .int i t
    | str x =>
      obtain ⟨t, rfl⟩ := r
      exact .text x t
    | _ => exact fv.elim
theorem depth_flat : ∀ xs : List V, NestedKey.depthAll (xs.map vKey) = 0
  | [] => rfl
  | v :: xs => by
    have h := depth_flat xs
    have e : (vKey v).depth = 0 := by cases v <;> rfl
    simp only [List.map_cons, NestedKey.depthAll, h, e]
    rfl
theorem ltKey_depth (x : Lt) : (ltKey x).depth ≤ 8 := by
  have h := depth_flat x.m.vals
  simp only [ltKey, NestedKey.depth, NestedKey.depthAll, h]
  decide
/-- a letter in the heap is its key -/
theorem nested_lt {P : Program} {w : World} {H : Hp} {h : Heap} {p : Addr} {x : Lt} (ok : HOk P w H h) (e : LtAt H p x) : (nestedKind P w).is h (ltKey x) p := by
  obtain ⟨q, e1, e2⟩ := e
  have e2 : H q = some (.tup x.m.vals) := e2
  obtain ⟨_, its1, r1, o1, g1, c1, n1, d1⟩ := ok p _ e1
  obtain ⟨_, its2, r2, o2, g2, c2, n2, d2⟩ := ok q _ e2
  refine ⟨?_, ltKey_depth x⟩
  obtain ⟨u1, u2, rfl, ⟨t, rfl⟩, q2⟩ := vals2 r1
  cases q2
  exact .tup g1 c1 d1 (.cons (.int _ _) (.cons (.tup g2 c2 d2 (nested_vals (vals_flatK x.m) r2)) .nil))
/-- the entries of such a dict -/
def ndEnt (w : World) (ps : List Addr) (xs : List Lt) : List DictEntry := (ps.zip xs).map fun q => ⟨(ltKey q.2).hash w, .ref q.1, .bool true⟩
def ndPhi (w : World) (d : Addr) (ps : List Addr) (xs : List Lt) : Heap → Prop := fun h => (d == sysModules) = false ∧ ∃ o es ep, h.get? d = some o ∧ o.ExactDict ∧ o.data = .dict es ep ∧ es.toList = ndEnt w ps xs
/-- at d a dict that keeps the letters xs, in order, each with True -/
structure NdAt (w : World) (H : Hp) (d : Addr) (ps : List Addr) (xs : List Lt) : Prop where
  at_ : (ps = [] ∧ H d = some (.dK [])) ∨ H d = some (.ext (ndPhi w d ps xs))
  ls : LsAt H ps xs
  nd : (xs.map ltKey).Nodup
  few : xs.length < 1000
def ndKeys (ps : List Addr) (xs : List Lt) : List (NestedKey × Addr × Value) := (ps.zip xs).map fun q => (ltKey q.2, q.1, .bool true)
theorem ndKeys_fst : ∀ {ps : List Addr} {xs : List Lt}, ps.length = xs.length → (ndKeys ps xs).map (·.1) = xs.map ltKey
  | [], [], _ => rfl
  | p :: ps, x :: xs, h => by
    have := ndKeys_fst (ps := ps) (xs := xs) (Nat.succ.inj h)
    show ltKey x :: (ndKeys ps xs).map (·.1) = _
    rw [this]
    rfl
  | [], x :: xs, h => nomatch h
  | p :: ps, [], h => nomatch h
theorem nd_keys_is {P : Program} {w : World} {H : Hp} {h : Heap} (ok : HOk P w H h) : ∀ {ps : List Addr} {xs : List Lt}, LsAt H ps xs → ∀ q ∈ ndKeys ps xs, (nestedKind P w).is h q.1 q.2.1
  | [], _, _, q, hq => nomatch hq
  | p :: ps, [], l, q, hq => nomatch l.1
  | p :: ps, x :: xs, l, q, hq => by
    rcases List.mem_cons.mp (show q ∈ (ltKey x, p, Value.bool true) :: ndKeys ps xs from hq) with rfl | hq
    · exact nested_lt ok l.cons.1
    · exact nd_keys_is ok l.cons.2 q hq
theorem nd_dict {X : Cx} {pins : List (Addr × Obj)} {σ : L2.St} {H : Hp} {s : Shared} {d : Addr} {ps : List Addr} {xs : List Lt} (I : L2.Inv X pins σ H s) (N : NdAt X.w H d ps xs) :
    (d == sysModules) = false ∧ s.heap.DictOfH (nestedKind X.prog X.w) d (ndKeys ps xs) := by
  have n1 := N.ls.1
  have ndp : ((ndKeys ps xs).map (·.1)).Nodup := by rw [ndKeys_fst n1]; exact N.nd
  rcases N.at_ with ⟨rfl, e⟩ | e
  · obtain ⟨_, ns, vs, rel, dd⟩ := I.hok d _ e
    cases rel
    refine ⟨ns, ?_⟩
    obtain ⟨o, es, ep, g, ex, dt, _, pr, _⟩ := dd
    have z : es.toList = [] := by
      cases he : es.toList with
      | nil => rfl
      | cons a l => rw [he] at pr; cases pr
    have z0 : ndKeys [] xs = [] := rfl
    refine ⟨o, es, ep, g, ex, dt, z, nd_keys_is I.hok N.ls, ndp⟩
  · obtain ⟨⟨ns, o, es, ep, g, ex, dt, el⟩, _⟩ := I.hok d _ e
    refine ⟨ns, o, es, ep, g, ex, dt, ?_, nd_keys_is I.hok N.ls, ndp⟩
    rw [el]
    unfold ndEnt ndKeys
    rw [List.map_map]
    rfl
theorem nd_at {ps : List Addr} {xs : List Lt} {k : NestedKey} (h : ps.length = xs.length) : (atKey (ndKeys ps xs) k).isSome = decide (k ∈ xs.map ltKey) := by
  unfold atKey
  rw [Option.isSome_map, ← ndKeys_fst h, Bool.eq_iff_iff, List.find?_isSome, decide_eq_true_eq, List.mem_map]
  constructor
  · rintro ⟨q, hq, e⟩
    exact ⟨q, hq, of_decide_eq_true e⟩
  · rintro ⟨q, hq, e⟩
    exact ⟨q, hq, decide_eq_true e⟩
/-- letter in d -/
def tNdIn (w : World) (ti td : TE) : TE := fun σ H Q => ti σ H fun y H1 => td σ H1 fun z H2 => ∃ (p d : Addr) (x : Lt) (ps : List Addr) (xs : List Lt), y = .ref p ∧ z = .ref d ∧ LtAt H2 p x ∧ NdAt w H2 d ps xs ∧ Q (.bl (decide (ltKey x ∈ xs.map ltKey))) H2
theorem pc_ndin {X : Cx} {i o : Expr} {ti td : TE} (hu : X.A.units + 9 < cLine) (hi : PE X i ti) (ho : PE X o td) : PC X .In i o (tNdIn X.w ti td) := by
  refine ⟨fun pins s σ H Q I h => ?_⟩
  refine thn (hi.run pins s σ H _ I h) fun iv s1 ⟨y, H1, I1, ry, q1⟩ => thn (ho.run pins s1 σ H1 _ I1 q1) fun u s2 ⟨z, H2, I2, rz, p, d, x, ps, xs, ey, ez, lx, N, q2⟩ => ?_
  subst ey ez
  cases ry
  cases rz
  obtain ⟨ns, dd⟩ := nd_dict I2 N
  refine wpAny_in_heap (knd := nestedKind X.prog X.w) (k := ltKey x) (show X.A.units + 1 + 8 < cLine from by omega) (nested_lt I2.hok lx) ns dd ?_
  · rw [nd_at N.ls.1]
    exact ⟨.bl _, H2, I2.kept (t' := _) fun _ _ z => z, rfl, q2⟩
/-- letter not in d -/
def tNdNotIn (w : World) (ti td : TE) : TE := fun σ H Q => ti σ H fun y H1 => td σ H1 fun z H2 => ∃ (p d : Addr) (x : Lt) (ps : List Addr) (xs : List Lt), y = .ref p ∧ z = .ref d ∧ LtAt H2 p x ∧ NdAt w H2 d ps xs ∧ Q (.bl (!decide (ltKey x ∈ xs.map ltKey))) H2
theorem pc_ndnotin {X : Cx} {i o : Expr} {ti td : TE} (hu : X.A.units + 9 < cLine) (hi : PE X i ti) (ho : PE X o td) : PC X .NotIn i o (tNdNotIn X.w ti td) := by
  refine ⟨fun pins s σ H Q I h => ?_⟩
  refine thn (hi.run pins s σ H _ I h) fun iv s1 ⟨y, H1, I1, ry, q1⟩ => thn (ho.run pins s1 σ H1 _ I1 q1) fun u s2 ⟨z, H2, I2, rz, p, d, x, ps, xs, ey, ez, lx, N, q2⟩ => ?_
  subst ey ez
  cases ry
  cases rz
  obtain ⟨ns, dd⟩ := nd_dict I2 N
  refine wpAny_notIn_heap (knd := nestedKind X.prog X.w) (k := ltKey x) (show X.A.units + 1 + 8 < cLine from by omega) (nested_lt I2.hok lx) ns dd ?_
  rw [nd_at N.ls.1]
  exact ⟨.bl _, H2, I2.kept (t' := _) fun _ _ z => z, rfl, q2⟩
theorem nd_snoc_ent {w : World} : ∀ {ps : List Addr} {xs : List Lt} {p : Addr} {x : Lt}, ps.length = xs.length → ndKeys (ps ++ [p]) (xs ++ [x]) = ndKeys ps xs ++ [(ltKey x, p, .bool true)]
  | [], [], _, _, _ => rfl
  | a :: ps, b :: xs, p, x, h => by
    have := nd_snoc_ent (w := w) (ps := ps) (xs := xs) (p := p) (x := x) (Nat.succ.inj h)
    show (ltKey b, a, Value.bool true) :: ndKeys (ps ++ [p]) (xs ++ [x]) = _
    rw [this]
    rfl
  | [], b :: xs, _, _, h => nomatch h
  | a :: ps, [], _, _, h => nomatch h
/-- d[letter] = True, not yet there -/
def sNdPut (w : World) (td ty tv : TE) : TS := fun D σ H => tv σ H fun v H1 => td σ H1 fun z H2 => ty σ H2 fun y H3 => ∃ (p d : Addr) (x : Lt) (ps : List Addr) (xs : List Lt), v = .bl true ∧ y = .ref p ∧ z = .ref d ∧ LtAt H3 p x ∧ NdAt w H3 d ps xs ∧ ltKey x ∉ xs.map ltKey ∧
  D.nx σ (upd H3 d (.ext (ndPhi w d (ps ++ [p]) (xs ++ [x]))))
theorem ps_ndput {X : Cx} {o i value : Expr} {td ty tv : TE} {pos pos' : Pos} (hu : X.A.units + 9 < cLine) (ho : PE X o td) (hi : PE X i ty) (hv : PE X value tv) (hs : swapsWith value (some (.Subscript o i pos')) pos.line X.env = pure false) :
    PS X (.Assign [.Subscript o i pos'] value pos) (sNdPut X.w td ty tv) := by
  refine ⟨fun pins s σ H D I h => ?_⟩
  refine wpAny_Assign_Subscript (thn (hv.run pins s σ H _ I h) fun r s1 ⟨v, H1, I1, rv, q1⟩ => thn (ho.run pins s1 σ H1 _ I1 q1) fun u s2 ⟨z, H2, I2, rz, q2⟩ => thn (hi.run pins s2 σ H2 _ I2 q2) fun iv s3 ⟨y, H3, I3, ry, p, d, x, ps, xs, ev, ey, ez, lx, N, nin, q3⟩ => ?_) hs
  subst ev ey ez
  cases ry
  cases rz
  cases rv
  obtain ⟨ns, dd⟩ := nd_dict I3 N
  have nn : atKey (ndKeys ps xs) (ltKey x) = none := by
    have e := nd_at (k := ltKey x) N.ls.1
    rw [decide_eq_false nin] at e
    exact Option.not_isSome_iff_eq_none.mp (by rw [e]; exact Bool.false_ne_true)
  refine wpAny_setItem_heap (hsz := ?_) (knd := nestedKind X.prog X.w) (k := ltKey x) (show X.A.units + 1 + 8 < cLine from by omega) (nested_lt I3.hok lx) dd fun h' dd' hs' => ?_
  · rw [storedH_new nn, ← nd_snoc_ent (w := X.w) N.ls.1] at dd'
    obtain ⟨ob, es, ep, g, ex, dt, el, _, _⟩ := dd'
    have mu : Mut (H3 d) := by
      rcases N.at_ with ⟨_, e⟩ | e <;> (rw [e]; exact True.intro)
    have eph : ndPhi X.w d (ps ++ [p]) (xs ++ [x]) h' := ⟨ns, ob, es, ep, g, ex, dt, by
      rw [el]
      unfold ndEnt ndKeys
      rw [List.map_map]
      rfl⟩
    exact ⟨σ, _, d_write (ob := .ext (ndPhi X.w d (ps ++ [p]) (xs ++ [x]))) I3 mu hs' ⟨ob, g⟩ ⟨eph, ⟨ob, g⟩, fun h1 h2 ⟨a1, o1, es1, ep1, g1, r1⟩ kp => ⟨a1, o1, es1, ep1, kp _ g1, r1⟩⟩, q3⟩
  · have f := N.few
    have n1 := N.ls.1
    have : (ndKeys ps xs).length = xs.length := by
      unfold ndKeys
      rw [List.length_map, List.length_zip]
      omega
    rw [this, sizeLine_eq]
    omega
/-- list(d) -/
def rListNd (w : World) : List V → Hp → VK → Prop := fun vs H Q => ∃ (d : Addr) (ps : List Addr) (xs : List Lt), vs = [.ref d] ∧ NdAt w H d ps xs ∧ ∀ q, H q = none → Q (.ref q) (upd H q (.lst (ps.map V.ref)))
theorem call_list_nd {X : Cx} (hc : X.calm = true) : CallR X (.type "list") (rListNd X.w) := by
  intro pins s σ H xs us Q I r h
  obtain ⟨d, ps, ls, e, N, q⟩ := h
  subst e
  obtain ⟨u, eu, rx⟩ := vals1 r
  subst eu
  obtain rfl : u = Value.ref d := rx
  obtain ⟨ns, dd⟩ := nd_dict I N
  obtain ⟨o, es, ep, g, ex, dt, el, _, _⟩ := dd
  have n1 := N.ls.1
  have n2 : (ndKeys ps ls).length = ps.length := by
    unfold ndKeys
    rw [List.length_map, List.length_zip]
    omega
  have n3 : es.size = ps.length := by
    rw [← Array.length_toList, el, List.length_map, n2]
  have f := N.few
  refine PySem.W.kdl_call (kdl_raw ns ex dt) (I.ok.hd hc) g (by rw [n3, sizeLine_eq]; omega) fun h' tk acc' c' kp hS it => ?_
  refine ⟨.ref s.heap.objs.size, upd H s.heap.objs.size (.lst (ps.map V.ref)), I.laid kp (Nat.le_refl _) (show ObjOk X.prog X.w _ _ _ (.lst (ps.map V.ref)) from ⟨?_, acc'.toList, c', ?_, ?_⟩), rfl, q _ (I.hok.fresh (Nat.le_refl _))⟩
  · rw [List.length_map, sizeLine_eq]
    omega
  · have e2 : acc'.toList.length = acc'.size := by simp
    refine vals_of_at (by rw [List.length_map, e2, it.1, n3]) fun j x w h1 h2 => ?_
    obtain ⟨en, he, rfl⟩ := it.2 j w (by rw [← Array.getElem?_toList]; exact h2)
    rw [← Array.getElem?_toList, el, List.getElem?_map] at he
    rw [List.getElem?_map] at h1
    unfold ndKeys at he
    rw [List.getElem?_map] at he
    cases hz : (ps.zip ls)[j]? with
    | none => rw [hz] at he; cases he
    | some z =>
      rw [hz] at he
      cases he
      obtain ⟨z1, _⟩ := List.getElem?_zip_eq_some.mp hz
      rw [z1] at h1
      cases h1
      rfl
  · rw [Array.toArray_toList]
    exact hS
/-- a thing that is no tuple can change: the letters stay -/
theorem LtAt.updM {H : Hp} {p l : Addr} {x : Lt} {o : HO} (h : LtAt H p x) (hl : ∀ ys, H l ≠ some (.tup ys)) : LtAt (_root_.L2.upd H l o) p x := by
  obtain ⟨q, h1, h2⟩ := h
  have h2' : H q = some (.tup x.m.vals) := h2
  refine ⟨q, ?_, ?_⟩
  · rw [upd_ne fun e => hl _ (e ▸ h1)]
    exact h1
  · unfold SmAt
    rw [upd_ne fun e => hl _ (e ▸ h2')]
    exact h2
theorem LsAt.updM {H : Hp} {ps : List Addr} {xs : List Lt} {l : Addr} {o : HO} (h : LsAt H ps xs) (hl : ∀ ys, H l ≠ some (.tup ys)) : LsAt (_root_.L2.upd H l o) ps xs := ⟨h.1, fun i hi => (h.2 i hi).updM hl⟩
theorem NdAt.notTup {w : World} {H : Hp} {d : Addr} {ps : List Addr} {xs : List Lt} (N : NdAt w H d ps xs) : ∀ ys, H d ≠ some (.tup ys) := fun ys e => by
  rcases N.at_ with ⟨_, a⟩ | a <;> (rw [a] at e; cases e)
theorem NdAt.same {w : World} {H H' : Hp} {d : Addr} {ps : List Addr} {xs : List Lt} (N : NdAt w H d ps xs) (s : Same H H') : NdAt w H' d ps xs :=
  ⟨N.at_.imp (fun a => ⟨a.1, s _ _ a.2⟩) fun a => s _ _ a, N.ls.same s, N.nd, N.few⟩
/-- something else, no tuple, changes -/
theorem NdAt.updM {w : World} {H : Hp} {d l : Addr} {ps : List Addr} {xs : List Lt} {o : HO} (N : NdAt w H d ps xs) (hl : ∀ ys, H l ≠ some (.tup ys)) (ne : d ≠ l) : NdAt w (_root_.L2.upd H l o) d ps xs :=
  ⟨N.at_.imp (fun a => ⟨a.1, by rw [upd_ne ne]; exact a.2⟩) fun a => by rw [upd_ne ne]; exact a, N.ls.updM hl, N.nd, N.few⟩
theorem NdAt.new {w : World} {H : Hp} {d : Addr} (e : H d = some (.dK [])) : NdAt w H d [] [] := ⟨.inl ⟨rfl, e⟩, .nil, .nil, Nat.zero_lt_succ _⟩
/-- what stands there after d[letter] = True -/
theorem NdAt.put {w : World} {H : Hp} {d p : Addr} {x : Lt} {ps : List Addr} {xs : List Lt} (N : NdAt w H d ps xs) (e : LtAt H p x) (nin : ltKey x ∉ xs.map ltKey) (few : xs.length + 1 < 1000) :
    NdAt w (_root_.L2.upd H d (.ext (ndPhi w d (ps ++ [p]) (xs ++ [x])))) d (ps ++ [p]) (xs ++ [x]) := by
  refine ⟨.inr (upd_same), (N.ls.updM N.notTup).snoc (e.updM N.notTup), ?_, by rw [List.length_append]; exact few⟩
  rw [List.map_append]
  exact List.nodup_append.mpr ⟨N.nd, List.pairwise_singleton _ _, fun a ha b hb => by
    rw [List.map_singleton, List.mem_singleton] at hb
    subst hb
    exact fun z => nin (z ▸ ha)⟩
/-- two letters have the same key exactly if they are equal as data -/
theorem key_eqv (y x : Lt) : PyData.eqv y.dat x.dat = decide (ltKey y = ltKey x) := by
  obtain ⟨yw, yk, yh, yt, yb, yl⟩ := y
  obtain ⟨xw, xk, xh, xt, xb, xl⟩ := x
  rw [Bool.eq_iff_iff, decide_eq_true_eq]
  have k1 : ¬Kd.prop.s = Kd.pre.s := by decide
  have k2 : ¬Kd.prop.s = Kd.com.s := by decide
  have k3 : ¬Kd.pre.s = Kd.prop.s := by decide
  have k4 : ¬Kd.pre.s = Kd.com.s := by decide
  have k5 : ¬Kd.com.s = Kd.prop.s := by decide
  have k6 : ¬Kd.com.s = Kd.pre.s := by decide
  cases yk <;> cases xk <;> cases yb <;> cases xb <;> cases yl <;> cases xl <;>
    simp [Lt.dat, Sm.dat, ltKey, Sm.vals, vKey, oS, oI, PyData.eqv, PyData.eqvAll, k1, k2, k3, k4, k5, k6]
/-! keys that are texts or None -/
def optIs : Option Str → Value → Bool
  | none, .none => true
  | some x, .str y _ => decide (y = x)
  | _, _ => false
theorem optIs_shape {k : Option Str} {v : Value} (h : optIs k v = true) : (k = none ∧ v = .none) ∨ ∃ x t, k = some x ∧ v = .str x t := by
  cases k with
  | none => cases v <;> first | exact .inl ⟨rfl, rfl⟩ | cases h
  | some x =>
    cases v with
    | str y t =>
      have e : y = x := of_decide_eq_true h
      subst e
      exact .inr ⟨y, t, rfl, rfl⟩
    | _ => cases h
def optKind (prog : Program) (w : World) : PySem.KeyKind prog w (Option Str) where
  is := optIs
  hash := fun | none => reduceHash 0xFCA86420 | some x => keyH w (.inr x)
  inj := fun v a b ha hb => by
    rcases optIs_shape ha with ⟨rfl, rfl⟩ | ⟨x, t, rfl, rfl⟩ <;> rcases optIs_shape hb with ⟨rfl, e⟩ | ⟨y, u, rfl, e⟩
    · rfl
    · cases e
    · cases e
    · injection e with e1 _
      rw [e1]
  byValue := fun k v h => by
    rcases optIs_shape h with ⟨rfl, rfl⟩ | ⟨x, t, rfl, rfl⟩ <;> rfl
  pyHash := fun hv h => by
    rcases optIs_shape hv with ⟨rfl, rfl⟩ | ⟨x, t, rfl, rfl⟩
    · exact W.pyHash_slot (T := "NoneType") rfl PySem.F.slot_NoneType_hash PySem.F.entry_NoneType_hash (PySem.F.args_NoneType_hash_1 _) (beq_builtin_none _) (.inl rfl) (wpAny_bind (wpAny_pure (wpAny_bind (wpAny_mkInt (wpAny_pure ⟨_, _, rfl, h⟩)))))
    · exact wpAny_pyHash_str h
  eqBool := fun hu hv h => by
    rcases optIs_shape hu with ⟨rfl, rfl⟩ | ⟨x, t, rfl, rfl⟩ <;> rcases optIs_shape hv with ⟨rfl, rfl⟩ | ⟨y, u, rfl, rfl⟩
    · exact SeqAt.EqAt.same _ _ _ _ _ h
    · exact SeqAt.EqAt.none_str y u _ _ _ _ h
    · exact SeqAt.EqAt.str_none x t _ _ _ _ h
    · rw [show decide ((some x : Option Str) = some y) = decide (x = y) by simp] at h
      exact wpAny_eqBool_str h
  «strs» := fun k x t v h => by
    rcases optIs_shape h with ⟨rfl, e⟩ | ⟨y, u, rfl, e⟩
    · cases e
    · injection e with e1 _
      subst e1
      cases v <;> rfl
/-! a dict whose keys are texts or None and whose values are things in the heap -/
def odV (kvs : List (Option Str × Addr)) : List (Option Str × Value) := kvs.map fun q => (q.1, .ref q.2)
def odGet (kvs : List (Option Str × Addr)) (b : Option Str) : Option Addr := (kvs.find? fun q => q.1 = b).map (·.2)
theorem odV_at (kvs : List (Option Str × Addr)) (b : Option Str) : valueAt (odV kvs) b = (odGet kvs b).map Value.ref := by
  unfold valueAt odV odGet
  rw [List.find?_map, Option.map_map, Option.map_map]
  rfl
def odPhi (P : Program) (w : World) (d : Addr) (kvs : List (Option Str × Addr)) : Heap → Prop := fun h => (d == sysModules) = false ∧ h.DictOf (optKind P w) d (odV kvs)
structure OdAt (P : Program) (w : World) (H : Hp) (d : Addr) (kvs : List (Option Str × Addr)) : Prop where
  at_ : (kvs = [] ∧ H d = some (.dK [])) ∨ H d = some (.ext (odPhi P w d kvs))
  few : kvs.length < 1000
theorem od_dict {X : Cx} {pins : List (Addr × Obj)} {σ : L2.St} {H : Hp} {s : Shared} {d : Addr} {kvs : List (Option Str × Addr)} (I : L2.Inv X pins σ H s) (N : OdAt X.prog X.w H d kvs) :
    (d == sysModules) = false ∧ s.heap.DictOf (optKind X.prog X.w) d (odV kvs) := by
  rcases N.at_ with ⟨rfl, e⟩ | e
  · obtain ⟨_, ns, vs, rel, dd⟩ := I.hok d _ e
    cases rel
    refine ⟨ns, ?_⟩
    obtain ⟨o, es, ep, g, ex, dt, _, pr, _⟩ := dd
    have z : es.toList = [] := by
      cases he : es.toList with
      | nil => rfl
      | cons a l => rw [he] at pr; cases pr
    refine ⟨o, es, ep, g, ex, dt, fun en hen => ?_, ?_, .nil⟩
    · have : en ∈ es.toList := Array.mem_toList_iff.mpr hen
      rw [z] at this
      cases this
    · rw [z]
      exact .nil
  · exact (I.hok d _ e).1
theorem od_mut {P : Program} {w : World} {H : Hp} {d : Addr} {kvs : List (Option Str × Addr)} (N : OdAt P w H d kvs) : Mut (H d) := by
  rcases N.at_ with ⟨_, e⟩ | e <;> (rw [e]; exact True.intro)
theorem od_obj {P : Program} {w : World} {H : Hp} {h : Heap} {d : Addr} {kvs : List (Option Str × Addr)} (e : odPhi P w d kvs h) : ObjOk P w H h d (.ext (odPhi P w d kvs)) := by
  obtain ⟨ns, o, es, ep, g, r⟩ := id e
  refine ⟨e, ⟨o, g⟩, fun h1 h2 e1 kp => ?_⟩
  obtain ⟨ns1, o1, es1, ep1, g1, r1⟩ := e1
  exact ⟨ns1, o1, es1, ep1, kp _ g1, r1⟩
theorem opt_is {P : Program} {w : World} {b : Option Str} {u : Value} (r : RelV (oS b) u) : (optKind P w).is b u = true := by
  cases b with
  | none => cases r; rfl
  | some x =>
    obtain ⟨t, rfl⟩ := r
    exact decide_eq_true rfl
/-- d.setdefault(b, the thing at z) -/
theorem od_setd {X : Cx} {pins : List (Addr × Obj)} {σ : L2.St} {H : Hp} {s : Shared} {d z : Addr} {u : Value} {b : Option Str} {kvs : List (Option Str × Addr)} {A : Around} {E : Value → Shared → Prop} {Q : Value → Shared → Prop}
    (I : L2.Inv X pins σ H s) (N : OdAt X.prog X.w H d kvs) (ry : RelV (oS b) u)
    (h1 : ∀ v, odGet kvs b = some v → ∀ s', L2.Inv X pins σ H s' → Q (.ref v) s')
    (h2 : odGet kvs b = none → ∀ s', L2.Inv X pins σ (upd H d (.ext (odPhi X.prog X.w d (kvs ++ [(b, z)])))) s' → Q (.ref z) s') :
    wpAny (model X.prog X.w) A (call (.builtin "dict.setdefault") [.ref d, u, .ref z]) Q E s := by
  obtain ⟨ns, dd⟩ := od_dict I N
  have f := N.few
  refine call_meetsIn PySem.F.slot_dict_setdefault dd.typeIs PySem.F.entry_dict_setdefault (PySem.F.args_dict_setdefault_3 _ _ _) (kt_meets_setdefault (optKind X.prog X.w) d (opt_is ry) ns (.ref z)) ⟨odV kvs, dd, ?_, fun v hv => ?_, fun hn h' dd' hs => ?_⟩
  · unfold odV
    rw [List.length_map, sizeLine_eq]
    omega
  · rw [odV_at] at hv
    cases q : odGet kvs b with
    | none => rw [q] at hv; cases hv
    | some a =>
      rw [q] at hv
      cases hv
      exact h1 a q _ (I.tok _)
  · rw [stored_absent hn] at dd'
    rw [odV_at] at hn
    have q : odGet kvs b = none := by
      cases q : odGet kvs b with
      | none => rfl
      | some a => rw [q] at hn; cases hn
    have e : odPhi X.prog X.w d (kvs ++ [(b, z)]) h' := ⟨ns, by
      unfold odV at dd' ⊢
      rw [List.map_append]
      exact dd'⟩
    exact h2 q _ (d_write (t' := s.toks + 1) I (od_mut N) hs (let ⟨o, _, _, g, _⟩ := dd'; ⟨o, g⟩) (od_obj e))
/-- d[b] -/
theorem od_getItem {X : Cx} {pins : List (Addr × Obj)} {σ : L2.St} {H : Hp} {s : Shared} {d v : Addr} {u : Value} {b : Option Str} {kvs : List (Option Str × Addr)} {A : Around} {E : Value → Shared → Prop} {Q : Value → Shared → Prop}
    (I : L2.Inv X pins σ H s) (N : OdAt X.prog X.w H d kvs) (ry : RelV (oS b) u) (g : odGet kvs b = some v) (h : ∀ s', L2.Inv X pins σ H s' → Q (.ref v) s') : wpAny (model X.prog X.w) A (getItem (.ref d) u) Q E s := by
  obtain ⟨ns, dd⟩ := od_dict I N
  exact wpAny_getItem_of (opt_is ry) dd.mapOf (by rw [odV_at, g]; rfl) (h _ (I.tok _))
/-- d.setdefault(b, z), as an expression: td the dict, ty the key, tx the thing -/
def tOdSetd (P : Program) (w : World) (td ty tx : TE) : TE := fun σ H Q => td σ H fun x H1 => ∃ d kvs1, x = .ref d ∧ OdAt P w H1 d kvs1 ∧ ty σ H1 fun y H2 => tx σ H2 fun z H3 => ∃ (kvs : List (Option Str × Addr)) (b : Option Str) (a : Addr), OdAt P w H3 d kvs ∧ y = oS b ∧ z = .ref a ∧
  (∀ v, odGet kvs b = some v → Q (.ref v) H3) ∧ (odGet kvs b = none → Q (.ref a) (_root_.L2.upd H3 d (.ext (odPhi P w d (kvs ++ [(b, a)])))))
theorem pe_odsetd {X : Cx} {o e f : Expr} {td ty tx : TE} {apos cpos : Pos} (ho : PE X o td) (he : PE X e ty) (hf : PE X f tx) (m : M2 X o "setdefault" apos e f cpos) : PE X (.Call (.Attribute o "setdefault" apos) [e, f] [] cpos) (tOdSetd X.prog X.w td ty tx) := by
  refine ⟨fun pins s σ H Q I h => ?_⟩
  refine wpAny_Call_method m.base m.few m.line PySem.F.plainAttrs_dict PySem.F.slot_dict_setdefault PySem.F.type_dict_setdefault (thn (ho.run pins s σ H _ I h) fun u s1 ⟨x, H1, I1, rx, d, kvs1, ex, N1, q1⟩ => ?_)
  subst ex
  obtain rfl : u = Value.ref d := rx
  obtain ⟨_, dd1⟩ := od_dict I1 N1
  refine ⟨dd1.typeIs, dd1.mapOf.noDict, ?_⟩
  rw [m.trees]
  refine Calls.callWith_builtin rfl (Calls.evalArgs_plain (Calls.spliced_cons (thn (he.run pins s1 σ H1 _ I1 q1) fun iv s2 ⟨y, H2, I2, ry, q2⟩ =>
    Calls.spliced_cons (thn (hf.run pins s2 σ H2 _ I2 q2) fun fv s3 ⟨z, H3, I3, rz, kvs, b, a, N, ey, ez, q3, q4⟩ => Calls.spliced_nil ?_))))
  subst ey ez
  obtain rfl : fv = Value.ref a := rz
  exact od_setd I3 N ry (fun v hv s4 I4 => ⟨.ref v, _, I4, rfl, q3 v hv⟩) fun hn s4 I4 => ⟨.ref a, _, I4, rfl, q4 hn⟩
/-- d[b] -/
def tOdGet (P : Program) (w : World) (td ty : TE) : TE := fun σ H Q => td σ H fun x H1 => ty σ H1 fun y H2 => ∃ (d : Addr) (kvs : List (Option Str × Addr)) (b : Option Str) (a : Addr), x = .ref d ∧ y = oS b ∧ OdAt P w H2 d kvs ∧ odGet kvs b = some a ∧ Q (.ref a) H2
theorem pe_odget {X : Cx} {o i : Expr} {td ty : TE} {pos : Pos} (ho : PE X o td) (hi : PE X i ty) (hs : NoSl i) : PE X (.Subscript o i pos) (tOdGet X.prog X.w td ty) := by
  refine ⟨fun pins s σ H Q I h => ?_⟩
  refine subD_of PySem.F.slot_dict_getitem.lookup hs (thn (ho.run pins s σ H _ I h) fun u s1 ⟨x, H1, I1, rx, q1⟩ => thn (hi.run pins s1 σ H1 _ I1 q1) fun iv s2 ⟨y, H2, I2, ry, d, kvs, b, a, ex, ey, N, g, q2⟩ => ?_)
  subst ex ey
  obtain rfl : u = Value.ref d := rx
  exact ⟨(od_dict I2 N).2.typeIs, od_getItem I2 N ry g fun s3 I3 => ⟨.ref a, H2, I3, rfl, q2⟩⟩
/-! what stands after it -/
theorem OdAt.notTup {P : Program} {w : World} {H : Hp} {d : Addr} {kvs : List (Option Str × Addr)} (N : OdAt P w H d kvs) : ∀ ys, H d ≠ some (.tup ys) := fun ys e => by
  rcases N.at_ with ⟨_, a⟩ | a <;> (rw [a] at e; cases e)
theorem OdAt.same {P : Program} {w : World} {H H' : Hp} {d : Addr} {kvs : List (Option Str × Addr)} (N : OdAt P w H d kvs) (s : Same H H') : OdAt P w H' d kvs :=
  ⟨N.at_.imp (fun a => ⟨a.1, s _ _ a.2⟩) fun a => s _ _ a, N.few⟩
theorem OdAt.updM {P : Program} {w : World} {H : Hp} {d l : Addr} {kvs : List (Option Str × Addr)} {o : HO} (N : OdAt P w H d kvs) (ne : d ≠ l) : OdAt P w (_root_.L2.upd H l o) d kvs :=
  ⟨N.at_.imp (fun a => ⟨a.1, by rw [upd_ne ne]; exact a.2⟩) fun a => by rw [upd_ne ne]; exact a, N.few⟩
theorem OdAt.new {P : Program} {w : World} {H : Hp} {d : Addr} (e : H d = some (.dK [])) : OdAt P w H d [] := ⟨.inl ⟨rfl, e⟩, Nat.zero_lt_succ _⟩
theorem OdAt.put {P : Program} {w : World} {H : Hp} {d a : Addr} {b : Option Str} {kvs : List (Option Str × Addr)} (few : kvs.length + 1 < 1000) :
    OdAt P w (_root_.L2.upd H d (.ext (odPhi P w d (kvs ++ [(b, a)])))) d (kvs ++ [(b, a)]) := ⟨.inr upd_same, by rw [List.length_append]; exact few⟩
theorem odGet_new {kvs : List (Option Str × Addr)} {b : Option Str} {a : Addr} (h : odGet kvs b = none) : odGet (kvs ++ [(b, a)]) b = some a := by
  unfold odGet at h ⊢
  rw [Option.map_eq_none_iff] at h
  rw [List.find?_append, h]
  simp
theorem odGet_other {kvs : List (Option Str × Addr)} {b c : Option Str} {a : Addr} (ne : b ≠ c) : odGet (kvs ++ [(b, a)]) c = odGet kvs c := by
  unfold odGet
  rw [List.find?_append]
  simp [ne]
end

/-! ### certificates, turn by turn -/
def qrm (ws ms : List Int) : Bool := decide (2 * ws.sum < 3 * wOf ws ms)
def cnt (h t : Int) (b : Option Str) (L : List Int) (x : Lt) : Bool := decide (x.m.k = .pre ∧ x.m.h = h ∧ x.m.t = t ∧ x.m.b = b) && (match x.m.l with | none => true | some l => decide (l ∈ L) && decide (l < t))
def memM (xs : List Lt) (h t : Int) (b : Option Str) (L : List Int) : List Int := (xs.filter (cnt h t b L)).map Lt.w
/-- the turns below n with a certificate -/
def lns (ws : List Int) (xs : List Lt) (h : Int) (b : Option Str) : Nat → List Int
  | 0 => []
  | n + 1 => if qrm ws (memM xs h n b (lns ws xs h b n)) then lns ws xs h b n ++ [(n : Int)] else lns ws xs h b n
def certM (ws : List Int) (xs : List Lt) (h : Int) (b : Option Str) (n : Nat) : Bool := qrm ws (memM xs h n b (lns ws xs h b n))
def comS (xs : List Lt) (h t : Int) (b : Option Str) : List Int := (xs.filter fun x => decide (x.m.k = .com ∧ x.m.h = h ∧ x.m.t = t ∧ x.m.b = b)).map Lt.w
def commM (ws : List Int) (xs : List Lt) (h : Int) (b : Option Str) (n : Nat) : Bool := qrm ws (comS xs h n b) && certM ws xs h b n
theorem lns_len (ws : List Int) (xs : List Lt) (h : Int) (b : Option Str) : ∀ n, (lns ws xs h b n).length ≤ n
  | 0 => Nat.le_refl _
  | n + 1 => by
    have := lns_len ws xs h b n
    rw [lns]
    split
    · rw [List.length_append, List.length_singleton]
      omega
    · omega
theorem mem_yes {xs : List Lt} {h t : Int} {b : Option Str} {L : List Int} {i : Nat} (hi : i < xs.length) (c : cnt h t b L (xs.getD i default) = true) : memM (xs.take (i + 1)) h t b L = memM (xs.take i) h t b L ++ [(xs.getD i default).w] := by
  unfold memM
  rw [take_succ_getD (d := default) hi, List.filter_append, List.filter_cons_of_pos c, List.map_append]
  rfl
theorem mem_no {xs : List Lt} {h t : Int} {b : Option Str} {L : List Int} {i : Nat} (hi : i < xs.length) (c : cnt h t b L (xs.getD i default) = false) : memM (xs.take (i + 1)) h t b L = memM (xs.take i) h t b L := by
  unfold memM
  rw [take_succ_getD (d := default) hi, List.filter_append, List.filter_cons_of_neg (by rw [c]; exact Bool.false_ne_true), List.filter_nil, List.append_nil]
theorem mem_len (xs : List Lt) (h t : Int) (b : Option Str) (L : List Int) : (memM xs h t b L).length ≤ xs.length := by
  unfold memM
  rw [List.length_map]
  exact List.length_filter_le _ _
theorem com_yes {xs : List Lt} {h t : Int} {b : Option Str} {i : Nat} (hi : i < xs.length) (c : (xs.getD i default).m.k = .com ∧ (xs.getD i default).m.h = h ∧ (xs.getD i default).m.t = t ∧ (xs.getD i default).m.b = b) : comS (xs.take (i + 1)) h t b = comS (xs.take i) h t b ++ [(xs.getD i default).w] := by
  unfold comS
  rw [take_succ_getD (d := default) hi, List.filter_append, List.filter_cons_of_pos (by exact decide_eq_true c), List.map_append]
  rfl
theorem com_no {xs : List Lt} {h t : Int} {b : Option Str} {i : Nat} (hi : i < xs.length) (c : ¬ ((xs.getD i default).m.k = .com ∧ (xs.getD i default).m.h = h ∧ (xs.getD i default).m.t = t ∧ (xs.getD i default).m.b = b)) : comS (xs.take (i + 1)) h t b = comS (xs.take i) h t b := by
  unfold comS
  rw [take_succ_getD (d := default) hi, List.filter_append, List.filter_cons_of_neg (by rw [decide_eq_false c]; exact Bool.false_ne_true), List.filter_nil, List.append_nil]
theorem com_len (xs : List Lt) (h t : Int) (b : Option Str) : (comS xs h t b).length ≤ xs.length := by
  unfold comS
  rw [List.length_map]
  exact List.length_filter_le _ _
/-- a list of turns behind None -/
def lnV (L : List Int) : List V := .non :: L.map V.int
theorem flat_lnV (L : List Int) : (lnV L).all flatV = true := by
  unfold lnV
  rw [List.all_cons, flat_ints]
  rfl
theorem inV_lnV (l : Option Int) (L : List Int) : inV (oI l) (lnV L) = (match l with | none => true | some i => decide (i ∈ L)) := by
  cases l with
  | none => rfl
  | some i =>
    show (eqV .non (.int i) || inV (.int i) (L.map V.int)) = _
    rw [inV_ints]
    rfl
theorem cnt_f {h t : Int} {b : Option Str} {L : List Int} {x : Lt} (c : ¬ (x.m.k = .pre ∧ x.m.h = h ∧ x.m.t = t ∧ x.m.b = b)) : cnt h t b L x = false := by
  unfold cnt
  rw [decide_eq_false c]
  rfl
theorem cnt_t {h t : Int} {b : Option Str} {L : List Int} {x : Lt} (c : x.m.k = .pre ∧ x.m.h = h ∧ x.m.t = t ∧ x.m.b = b) : cnt h t b L x = (match x.m.l with | none => true | some l => decide (l ∈ L) && decide (l < t)) := by
  unfold cnt
  rw [decide_eq_true c]
  rfl
theorem flat_oI (l : Option Int) : flatV (oI l) = true := by
  cases l <;> rfl
theorem lnV_snoc (L : List Int) (i : Int) : lnV (L ++ [i]) = lnV L ++ [.int i] := by simp [lnV]
theorem lns_yes {ws : List Int} {xs : List Lt} {h : Int} {b : Option Str} {n : Nat} (c : certM ws xs h b n = true) : lns ws xs h b (n + 1) = lns ws xs h b n ++ [(n : Int)] := by
  rw [lns]
  exact if_pos c
theorem lns_no {ws : List Int} {xs : List Lt} {h : Int} {b : Option Str} {n : Nat} (c : ¬ certM ws xs h b n = true) : lns ws xs h b (n + 1) = lns ws xs h b n := by
  rw [lns]
  exact if_neg c
/-- == with a precommit -/
theorem eqv_com (m : Sm) (h t : Int) (b : Option Str) : PyData.eqv (.tuple m.dat) (.tuple (Sm.dat ⟨.com, h, t, b, none⟩)) = decide (m.k = .com ∧ m.h = h ∧ m.t = t ∧ m.b = b) := by
  obtain ⟨mk, mh, mt, mb, ml⟩ := m
  rw [Bool.eq_iff_iff, decide_eq_true_iff]
  have ks : ∀ x y : Kd, (x.s == y.s) = decide (x = y) := fun x y => by
    rw [Bool.eq_iff_iff, beq_iff_eq, decide_eq_true_iff]
    exact kd_inj x y
  have kp : (Kd.prop.s == Kd.com.s) = false := by
    rw [ks]
    decide
  have kv : (Kd.pre.s == Kd.com.s) = false := by
    rw [ks]
    decide
  cases mk
  · simp only [Sm.dat, PyData.eqv, PyData.eqvAll, kp, Bool.false_and, Bool.false_eq_true, false_iff, not_and]
    intro z
    cases z
  · simp only [Sm.dat, PyData.eqv, PyData.eqvAll, kv, Bool.false_and, Bool.false_eq_true, false_iff, not_and]
    intro z
    cases z
  · cases mb <;> cases b <;> simp [Sm.dat, PyData.eqv, PyData.eqvAll]

/-- a lean leans back, and the block is one of two or none -/
def AB (b : Option Str) : Prop := b = none ∨ b = some ("a" : Str) ∨ b = some ("b" : Str)
def LnOk (m : Sm) : Prop := (∀ l, m.l = some l → 0 ≤ l ∧ l < m.t) ∧ AB m.b
theorem ab_pick {i : Int} (h0 : 0 ≤ i) (h5 : i < 5) {b : Option Str} (e : atI [V.str "a", V.str "b", V.str "a", V.str "b", V.non] i = some (oS b)) : AB b := by
  have h : i = 0 ∨ i = 1 ∨ i = 2 ∨ i = 3 ∨ i = 4 := by omega
  cases b with
  | none => exact .inl rfl
  | some x =>
    rcases h with rfl | rfl | rfl | rfl | rfl <;> first | (cases e; done) | (cases e; exact .inr (.inl rfl)) | (cases e; exact .inr (.inr rfl))

/-! ### a list of letters that is being made -/
def GoodLt (size : Int) (x : Lt) : Prop := OkS x.m.b ∧ 0 ≤ x.w ∧ x.w < size ∧ x.m.h = 0 ∧ x.m.k ≠ .prop ∧ 0 ≤ x.m.t ∧ x.m.t < 4 ∧ LnOk x.m
structure PL (H Hc : Hp) (pl : Addr) (size : Int) (n : Nat) (ps : List Addr) (xs : List Lt) : Prop where
  same : Same H Hc
  free : H pl = none
  at' : Hc pl = some (.lst (ps.map V.ref))
  ls : LsAt Hc ps xs
  good : ∀ x ∈ xs, GoodLt size x
  few : xs.length ≤ n
theorem PL.start {H Hc : Hp} {pl : Addr} {size : Int} (s : Same H Hc) (f : Hc pl = none) : PL H (upd Hc pl (.lst [])) pl size 0 [] [] :=
  ⟨s.trans (same_new f), s.free f, upd_same, LsAt.nil, fun x hx => (nomatch hx), Nat.le_refl _⟩
theorem PL.more {H Hc : Hp} {pl : Addr} {size : Int} {n n' : Nat} {ps : List Addr} {xs : List Lt} (I : PL H Hc pl size n ps xs) (h : n ≤ n') : PL H Hc pl size n' ps xs := { I with few := Nat.le_trans I.few h }
theorem PL.go {H Hc H' : Hp} {pl : Addr} {size : Int} {n : Nat} {ps : List Addr} {xs : List Lt} (I : PL H Hc pl size n ps xs) (s : Same Hc H') : PL H H' pl size n ps xs :=
  { I with same := I.same.trans s, at' := s _ _ I.at', ls := I.ls.same s }
theorem PL.push {H Hc : Hp} {pl t : Addr} {size : Int} {n : Nat} {ps : List Addr} {xs : List Lt} {x : Lt} (I : PL H Hc pl size n ps xs) (e : LtAt Hc t x) (g : GoodLt size x) : PL H (upd Hc pl (.lst (ps.map V.ref ++ [V.ref t]))) pl size (n + 1) (ps ++ [t]) (xs ++ [x]) where
  same := same_upd I.same I.free
  free := I.free
  at' := by
    rw [upd_same]
    simp
  ls := (I.ls.snoc e).upd I.at'
  good := fun y hy => by
    rcases List.mem_append.mp hy with hy | hy
    · exact I.good y hy
    · rw [List.mem_singleton.mp hy]
      exact g
  few := by
    have := I.few
    rw [List.length_append, List.length_singleton]
    omega
theorem PL.fit {H Hc : Hp} {pl : Addr} {size : Int} {n : Nat} {ps : List Addr} {xs : List Lt} (I : PL H Hc pl size n ps xs) (h : n < 1000) : (ps.map V.ref).length < sizeLine := by
  have := I.few
  rw [List.length_map, I.ls.1]
  exact small1000 (by omega)
/-- a fresh statement in a fresh letter -/
theorem lt_new {H : Hp} {q t : Addr} {w : Int} {m : Sm} {vs : List V} (hq : H q = none) (ev : vs = m.vals) (ht : upd H q (.tup vs) t = none) : LtAt (upd (upd H q (.tup vs)) t (.tup [.int w, .ref q])) t ⟨w, m⟩ ∧ Same H (upd (upd H q (.tup vs)) t (.tup [.int w, .ref q])) := by
  have s1 : Same H (upd H q (.tup vs)) := same_new hq
  have s2 : Same (upd H q (.tup vs)) (upd (upd H q (.tup vs)) t (.tup [.int w, .ref q])) := same_new ht
  refine ⟨⟨q, upd_same, s2 _ _ ?_⟩, s1.trans s2⟩
  rw [upd_same, ev]
theorem upd_row {H : Hp} {pl pd : Addr} {o r : HO} (n : pd ≠ pl) (h : H pd = some r) : upd H pl o pd = some r := by
  rw [upd_ne n]
  exact h

/-- e.f where the written part is told -/
theorem pe_fldK {X : Cx} {K : PySem.W.Frag} {e : Expr} {f : Str} {ta : TE} {pos : Pos} (hK : X.K = K) (he : PE X e ta) (hb : attributeBase e f X.env (eval e X.env) = eval e X.env) : PE X (.Attribute e f pos) (tFld K ta f) := by
  subst hK
  exact pe_fld he hb
/-- list(xs) where the written part is told -/
def rListOf (K : PySem.W.Frag) : List V → Hp → VK → Prop := fun zs H Q => ∃ (p : Addr) (ys : List V), zs = [V.ref p] ∧ (SqL K H p ys ∨ SqT K H p ys) ∧ (∀ l : Addr, H l = none → Q (.ref l) (upd H l (.lst ys)))
theorem cr_listK {X : Cx} {K : PySem.W.Frag} (hK : X.K = K) : CallR X (.type "list") (rListOf K) := by
  subst hK
  exact call_list_of
/-- len of a list or tuple where the written part is told -/
def rLenOf (K : PySem.W.Frag) : List V → Hp → VK → Prop := fun zs H Q => ∃ (p : Addr) (ys : List V), zs = [V.ref p] ∧ (SqL K H p ys ∨ SqT K H p ys) ∧ Q (.int (ys.length : Int)) H
theorem cr_lenK {X : Cx} {K : PySem.W.Frag} (hK : X.K = K) : CallR X (.builtin "len") (rLenOf K) := by
  subst hK
  exact call_len_seq

/-! ### own errors without an own __init__: caught, asked -/
structure XcC (K : PySem.W.Frag) (D : Addr) : Prop where
  cl : (PySem.W.clsIn K D).isSome = true
  ga : PySem.W.findIn K (.ref D) "__getattribute__" = some (some (.builtin "BaseException.__getattribute__"))
  gt : PySem.W.findIn K (.ref D) "__getattr__" = some Option.none
  sub : PySem.W.subIn K (.ref D) (.type "BaseException") = some true
  has : PySem.W.hasDictIn K D = true
  cls : PySem.W.findIn K (.ref D) "__class__" = some (some (.builtin "object.__class__"))
  get : PySem.W.specialIn K (.builtin "object.__class__") "__get__" = some (some (.builtin "getset_descriptor.__get__"))
  tk : PySem.W.takesIn K (.builtin "object.__class__") = some true
  obj : PySem.W.mroIn K D (.type "object") = some true
def rIsN (K : PySem.W.Frag) (a : Addr) (cls : Value) (d : Option Addr) : List V → Hp → VK → Prop := fun xs H Q => ∃ (D : Addr) (c : V) (cv : Value) (b : Bool), xs = [.ref a, c] ∧ cls = .ref D ∧ d = Option.none ∧ XcC K D ∧ ClsV c cv ∧ PySem.W.kitOne K (.ref D) cv = some b ∧ Q (.bl b) H
theorem call_isN {X : Cx} {a : Addr} {cls : Value} {d : Option Addr} {oe : Obj} {pn : List (Addr × Obj)} (hz : Zc cls d oe) (hf : ∃ vs, oe.data = .fields vs) : CallR (X.suite a ((a, oe) :: pn)) (.builtin "isinstance") (rIsN X.K a cls d) := by
  intro pins sh σ H xs us Q I rel hyp
  obtain ⟨D, c, cv, b, rfl, rfl, rfl, C, hcv, e, q⟩ := hyp
  obtain ⟨u1, u2, rfl, r1, r2⟩ := vals2 rel
  have e2 := hcv.eq r2
  subst e2
  cases r1
  obtain ⟨got, _⟩ := I.pin (a, oe) (List.mem_append_left _ List.mem_cons_self)
  obtain ⟨vs, hv⟩ := hf
  have J : PySem.W.InstAt sh.heap a oe D Option.none := by
    obtain ⟨oc, odd, oda, osl⟩ := oe
    obtain ⟨h1, h2⟩ := hz
    dsimp only at h1 h2 hv
    subst h1 h2 hv
    exact ⟨got, rfl, rfl, trivial⟩
  exact PySem.W.kia_one (PySem.W.kitx_exc C.cl C.ga C.gt C.sub C.cls C.get C.tk C.obj) I.kIn J e (fun z => nomatch z) fun tk => ⟨.bl b, H, I.kept (t' := tk) fun _ _ z => z, rfl, q⟩

/-! ### try .. except X as n .. else, round one assignment -/
section
variable {prog : Program} {w : World} {A : Around} {env : Env}
theorem assign_next {M : Model} {Γ : Ctx} {ts : List Expr} {v : Expr} {pos : Pos} {R R' : Flow → Pos → Shared → Prop} {E : Value → Pos → Shared → Prop} {p : Pos} {s : Shared}
    (h : ∀ p s, R .next p s → R' .next p s) (hw : Sem.wp M Γ (exec (.Assign ts v pos) env) R E p s) : Sem.wp M Γ (exec (.Assign ts v pos) env) R' E p s := by
  rw [arm_exec_Assign] at hw ⊢
  simp only [Sem.wp_bind'] at hw ⊢
  refine Sem.wp_mono M Γ _ (fun _ p1 s1 w1 => ?_) (fun _ _ _ z => z) p s hw
  refine Sem.wp_mono M Γ _ (fun b p2 s2 w2 => ?_) (fun _ _ _ z => z) p1 s1 w1
  cases b with
  | true =>
    simp only [if_true, Sem.wp_bind', Sem.wp_pure'] at w2 ⊢
    exact Sem.wp_mono M Γ _ (fun _ p3 s3 w3 => h p3 s3 w3) (fun _ _ _ z => z) p2 s2 w2
  | false =>
    simp only [Bool.false_eq_true, if_false, Sem.wp_bind'] at w2 ⊢
    refine Sem.wp_mono M Γ _ (fun x p3 s3 w3 => ?_) (fun _ _ _ z => z) p2 s2 w2
    refine Sem.wp_mono M Γ _ (fun y p4 s4 w4 => ?_) (fun _ _ _ z => z) p3 s3 w3
    unfold assignStores at w4 ⊢
    cases y with
    | none =>
      simp only [Sem.wp_bind', Sem.wp_pure'] at w4 ⊢
      exact Sem.wp_mono M Γ _ (fun _ p5 s5 w5 => h p5 s5 w5) (fun _ _ _ z => z) p4 s4 w4
    | some names =>
      simp only [Sem.wp_bind', Sem.wp_pure'] at w4 ⊢
      refine Sem.wp_mono M Γ _ (fun _ p5 s5 w5 => ?_) (fun _ _ _ z => z) p4 s4 w4
      refine Sem.wp_mono M Γ _ (fun _ p6 s6 w6 => ?_) (fun _ _ _ z => z) p5 s5 w5
      exact Sem.wp_mono M Γ _ (fun _ p7 s7 w7 => h p7 s7 w7) (fun _ _ _ z => z) p6 s6 w6
theorem try_cont {M : Model} {ts : List Expr} {v : Expr} {h₀ : ExceptHandler} {hs : List ExceptHandler} {orelse : List Stmt} {pos pos1 pb : Pos} {Q : Flow → Shared → Prop} {E : Value → Shared → Prop} {s : Shared}
    (hw : wpAny M A (exec (.Try [.Assign ts v pos1, .Continue pb] (h₀ :: hs) [] [] pos) env) (fun f s1 => Q f s1 ∧ (f = .cont → wpAny M A (execs orelse env) Q E s1)) E s) :
    wpAny M A (exec (.Try [.Assign ts v pos1] (h₀ :: hs) orelse [] pos) env) Q E s := fun Γ p hΓ => by
  have w1 := hw Γ p hΓ
  rw [arm_exec_Try] at w1 ⊢
  simp only [Sem.wp_bind'] at w1 ⊢
  refine Sem.wp_mono M Γ _ (fun _ p2 s2 w2 => ?_) (fun _ _ _ z => z) p s w1
  unfold tryStmt at w2 ⊢
  simp only [List.isEmpty_nil, if_true, Sem.wp_bind', Sem.wp_bind, Sem.attempt, Sem.wp_tryCatch', Sem.wp_tryCatch, Sem.wp_pure', Sem.wp_pure, arm_execs_cons, arm_execs_nil, arm_exec_Continue] at w2 ⊢
  refine assign_next (fun p3 s3 r => ?_) (Sem.wp_mono M Γ _ (fun _ _ _ z => z) (fun e p3 s3 w3 => ?_) p2 s2 w2)
  · simp only [Sem.wp_bind', Sem.wp_pure'] at r ⊢
    have r2 : Q .cont s3 ∧ (True → wpAny M A (execs orelse env) Q E s3) := r
    exact (r2.2 trivial) Γ _ hΓ
  · refine Sem.wp_mono M Γ _ (fun _ p4 s4 w4 => ?_) (fun _ _ _ z => z) p3 s3 w3
    exact Sem.wp_mono M Γ _ (fun _ p5 s5 w5 => w5.1) (fun _ _ _ z => z) p4 s4 w4
/-- what is proved of the try whose body goes on with continue, proves the try with an else -/
theorem ps_try_else {X : Cx} {ts : List Expr} {v : Expr} {h₀ : ExceptHandler} {hs : List ExceptHandler} {orelse : List Stmt} {pos pos1 pb : Pos} {t u : TS} (hT : PS X (.Try [.Assign ts v pos1, .Continue pb] (h₀ :: hs) [] [] pos) t) (ho : PSs X orelse u) :
    PS X (.Try [.Assign ts v pos1] (h₀ :: hs) orelse [] pos) (fun D σ H => t { D with ct := fun σ' H' => D.ct σ' H' ∧ u D σ' H' } σ H) := by
  refine ⟨fun pins s σ H D I h => try_cont (wpAny_mono (hT.run pins s σ H _ I h) (fun f s1 hsp => ?_) fun _ _ z => z)⟩
  cases f with
  | next => exact ⟨hsp, fun z => (nomatch z)⟩
  | brk => exact ⟨hsp, fun z => (nomatch z)⟩
  | cont =>
    obtain ⟨σ', H', I', c1, c2⟩ := hsp
    exact ⟨⟨σ', H', I', c1⟩, fun _ => ho.run pins s1 σ' H' D I' c2⟩
  | ret r => exact ⟨hsp, fun z => (nomatch z)⟩
end

/-! ### xs[::-1] -/
section
open PyProof.Rows
def tBack (K : PySem.W.Frag) (te ts : TE) : TE := fun σ H Q => te σ H fun x H1 => ts σ H1 fun y H2 => ∃ a xs, x = .ref a ∧ y = .int (-1) ∧ SqL K H2 a xs ∧ ∀ p, H2 p = none → Q (.ref p) (_root_.L2.upd H2 p (.lst xs.reverse))
theorem pe_back {X : Cx} {e st : Expr} {te ts : TE} {p2 pos : Pos} (he : PE X e te) (hst : PE X st ts) : PE X (.Subscript e (.Slice none none (some st) p2) pos) (tBack X.K te ts) := by
  refine ⟨fun pins s σ H Q I h => Subscript_ (thn (he.run pins s σ H _ I h) fun v s1 ⟨x, H1, I1, r1, q1⟩ => wpAny_Slice ?_)⟩
  rw [evalPart_none, evalPart_some]
  refine wpAny_pure (wpAny_pure (thn (hst.run pins s1 σ H1 _ I1 q1) fun vk s2 ⟨y, H2, I2, r2, a, xs, ex, ey, hx, q⟩ => ?_))
  subst ex ey
  obtain ⟨t, rfl⟩ := r2
  obtain rfl : v = Value.ref a := r1
  obtain ⟨its, rv, hl, hz⟩ := I2.list hx
  generalize hsl : (Value.int (-1) t) = vk
  have pk : IsPart vk (some (-1)) := by
    rw [← hsl]
    exact .int (-1) t
  have J := I2.kept (h' := s2.heap.push { cls := .type "slice", data := .fields #[.none, .none, vk] }) (t' := s2.toks) fun b o g => Heap.get?_push_of_some _ g
  obtain ⟨its2, rv2, hl2, hz2⟩ := J.list hx
  refine tail_any (ops := [.ref a, .ref s2.heap.objs.size]) hl2.isList.typeIs PySem.F.slot_list_getitem.lookup ?_ (by with_unfolding_all rfl)
  refine wpAny_getItem_list_slice hl2.isList (Heap.IsSliceOf.new ..) .none .none pk (by decide) ?_ (by rw [List.size_toArray, ← rv2.length]; exact hz2)
  rw [PySem.W.krv_pick]
  refine ⟨.ref _, upd H2 _ (.lst xs.reverse), J.laid (t' := s2.toks) (fun b o g => Heap.get?_push_of_some _ g) (Nat.le_refl _) ⟨?_, _, 0, rv2.reverse, Heap.get?_push_size _ rfl⟩, rfl, q _ (J.hok.fresh (Nat.le_refl _))⟩
  rw [List.length_reverse]
  exact hz2
end

structure TxtE (K : PySem.W.Frag) (mg : Str → Option Value) (a : Ads) : Prop where
  g_BadLine : mg "BadLine" = some (.ref a.C_BadLine)
  g_BadPaper : mg "BadPaper" = some (.ref a.C_BadPaper)
  x_BadPaper : PySem.W.excIn K a.C_BadPaper [.type "ValueError", .type "Exception", .type "BaseException", .type "object"] "ValueError.__new__" = true
  kc_BadPaper : PySem.W.keepIn K (.ref a.C_BadPaper) = true
  b_BadPaper : PySem.W.subIn K (.ref a.C_BadPaper) (.type "BaseException") = some true
  t_BadPaper : PySem.W.typeIn K (.ref a.C_BadPaper) = some (.type "type")
  xc_BadPaper : XcC K a.C_BadPaper
  kt_BadPaper_BadPaper : PySem.W.kitOne K (.ref a.C_BadPaper) (.ref a.C_BadPaper) = some true
  kt_BadPaper_BadLine : PySem.W.kitOne K (.ref a.C_BadPaper) (.ref a.C_BadLine) = some false
  g_TribunalError : mg "TribunalError" = some (.ref a.C_TribunalError)
  exm_TribunalError_BadPaper : PySem.W.exmOne K (.ref a.C_BadPaper) (.ref a.C_TribunalError) = some true

theorem hu65 {k : Nat} {A : Around} (r : Room k A) : A.units + 65 < cLine := by
  have := r.un
  omega
def spFirst (K : PySem.W.Frag) : Sp := fun vs H Q _ => ∃ (p : Addr) (ws : List Int), vs = [.ref p] ∧ SqL K H p (ws.map V.int) ∧ GoodW ws ∧ ∀ H', Same H H' → Q .non H'
def spInit (K : PySem.W.Frag) (C : Addr) : Sp := fun vs H Q _ => ∃ (p dx l : Addr) (ws : List Int), vs = [.ref p, .ref l] ∧ H p = some (.ins C dx []) ∧ SqL K H l (ws.map V.int) ∧ GoodW ws ∧
  ∀ H' : Hp, CommAt C H' p ws → (∀ b o, H b = some o → b ≠ p → H' b = some o) → Q .non H'

def spWof (K : PySem.W.Frag) (C : Addr) : Sp := fun vs H Q _ => ∃ (p l : Addr) (ws ms : List Int), vs = [.ref p, .ref l] ∧ CommAt C H p ws ∧ ws.length ≤ 16 ∧ SqL K H l (ms.map V.int) ∧ ms.length ≤ 1000 ∧ ∀ H', Same H H' → Q (.int (wOf ws ms)) H'
def spQuorum (K : PySem.W.Frag) (C : Addr) : Sp := fun vs H Q _ => ∃ (p l : Addr) (ws ms : List Int), vs = [.ref p, .ref l] ∧ CommAt C H p ws ∧ ws.length ≤ 16 ∧ SqL K H l (ms.map V.int) ∧ ms.length ≤ 1000 ∧ ∀ H', Same H H' → Q (.bl (decide (2 * ws.sum < 3 * wOf ws ms))) H'

/-! ### votes by turn, and the turns that they certify -/
def selV (kd : Kd) (h : Int) (b : Option Str) (x : Lt) : Bool := decide (b ≠ none ∧ x.m.k = kd ∧ x.m.h = h ∧ x.m.b = b)
def inT (kd : Kd) (h : Int) (b : Option Str) (t : Int) (x : Lt) : Bool := selV kd h b x && decide (x.m.t = t)
def vbK (ks : List (Int × Addr)) : List (Key × V) := ks.map fun e => (Sum.inl e.1, V.ref e.2)
structure VbAt (H : Hp) (D : Addr) (xs : List Lt) (kd : Kd) (h : Int) (b : Option Str) (ks : List (Int × Addr)) : Prop where
  here : H D = some (.dK (vbK ks))
  nd : (ks.map (·.1)).Nodup
  nl : (ks.map (·.2)).Nodup
  ls : ∀ e ∈ ks, ∃ qs, H e.2 = some (.lst (qs.map V.ref)) ∧ LsAt H qs (xs.filter (inT kd h b e.1))
  ky : ∀ t : Int, t ∈ ks.map (·.1) ↔ ∃ x ∈ xs, inT kd h b t x = true
  few : ks.length ≤ xs.length
theorem VbAt.same {H H' : Hp} {D : Addr} {xs : List Lt} {kd : Kd} {h : Int} {b : Option Str} {ks : List (Int × Addr)} (v : VbAt H D xs kd h b ks) (s : Same H H') : VbAt H' D xs kd h b ks :=
  ⟨s _ _ v.here, v.nd, v.nl, fun e he => let ⟨qs, h1, h2⟩ := v.ls e he; ⟨qs, s _ _ h1, h2.same s⟩, v.ky, v.few⟩
theorem val_vb {t : Int} : ∀ {ks : List (Int × Addr)}, t ∈ ks.map (·.1) → ∃ l, (t, l) ∈ ks ∧ valV (vbK ks) (Sum.inl t) = some (.ref l)
  | [], h => nomatch h
  | e :: ks, h => by
    by_cases c : e.1 = t
    · exact ⟨e.2, by rw [← c]; exact List.mem_cons_self, valV_pos (p := (Sum.inl e.1, V.ref e.2)) (by rw [c])⟩
    · obtain ⟨l, h1, h2⟩ := val_vb (ks := ks) ((List.mem_cons.mp h).resolve_left fun z => c z.symm)
      exact ⟨l, List.mem_cons_of_mem _ h1, (valV_neg (p := (Sum.inl e.1, V.ref e.2)) (fun z => c (Sum.inl.inj z))).trans h2⟩
theorem val_vbn {t : Int} : ∀ {ks : List (Int × Addr)}, t ∉ ks.map (·.1) → valV (vbK ks) (Sum.inl t) = none
  | [], _ => rfl
  | e :: ks, h => by
    have c : ¬ e.1 = t := fun z => h (by rw [← z]; exact List.mem_cons_self)
    exact (valV_neg (p := (Sum.inl e.1, V.ref e.2)) (fun z => c (Sum.inl.inj z))).trans (val_vbn fun z => h (List.mem_cons_of_mem _ z))
theorem putK_new {kvs : List (Key × V)} {k : Key} {v : V} (h : valV kvs k = none) : putK kvs k v = kvs ++ [(k, v)] := by
  unfold putK
  rw [valV_any, h]
  rfl
theorem filt_no {xs : List Lt} {x : Lt} {p : Lt → Bool} (h : p x = false) : (xs ++ [x]).filter p = xs.filter p := by
  rw [List.filter_append, List.filter_cons_of_neg (by rw [h]; exact Bool.false_ne_true), List.filter_nil, List.append_nil]
theorem filt_yes {xs : List Lt} {x : Lt} {p : Lt → Bool} (h : p x = true) : (xs ++ [x]).filter p = xs.filter p ++ [x] := by
  rw [List.filter_append, List.filter_cons_of_pos h, List.filter_nil]
theorem inT_t {kd : Kd} {h : Int} {b : Option Str} {t : Int} {x : Lt} (c : inT kd h b t x = true) : t = x.m.t := by
  unfold inT at c
  exact (of_decide_eq_true (Bool.and_eq_true_iff.mp c).2).symm
theorem inT_self {kd : Kd} {h : Int} {b : Option Str} {x : Lt} (c : selV kd h b x = true) : inT kd h b x.m.t x = true := by
  unfold inT
  rw [c]
  simp
theorem inT_no {kd : Kd} {h : Int} {b : Option Str} {t : Int} {x : Lt} (c : selV kd h b x = false) : inT kd h b t x = false := by
  unfold inT
  rw [c]
  rfl
theorem VbAt.skip {H : Hp} {D : Addr} {xs : List Lt} {x : Lt} {kd : Kd} {h : Int} {b : Option Str} {ks : List (Int × Addr)} (v : VbAt H D xs kd h b ks) (c : selV kd h b x = false) : VbAt H D (xs ++ [x]) kd h b ks := by
  refine ⟨v.here, v.nd, v.nl, fun e he => ?_, fun t => ?_, ?_⟩
  · rw [filt_no (inT_no c)]
    exact v.ls e he
  · rw [v.ky t]
    constructor
    · rintro ⟨y, hy, z⟩
      exact ⟨y, List.mem_append_left _ hy, z⟩
    · rintro ⟨y, hy, z⟩
      rcases List.mem_append.mp hy with hy | hy
      · exact ⟨y, hy, z⟩
      · rw [List.mem_singleton.mp hy, inT_no c] at z
        cases z
  · have := v.few
    rw [List.length_append]
    omega
theorem ne_dk {H : Hp} {D l : Addr} {kvs : List (Key × V)} {ys : List V} (h : H D = some (.dK kvs)) (hl : H l = some (.lst ys)) : D ≠ l := fun e => by
  rw [e, hl] at h
  cases h
theorem nodup_snd {ks : List (Int × Addr)} {e f : Int × Addr} (nl : (ks.map (·.2)).Nodup) (he : e ∈ ks) (hf : f ∈ ks) (ne : e ≠ f) : e.2 ≠ f.2 := by
  intro z
  induction ks with
  | nil => cases he
  | cons g ks ih =>
    rw [List.map_cons, List.nodup_cons] at nl
    rcases List.mem_cons.mp he with rfl | he' <;> rcases List.mem_cons.mp hf with rfl | hf'
    · exact ne rfl
    · exact nl.1 (by rw [z]; exact List.mem_map.mpr ⟨f, hf', rfl⟩)
    · exact nl.1 (by rw [← z]; exact List.mem_map.mpr ⟨e, he', rfl⟩)
    · exact ih nl.2 he' hf'
theorem nodup_fst {ks : List (Int × Addr)} {e f : Int × Addr} (nd : (ks.map (·.1)).Nodup) (he : e ∈ ks) (hf : f ∈ ks) (q : e.1 = f.1) : e = f := by
  induction ks with
  | nil => cases he
  | cons g ks ih =>
    rw [List.map_cons, List.nodup_cons] at nd
    rcases List.mem_cons.mp he with rfl | he' <;> rcases List.mem_cons.mp hf with rfl | hf'
    · rfl
    · exact (nd.1 (by rw [q]; exact List.mem_map.mpr ⟨f, hf', rfl⟩)).elim
    · exact (nd.1 (by rw [← q]; exact List.mem_map.mpr ⟨e, he', rfl⟩)).elim
    · exact ih nd.2 he' hf'
/-- one more letter in the list that its turn has -/
theorem VbAt.more {H : Hp} {D l p : Addr} {xs : List Lt} {x : Lt} {kd : Kd} {h : Int} {b : Option Str} {ks : List (Int × Addr)} {qs : List Addr} (v : VbAt H D xs kd h b ks) (c : selV kd h b x = true) (hm : (x.m.t, l) ∈ ks)
    (hl : H l = some (.lst (qs.map V.ref))) (hx : LtAt H p x) : VbAt (upd H l (.lst (qs.map V.ref ++ [.ref p]))) D (xs ++ [x]) kd h b ks := by
  refine ⟨by rw [upd_ne (ne_dk v.here hl)]; exact v.here, v.nd, v.nl, fun e he => ?_, fun t => ?_, ?_⟩
  · obtain ⟨rs, h1, h2⟩ := v.ls e he
    by_cases z : e = (x.m.t, l)
    · subst z
      have er : rs.map V.ref = qs.map V.ref := by
        rw [hl] at h1
        injection h1 with h1
        injection h1 with h1
        exact h1.symm
      have er2 : rs = qs := by
        have := congrArg (List.map fun v : V => match v with | .ref a => a | _ => 0) er
        simpa [List.map_map, Function.comp_def] using this
      subst er2
      refine ⟨rs ++ [p], by rw [upd_same]; simp, ?_⟩
      rw [filt_yes (inT_self c)]
      exact (h2.snoc hx).upd hl
    · have n2 := nodup_snd v.nl he hm z
      refine ⟨rs, by rw [upd_ne n2]; exact h1, ?_⟩
      rw [filt_no]
      · exact h2.upd hl
      · cases q : inT kd h b e.1 x with
        | false => rfl
        | true => exact absurd (nodup_fst v.nd he hm (inT_t q)) z
  · rw [v.ky t]
    constructor
    · rintro ⟨y, hy, z⟩
      exact ⟨y, List.mem_append_left _ hy, z⟩
    · rintro ⟨y, hy, z⟩
      rcases List.mem_append.mp hy with hy | hy
      · exact ⟨y, hy, z⟩
      · rw [List.mem_singleton.mp hy] at z
        rw [inT_t z]
        exact (v.ky _).mp (List.mem_map.mpr ⟨_, hm, rfl⟩)
  · have := v.few
    rw [List.length_append]
    omega
/-- the first letter of its turn -/
theorem VbAt.first {H : Hp} {D l p : Addr} {xs : List Lt} {x : Lt} {kd : Kd} {h : Int} {b : Option Str} {ks : List (Int × Addr)} (v : VbAt H D xs kd h b ks) (c : selV kd h b x = true) (hn : x.m.t ∉ ks.map (·.1))
    (hl : H l = some (.lst [])) (nl : l ∉ ks.map (·.2)) (hx : LtAt H p x) : VbAt (upd (upd H D (.dK (vbK (ks ++ [(x.m.t, l)])))) l (.lst [.ref p])) D (xs ++ [x]) kd h b (ks ++ [(x.m.t, l)]) := by
  have nDl : D ≠ l := ne_dk v.here hl
  have hD2 : (upd H D (.dK (vbK (ks ++ [(x.m.t, l)])))) l = some (.lst []) := by rw [upd_ne nDl.symm]; exact hl
  have lk : ∀ {q : Addr} {y : Lt}, LtAt H q y → LtAt (upd (upd H D (.dK (vbK (ks ++ [(x.m.t, l)])))) l (.lst [.ref p])) q y := fun {q y} hy => by
    refine LtAt.upd ?_ hD2
    obtain ⟨r, h1, h2⟩ := hy
    have h2' : H r = some (.tup y.m.vals) := h2
    refine ⟨r, by rw [upd_ne (fun z => by rw [z, v.here] at h1; cases h1)]; exact h1, ?_⟩
    unfold SmAt
    rw [upd_ne (fun z => by rw [z, v.here] at h2'; cases h2')]
    exact h2
  refine ⟨by rw [upd_ne nDl, upd_same], ?_, ?_, fun e he => ?_, fun t => ?_, ?_⟩
  · rw [List.map_append, List.nodup_append]
    refine ⟨v.nd, by simp, fun a ha y hy e => ?_⟩
    rw [List.map_cons, List.map_nil, List.mem_singleton] at hy
    rw [e, hy] at ha
    exact hn ha
  · rw [List.map_append, List.nodup_append]
    refine ⟨v.nl, by simp, fun a ha y hy e => ?_⟩
    rw [List.map_cons, List.map_nil, List.mem_singleton] at hy
    rw [e, hy] at ha
    exact nl ha
  · rcases List.mem_append.mp he with he | he
    · obtain ⟨rs, h1, h2⟩ := v.ls e he
      have n2 : e.2 ≠ l := fun z => nl (by rw [← z]; exact List.mem_map.mpr ⟨e, he, rfl⟩)
      refine ⟨rs, by rw [upd_ne n2, upd_ne (ne_dk v.here h1).symm]; exact h1, ?_⟩
      rw [filt_no]
      · exact ⟨h2.1, fun i hi => lk (h2.2 i hi)⟩
      · cases q : inT kd h b e.1 x with
        | false => rfl
        | true => exact absurd (by rw [← inT_t q]; exact List.mem_map.mpr ⟨e, he, rfl⟩) hn
    · rw [List.mem_singleton.mp he]
      refine ⟨[p], by rw [upd_same]; rfl, ?_⟩
      rw [filt_yes (inT_self c)]
      have e0 : xs.filter (inT kd h b x.m.t) = [] := by
        rw [List.filter_eq_nil_iff]
        intro y hy z
        exact hn ((v.ky _).mpr ⟨y, hy, z⟩)
      rw [e0]
      exact LsAt.nil.snoc (lk hx)
  · rw [List.map_append, List.mem_append, v.ky t]
    constructor
    · rintro (⟨y, hy, z⟩ | z)
      · exact ⟨y, List.mem_append_left _ hy, z⟩
      · rw [List.map_cons, List.map_nil, List.mem_singleton] at z
        exact ⟨x, List.mem_append_right _ (List.mem_singleton.mpr rfl), by rw [z]; exact inT_self c⟩
    · rintro ⟨y, hy, z⟩
      rcases List.mem_append.mp hy with hy | hy
      · exact .inl ⟨y, hy, z⟩
      · rw [List.mem_singleton.mp hy] at z
        exact .inr (by rw [inT_t z]; exact List.mem_singleton.mpr rfl)
  · have := v.few
    rw [List.length_append, List.length_append]
    simp
    omega
def spVbt (K : PySem.W.Frag) : Sp := fun vs H Q _ => ∃ (l : Addr) (ps : List Addr) (xs : List Lt) (kd : Kd) (h : Int) (b : Option Str), vs = [.ref l, .str kd.s, .int h, oS b] ∧ H l = some (.lst (ps.map V.ref)) ∧ LsAt H ps xs ∧ xs.length ≤ 900 ∧
  ∀ (D : Addr) (ks : List (Int × Addr)) H', Same H H' → VbAt H' D xs kd h b ks → Q (.ref D) H'
/-- a dict of turns -/
def tru (L : List Int) : List (Key × V) := L.map fun t => (Sum.inl t, V.bl true)
theorem val_tru {t : Int} : ∀ {L : List Int}, (valV (tru L) (Sum.inl t)).isSome = decide (t ∈ L)
  | [] => by simp [tru, valV]
  | e :: L => by
    have ih := val_tru (t := t) (L := L)
    by_cases c : e = t
    · rw [show valV (tru (e :: L)) (Sum.inl t) = some (.bl true) from valV_pos (p := (Sum.inl e, V.bl true)) (by rw [c])]
      simp [c]
    · rw [show valV (tru (e :: L)) (Sum.inl t) = valV (tru L) (Sum.inl t) from valV_neg (p := (Sum.inl e, V.bl true)) (fun z => c (Sum.inl.inj z)), ih]
      exact decide_eq_decide.mpr ⟨fun m => List.mem_cons_of_mem _ m, fun m => (List.mem_cons.mp m).resolve_left fun z => c z.symm⟩
def cntL (m : Sm) (L : List Int) : Bool := match m.l with | none => true | some l => decide (l < m.t) && decide (l ∈ L)
def spCounts (K : PySem.W.Frag) : Sp := fun vs H Q _ => ∃ (p D : Addr) (m : Sm) (L : List Int), vs = [.ref p, .ref D] ∧ SmAt H p m ∧ m.k = .pre ∧ H D = some (.dK (tru L)) ∧ ∀ H', Same H H' → Q (.bl (cntL m L)) H'
def TB (xs : List Lt) : Prop := ∀ x ∈ xs, 0 ≤ x.m.t ∧ x.m.t < 60
def ctL (ws : List Int) (xs : List Lt) (h : Int) (b : Option Str) : List Int := match b with | none => [] | some _ => lns ws xs h b 60
def spCts (K : PySem.W.Frag) (C : Addr) : Sp := fun vs H Q _ => ∃ (c l : Addr) (ws : List Int) (ps : List Addr) (xs : List Lt) (h : Int) (b : Option Str), vs = [.ref c, .ref l, .int h, oS b] ∧ CommAt C H c ws ∧ GoodW ws ∧ H l = some (.lst (ps.map V.ref)) ∧ LsAt H ps xs ∧ xs.length ≤ 900 ∧ TB xs ∧
  ∀ (R : Addr) H', Same H H' → H R = none → H' R = some (.lst ((ctL ws xs h b).map V.int)) → Q (.ref R) H'
def cmL (ws : List Int) (xs : List Lt) (h : Int) (b : Option Str) : List Int := (ctL ws xs h b).filter fun t => qrm ws (comS xs h t b)
def spCms (K : PySem.W.Frag) (C : Addr) : Sp := fun vs H Q _ => ∃ (c l : Addr) (ws : List Int) (ps : List Addr) (xs : List Lt) (h : Int) (b : Option Str), vs = [.ref c, .ref l, .int h, oS b] ∧ CommAt C H c ws ∧ GoodW ws ∧ H l = some (.lst (ps.map V.ref)) ∧ LsAt H ps xs ∧ xs.length ≤ 900 ∧ TB xs ∧
  ∀ (R : Addr) H', Same H H' → H R = none → H' R = some (.lst ((cmL ws xs h b).map V.int)) → Q (.ref R) H'
theorem mem_lnsI {ws : List Int} {xs : List Lt} {h : Int} {b : Option Str} (t : Int) : ∀ n, t ∈ lns ws xs h b n ↔ 0 ≤ t ∧ t < n ∧ certM ws xs h b t.toNat = true
  | 0 => by
    simp [lns]
    omega
  | n + 1 => by
    have ih := mem_lnsI (ws := ws) (xs := xs) (h := h) (b := b) t n
    by_cases c : certM ws xs h b n = true
    · rw [lns_yes c, List.mem_append, ih, List.mem_singleton]
      constructor
      · rintro (⟨h1, h2, h3⟩ | z)
        · exact ⟨h1, by omega, h3⟩
        · rw [z]
          exact ⟨by omega, by omega, by rw [Int.toNat_natCast]; exact c⟩
      · rintro ⟨h1, h2, h3⟩
        rcases Int.lt_or_le t n with z | z
        · exact .inl ⟨h1, z, h3⟩
        · exact .inr (by omega)
    · rw [lns_no c, ih]
      constructor
      · rintro ⟨h1, h2, h3⟩
        exact ⟨h1, by omega, h3⟩
      · rintro ⟨h1, h2, h3⟩
        refine ⟨h1, ?_, h3⟩
        rcases Int.lt_or_le t n with z | z
        · exact z
        · have e : t.toNat = n := by omega
          rw [e] at h3
          exact absurd h3 c
theorem lns_gap {ws : List Int} {xs : List Lt} {h : Int} {b : Option Str} {a : Nat} : ∀ d, (∀ n, a ≤ n → n < a + d → certM ws xs h b n = false) → lns ws xs h b (a + d) = lns ws xs h b a
  | 0, _ => rfl
  | d + 1, z => by
    have := lns_gap d fun n h1 h2 => z n h1 (by omega)
    rw [← this]
    exact lns_no (n := a + d) (fun y => Bool.false_ne_true ((z (a + d) (by omega) (by omega)).symm.trans y))
theorem wt_none (ws : List Int) : ∀ n, wt ws (fun k => decide (k ∈ ([] : List Int))) n = 0
  | 0 => rfl
  | n + 1 => by
    rw [wt_succ, wt_none ws n]
    simp
theorem good_sum : ∀ {ws : List Int}, (∀ w ∈ ws, 1 ≤ w) → 0 < ws.length → 0 < ws.sum
  | [], _, h => absurd h (Nat.lt_irrefl 0)
  | [w], g, _ => by
    have := g w List.mem_cons_self
    simp
    omega
  | w :: v :: ws, g, _ => by
    have h1 := g w List.mem_cons_self
    have h2 := good_sum (ws := v :: ws) (fun x hx => g x (List.mem_cons_of_mem _ hx)) (by simp)
    rw [List.sum_cons]
    omega
theorem GoodW.sum {ws : List Int} (g : GoodW ws) : 0 < ws.sum := good_sum (fun w hw => (g.2.2 w hw).1) g.1
theorem qrm_nil {ws : List Int} (g : GoodW ws) : qrm ws [] = false := by
  unfold qrm wOf
  rw [wt_none]
  have := g.sum
  exact decide_eq_false (by omega)
theorem cnt_inT {h t : Int} {b : Option Str} {L : List Int} {x : Lt} (nb : b ≠ none) : cnt h t b L x = (inT .pre h b t x && cntL x.m L) := by
  unfold cnt inT selV cntL
  by_cases c : x.m.k = .pre ∧ x.m.h = h ∧ x.m.t = t ∧ x.m.b = b
  · obtain ⟨c1, c2, c3, c4⟩ := c
    simp only [c1, c2, c3, c4, nb, ne_eq, not_false_eq_true, and_self, decide_true, Bool.true_and]
    cases x.m.l with
    | none => rfl
    | some l => exact Bool.and_comm _ _
  · rw [decide_eq_false c, Bool.false_and]
    symm
    rw [Bool.and_eq_false_iff]
    left
    rw [Bool.and_eq_false_iff]
    by_cases c3 : x.m.t = t
    · left
      exact decide_eq_false fun z => c ⟨z.2.1, z.2.2.1, c3, z.2.2.2⟩
    · right
      exact decide_eq_false c3
theorem mem_inT {xs : List Lt} {h t : Int} {b : Option Str} {L : List Int} (nb : b ≠ none) : memM xs h t b L = ((xs.filter (inT .pre h b t)).filter fun x => cntL x.m L).map Lt.w := by
  unfold memM
  rw [List.filter_filter]
  congr 1
  refine List.filter_congr fun x _ => ?_
  rw [cnt_inT nb, Bool.and_comm]
theorem com_inT {xs : List Lt} {h t : Int} {b : Option Str} (nb : b ≠ none) : comS xs h t b = (xs.filter (inT .com h b t)).map Lt.w := by
  unfold comS
  congr 1
  refine List.filter_congr fun x _ => ?_
  unfold inT selV
  rw [Bool.eq_iff_iff, Bool.and_eq_true_iff, decide_eq_true_iff, decide_eq_true_iff, decide_eq_true_iff]
  exact ⟨fun ⟨z1, z2, z3, z4⟩ => ⟨⟨nb, z1, z2, z4⟩, z3⟩, fun ⟨⟨_, z1, z2, z4⟩, z3⟩ => ⟨z1, z2, z3, z4⟩⟩
/-- no prevote in a turn: no certificate -/
theorem cert_none {ws : List Int} {xs : List Lt} {h : Int} {b : Option Str} {n : Nat} (g : GoodW ws) (nb : b ≠ none) (z : ¬ ∃ x ∈ xs, inT .pre h b (n : Int) x = true) : certM ws xs h b n = false := by
  unfold certM
  rw [mem_inT nb]
  have e : xs.filter (inT .pre h b (n : Int)) = [] := List.filter_eq_nil_iff.mpr fun x hx y => z ⟨x, hx, y⟩
  rw [e]
  exact qrm_nil g
theorem nodup_few : ∀ (n : Nat) {L : List Int}, L.Nodup → (∀ t ∈ L, 0 ≤ t ∧ t < n) → L.length ≤ n
  | 0, [], _, _ => Nat.le_refl _
  | 0, t :: L, _, h => by
    have := h t List.mem_cons_self
    omega
  | n + 1, L, nd, h => by
    by_cases c : (n : Int) ∈ L
    · have l1 := List.length_erase_of_mem c
      have ih := nodup_few n (nd.erase (n : Int)) fun t ht => by
        have h2 := (nd.mem_erase_iff).mp ht
        have h3 := h t h2.2
        have h4 := h2.1
        omega
      omega
    · have := nodup_few n nd fun t ht => by
        have h3 := h t ht
        have h4 : t ≠ (n : Int) := fun z => c (z ▸ ht)
        omega
      omega
theorem tru_snoc (L : List Int) (t : Int) : tru (L ++ [t]) = tru L ++ [(Sum.inl t, V.bl true)] := by simp [tru]
theorem take_len {α : Type} (xs : List α) : xs.take xs.length = xs := List.take_length
theorem srt_lt {ts : List Int} (pw : ts.Pairwise (· ≤ ·)) (nd : ts.Nodup) {i j : Nat} (h : i < j) (hj : j < ts.length) : ts.getD i 0 < ts.getD j 0 := by
  have hi : i < ts.length := by omega
  have e1 : ts.getD i 0 = ts[i] := by rw [List.getD_eq_getElem?_getD, List.getElem?_eq_getElem hi]; rfl
  have e2 : ts.getD j 0 = ts[j] := by rw [List.getD_eq_getElem?_getD, List.getElem?_eq_getElem hj]; rfl
  rw [e1, e2]
  have h1 := List.pairwise_iff_getElem.mp pw i j hi hj h
  have h2 := List.pairwise_iff_getElem.mp nd i j hi hj h
  omega
/-- behind the turn before the place i -/
def nxt (ts : List Int) : Nat → Nat
  | 0 => 0
  | i + 1 => (ts.getD i 0 + 1).toNat
theorem gap_gen {ws : List Int} {xs : List Lt} {h : Int} {b : Option Str} {ts : List Int} (g : GoodW ws) (nb : b ≠ none) (ky : ∀ t : Int, t ∈ ts ↔ ∃ x ∈ xs, inT .pre h b t x = true) (pw : ts.Pairwise (· ≤ ·)) (nd : ts.Nodup)
    {i m : Nat} (hi : i ≤ ts.length) (le : nxt ts i ≤ m) (up : ∀ j, i ≤ j → j < ts.length → (m : Int) ≤ ts.getD j 0) : lns ws xs h b m = lns ws xs h b (nxt ts i) := by
  obtain ⟨d, rfl⟩ : ∃ d, m = nxt ts i + d := ⟨m - nxt ts i, by omega⟩
  refine lns_gap d fun n h1 h2 => cert_none g nb fun ex => ?_
  obtain ⟨j, hj, ej⟩ := List.getElem_of_mem ((ky n).mpr ex)
  have ej2 : ts.getD j 0 = (n : Int) := by rw [List.getD_eq_getElem?_getD, List.getElem?_eq_getElem hj]; exact ej
  rcases Nat.lt_or_ge j i with z | z
  · cases i with
    | zero => omega
    | succ k =>
      have h3 : ts.getD j 0 ≤ ts.getD k 0 := by
        rcases Nat.lt_or_ge j k with y | y
        · have := srt_lt pw nd y (by omega)
          omega
        · have : j = k := by omega
          rw [this]
          exact Int.le_refl _
      have h4 : nxt ts (k + 1) = (ts.getD k 0 + 1).toNat := rfl
      omega
  · have := up j z hj
    omega
theorem inT_some {kd : Kd} {h t : Int} {b : Option Str} {x : Lt} (c : inT kd h b t x = true) : b ≠ none ∧ x.m.k = kd := by
  unfold inT selV at c
  have := of_decide_eq_true (Bool.and_eq_true_iff.mp c).1
  exact ⟨this.1, this.2.1⟩
theorem filt_mem {xs : List Lt} {p : Lt → Bool} {i : Nat} (h : i < (xs.filter p).length) : (xs.filter p).getD i default ∈ xs ∧ p ((xs.filter p).getD i default) = true := List.mem_filter.mp (getD_mem2 h)

/-! ### pairs of a turn and a block -/
abbrev Pr := Int × Option Str
def prV (q : Pr) : List V := [.int q.1, oS q.2]
def PrAt (H : Hp) (p : Addr) (q : Pr) : Prop := H p = some (.tup (prV q))
def PsAt (H : Hp) (ps : List Addr) (qs : List Pr) : Prop := ps.length = qs.length ∧ ∀ i, i < qs.length → PrAt H (ps.getD i 0) (qs.getD i default)
theorem PsAt.nil {H : Hp} : PsAt H [] [] := ⟨rfl, fun i h => absurd h (Nat.not_lt_zero i)⟩
theorem PsAt.same {H H' : Hp} {ps : List Addr} {qs : List Pr} (h : PsAt H ps qs) (s : Same H H') : PsAt H' ps qs := ⟨h.1, fun i hi => s _ _ (h.2 i hi)⟩
theorem PsAt.app {H : Hp} {ps rs : List Addr} {xs ys : List Pr} (h : PsAt H ps xs) (e : PsAt H rs ys) : PsAt H (ps ++ rs) (xs ++ ys) := by
  refine ⟨by rw [List.length_append, List.length_append, h.1, e.1], fun i hi => ?_⟩
  rw [List.length_append] at hi
  rcases Nat.lt_or_ge i xs.length with z | z
  · rw [getD_left (by rw [h.1]; exact z), getD_left z]
    exact h.2 i z
  · have z' : ps.length ≤ i := by rw [h.1]; exact z
    rw [List.getD_eq_getElem?_getD, List.getD_eq_getElem?_getD, List.getElem?_append_right z', List.getElem?_append_right z, ← List.getD_eq_getElem?_getD, ← List.getD_eq_getElem?_getD, h.1]
    exact e.2 _ (by omega)
theorem PsAt.one {H : Hp} {p : Addr} {q : Pr} (e : PrAt H p q) : PsAt H [p] [q] := ⟨rfl, fun i hi => by
  have : i = 0 := by simp at hi; omega
  subst this
  exact e⟩
theorem PsAt.cons {H : Hp} {p : Addr} {ps : List Addr} {q : Pr} {qs : List Pr} (h : PsAt H (p :: ps) (q :: qs)) : PrAt H p q ∧ PsAt H ps qs :=
  ⟨h.2 0 (Nat.succ_pos _), Nat.succ.inj h.1, fun i hi => h.2 (i + 1) (Nat.succ_lt_succ hi)⟩
theorem PsAt.updM {H : Hp} {ps : List Addr} {qs : List Pr} {l : Addr} {o : HO} (h : PsAt H ps qs) (hl : ∀ ys, H l ≠ some (.tup ys)) : PsAt (_root_.L2.upd H l o) ps qs := ⟨h.1, fun i hi => by
  have e : H (ps.getD i 0) = some (.tup (prV (qs.getD i default))) := h.2 i hi
  unfold PrAt
  rw [upd_ne fun z => hl _ (z ▸ e)]
  exact e⟩
def prD (q : Pr) : PyData := .tuple [.int q.1, (match q.2 with | none => .none | some x => .str x)]
theorem dp_pr {K : PySem.W.Frag} {H : Hp} {p : Addr} {q : Pr} (h : PrAt H p q) : Dp K H (.ref p) (prD q) := .tup (SqT.of h) (.cons (.int _) (.cons (dp_oS q.2) .nil))
theorem dp_prs {K : PySem.W.Frag} {H : Hp} : ∀ {ps : List Addr} {qs : List Pr}, PsAt H ps qs → DpAll K H (ps.map V.ref) (qs.map prD)
  | [], [], _ => .nil
  | p :: ps, q :: qs, h => .cons (dp_pr h.cons.1) (dp_prs h.cons.2)
  | [], q :: qs, h => nomatch h.1
  | p :: ps, [], h => nomatch h.1
theorem lay_pr {q : Pr} (o : OkS q.2) : PyData.canLay0 (prD q) = true := by
  obtain ⟨t, b⟩ := q
  cases b with
  | none => simp [prD, PyData.canLay0, PyData.canLayAll0]
  | some x =>
    have := o x rfl
    simp [prD, PyData.canLay0, PyData.canLayAll0, this]
theorem depth_pr (q : Pr) : PyData.depth (prD q) = 1 := by
  obtain ⟨t, b⟩ := q
  cases b <;> simp [prD, PyData.depth, PyData.depthAll]
theorem shaped_pr {q : Pr} (o : OkS q.2) : SeqAt.shaped (prD q) = true := by
  unfold SeqAt.shaped
  rw [lay_pr o, depth_pr]
  rfl
def OkP (qs : List Pr) : Prop := ∀ q ∈ qs, OkS q.2
theorem OkP.app {xs ys : List Pr} (h : OkP xs) (g : OkP ys) : OkP (xs ++ ys) := fun y hy => (List.mem_append.mp hy).elim (h y) (g y)
theorem lay_prs : ∀ {qs : List Pr}, OkP qs → PyData.canLayAll0 (qs.map prD) = true
  | [], _ => by simp [PyData.canLayAll0]
  | q :: qs, o => by
    simp only [List.map_cons, PyData.canLayAll0]
    rw [lay_pr (o q List.mem_cons_self), lay_prs fun y hy => o y (List.mem_cons_of_mem _ hy)]
    rfl
theorem depth_prs : ∀ qs : List Pr, PyData.depthAll (qs.map prD) ≤ 1
  | [] => by simp [PyData.depthAll]
  | q :: qs => by
    have := depth_prs qs
    have h := depth_pr q
    simp only [List.map_cons, PyData.depthAll, h]
    omega
theorem shaped_prs {qs : List Pr} (o : OkP qs) : SeqAt.shaped (.list (qs.map prD)) = true := by
  have h := depth_prs qs
  unfold SeqAt.shaped
  have e : PyData.depth (.list (qs.map prD)) = PyData.depthAll (qs.map prD) + 1 := by simp only [PyData.depth]
  have l : PyData.canLay0 (.list (qs.map prD)) = true := by simp only [PyData.canLay0, lay_prs o]
  rw [l, e, decide_eq_true (show PyData.depthAll (qs.map prD) + 1 ≤ 64 by omega)]
  rfl
theorem eqv_prs {qs : List Pr} (o : OkP qs) : PyData.eqv (.list (qs.map prD)) (.list (qs.map prD)) = true := SeqAt.eqv_refl _ (by
  simp only [PyData.canLay0, lay_prs o])
theorem eqv_pr (q r : Pr) : PyData.eqv (prD q) (prD r) = decide (q = r) := by
  obtain ⟨t, b⟩ := q
  obtain ⟨u, c⟩ := r
  rw [Bool.eq_iff_iff, decide_eq_true_eq]
  cases b <;> cases c <;> simp [prD, PyData.eqv, PyData.eqvAll]
theorem any_pr (qs : List Pr) (q : Pr) : ((qs.map prD).any fun z => PyData.eqv z (prD q)) = decide (q ∈ qs) := by
  rw [Bool.eq_iff_iff, decide_eq_true_eq, List.any_eq_true]
  constructor
  · rintro ⟨z, hz, e⟩
    obtain ⟨r, hr, rfl⟩ := List.mem_map.mp hz
    rw [eqv_pr, decide_eq_true_eq] at e
    exact e ▸ hr
  · intro h
    exact ⟨_, List.mem_map.mpr ⟨q, h, rfl⟩, by rw [eqv_pr]; simp⟩
theorem any_key (xs : List Lt) (x : Lt) : ((xs.map Lt.dat).any fun z => PyData.eqv z x.dat) = decide (ltKey x ∈ xs.map ltKey) := by
  rw [Bool.eq_iff_iff, decide_eq_true_eq, List.any_eq_true, List.mem_map]
  constructor
  · rintro ⟨z, hz, e⟩
    obtain ⟨r, hr, rfl⟩ := List.mem_map.mp hz
    rw [key_eqv, decide_eq_true_eq] at e
    exact ⟨r, hr, e⟩
  · rintro ⟨y, hy, e⟩
    exact ⟨_, List.mem_map.mpr ⟨y, hy, rfl⟩, by rw [key_eqv]; simp [e]⟩
/-- the pairs of the turns and b that are not among cs -/
def miss (ts : List Int) (b : Option Str) (cs : List Pr) : List Pr := (ts.filter fun t => decide ((t, b) ∉ cs)).map fun t => (t, b)
theorem miss_yes {ts : List Int} {b : Option Str} {cs : List Pr} {i : Nat} (hi : i < ts.length) (c : (ts.getD i default, b) ∉ cs) : miss (ts.take (i + 1)) b cs = miss (ts.take i) b cs ++ [(ts.getD i default, b)] := by
  unfold miss
  rw [take_succ_getD (d := default) hi, List.filter_append, List.map_append]
  have e : [ts.getD i default].filter (fun t => decide ((t, b) ∉ cs)) = [ts.getD i default] := by rw [List.filter_cons_of_pos (p := fun t => decide ((t, b) ∉ cs)) (decide_eq_true c)]; rfl
  rw [e]
  rfl
theorem miss_no {ts : List Int} {b : Option Str} {cs : List Pr} {i : Nat} (hi : i < ts.length) (c : ¬ (ts.getD i default, b) ∉ cs) : miss (ts.take (i + 1)) b cs = miss (ts.take i) b cs := by
  unfold miss
  rw [take_succ_getD (d := default) hi, List.filter_append, List.map_append]
  have e : [ts.getD i default].filter (fun t => decide ((t, b) ∉ cs)) = [] := by rw [List.filter_cons_of_neg (by simpa using c)]; rfl
  rw [e]
  exact List.append_nil _
theorem miss_len (ts : List Int) (b : Option Str) (cs : List Pr) : (miss ts b cs).length ≤ ts.length := by
  unfold miss
  rw [List.length_map]
  exact List.length_filter_le _ _
theorem miss_ok {ts : List Int} {b : Option Str} {cs : List Pr} (o : OkS b) : OkP (miss ts b cs) := fun q hq => by
  unfold miss at hq
  obtain ⟨t, _, rfl⟩ := List.mem_map.mp hq
  exact o
theorem mem_miss {ts : List Int} {b : Option Str} {cs : List Pr} (q : Pr) : q ∈ miss ts b cs ↔ q.2 = b ∧ q.1 ∈ ts ∧ q ∉ cs := by
  unfold miss
  rw [List.mem_map]
  constructor
  · rintro ⟨t, ht, rfl⟩
    rw [List.mem_filter, decide_eq_true_eq] at ht
    exact ⟨rfl, ht.1, ht.2⟩
  · rintro ⟨rfl, h1, h2⟩
    exact ⟨q.1, List.mem_filter.mpr ⟨h1, decide_eq_true h2⟩, rfl⟩
/-! ### a book as it stands -/
def inB (b : Option Str) (xs : List Lt) : List Lt := xs.filter fun x => decide (x.m.b = b)
def bfs (c : Addr) (h : Int) (Lc Lm Dk Db : Addr) : List (Str × V) := putF "_by_block" (.ref Db) (putF "_kept" (.ref Dk) (putF "commits" (.ref Lm) (putF "certificates" (.ref Lc) (putF "height" (.int h) (putF "committee" (.ref c) [])))))
theorem bf_ne : ¬ (("committee" : Str) = "height") ∧ ¬ (("committee" : Str) = "certificates") ∧ ¬ (("committee" : Str) = "commits") ∧ ¬ (("committee" : Str) = "_kept") ∧ ¬ (("committee" : Str) = "_by_block") ∧ ¬ (("height" : Str) = "certificates") ∧ ¬ (("height" : Str) = "commits") ∧ ¬ (("height" : Str) = "_kept") ∧ ¬ (("height" : Str) = "_by_block") ∧
    ¬ (("certificates" : Str) = "commits") ∧ ¬ (("certificates" : Str) = "_kept") ∧ ¬ (("certificates" : Str) = "_by_block") ∧ ¬ (("commits" : Str) = "_kept") ∧ ¬ (("commits" : Str) = "_by_block") ∧ ¬ (("_kept" : Str) = "_by_block") := by decide +kernel
theorem bfs_co (c : Addr) (h : Int) (Lc Lm Dk Db : Addr) : (bfs c h Lc Lm Dk Db).lookup ("committee" : Str) = some (.ref c) := by
  obtain ⟨a1, a2, a3, a4, a5, _⟩ := bf_ne
  unfold bfs
  rw [lookup_putF, if_neg a5, lookup_putF, if_neg a4, lookup_putF, if_neg a3, lookup_putF, if_neg a2, lookup_putF, if_neg a1, lookup_putF, if_pos rfl]
theorem bfs_h (c : Addr) (h : Int) (Lc Lm Dk Db : Addr) : (bfs c h Lc Lm Dk Db).lookup ("height" : Str) = some (.int h) := by
  obtain ⟨_, _, _, _, _, a2, a3, a4, a5, _⟩ := bf_ne
  unfold bfs
  rw [lookup_putF, if_neg a5, lookup_putF, if_neg a4, lookup_putF, if_neg a3, lookup_putF, if_neg a2, lookup_putF, if_pos rfl]
theorem bfs_ce (c : Addr) (h : Int) (Lc Lm Dk Db : Addr) : (bfs c h Lc Lm Dk Db).lookup ("certificates" : Str) = some (.ref Lc) := by
  obtain ⟨_, _, _, _, _, _, _, _, _, a3, a4, a5, _⟩ := bf_ne
  unfold bfs
  rw [lookup_putF, if_neg a5, lookup_putF, if_neg a4, lookup_putF, if_neg a3, lookup_putF, if_pos rfl]
theorem bfs_cm (c : Addr) (h : Int) (Lc Lm Dk Db : Addr) : (bfs c h Lc Lm Dk Db).lookup ("commits" : Str) = some (.ref Lm) := by
  obtain ⟨_, _, _, _, _, _, _, _, _, _, _, _, a4, a5, _⟩ := bf_ne
  unfold bfs
  rw [lookup_putF, if_neg a5, lookup_putF, if_neg a4, lookup_putF, if_pos rfl]
theorem bfs_k (c : Addr) (h : Int) (Lc Lm Dk Db : Addr) : (bfs c h Lc Lm Dk Db).lookup ("_kept" : Str) = some (.ref Dk) := by
  obtain ⟨_, _, _, _, _, _, _, _, _, _, _, _, _, _, a5⟩ := bf_ne
  unfold bfs
  rw [lookup_putF, if_neg a5, lookup_putF, if_pos rfl]
theorem bfs_b (c : Addr) (h : Int) (Lc Lm Dk Db : Addr) : (bfs c h Lc Lm Dk Db).lookup ("_by_block" : Str) = some (.ref Db) := by
  unfold bfs
  rw [lookup_putF, if_pos rfl]
theorem bfs_no (c : Addr) (h : Int) (Lc Lm Dk Db : Addr) {m : Str} (h1 : ¬ m = "committee") (h2 : ¬ m = "height") (h3 : ¬ m = "certificates") (h4 : ¬ m = "commits") (h5 : ¬ m = "_kept") (h6 : ¬ m = "_by_block") : (bfs c h Lc Lm Dk Db).lookup m = none := by
  unfold bfs
  rw [lookup_putF, if_neg h6, lookup_putF, if_neg h5, lookup_putF, if_neg h4, lookup_putF, if_neg h3, lookup_putF, if_neg h2, lookup_putF, if_neg h1]
  rfl
/-- all but what stands at S stays -/
def Keeps (S : List Addr) (H H' : Hp) : Prop := ∀ b o, b ∉ S → H b = some o → H' b = some o
theorem Keeps.refl (S : List Addr) (H : Hp) : Keeps S H H := fun _ _ _ e => e
theorem Keeps.of {S : List Addr} {H H' : Hp} (s : Same H H') : Keeps S H H' := fun b o _ e => s b o e
theorem Keeps.trans {S : List Addr} {H H1 H2 : Hp} (k : Keeps S H H1) (k' : Keeps S H1 H2) : Keeps S H H2 := fun b o n e => k' b o n (k b o n e)
theorem Keeps.mono {S T : List Addr} {H H1 : Hp} (k : Keeps S H H1) (h : ∀ x ∈ S, x ∈ T) : Keeps T H H1 := fun b o n e => k b o (fun z => n (h b z)) e
theorem keeps_upd {S : List Addr} {H : Hp} {l : Addr} {o : HO} (h : l ∈ S) : Keeps S H (_root_.L2.upd H l o) := fun b u n e => by
  rw [upd_ne fun z => n (by rw [z]; exact h)]
  exact e
/-- what a book holds -/
structure Bk where
  c : Addr
  h : Int
  Lc : Addr
  Lm : Addr
  Dk : Addr
  Db : Addr
  ws : List Int
  ps : List Addr
  xs : List Lt
  kvs : List (Option Str × Addr)
  qc : List Addr
  cs : List Pr
  qm : List Addr
  ms : List Pr
def Bk.S (B : Bk) : List Addr := B.Lc :: B.Lm :: B.Dk :: B.Db :: B.kvs.map (·.2)
structure BookAt (P : Program) (w : World) (CB CC : Addr) (H : Hp) (bk : Addr) (B : Bk) : Prop where
  obj : ∃ dx, H bk = some (.ins CB dx (bfs B.c B.h B.Lc B.Lm B.Dk B.Db))
  com : CommAt CC H B.c B.ws
  gw : GoodW B.ws
  kept : NdAt w H B.Dk B.ps B.xs
  byb : OdAt P w H B.Db B.kvs
  lc : H B.Lc = some (.lst (B.qc.map V.ref))
  pc : PsAt H B.qc B.cs
  lm : H B.Lm = some (.lst (B.qm.map V.ref))
  pm : PsAt H B.qm B.ms
  rows : ∀ e ∈ B.kvs, ∃ ls, H e.2 = some (.lst (ls.map V.ref)) ∧ LsAt H ls (inB e.1 B.xs)
  non : ∀ b, odGet B.kvs b = none → inB b B.xs = []
  nk : (B.kvs.map (·.1)).Nodup
  nl : (B.Lc :: B.Lm :: B.kvs.map (·.2)).Nodup
  nd : B.Dk ≠ B.Db
  kl : B.kvs.length ≤ B.xs.length
  tb : TB B.xs
  okx : OkL B.xs
  okc : OkP B.cs
  okm : OkP B.ms
theorem odGet_mem {kvs : List (Option Str × Addr)} {b : Option Str} {a : Addr} (h : odGet kvs b = some a) : (b, a) ∈ kvs := by
  unfold odGet at h
  rw [Option.map_eq_some_iff] at h
  obtain ⟨q, h1, h2⟩ := h
  have e := List.find?_some h1
  have m := List.mem_of_find?_eq_some h1
  have e : q.1 = b := of_decide_eq_true e
  rw [← e, ← h2]
  exact m
theorem nodup_fstO {ks : List (Option Str × Addr)} {e f : Option Str × Addr} (nd : (ks.map (·.1)).Nodup) (he : e ∈ ks) (hf : f ∈ ks) (q : e.1 = f.1) : e = f := by
  induction ks with
  | nil => cases he
  | cons g ks ih =>
    rw [List.map_cons, List.nodup_cons] at nd
    rcases List.mem_cons.mp he with h1 | h1 <;> rcases List.mem_cons.mp hf with h2 | h2
    · rw [h1, h2]
    · exact absurd (List.mem_map.mpr ⟨f, h2, by rw [← q, h1]⟩) nd.1
    · exact absurd (List.mem_map.mpr ⟨e, h1, by rw [q, h2]⟩) nd.1
    · exact ih nd.2 h1 h2
theorem nodup_sndO {ks : List (Option Str × Addr)} {e f : Option Str × Addr} (nd : (ks.map (·.2)).Nodup) (he : e ∈ ks) (hf : f ∈ ks) (q : e.2 = f.2) : e = f := by
  induction ks with
  | nil => cases he
  | cons g ks ih =>
    rw [List.map_cons, List.nodup_cons] at nd
    rcases List.mem_cons.mp he with h1 | h1 <;> rcases List.mem_cons.mp hf with h2 | h2
    · rw [h1, h2]
    · exact absurd (List.mem_map.mpr ⟨f, h2, by rw [← q, h1]⟩) nd.1
    · exact absurd (List.mem_map.mpr ⟨e, h1, by rw [q, h2]⟩) nd.1
    · exact ih nd.2 h1 h2
theorem refs_inj : ∀ {ps qs : List Addr}, ps.map V.ref = qs.map V.ref → ps = qs
  | [], [], _ => rfl
  | p :: ps, q :: qs, h => by
    rw [List.map_cons, List.map_cons] at h
    injection h with h1 h2
    injection h1 with h1
    rw [h1, refs_inj h2]
  | [], q :: qs, h => by cases h
  | p :: ps, [], h => by cases h
theorem inB_snoc (b : Option Str) (xs : List Lt) (x : Lt) : inB b (xs ++ [x]) = if x.m.b = b then inB b xs ++ [x] else inB b xs := by
  unfold inB
  rw [List.filter_append]
  by_cases c : x.m.b = b <;> simp [c]
section
variable {P : Program} {w : World} {CB CC : Addr} {H H' : Hp} {bk : Addr} {B : Bk}
theorem BookAt.same (N : BookAt P w CB CC H bk B) (s : Same H H') : BookAt P w CB CC H' bk B :=
  { N with obj := N.obj.imp fun _ e => s _ _ e, com := N.com.same s, kept := N.kept.same s, byb := N.byb.same s, lc := s _ _ N.lc, pc := N.pc.same s, lm := s _ _ N.lm, pm := N.pm.same s,
           rows := fun e he => let ⟨ls, h1, h2⟩ := N.rows e he; ⟨ls, s _ _ h1, h2.same s⟩ }
/-- a tuple or an object is none of what changes -/
def Fixed : HO → Prop
  | .tup _ => True
  | .ins _ _ _ => True
  | _ => False
theorem BookAt.notS (N : BookAt P w CB CC H bk B) {p : Addr} {o : HO} (e : H p = some o) (f : Fixed o) : p ∉ B.S := fun m => by
  unfold Bk.S at m
  rcases List.mem_cons.mp m with rfl | m
  · rw [N.lc] at e; cases e; exact f
  rcases List.mem_cons.mp m with rfl | m
  · rw [N.lm] at e; cases e; exact f
  rcases List.mem_cons.mp m with rfl | m
  · rcases N.kept.at_ with ⟨_, a⟩ | a <;> (rw [a] at e; cases e; exact f)
  rcases List.mem_cons.mp m with rfl | m
  · rcases N.byb.at_ with ⟨_, a⟩ | a <;> (rw [a] at e; cases e; exact f)
  obtain ⟨q, hq, rfl⟩ := List.mem_map.mp m
  obtain ⟨ls, a, _⟩ := N.rows q hq
  rw [a] at e; cases e; exact f
theorem PsAt.keeps {S : List Addr} {ps : List Addr} {qs : List Pr} (h : PsAt H ps qs) (k : Keeps S H H') (n : ∀ p ys, H p = some (.tup ys) → p ∉ S) : PsAt H' ps qs := ⟨h.1, fun i hi => k _ _ (n _ _ (h.2 i hi)) (h.2 i hi)⟩
theorem LtAt.keeps {S : List Addr} {p : Addr} {x : Lt} (h : LtAt H p x) (k : Keeps S H H') (n : ∀ p ys, H p = some (.tup ys) → p ∉ S) : LtAt H' p x := by
  obtain ⟨q, h1, h2⟩ := h
  have h2' : H q = some (.tup x.m.vals) := h2
  exact ⟨q, k _ _ (n _ _ h1) h1, k _ _ (n _ _ h2') h2'⟩
theorem LsAt.keeps {S : List Addr} {ps : List Addr} {xs : List Lt} (h : LsAt H ps xs) (k : Keeps S H H') (n : ∀ p ys, H p = some (.tup ys) → p ∉ S) : LsAt H' ps xs := ⟨h.1, fun i hi => (h.2 i hi).keeps k n⟩
theorem CommAt.keeps {S : List Addr} {p : Addr} {ws : List Int} (h : CommAt CC H p ws) (k : Keeps S H H') (n : ∀ p o, H p = some o → Fixed o → p ∉ S) : CommAt CC H' p ws := by
  obtain ⟨dx, t, h1, h2⟩ := h
  exact ⟨dx, t, k _ _ (n _ _ h1 True.intro) h1, k _ _ (n _ _ h2 True.intro) h2⟩
theorem BookAt.tupS (N : BookAt P w CB CC H bk B) : ∀ p ys, H p = some (.tup ys) → p ∉ B.S := fun _ _ e => N.notS e True.intro
theorem nodup_two {Lc Lm : Addr} {vs : List Addr} (h : (Lc :: Lm :: vs).Nodup) : Lc ≠ Lm ∧ Lc ∉ vs ∧ Lm ∉ vs ∧ vs.Nodup := by
  rw [List.nodup_cons, List.nodup_cons] at h
  exact ⟨fun e => h.1 (e ▸ List.mem_cons_self), fun m => h.1 (List.mem_cons_of_mem _ m), h.2.1, h.2.2⟩
theorem ne_lD {d l : Addr} {xs : List V} {ps : List Addr} {ls : List Lt} (N : NdAt w H d ps ls) (e : H l = some (.lst xs)) : l ≠ d := fun z => by
  rcases N.at_ with ⟨_, a⟩ | a <;> (rw [← z, e] at a; cases a)
theorem ne_lO {d l : Addr} {xs : List V} {kvs : List (Option Str × Addr)} (N : OdAt P w H d kvs) (e : H l = some (.lst xs)) : l ≠ d := fun z => by
  rcases N.at_ with ⟨_, a⟩ | a <;> (rw [← z, e] at a; cases a)
/-- one more letter, its block has a row already -/
theorem BookAt.put1 (N : BookAt P w CB CC H bk B) {p a z : Addr} {x : Lt} {ls : List Addr} (hx : LtAt H p x) (nin : ltKey x ∉ B.xs.map ltKey) (few : B.xs.length + 1 < 1000) (g : odGet B.kvs x.m.b = some a)
    (tx : 0 ≤ x.m.t ∧ x.m.t < 60) (ox : OkS x.m.b) (hz : H z = none) (hl : H a = some (.lst (ls.map V.ref))) :
    BookAt P w CB CC (_root_.L2.upd (_root_.L2.upd (_root_.L2.upd H B.Dk (.ext (ndPhi w B.Dk (B.ps ++ [p]) (B.xs ++ [x])))) z (.lst [])) a (.lst (ls.map V.ref ++ [V.ref p]))) bk { B with ps := B.ps ++ [p], xs := B.xs ++ [x] } := by
  have ma := odGet_mem g
  obtain ⟨n1, n2, n3, n4⟩ := nodup_two N.nl
  have aS : a ∈ B.S := List.mem_cons_of_mem _ (List.mem_cons_of_mem _ (List.mem_cons_of_mem _ (List.mem_cons_of_mem _ (List.mem_map.mpr ⟨_, ma, rfl⟩))))
  have dS : B.Dk ∈ B.S := List.mem_cons_of_mem _ (List.mem_cons_of_mem _ List.mem_cons_self)
  have aD := ne_lD N.kept hl
  have aO := ne_lO N.byb hl
  have zD : B.Dk ≠ z := fun e => by
    rcases N.kept.at_ with ⟨_, q⟩ | q <;> (rw [e, hz] at q; cases q)
  have s2 : Same (_root_.L2.upd H B.Dk (.ext (ndPhi w B.Dk (B.ps ++ [p]) (B.xs ++ [x])))) (_root_.L2.upd (_root_.L2.upd H B.Dk (.ext (ndPhi w B.Dk (B.ps ++ [p]) (B.xs ++ [x])))) z (.lst [])) := same_new (by rw [upd_ne zD.symm]; exact hz)
  have hl2 := s2 _ _ (by rw [upd_ne aD]; exact hl : (_root_.L2.upd H B.Dk (.ext (ndPhi w B.Dk (B.ps ++ [p]) (B.xs ++ [x])))) a = some (.lst (ls.map V.ref)))
  have k1 : Keeps B.S H (_root_.L2.upd H B.Dk (.ext (ndPhi w B.Dk (B.ps ++ [p]) (B.xs ++ [x])))) := keeps_upd dS
  have k : Keeps B.S H (_root_.L2.upd (_root_.L2.upd (_root_.L2.upd H B.Dk (.ext (ndPhi w B.Dk (B.ps ++ [p]) (B.xs ++ [x])))) z (.lst [])) a (.lst (ls.map V.ref ++ [V.ref p]))) := (k1.trans (.of s2)).trans (keeps_upd aS)
  have lst : ∀ l o, l ≠ B.Dk → l ≠ a → H l = some o → (_root_.L2.upd (_root_.L2.upd (_root_.L2.upd H B.Dk (.ext (ndPhi w B.Dk (B.ps ++ [p]) (B.xs ++ [x])))) z (.lst [])) a (.lst (ls.map V.ref ++ [V.ref p]))) l = some o := fun l o d1 d2 e => by
    rw [upd_ne d2]
    exact s2 _ _ (by rw [upd_ne d1]; exact e)
  have cA : B.Lc ≠ a := fun e => n2 (List.mem_map.mpr ⟨_, ma, e.symm⟩)
  have mA : B.Lm ≠ a := fun e => n3 (List.mem_map.mpr ⟨_, ma, e.symm⟩)
  refine { obj := N.obj.imp fun _ e => k _ _ (N.notS e (show Fixed (.ins _ _ _) from True.intro)) e, com := N.com.keeps k fun _ _ => N.notS, gw := N.gw, kept := ?_, byb := ?_, lc := lst _ _ (ne_lD N.kept N.lc) cA N.lc, pc := N.pc.keeps k N.tupS, lm := lst _ _ (ne_lD N.kept N.lm) mA N.lm, pm := N.pm.keeps k N.tupS,
           rows := ?_, non := ?_, nk := N.nk, nl := N.nl, nd := N.nd, kl := Nat.le_trans N.kl (by simp), tb := ?_, okx := ?_, okc := N.okc, okm := N.okm }
  · exact ((N.kept.put hx nin few).same s2).updM (fun ys e => by rw [hl2] at e; cases e) aD.symm
  · exact ((N.byb.updM N.nd.symm).same s2).updM aO.symm
  · intro e he
    show ∃ ls', _ ∧ LsAt _ ls' (inB e.1 (B.xs ++ [x]))
    obtain ⟨le, h1, h2⟩ := N.rows e he
    rw [inB_snoc]
    by_cases c : x.m.b = e.1
    · have ee : e = (x.m.b, a) := by
        have := nodup_fstO N.nk he ma c.symm
        exact this
      rw [if_pos c]
      have e2 : e.2 = a := by rw [ee]
      rw [e2] at h1 ⊢
      rw [hl] at h1
      have el : ls = le := by
        injection h1 with h1
        injection h1 with h1
        exact refs_inj h1
      rw [← el] at h2
      refine ⟨ls ++ [p], by rw [upd_same]; simp, ?_⟩
      exact (h2.snoc hx).keeps k N.tupS
    · rw [if_neg c]
      have e2 : e.2 ≠ a := fun z => by
        have := nodup_sndO n4 he ma z
        rw [this] at c
        exact c rfl
      exact ⟨le, lst _ _ (ne_lD N.kept h1) e2 h1, h2.keeps k N.tupS⟩
  · intro b hb
    show inB b (B.xs ++ [x]) = []
    rw [inB_snoc, if_neg fun e => by
      rw [← e, g] at hb
      cases hb]
    exact N.non b hb
  · intro y hy
    rcases List.mem_append.mp hy with hy | hy
    · exact N.tb y hy
    · rw [List.mem_singleton.mp hy]
      exact tx
  · intro y hy
    rcases List.mem_append.mp hy with hy | hy
    · exact N.okx y hy
    · rw [List.mem_singleton.mp hy]
      exact ox
/-- one more letter, the first of its block: z is its row -/
theorem BookAt.put2 (N : BookAt P w CB CC H bk B) {p z : Addr} {x : Lt} (hx : LtAt H p x) (nin : ltKey x ∉ B.xs.map ltKey) (few : B.xs.length + 1 < 1000) (g : odGet B.kvs x.m.b = none)
    (tx : 0 ≤ x.m.t ∧ x.m.t < 60) (ox : OkS x.m.b) (hz : H z = none) :
    BookAt P w CB CC (_root_.L2.upd (_root_.L2.upd (_root_.L2.upd (_root_.L2.upd H B.Dk (.ext (ndPhi w B.Dk (B.ps ++ [p]) (B.xs ++ [x])))) z (.lst [])) B.Db (.ext (odPhi P w B.Db (B.kvs ++ [(x.m.b, z)])))) z (.lst [V.ref p])) bk
      { B with ps := B.ps ++ [p], xs := B.xs ++ [x], kvs := B.kvs ++ [(x.m.b, z)] } := by
  obtain ⟨n1, n2, n3, n4⟩ := nodup_two N.nl
  have dS : B.Dk ∈ B.S := List.mem_cons_of_mem _ (List.mem_cons_of_mem _ List.mem_cons_self)
  have bS : B.Db ∈ B.S := List.mem_cons_of_mem _ (List.mem_cons_of_mem _ (List.mem_cons_of_mem _ List.mem_cons_self))
  have zD : B.Dk ≠ z := fun e => by
    rcases N.kept.at_ with ⟨_, q⟩ | q <;> (rw [e, hz] at q; cases q)
  have zB : B.Db ≠ z := fun e => by
    rcases N.byb.at_ with ⟨_, q⟩ | q <;> (rw [e, hz] at q; cases q)
  generalize eo1 : HO.ext (ndPhi w B.Dk (B.ps ++ [p]) (B.xs ++ [x])) = o1
  generalize eo2 : HO.ext (odPhi P w B.Db (B.kvs ++ [(x.m.b, z)])) = o2
  have s2 : Same (_root_.L2.upd H B.Dk o1) (_root_.L2.upd (_root_.L2.upd H B.Dk o1) z (.lst [])) := same_new (by rw [upd_ne zD.symm]; exact hz)
  have zl : ∀ l o, H l = some o → l ≠ z := fun l o e q => by rw [q, hz] at e; cases e
  have lst : ∀ l o, l ≠ B.Dk → l ≠ B.Db → H l = some o → (_root_.L2.upd (_root_.L2.upd (_root_.L2.upd (_root_.L2.upd H B.Dk o1) z (.lst [])) B.Db o2) z (.lst [V.ref p])) l = some o := fun l o d1 d2 e => by
    rw [upd_ne (zl l o e), upd_ne d2, upd_ne (zl l o e), upd_ne d1]
    exact e
  have k : Keeps B.S H (_root_.L2.upd (_root_.L2.upd (_root_.L2.upd (_root_.L2.upd H B.Dk o1) z (.lst [])) B.Db o2) z (.lst [V.ref p])) := fun b o n e => lst b o (fun q => n (q ▸ dS)) (fun q => n (q ▸ bS)) e
  have nx := hx.keeps k N.tupS
  refine { obj := N.obj.imp fun _ e => k _ _ (N.notS e (show Fixed (.ins _ _ _) from True.intro)) e, com := N.com.keeps k fun _ _ => N.notS, gw := N.gw, kept := ?_, byb := ?_, lc := lst _ _ (ne_lD N.kept N.lc) (ne_lO N.byb N.lc) N.lc, pc := N.pc.keeps k N.tupS, lm := lst _ _ (ne_lD N.kept N.lm) (ne_lO N.byb N.lm) N.lm, pm := N.pm.keeps k N.tupS,
           rows := ?_, non := ?_, nk := ?_, nl := ?_, nd := N.nd, kl := ?_, tb := ?_, okx := ?_, okc := N.okc, okm := N.okm }
  · have n0 := N.kept.put hx nin few
    rw [eo1] at n0
    have nB : ∀ ys, (_root_.L2.upd (_root_.L2.upd H B.Dk o1) z (.lst [])) B.Db ≠ some (.tup ys) := fun ys e => by
      rw [upd_ne zB, upd_ne N.nd.symm] at e
      exact N.byb.notTup ys e
    refine ((n0.same s2).updM nB N.nd).updM (fun ys e => ?_) zD
    rw [upd_ne zB.symm, upd_same] at e
    cases e
  · rw [← eo2]
    exact (OdAt.put (P := P) (w := w) (by have := N.kl; show B.kvs.length + 1 < 1000; omega)).updM zB
  · intro e he
    show ∃ ls', _ ∧ LsAt _ ls' (inB e.1 (B.xs ++ [x]))
    rw [inB_snoc]
    rcases List.mem_append.mp (show e ∈ B.kvs ++ [(x.m.b, z)] from he) with he | he
    · obtain ⟨le, h1, h2⟩ := N.rows e he
      have c : x.m.b ≠ e.1 := fun q => by
        have : odGet B.kvs e.1 ≠ none := fun hn => by
          unfold odGet at hn
          rw [Option.map_eq_none_iff, List.find?_eq_none] at hn
          exact hn e he (decide_eq_true rfl)
        exact this (q ▸ g)
      rw [if_neg c]
      exact ⟨le, lst _ _ (ne_lD N.kept h1) (ne_lO N.byb h1) h1, h2.keeps k N.tupS⟩
    · rw [List.mem_singleton.mp he]
      rw [if_pos rfl, N.non _ g]
      exact ⟨[p], upd_same, LsAt.nil.snoc nx⟩
  · intro b hb
    show inB b (B.xs ++ [x]) = []
    by_cases c : x.m.b = b
    · subst c
      rw [show odGet (B.kvs ++ [(x.m.b, z)]) x.m.b = some z from odGet_new g] at hb
      cases hb
    · rw [show odGet (B.kvs ++ [(x.m.b, z)]) b = odGet B.kvs b from odGet_other c] at hb
      rw [inB_snoc, if_neg c]
      exact N.non b hb
  · show ((B.kvs ++ [(x.m.b, z)]).map (·.1)).Nodup
    rw [List.map_append]
    refine List.nodup_append.mpr ⟨N.nk, List.pairwise_singleton _ _, fun u hu v hv => ?_⟩
    rw [List.map_singleton, List.mem_singleton] at hv
    subst hv
    rintro rfl
    obtain ⟨e, he, q⟩ := List.mem_map.mp hu
    unfold odGet at g
    rw [Option.map_eq_none_iff, List.find?_eq_none] at g
    exact g e he (decide_eq_true q)
  · show (B.Lc :: B.Lm :: (B.kvs ++ [(x.m.b, z)]).map (·.2)).Nodup
    rw [List.map_append, List.map_singleton]
    have zr : z ∉ B.kvs.map (·.2) := fun m => by
      obtain ⟨e, he, q⟩ := List.mem_map.mp m
      obtain ⟨_, h1, _⟩ := N.rows e he
      exact zl _ _ h1 q
    have zc := zl _ _ N.lc
    have zm := zl _ _ N.lm
    refine List.nodup_cons.mpr ⟨fun m => ?_, List.nodup_cons.mpr ⟨fun m => ?_, List.nodup_append.mpr ⟨n4, List.pairwise_singleton _ _, fun u hu v hv q => zr ?_⟩⟩⟩
    · rcases List.mem_cons.mp m with e | m
      · exact n1 e
      · rcases List.mem_append.mp m with m | m
        · exact n2 m
        · exact zc (List.mem_singleton.mp m)
    · rcases List.mem_append.mp m with m | m
      · exact n3 m
      · exact zm (List.mem_singleton.mp m)
    · rw [← show v = z from List.mem_singleton.mp hv, ← q]
      exact hu
  · show (B.kvs ++ [(x.m.b, z)]).length ≤ (B.xs ++ [x]).length
    have := N.kl
    simp
    exact this
  · intro y hy
    rcases List.mem_append.mp hy with hy | hy
    · exact N.tb y hy
    · rw [List.mem_singleton.mp hy]
      exact tx
  · intro y hy
    rcases List.mem_append.mp hy with hy | hy
    · exact N.okx y hy
    · rw [List.mem_singleton.mp hy]
      exact ox
/-- both lists of pairs grow -/
theorem BookAt.ext (N : BookAt P w CB CC H bk B) {q1 q2 : List Addr} {n1 n2 : List Pr} (h1 : PsAt H q1 n1) (h2 : PsAt H q2 n2) (o1 : OkP n1) (o2 : OkP n2) :
    BookAt P w CB CC (_root_.L2.upd (_root_.L2.upd H B.Lc (.lst (B.qc.map V.ref ++ q1.map V.ref))) B.Lm (.lst (B.qm.map V.ref ++ q2.map V.ref))) bk { B with qc := B.qc ++ q1, cs := B.cs ++ n1, qm := B.qm ++ q2, ms := B.ms ++ n2 } := by
  obtain ⟨d1, d2, d3, d4⟩ := nodup_two N.nl
  have cS : B.Lc ∈ B.S := List.mem_cons_self
  have mS : B.Lm ∈ B.S := List.mem_cons_of_mem _ List.mem_cons_self
  have k : Keeps B.S H (_root_.L2.upd (_root_.L2.upd H B.Lc (.lst (B.qc.map V.ref ++ q1.map V.ref))) B.Lm (.lst (B.qm.map V.ref ++ q2.map V.ref))) := (keeps_upd cS).trans (keeps_upd mS)
  have ntc : ∀ ys, H B.Lc ≠ some (.tup ys) := fun ys e => by rw [N.lc] at e; cases e
  have ntm : ∀ ys, (_root_.L2.upd H B.Lc (.lst (B.qc.map V.ref ++ q1.map V.ref))) B.Lm ≠ some (.tup ys) := fun ys e => by rw [upd_ne d1.symm, N.lm] at e; cases e
  exact { obj := N.obj.imp fun _ e => k _ _ (N.notS e (show Fixed (.ins _ _ _) from True.intro)) e, com := N.com.keeps k fun _ _ => N.notS, gw := N.gw,
          kept := (N.kept.updM ntc (ne_lD N.kept N.lc).symm).updM ntm (ne_lD N.kept N.lm).symm, byb := (N.byb.updM (ne_lO N.byb N.lc).symm).updM (ne_lO N.byb N.lm).symm,
          lc := by
            rw [List.map_append, upd_ne d1, upd_same]
          pc := (N.pc.app h1).keeps k N.tupS
          lm := by
            rw [List.map_append, upd_same]
          pm := (N.pm.app h2).keeps k N.tupS
          rows := fun e he => by
            obtain ⟨ls, a1, a2⟩ := N.rows e he
            have m : e.2 ∈ B.kvs.map (·.2) := List.mem_map.mpr ⟨e, he, rfl⟩
            exact ⟨ls, by rw [upd_ne (show e.2 ≠ B.Lm from fun z => d3 (by rw [← z]; exact m)), upd_ne (show e.2 ≠ B.Lc from fun z => d2 (by rw [← z]; exact m))]; exact a1, a2.keeps k N.tupS⟩
          non := N.non, nk := N.nk, nl := N.nl, nd := N.nd, kl := N.kl, tb := N.tb, okx := N.okx, okc := N.okc.app o1, okm := N.okm.app o2 }
end

/-- x is a vote of a member for the height -/
def bel (ws : List Int) (h : Int) (x : Lt) : Bool := (decide (0 ≤ x.w) && decide (x.w < ws.length)) && (decide (x.m.k ≠ .prop) && decide (x.m.h = h))
def spMissing (K : PySem.W.Frag) : Sp := fun vs H Q _ => ∃ (R L : Addr) (ts : List Int) (b : Option Str) (qs : List Addr) (cs : List Pr), vs = [.ref R, oS b, .ref L] ∧ H R = some (.lst (ts.map V.int)) ∧ H L = some (.lst (qs.map V.ref)) ∧ PsAt H qs cs ∧ OkP cs ∧ OkS b ∧ ts.length ≤ 1000 ∧
  ∀ (D : Addr) (ps : List Addr) H', Same H H' → H D = none → H' D = some (.lst (ps.map V.ref)) → PsAt H' ps (miss ts b cs) → Q (.ref D) H'
def spBI (K : PySem.W.Frag) (CB CC : Addr) : Sp := fun vs H Q _ => ∃ (p dx c : Addr) (h : Int) (ws : List Int), vs = [.ref p, .ref c, .int h] ∧ H p = some (.ins CB dx []) ∧ CommAt CC H c ws ∧ GoodW ws ∧
  ∀ (Lc Lm Dk Db : Addr) (H' : Hp), (∀ P w, BookAt P w CB CC H' p ⟨c, h, Lc, Lm, Dk, Db, ws, [], [], [], [], [], [], []⟩) → H Lc = none → H Lm = none → H Dk = none → H Db = none → (∀ b o, b ≠ p → H b = some o → H' b = some o) → Q .non H'
def spBel (P : Program) (w : World) (K : PySem.W.Frag) (CB CC : Addr) : Sp := fun vs H Q _ => ∃ (bk p : Addr) (B : Bk) (x : Lt), vs = [.ref bk, .ref p] ∧ BookAt P w CB CC H bk B ∧ LtAt H p x ∧ ∀ H', Same H H' → Q (.bl (bel B.ws B.h x)) H'
/-- what the book holds behind a letter -/
def Bk.c' (B : Bk) (b : Option Str) : List Pr := miss (ctL B.ws (inB b B.xs) B.h b) b B.cs
def Bk.m' (B : Bk) (b : Option Str) : List Pr := miss (cmL B.ws (inB b B.xs) B.h b) b B.ms
def spEnter (P : Program) (w : World) (K : PySem.W.Frag) (CB CC : Addr) : Sp := fun vs H Q _ => ∃ (bk : Addr) (B : Bk) (b : Option Str) (a : Addr), vs = [.ref bk, oS b] ∧ BookAt P w CB CC H bk B ∧ odGet B.kvs b = some a ∧ OkS b ∧ B.xs.length ≤ 900 ∧ B.cs.length ≤ 100000 ∧ B.ms.length ≤ 100000 ∧
  ∀ (q1 q2 : List Addr) H', Keeps B.S H H' → BookAt P w CB CC H' bk { B with qc := B.qc ++ q1, cs := B.cs ++ B.c' b, qm := B.qm ++ q2, ms := B.ms ++ B.m' b } → Q .non H'
/-- the book with one more letter -/
def Bk.plus (B : Bk) (p : Addr) (x : Lt) : Bk := { B with ps := B.ps ++ [p], xs := B.xs ++ [x] }
def spAdd (P : Program) (w : World) (K : PySem.W.Frag) (CB CC : Addr) : Sp := fun vs H Q _ => ∃ (bk p : Addr) (B : Bk) (x : Lt), vs = [.ref bk, .ref p] ∧ BookAt P w CB CC H bk B ∧ LtAt H p x ∧ OkS x.m.b ∧ (0 ≤ x.m.t ∧ x.m.t < 60) ∧ B.xs.length < 900 ∧ B.cs.length ≤ 90000 ∧ B.ms.length ≤ 90000 ∧
  ((ltKey x ∈ B.xs.map ltKey ∨ bel B.ws B.h x = false) → ∀ H', Same H H' → Q (.bl false) H') ∧
  (ltKey x ∉ B.xs.map ltKey → bel B.ws B.h x = true → ∀ (kvs : List (Option Str × Addr)) (q1 q2 : List Addr) H', Keeps B.S H H' → (∀ e ∈ kvs, e ∈ B.kvs ∨ H e.2 = none) →
    BookAt P w CB CC H' bk { B.plus p x with kvs := kvs, qc := B.qc ++ q1, cs := B.cs ++ (B.plus p x).c' x.m.b, qm := B.qm ++ q2, ms := B.ms ++ (B.plus p x).m' x.m.b } → Q (.bl true) H')
def spBLet (P : Program) (w : World) (K : PySem.W.Frag) (CB CC : Addr) : Sp := fun vs H Q _ => ∃ (bk : Addr) (B : Bk), vs = [.ref bk] ∧ BookAt P w CB CC H bk B ∧ ∀ (D : Addr) H', Same H H' → H D = none → H' D = some (.lst (B.ps.map V.ref)) → Q (.ref D) H'
def spHas (P : Program) (w : World) (K : PySem.W.Frag) (CB CC : Addr) : Sp := fun vs H Q _ => ∃ (bk : Addr) (B : Bk) (t : Int) (b : Option Str), vs = [.ref bk, .int t, oS b] ∧ BookAt P w CB CC H bk B ∧ OkS b ∧ ∀ H', Same H H' → Q (.bl (decide ((t, b) ∈ B.cs))) H'
/-- the turns before t with a pair for b -/
def befT (cs : List Pr) (b : Option Str) (t : Int) : List Int := (cs.filter fun q => decide (q.2 = b) && decide (q.1 < t)).map (·.1)
def spLatest (P : Program) (w : World) (K : PySem.W.Frag) (CB CC : Addr) : Sp := fun vs H Q _ => ∃ (bk : Addr) (B : Bk) (t : Int) (b : Option Str), vs = [.ref bk, oS b, .int t] ∧ BookAt P w CB CC H bk B ∧ B.cs.length ≤ 100000 ∧
  (befT B.cs b t = [] → ∀ H', Same H H' → Q .non H') ∧ (∀ m, m ∈ befT B.cs b t → (∀ y ∈ befT B.cs b t, y ≤ m) → ∀ H', Same H H' → Q (.int m) H')

/-- all but the object at l stays -/
def But (l : Addr) (H H' : Hp) : Prop := ∀ b o, b ≠ l → H b = some o → H' b = some o

/-! ### list(d.values()) -/
section
open PyProof.Rows
def viewD (p d : Addr) : HO := .ext fun h => h.get? p = some { cls := .type "dict_values", data := .fields #[.ref d] }
/-- d.values() -/
def tDVal (td : TE) : TE := fun σ H Q => td σ H fun x H1 => ∃ d kvs, x = .ref d ∧ H1 d = some (.dK kvs) ∧ ∀ p, H1 p = none → Q (.ref p) (upd H1 p (viewD p d))
theorem pe_dval {X : Cx} {e : Expr} {td : TE} {apos cpos : Pos} (he : PE X e td) (hbase : attributeBase e "values" X.env (eval e X.env) = eval e X.env := by rfl) (hline : (apos.endLine == cpos.line) = true := by rfl) : PE X (.Call (.Attribute e "values" apos) [] [] cpos) (tDVal td) := by
  refine ⟨fun pins s σ H Q I h => ?_⟩
  refine wpAny_Call_method (T := "dict") (id := "dict.values") hbase rfl hline PySem.F.plainAttrs_dict PySem.F.slot_dict_values PySem.F.type_dict_values (thn (he.run pins s σ H _ I h) fun u s1 ⟨x, H1, I1, rx, d, kvs, ex, hd, q⟩ => ?_)
  subst ex
  obtain rfl : u = Value.ref d := rx
  obtain ⟨_, hs, vs, kv, dof⟩ := I1.hok d _ hd
  refine ⟨dof.typeIs, dof.mapOf.noDict, ?_⟩
  have I2 : L2.Inv X pins σ (upd H1 s1.heap.objs.size (viewD s1.heap.objs.size d)) { s1 with heap := s1.heap.push { cls := .type "dict_values", data := .fields #[.ref d] } } :=
    I1.laid (t' := s1.toks) (fun b o q => Heap.get?_push_of_some _ q) (Nat.le_refl _) ⟨Heap.get?_push_size _ rfl, ⟨_, Heap.get?_push_size _ rfl⟩, fun h1 h2 q k => k _ q⟩
  show wpAny _ _ (callWith cpos (.builtin "dict.values") [.ref d] [] []) _ X.xe s1
  exact method_meetsIn PySem.F.slot_dict_values PySem.F.entry_dict_values rfl (PySem.evalArgs_none ⟨rfl, dof.typeIs, PySem.F.args_dict_values_1 _, _, meets_dict_values (mixKind X.prog X.w) d hs, ⟨vs, dof⟩, ⟨.ref s1.heap.objs.size, _, I2, rfl, q _ (I1.hok.fresh (Nat.le_refl _))⟩⟩)
/-- list(of such a view) -/
def rListVal : List V → Hp → VK → Prop := fun vs H Q => ∃ (p d : Addr) (kvs : List (Key × V)), vs = [.ref p] ∧ H p = some (viewD p d) ∧ H d = some (.dK kvs) ∧ ∀ q, H q = none → Q (.ref q) (upd H q (.lst (kvs.map Prod.snd)))
theorem call_list_val {X : Cx} (hc : X.calm = true) : CallR X (.type "list") rListVal := by
  intro pins s σ H xs us Q I r h
  obtain ⟨p, d, kvs, e, hp, hd, q⟩ := h
  subst e
  obtain ⟨u, eu, rx⟩ := vals1 r
  subst eu
  obtain rfl : u = Value.ref p := rx
  obtain ⟨len, hs, vs, kv, ob, es, ep, g, ex, dt, hk, pr, nd⟩ := I.hok d _ hd
  have hv : s.heap.get? p = some { cls := .type "dict_values", data := .fields #[.ref d] } := (I.hok p _ hp).1
  have l1 : kvs.length = vs.length := Paired.length kv
  have l2 := pr.length
  have n3 : es.size = kvs.length := by
    rw [← Array.length_toList]
    omega
  refine PySem.W.kdl_call (KdlSrc.rawValues (r := p) (d := d) (es := es) (ep := ep)) (I.ok.hd hc) ⟨⟨_, hv, rfl, rfl⟩, ⟨ob, g, ex, dt⟩⟩ (by rw [n3]; exact len) fun h' tk acc' c' kp hS it => ?_
  refine ⟨.ref s.heap.objs.size, upd H s.heap.objs.size (.lst (kvs.map Prod.snd)), I.laid kp (Nat.le_refl _) (show ObjOk X.prog X.w _ _ _ (.lst (kvs.map Prod.snd)) from ⟨?_, acc'.toList, c', ?_, ?_⟩), rfl, q _ (I.hok.fresh (Nat.le_refl _))⟩
  · rw [List.length_map]
    exact len
  · have e2 : acc'.toList.length = acc'.size := by simp
    refine vals_of_at (by rw [List.length_map, e2, it.1, n3]) fun j x w h1 h2 => ?_
    obtain ⟨hi, rfl⟩ := it.2 j w (by rw [← Array.getElem?_toList]; exact h2)
    rw [List.getElem?_map] at h1
    cases hz : kvs[j]? with
    | none => rw [hz] at h1; cases h1
    | some z =>
      rw [hz] at h1
      cases h1
      obtain ⟨u, hu, ru⟩ := kv_get kv (k := z.1) (v := z.2) hz
      obtain ⟨_, h2⟩ := pr.get? (e := es[j]) (i := j) (by simp [hi]) hu
      rw [h2]
      exact ru
  · rw [Array.toArray_toList]
    exact hS
end

/-! ### papers made from a book -/
/-- the letters that are taken until the members are a quorum -/
def uqS (ws : List Int) (T : List Lt) (x : Lt) : List Lt := if qrm ws (T.map Lt.w) then T else if x.w ∈ T.map Lt.w then T else T ++ [x]
def uq (ws : List Int) (ls : List Lt) : List Lt := ls.foldl (uqS ws) []
theorem uq_snoc (ws : List Int) (ls : List Lt) (x : Lt) : uq ws (ls ++ [x]) = uqS ws (uq ws ls) x := by
  unfold uq
  rw [List.foldl_append]
  rfl
theorem uqS_len (ws : List Int) (T : List Lt) (x : Lt) : (uqS ws T x).length ≤ T.length + 1 := by
  unfold uqS
  split
  · omega
  · split
    · omega
    · simp
theorem uq_len (ws : List Int) : ∀ (n : Nat) (ls : List Lt), ls.length = n → (uq ws ls).length ≤ n
  | 0, ls, h => by
    rw [List.eq_nil_of_length_eq_zero h]
    exact Nat.le_refl _
  | n + 1, ls, h => by
    have ne : ls ≠ [] := fun z => by rw [z] at h; cases h
    rw [← List.dropLast_concat_getLast ne, uq_snoc]
    have := uq_len ws n ls.dropLast (by rw [List.length_dropLast, h]; rfl)
    have := uqS_len ws (uq ws ls.dropLast) (ls.getLast ne)
    omega
theorem uq_mem {ws : List Int} {ls : List Lt} {x : Lt} : x ∈ uq ws ls → x ∈ ls := by
  have : ∀ (ls T : List Lt), x ∈ ls.foldl (uqS ws) T → x ∈ T ∨ x ∈ ls := fun ls => by
    induction ls with
    | nil => exact fun T h => .inl h
    | cons y ls ih =>
      intro T h
      rcases ih (uqS ws T y) h with h | h
      · unfold uqS at h
        split at h
        · exact .inl h
        · split at h
          · exact .inl h
          · rcases List.mem_append.mp h with h | h
            · exact .inl h
            · exact .inr (List.mem_cons.mpr (.inl (List.mem_singleton.mp h)))
      · exact .inr (List.mem_cons_of_mem _ h)
  exact fun h => (this ls [] h).elim (fun z => nomatch z) id
def uK (rs : List Addr) (T : List Lt) : List (Key × V) := (rs.zip T).map fun e => (Sum.inl e.2.w, V.ref e.1)
theorem uK_keys : ∀ {rs : List Addr} {T : List Lt}, rs.length = T.length → (uK rs T).map (fun kv => kV kv.1) = (T.map Lt.w).map V.int
  | [], [], _ => rfl
  | r :: rs, x :: T, h => by
    have := uK_keys (rs := rs) (T := T) (Nat.succ.inj h)
    show kV (Sum.inl x.w) :: (uK rs T).map _ = V.int x.w :: (T.map Lt.w).map V.int
    rw [this]
    rfl
  | [], x :: T, h => nomatch h
  | r :: rs, [], h => nomatch h
theorem uK_vals : ∀ {rs : List Addr} {T : List Lt}, rs.length = T.length → (uK rs T).map Prod.snd = rs.map V.ref
  | [], [], _ => rfl
  | r :: rs, x :: T, h => by
    have := uK_vals (rs := rs) (T := T) (Nat.succ.inj h)
    show V.ref r :: (uK rs T).map Prod.snd = V.ref r :: rs.map V.ref
    rw [this]
  | [], x :: T, h => nomatch h
  | r :: rs, [], h => nomatch h
theorem uK_snoc {r : Addr} {x : Lt} : ∀ {rs : List Addr} {T : List Lt}, rs.length = T.length → uK (rs ++ [r]) (T ++ [x]) = uK rs T ++ [(Sum.inl x.w, V.ref r)]
  | [], [], _ => rfl
  | a :: rs, y :: T, h => by
    have := uK_snoc (r := r) (x := x) (rs := rs) (T := T) (Nat.succ.inj h)
    show (Sum.inl y.w, V.ref a) :: uK (rs ++ [r]) (T ++ [x]) = _
    rw [this]
    rfl
  | [], x :: T, h => nomatch h
  | r :: rs, [], h => nomatch h
theorem uK_val {w : Int} : ∀ {rs : List Addr} {T : List Lt}, rs.length = T.length → (valV (uK rs T) (Sum.inl w)).isSome = decide (w ∈ T.map Lt.w)
  | [], [], _ => rfl
  | r :: rs, x :: T, h => by
    have ih := uK_val (w := w) (rs := rs) (T := T) (Nat.succ.inj h)
    have e : uK (r :: rs) (x :: T) = (Sum.inl x.w, V.ref r) :: uK rs T := rfl
    rw [e]
    by_cases c : x.w = w
    · subst c
      simp [valV]
    · have c' : ¬ (Sum.inl x.w : Key) = Sum.inl w := fun z => c (Sum.inl.inj z)
      unfold valV at ih ⊢
      rw [List.find?_cons_of_neg (by simpa using c')]
      rw [ih]
      have : ¬ w = x.w := fun z => c z.symm
      simp [this]
  | [], x :: T, h => nomatch h
  | r :: rs, [], h => nomatch h
def spUq (K : PySem.W.Frag) (C : Addr) : Sp := fun vs H Q _ => ∃ (c l : Addr) (ws : List Int) (ps : List Addr) (xs : List Lt), vs = [.ref c, .ref l] ∧ CommAt C H c ws ∧ GoodW ws ∧ H l = some (.lst (ps.map V.ref)) ∧ LsAt H ps xs ∧ xs.length ≤ 900 ∧
  ∀ (D : Addr) (rs : List Addr) H', Same H H' → H D = none → H' D = some (.lst (rs.map V.ref)) → LsAt H' rs (uq ws xs) → Q (.ref D) H'
/-- a vote that counts, by the turns that are certified -/
def spCountsL (K : PySem.W.Frag) : Sp := fun vs H Q _ => ∃ (p D : Addr) (m : Sm) (L : List Int), vs = [.ref p, .ref D] ∧ SmAt H p m ∧ m.k = .pre ∧ H D = some (.lst (L.map V.int)) ∧ ∀ H', Same H H' → Q (.bl (cntL m L)) H'
/-- the prevotes of turn t that make its quorum, L the turns that are certified -/
def qT (ws : List Int) (xs : List Lt) (h : Int) (b : Option Str) (L : List Int) (t : Int) : List Lt := uq ws ((xs.filter (inT .pre h b t)).filter fun x => cntL x.m L)
def leansOf (q : List Lt) : List Int := q.filterMap fun x => x.m.l
/-- from turn m - 1 down -/
def downP (Q : Int → List Lt) : Nat → List Lt → List Int → List Lt
  | 0, taken, _ => taken
  | m + 1, taken, wanted => if (m : Int) ∈ wanted then downP Q m (taken ++ Q m) (wanted ++ leansOf (Q m)) else downP Q m taken wanted
theorem downP_skip {Q : Int → List Lt} {taken : List Lt} {wanted : List Int} {n : Nat} : ∀ k, (∀ t : Nat, n ≤ t → t < n + k → (t : Int) ∉ wanted) → downP Q (n + k) taken wanted = downP Q n taken wanted
  | 0, _ => rfl
  | k + 1, h => by
    rw [← Nat.add_assoc, downP, if_neg (h (n + k) (by omega) (by omega))]
    exact downP_skip k fun t h1 h2 => h t h1 (by omega)
/-- what is wanted above does not matter -/
theorem downP_same {Q : Int → List Lt} : ∀ (m : Nat) (taken : List Lt) (w1 w2 : List Int), (∀ t : Nat, t < m → ((t : Int) ∈ w1 ↔ (t : Int) ∈ w2)) → downP Q m taken w1 = downP Q m taken w2
  | 0, _, _, _, _ => rfl
  | m + 1, taken, w1, w2, h => by
    rw [downP, downP]
    by_cases c : (m : Int) ∈ w1
    · rw [if_pos c, if_pos ((h m (by omega)).mp c)]
      exact downP_same m _ _ _ fun t ht => by
        rw [List.mem_append, List.mem_append, h t (by omega)]
    · rw [if_neg c, if_neg fun z => c ((h m (by omega)).mpr z)]
      exact downP_same m _ _ _ fun t ht => h t (by omega)
/-- the letters of the paper for b in turn t -/
def prevM (ws : List Int) (xs : List Lt) (h : Int) (b : Option Str) (L : List Int) (t : Int) : List Lt := downP (qT ws xs h b L) (t.toNat + 1) [] [t]
def paperM (ws : List Int) (xs : List Lt) (h : Int) (b : Option Str) (L : List Int) (t : Int) : List Lt := uq ws (xs.filter (inT .com h b t)) ++ prevM ws xs h b L t
/-- the turns of the pairs for b, in order -/
def forB (cs : List Pr) (b : Option Str) : List Int := (cs.filter fun q => decide (q.2 = b)).map (·.1)
/-- the certified turns stand on letters: each has one, and leans on none but such -/
def OkC (ws : List Int) (xs : List Lt) (h : Int) (b : Option Str) (L : List Int) : Prop := (∀ t ∈ L, 0 ≤ t ∧ t < 60 ∧ ∃ x ∈ xs, inT .pre h b t x = true)
def spPrev (P : Program) (w : World) (K : PySem.W.Frag) (CB CC : Addr) : Sp := fun vs H Q _ => ∃ (bk : Addr) (B : Bk) (b : Str) (t : Int), vs = [.ref bk, .str b, .int t] ∧ BookAt P w CB CC H bk B ∧ B.xs.length ≤ 100 ∧ B.cs.length ≤ 5000 ∧ t ∈ forB B.cs (some b) ∧ OkC B.ws B.xs B.h (some b) (forB B.cs (some b)) ∧
  ∀ (D : Addr) (rs : List Addr) H', Same H H' → H D = none → H' D = some (.lst (rs.map V.ref)) → LsAt H' rs (prevM B.ws B.xs B.h (some b) (forB B.cs (some b)) t) → Q (.ref D) H'
def spPaper (P : Program) (w : World) (K : PySem.W.Frag) (CB CC : Addr) : Sp := fun vs H Q _ => ∃ (bk : Addr) (B : Bk) (b : Str), vs = [.ref bk, .str b] ∧ BookAt P w CB CC H bk B ∧ B.xs.length ≤ 100 ∧ B.cs.length ≤ 5000 ∧ B.ms.length ≤ 5000 ∧ OkC B.ws B.xs B.h (some b) (forB B.cs (some b)) ∧ (∀ t ∈ forB B.ms (some b), t ∈ forB B.cs (some b) ∧ ∃ x ∈ B.xs, inT .com B.h (some b) t x = true) ∧ forB B.ms (some b) ≠ [] ∧
  ∀ (t : Int), t ∈ forB B.ms (some b) → (∀ u ∈ forB B.ms (some b), t ≤ u) → ∀ (D : Addr) (rs : List Addr) H', Same H H' → H D = none → H' D = some (.lst (rs.map V.ref)) → LsAt H' rs (paperM B.ws B.xs B.h (some b) (forB B.cs (some b)) t) → Q (.ref D) H'
theorem LsAt.append {H : Hp} {ps qs : List Addr} {xs ys : List Lt} (h : LsAt H ps xs) (e : LsAt H qs ys) : LsAt H (ps ++ qs) (xs ++ ys) := by
  refine ⟨by rw [List.length_append, List.length_append, h.1, e.1], fun i hi => ?_⟩
  rw [List.length_append] at hi
  rcases Nat.lt_or_ge i xs.length with z | z
  · rw [getD_left (by rw [h.1]; exact z), getD_left z]
    exact h.2 i z
  · have z' : ps.length ≤ i := by rw [h.1]; exact z
    rw [List.getD_eq_getElem?_getD, List.getD_eq_getElem?_getD, List.getElem?_append_right z', List.getElem?_append_right z, ← List.getD_eq_getElem?_getD, ← List.getD_eq_getElem?_getD, h.1]
    exact e.2 _ (by omega)
theorem downP_len {Q : Int → List Lt} {c : Nat} (h : ∀ t, (Q t).length ≤ c) : ∀ (m : Nat) (taken : List Lt) (w : List Int), (downP Q m taken w).length ≤ taken.length + c * m
  | 0, _, _ => Nat.le_add_right _ _
  | m + 1, taken, w => by
    rw [downP, Nat.mul_succ]
    split
    · have := downP_len h m (taken ++ Q m) (w ++ leansOf (Q m))
      rw [List.length_append] at this
      have := h m
      omega
    · have := downP_len h m taken w
      omega
theorem prevM_len (ws : List Int) (xs : List Lt) (h : Int) (b : Option Str) (L : List Int) (t : Int) (t0 : 0 ≤ t) (t60 : t < 60) : (prevM ws xs h b L t).length ≤ xs.length * 61 := by
  have hq : ∀ u, (qT ws xs h b L u).length ≤ xs.length := fun u => by
    unfold qT
    exact Nat.le_trans (uq_len ws _ _ rfl) (Nat.le_trans (List.length_filter_le _ _) (List.length_filter_le _ _))
  have := downP_len hq (t.toNat + 1) [] [t]
  unfold prevM
  have h2 : xs.length * (t.toNat + 1) ≤ xs.length * 61 := Nat.mul_le_mul_left _ (by omega)
  have e : ([] : List Lt).length = 0 := rfl
  omega

def spShown (K : PySem.W.Frag) (C : Addr) : Sp := fun vs H Q _ => ∃ (c l : Addr) (ws : List Int) (ps : List Addr) (xs : List Lt) (h : Int) (b : Option Str), vs = [.ref c, .int h, oS b, .ref l] ∧ CommAt C H c ws ∧ GoodW ws ∧ H l = some (.lst (ps.map V.ref)) ∧ LsAt H ps xs ∧ xs.length ≤ 900 ∧ TB xs ∧
  ∀ (v : V) H', Same H H' → (cmL ws xs h b = [] → v = .non) → (cmL ws xs h b ≠ [] → ∃ m ∈ cmL ws xs h b, (∀ y ∈ cmL ws xs h b, m ≤ y) ∧ v = .int m) → Q v H'
def shM (ws : List Int) (xs : List Lt) (h : Int) (b : Option Str) : Bool := !(cmL ws xs h b).isEmpty
def spShows (K : PySem.W.Frag) (C : Addr) : Sp := fun vs H Q _ => ∃ (c l : Addr) (ws : List Int) (ps : List Addr) (xs : List Lt) (h : Int) (b : Option Str), vs = [.ref c, .int h, oS b, .ref l] ∧ CommAt C H c ws ∧ GoodW ws ∧ H l = some (.lst (ps.map V.ref)) ∧ LsAt H ps xs ∧ xs.length ≤ 900 ∧ TB xs ∧
  ∀ H', Same H H' → Q (.bl (shM ws xs h b)) H'
def spPaperX (P : Program) (w : World) (K : PySem.W.Frag) (CB CC CE : Addr) : Sp := fun vs H Q E => ∃ (bk : Addr) (B : Bk) (b : Str), vs = [.ref bk, .str b] ∧ BookAt P w CB CC H bk B ∧ B.xs.length ≤ 100 ∧ B.cs.length ≤ 5000 ∧ B.ms.length ≤ 5000 ∧ OkC B.ws B.xs B.h (some b) (forB B.cs (some b)) ∧ (∀ t ∈ forB B.ms (some b), t ∈ forB B.cs (some b) ∧ ∃ x ∈ B.xs, inT .com B.h (some b) t x = true) ∧
  (forB B.ms (some b) = [] → ∀ H', Same H H' → E (.ref CE) none H') ∧
  ∀ (t : Int), t ∈ forB B.ms (some b) → (∀ u ∈ forB B.ms (some b), t ≤ u) → ∀ (D : Addr) (rs : List Addr) H', Same H H' → H D = none → H' D = some (.lst (rs.map V.ref)) → LsAt H' rs (paperM B.ws B.xs B.h (some b) (forB B.cs (some b)) t) → Q (.ref D) H'

theorem wt_mono (ws : List Int) (f g : Int → Bool) (pos : ∀ k : Nat, 0 ≤ ws.getD k 0) : ∀ n, (∀ k : Nat, k < n → f k = true → g k = true) → wt ws f n ≤ wt ws g n
  | 0, _ => Int.le_refl _
  | n + 1, h => by
    have ih := wt_mono ws f g pos n fun k hk => h k (Nat.lt_succ_of_lt hk)
    have p := pos n
    have hn := h n (Nat.lt_succ_self n)
    rw [wt_succ, wt_succ]
    cases ef : f (n : Int)
    · cases eg : g (n : Int)
      · simp only [Bool.false_eq_true, if_false]
        omega
      · simp only [Bool.false_eq_true, if_false, if_true]
        omega
    · rw [hn ef]
      simp only [if_true]
      omega

section
local macro_rules | `(tactic| walk_at "r1") => `(tactic| first
  | refine ⟨_, rfl, ?_⟩
  | refine ⟨_, _, rfl, rfl, (by show (0 : Int) < _; first | decide | omega), ?_⟩
  | refine ⟨_, _, rfl, rfl, (show CDiv _ _ from ⟨by decide, by decide⟩), ?_⟩
  | refine ⟨_, _, rfl, rfl, (show CMul _ _ from .inl ⟨by decide, by decide⟩), ?_⟩
  | refine ⟨_, _, rfl, rfl, (show CMul _ _ from .inr ⟨by decide, by decide⟩), ?_⟩
  | refine ⟨_, _, rfl, rfl, (show CPow _ _ from ⟨by decide, by decide, by decide⟩), ?_⟩
  | refine ⟨_, _, rfl, rfl, ?_⟩
  | refine ⟨_, _, _, _, rfl, rfl, SqT.of (by assumption), by first | exact at0 _ | exact at1 _ | exact at2 _ | exact at3 _ | exact at4 _ (by assumption), ?_⟩
  | refine ⟨scal_oS _ _, ?_⟩
  | refine .inl ⟨_, rfl, ?_⟩
  | refine ⟨rfl, ?_⟩)
local macro_rules | `(tactic| walk_at "rs") => `(tactic| repeat walk_at "r1")

variable {P : Program} {w : World} {K : PySem.W.Frag} {mg : Str → Option Value} {base : Heap} {a : Ads}
theorem getD_mem {zs : List Int} {i : Nat} (h : i < zs.length) : zs.getD i 0 ∈ zs := by
  rw [List.getD_eq_getElem?_getD, List.getElem?_eq_getElem h]
  exact List.getElem_mem h
theorem at_ints {zs : List Int} {i : Nat} (h : i < zs.length) : (zs.map V.int)[i]? = some (.int (zs.getD i 0)) := by
  rw [List.getElem?_map, List.getD_eq_getElem?_getD, List.getElem?_eq_getElem h]
  rfl

theorem ok_first_wrong (T : Txt K mg a) : ∃ fd, FnOk P w K mg base CX0 1 a.d_first_wrong fd ["weights"] (spFirst K) ∧ Binds K fd ["weights"] [] := by
  obtain ⟨fd, F, b⟩ := T.d_first_wrong.F
  refine ⟨fd, F.ok sc_first_wrong (fun vs H Q E h => ?_) (fun cdv A outer s H vs Q E hr h => ?_), b⟩
  · obtain ⟨_, _, rfl, _⟩ := h
    rfl
  · obtain ⟨p, ws, rfl, hp, gw, k⟩ := h
    refine ⟨_, (pss_cons (ps_for PassesOwn.never rfl (pi_enum (by rfl) T.n_enumerate (pa_cons (pv 0) pa_nil)) (pg_tup rfl (pgs_cons (pg_name (i := 1) sc_first_wrong.nd rfl (Or.inl rfl)) (pgs_cons (pg_name (i := 2) sc_first_wrong.nd rfl (Or.inl rfl)) pgs_nil)))
      (pss_one (ps_if (PW.pt (pw_or (pt_cmpR op_ge (pv 1) (pe_glob (v := (.int 16)) rfl T.c_MOST_MEMBERS.choose_spec ⟨_, rfl⟩) (nomark _)) (pw_or (pt_cmpR op_lt (pv 2) pe_int (nomark _)) (pw_or1 (pt_cmpR op_gt (pv 2) (pe_glob (v := (.int 1000000000000)) rfl T.c_MOST_WEIGHT.choose_spec ⟨_, rfl⟩) (nomark _))))))
        (pss_one (ps_ret (pv 1)))
        pss_nil)))
      (pss_cons (ps_if (pt_cmpR op_eq (pe_callB call_len_seq (by rfl) T.n_len PySem.boot_len (pa_cons (pv 0) pa_nil)) pe_int (nomark _))
      (pss_one (ps_ret pe_int))
      pss_nil)
      (pss_one (ps_ret pe_non)))), ?_⟩
    walk_at "rs"
    refine ⟨p, _, rfl, hp, ?_⟩
    refine for_enumL (K := K) (a := p) (ys := ws.map V.int) (fun i σ H2 => ∃ v1 v2 : Option V, σ = [some (.ref p), v1, v2] ∧ Same H H2) ⟨_, _, rfl, Same.refl H⟩ (fun i σ H2 _ ⟨_, _, _, s2⟩ => s2.seq hp) ?_ ?_
    · rintro i y σ H2 q hy ⟨v1, v2, rfl, s2⟩ hq
      have hi : i < ws.length := by
        have e := (List.getElem?_eq_some_iff.mp hy).1
        rwa [List.length_map] at e
      rw [at_ints hi] at hy
      cases hy
      have g1 := gw.2.2 _ (getD_mem hi)
      have g2 := gw.2.1
      walk_at "rs"
      refine ⟨q, _, rfl, SqT.of upd_same, rfl, ?_⟩
      refine ⟨_, _, rfl, _, _, rfl, rfl, ?_⟩
      walk_at "rs"
      refine ite2 (fun c1 => ?_) (fun c1 => ?_)
      · exfalso
        have := of_decide_eq_true c1
        omega
      walk_at "rs"
      refine ite2 (fun c2 => ?_) (fun c2 => ?_)
      · exfalso
        have := of_decide_eq_true c2
        omega
      walk_at "rs"
      refine ite2 (fun c3 => ?_) (fun c3 => ?_)
      · exfalso
        have := of_decide_eq_true c3
        omega
      exact ⟨_, _, rfl, same_upd s2 (s2.free hq)⟩
    · rintro σ H2 ⟨v1, v2, rfl, s2⟩
      walk_at "rs"
      refine ⟨p, _, rfl, .inl (s2.seq hp), ?_⟩
      walk_at "rs"
      refine ite2 (fun c1 => ?_) (fun c1 => ?_)
      · exfalso
        have g0 := gw.1
        simp at c1
        simp [c1] at g0
      exact k H2 s2
theorem ok_Committee_init (T : Txt K mg a) : ∃ fd, FnOk P w K mg base CX0 2 a.d_Committee_init fd ["self", "weights"] (spInit K a.C_Committee) ∧ Binds K fd ["self", "weights"] [] := by
  obtain ⟨fd, F, b⟩ := T.d_Committee_init.F
  obtain ⟨fd_first_wrong, G_first_wrong, b_first_wrong⟩ := ok_first_wrong (P := P) (w := w) (base := base) T
  refine ⟨fd, F.ok sc_Committee_init (fun vs H Q E h => ?_) (fun cdv A outer s H vs Q E hr h => ?_), b⟩
  · obtain ⟨_, _, _, _, rfl, _⟩ := h
    rfl
  · obtain ⟨p, dx, l, ws, rfl, hp, hl, gw, k⟩ := h
    refine ⟨_, (pss_cons (ps_set (i := 2) sc_Committee_init.nd rfl (Or.inl rfl) (pe_call G_first_wrong (hr.mono (by decide)) rfl T.d_first_wrong.g T.d_first_wrong.kp b_first_wrong .nil pass0 (pa_cons (pv 1) pa_nil)))
      (pss_cons (ps_if (pt_cmpR op_notN (pv 2) pe_non (nomark _))
      (pss_one ps_never)
      pss_nil)
      (pss_cons (ps_fld (pv 0) (pe_callTy call_tuple_of (by rfl) T.n_tuple (by decide +kernel) (pa_cons (pv 1) pa_nil)) rfl)
      (pss_cons (ps_fld (pv 0) (pe_callB call_len_seq (by rfl) T.n_len PySem.boot_len (pa_cons (pe_fld (pv 0) rfl) pa_nil)) rfl)
      (pss_one (ps_fld (pv 0) (pe_callB (cr_sumT rfl) (by rfl) T.n_sum (by decide +kernel) (pa_cons (pe_fld (pv 0) rfl) pa_nil)) rfl)))))), ?_⟩
    walk_at "rs"
    refine ⟨l, ws, rfl, hl, gw, fun H1 s1 => ?_⟩
    walk_at "rs"
    have hp1 := s1 _ _ hp
    refine ⟨l, _, rfl, .inl ⟨s1.seq hl, fun t ht => ?_⟩⟩
    have npt : p ≠ t := ne_of_none hp1 ht
    have hp2 : (upd H1 t (.tup (ws.map V.int))) p = some (.ins a.C_Committee dx []) := by rw [upd_ne npt]; exact hp1
    walk_at "rs"
    refine ⟨p, _, dx, [], rfl, hp2, T.cl_Committee, T.a_Committee_weights, (by show 0 < 1000; decide), ?_⟩
    have ht3 : ∀ o : HO, (upd (upd H1 t (.tup (ws.map V.int))) p o) t = some (.tup (ws.map V.int)) := fun o => by rw [upd_ne npt.symm, upd_same]
    walk_at "rs"
    refine ⟨p, _, dx, _, .ref t, rfl, upd_same, T.cl_Committee, T.a_Committee_weights, by rw [lookup_putF, if_pos rfl], ?_⟩
    walk_at "rs"
    refine ⟨t, _, rfl, .inr (SqT.of (ht3 _)), ?_⟩
    walk_at "rs"
    refine ⟨p, _, dx, _, rfl, upd_same, T.cl_Committee, T.a_Committee_size, (by show 1 < 1000; decide), ?_⟩
    rw [upd_upd]
    walk_at "rs"
    refine ⟨p, _, dx, _, .ref t, rfl, upd_same, T.cl_Committee, T.a_Committee_weights, by rw [lookup_putF, if_neg ne_ws, lookup_putF, if_pos rfl], ?_⟩
    walk_at "rs"
    refine ⟨t, ws, rfl, SqT.of (ht3 _), ?_⟩
    walk_at "rs"
    refine ⟨p, _, dx, _, rfl, upd_same, T.cl_Committee, T.a_Committee_total, (Nat.lt_of_le_of_lt (length_putF _ _ _) (Nat.lt_of_le_of_lt (Nat.add_le_add_right (length_putF _ _ _) 1) (by show 2 < 1000; decide))), ?_⟩
    rw [upd_upd, List.length_map]
    exact k _ ⟨dx, t, upd_same, ht3 _⟩ fun b o e hb => by
      rw [upd_ne hb, upd_ne (ne_of_none (s1 _ _ e) ht)]
      exact s1 _ _ e

theorem ok_Committee_weight_of (T : Txt K mg a) : ∃ fd, FnOk P w K mg base CX0 1 a.d_Committee_weight_of fd ["self", "members"] (spWof K a.C_Committee) ∧ Binds K fd ["self", "members"] [] := by
  obtain ⟨fd, F, b⟩ := T.d_Committee_weight_of.F
  refine ⟨fd, F.ok sc_Committee_weight_of (fun vs H Q E h => ?_) (fun cdv A outer s H vs Q E hr h => ?_), b⟩
  · obtain ⟨_, _, _, _, rfl, _⟩ := h
    rfl
  · obtain ⟨p, l, ws, ms, rfl, ⟨dx, t, hp, ht⟩, hlen, hl, hms, k⟩ := h
    refine ⟨_, (pss_cons (ps_set (i := 2) sc_Committee_weight_of.nd rfl (Or.inr rfl) (pe_callTy (cr_set rfl) (by rfl) T.n_set (by decide +kernel) (pa_cons (pv 1) pa_nil)))
      (pss_one (ps_ret (pe_callB (cr_sum rfl) (by rfl) T.n_sum (by decide +kernel) (pa_cons (pe_lc (own := [("member", 3), ("weight", 4)]) (g := (gTup K 2 (gCons (gName 3) (gCons (gName 4) gNil)))) rfl sc_Committee_weight_of.nd (pi_enumT (by rfl) T.n_enumerate (pa_cons (pe_fld (pv 0) rfl) pa_nil)) (blkOk_by (own := [("member", 3), ("weight", 4)]) (N := sc_Committee_weight_of_N) (sc := defScope s_Committee_weight_of) (by decide +kernel)) (fun _ _ _ _ _ => (pg_tup rfl (pgs_cons (pg_name (i := 3) sc_Committee_weight_of.nd rfl (Or.inl rfl)) (pgs_cons (pg_name (i := 4) sc_Committee_weight_of.nd rfl (Or.inl rfl)) pgs_nil)))) (fun _ _ _ _ _ => (pts_one (pt_cmpR op_in_set (pv 3) (pv 2) (by rfl)))) (fun _ _ _ _ _ => (pv 4))) pa_nil))))), ?_⟩
    walk_at "rs"
    refine ⟨l, ms, rfl, hl, hms, fun S n hS => ?_⟩
    have nS : ∀ q o, H q = some o → (upd H S (.set (fun k => decide (k ∈ ms)) n)) q = some o := same_new hS
    walk_at "rs"
    refine ⟨p, _, dx, _, .ref t, rfl, nS _ _ hp, T.cl_Committee, T.a_Committee_weights, cfs_w _ _, ?_⟩
    walk_at "rs"
    refine ⟨t, _, rfl, SqT.of (nS _ _ ht), fun D hD => ?_⟩
    generalize eH : upd H S (.set (fun k => decide (k ∈ ms)) n) = H1 at nS hD
    have hS1 : H1 S = some (.set (fun k => decide (k ∈ ms)) n) := by rw [← eH, upd_same]
    refine lc_enumT (K := K) (a := t) (ys := ws.map V.int) (fun i H2 => Same H1 H2 ∧ H2 D = some (.lst ((pick ws (fun k => decide (k ∈ ms)) i).map V.int))) ⟨same_new hD, upd_same⟩ (fun i H2 _ ⟨s2, _⟩ => SqT.of (s2 _ _ (nS _ _ ht))) ?_ ?_
    · rintro i y H2 q hy ⟨s2, hd⟩ hq
      have hi : i < ws.length := by
        have e := (List.getElem?_eq_some_iff.mp hy).1
        rwa [List.length_map] at e
      rw [at_ints hi] at hy
      cases hy
      have fit : ((pick ws (fun k => decide (k ∈ ms)) i).map V.int).length < sizeLine := by
        have := pick_len ws (fun k => decide (k ∈ ms)) i
        rw [List.length_map]
        exact small1000 (by omega)
      have s3 : Same H2 (upd H2 q (.tup [V.int (i : Nat), V.int (ws.getD i 0)])) := same_new hq
      refine ⟨q, _, rfl, SqT.of upd_same, rfl, ?_⟩
      refine ⟨_, _, rfl, _, _, rfl, rfl, rfl, ?_⟩
      walk_at "rs"
      refine ⟨_, S, _, n, rfl, rfl, s3 _ _ (s2 _ _ hS1), ?_⟩
      rw [if_neg Bool.false_ne_true]
      walk_at "rs"
      refine ite2 (fun c1 => ?_) (fun c1 => ?_)
      · walk_at "rs"
        refine ⟨_, s3 _ _ hd, fit, same_upd (fun b o z => s3 _ _ (s2 _ _ z)) hD, ?_⟩
        rw [upd_same, pick, if_pos c1]
        simp
      · refine ⟨fun b o z => s3 _ _ (s2 _ _ z), ?_⟩
        rw [s3 _ _ hd, pick, if_neg c1]
    · rintro H2 ⟨s2, hd⟩
      rw [List.length_map] at hd
      walk_at "rs"
      exact ⟨D, _, rfl, SqL.of hd, k H2 fun b o z => s2 _ _ (nS _ _ z)⟩
theorem ok_Committee_is_quorum (T : Txt K mg a) : ∃ fd, FnOk P w K mg base CX0 2 a.d_Committee_is_quorum fd ["self", "members"] (spQuorum K a.C_Committee) ∧ Binds K fd ["self", "members"] [] := by
  obtain ⟨fd, F, b⟩ := T.d_Committee_is_quorum.F
  obtain ⟨fd_Committee_weight_of, G_Committee_weight_of, b_Committee_weight_of⟩ := ok_Committee_weight_of (P := P) (w := w) (base := base) T
  refine ⟨fd, F.ok sc_Committee_is_quorum (fun vs H Q E h => ?_) (fun cdv A outer s H vs Q E hr h => ?_), b⟩
  · obtain ⟨_, _, _, _, rfl, _⟩ := h
    rfl
  · obtain ⟨p, l, ws, ms, rfl, hc, hlen, hl, hms, k⟩ := h
    obtain ⟨dx, t, hp, ht⟩ := id hc
    refine ⟨_, (pss_one (ps_ret (pe_cmpR op_gt (pe_op op_mul pe_int (pe_meth (pv 0) T.cl_Committee T.me_Committee_weight_of G_Committee_weight_of (hr.mono (by decide)) b_Committee_weight_of .nil pass0 (pa_cons (pv 1) pa_nil))) (pe_op op_mul pe_int (pe_fld (pv 0) rfl)) (nomark _)))), ?_⟩
    walk_at "rs"
    refine ⟨p, dx, _, rfl, hp, cfs_no _ _ (by decide +kernel) (by decide +kernel) (by decide +kernel), ?_⟩
    walk_at "rs"
    refine ⟨p, l, ws, ms, rfl, hc, hlen, hl, hms, fun H1 s1 => ?_⟩
    walk_at "rs"
    refine ⟨p, _, dx, _, _, rfl, s1 _ _ hp, T.cl_Committee, T.a_Committee_total, cfs_t _ _, ?_⟩
    walk_at "rs"
    exact k H1 s1

theorem vb_nil {H : Hp} {D : Addr} {xs : List Lt} {kd : Kd} {h : Int} {b : Option Str} (hD : H D = some (.dK [])) (z : ∀ x ∈ xs, selV kd h b x = false) : VbAt H D xs kd h b [] :=
  ⟨hD, List.nodup_nil, List.nodup_nil, fun e he => (nomatch he), fun t => ⟨fun q => (nomatch q), fun ⟨x, hx, q⟩ => by rw [inT_no (z x hx)] at q; cases q⟩, Nat.zero_le _⟩
theorem ok_votes_by_turn (T : Txt K mg a) : ∃ fd, FnOk P w K mg base CX0 1 a.d_votes_by_turn fd ["letters", "kind", "height", "block"] (spVbt K) ∧ Binds K fd ["letters", "kind", "height", "block"] [] := by
  obtain ⟨fd, F, b⟩ := T.d_votes_by_turn.F
  refine ⟨fd, F.ok sc_votes_by_turn (fun vs H Q E h => ?_) (fun cdv A outer s H vs Q E hr h => ?_), b⟩
  · obtain ⟨_, _, _, _, _, _, rfl, _⟩ := h
    rfl
  · obtain ⟨l, ps, xs, kd, h, b, rfl, hl, hx, few, k⟩ := h
    refine ⟨_, (pss_cons (ps_set (i := 4) sc_votes_by_turn.nd rfl (Or.inl rfl) pe_dnewK)
      (pss_cons (ps_if (pt_cmpR op_isN (pv 3) pe_non (nomark _))
      (pss_one (ps_ret (pv 4)))
      pss_nil)
      (pss_cons (ps_for PassesOwn.never rfl (pi_list (pv 0)) (pg_name (i := 5) sc_votes_by_turn.nd rfl (Or.inl rfl))
      (pss_cons (ps_set (i := 6) sc_votes_by_turn.nd rfl (Or.inl rfl) (pe_ix ix_tup (pv 5) pe_int (fun _ _ => rfl)))
        (pss_one (ps_if (PW.pt (pw_and (pt_cmpR op_eq (pe_ix ix_tup (pv 6) (pe_glob (v := (.int 0)) rfl T.c_KIND.choose_spec ⟨_, rfl⟩) (fun _ _ => rfl)) (pv 1) (nomark _)) (pw_and (pt_cmpR op_eq (pe_ix ix_tup (pv 6) (pe_glob (v := (.int 1)) rfl T.c_HEIGHT.choose_spec ⟨_, rfl⟩) (fun _ _ => rfl)) (pv 2) (nomark _)) (pw_and1 (pt_cmpR op_eq (pe_ix ix_tup (pv 6) (pe_glob (v := (.int 3)) rfl T.c_BLOCK.choose_spec ⟨_, rfl⟩) (fun _ _ => rfl)) (pv 3) (nomark _))))))
        (pss_one (ps_expr (pe_bm PySem.F.plainAttrs_list PySem.F.slot_list_append PySem.F.type_list_append mt_append (pe_dsetd (pv 4) (pe_ix ix_tup (pv 6) (pe_glob (v := (.int 2)) rfl T.c_TURN.choose_spec ⟨_, rfl⟩) (fun _ _ => rfl)) (pe_lst pa_nil) ⟨rfl, rfl, rfl, rfl⟩) (pa_cons (pv 5) pa_nil))))
        pss_nil))))
      (pss_one (ps_ret (pv 4)))))), ?_⟩
    walk_at "rs"
    intro D hD
    have s0 : Same H (upd H D (.dK [])) := same_new hD
    walk_at "rs"
    refine ite2 (fun c1 => ?_) (fun c1 => ?_) <;> simp only [koSn, decide_eq_true_iff] at c1
    · walk_at "rs"
      refine k D [] _ s0 (vb_nil upd_same fun x _ => ?_)
      unfold selV
      rw [c1]
      simp
    walk_at "rs"
    refine ⟨⟨_, SqL.of (s0 _ _ hl)⟩, for_list (K := K) (a := l) (xs := ps.map V.ref) (fun i σ H2 => ∃ v5 v6 : Option V, σ = [some (.ref l), some (.str kd.s), some (.int h), some (oS b), some (.ref D), v5, v6] ∧ Same H H2 ∧ ∃ ks, VbAt H2 D (xs.take i) kd h b ks ∧ ∀ e ∈ ks, H e.2 = none)
      ⟨_, _, rfl, s0, [], vb_nil upd_same fun x hx => (nomatch hx), fun e he => (nomatch he)⟩ (fun i σ H2 _ ⟨_, _, _, s2, _⟩ => SqL.of (s2 _ _ hl)) ?_ ?_⟩
    · rintro i y σ H2 hy ⟨v5, v6, rfl, s2, ks, hv, hfr⟩
      have hi : i < ps.length := by
        have e := (List.getElem?_eq_some_iff.mp hy).1
        rwa [List.length_map] at e
      have hi' : i < xs.length := by
        rw [← hx.1]
        exact hi
      rw [at_refs hi] at hy
      cases hy
      have hlt := (hx.2 i hi').same s2
      obtain ⟨q, hp, hq⟩ := id hlt
      have et := take_succ_getD (d := default) hi'
      generalize xs.getD i default = x at hlt hq hp et
      walk_at "rs"
      refine ⟨_, _, _, _, rfl, rfl, SqT.of hp, rfl, ?_⟩
      walk_at "rs"
      refine ite2 (fun c2 => ?_) (fun c2 => ?_) <;> simp only [dec_kd, decide_eq_true_iff] at c2
      · walk_at "rs"
        refine ite2 (fun c3 => ?_) (fun c3 => ?_) <;> simp only [dec_int, beq_iff_eq] at c3
        · walk_at "rs"
          refine ite2 (fun c4 => ?_) (fun c4 => ?_) <;> simp only [dec_oS, decide_eq_true_iff] at c4
          · have cs : selV kd h b x = true := decide_eq_true ⟨c1, c2, c3, c4⟩
            walk_at "rs"
            refine ⟨.inl ⟨_, .inl hv.here⟩, ?_⟩
            walk_at "rs"
            refine ⟨(by show 0 ≤ sizeLine; decide), fun z hz => ?_⟩
            have sz : Same H2 (upd H2 z (.lst [])) := same_new hz
            have hv3 := hv.same sz
            have few3 := hv.few
            rw [List.length_take] at few3
            have hHz : H z = none := s2.free hz
            refine ⟨_, Sum.inl x.m.t, hv3.here, rfl, by unfold vbK; rw [List.length_map]; exact small1000 (by omega), fun v hval => ?_, fun hval => ?_⟩
            · have hin : x.m.t ∈ ks.map (·.1) := by
                refine Decidable.byContradiction fun no => ?_
                rw [val_vbn no] at hval
                cases hval
              obtain ⟨l2, hm, e2⟩ := val_vb hin
              rw [e2] at hval
              cases hval
              obtain ⟨qs, hl2, hls⟩ := hv3.ls _ hm
              have lq : qs.length ≤ 900 := by
                have := List.length_filter_le (inT kd h b x.m.t) (xs.take i)
                rw [List.length_take] at this
                have e3 : qs.length = ((xs.take i).filter (inT kd h b x.m.t)).length := hls.1
                omega
              walk_at "rs"
              refine ⟨.inl ⟨rfl, _, SqL.of hl2⟩, ?_⟩
              walk_at "rs"
              refine ⟨l2, _, _, rfl, rfl, hl2, by rw [List.length_map]; exact small1000 (by omega), ?_⟩
              refine ⟨_, _, rfl, same_upd (s2.trans sz) (hfr _ hm), ks, ?_, hfr⟩
              rw [et]
              exact hv3.more cs hm hl2 (hlt.same sz)
            · have hno : x.m.t ∉ ks.map (·.1) := fun hin => by
                obtain ⟨l2, hm, e2⟩ := val_vb hin
                rw [e2] at hval
                cases hval
              have nl : z ∉ ks.map (·.2) := fun hin => by
                obtain ⟨e, he, ez⟩ := List.mem_map.mp hin
                obtain ⟨qs, hl2, _⟩ := hv.ls e he
                rw [ez, hz] at hl2
                cases hl2
              have ekvs : putK (vbK ks) (Sum.inl x.m.t) (V.ref z) = vbK (ks ++ [(x.m.t, z)]) := by
                rw [putK_new hval]
                unfold vbK
                simp
              rw [ekvs]
              have hz3 : (upd H2 z (.lst [])) z = some (.lst []) := upd_same
              have nDz := ne_dk hv3.here hz3
              walk_at "rs"
              refine ⟨.inl ⟨rfl, _, SqL.of (by rw [upd_ne nDz.symm]; exact hz3)⟩, ?_⟩
              walk_at "rs"
              refine ⟨z, _, _, rfl, rfl, (by rw [upd_ne nDz.symm]; exact hz3), by show 0 < sizeLine; decide, ?_⟩
              refine ⟨_, _, rfl, same_upd (same_upd (s2.trans sz) hD) hHz, ks ++ [(x.m.t, z)], ?_, fun e he => ?_⟩
              · rw [et]
                exact hv3.first cs hno hz3 nl (hlt.same sz)
              · rcases List.mem_append.mp he with he | he
                · exact hfr e he
                · rw [List.mem_singleton.mp he]
                  exact hHz
          · exact ⟨_, _, rfl, s2, ks, by rw [et]; exact hv.skip (decide_eq_false fun z => c4 z.2.2.2), hfr⟩
        · exact ⟨_, _, rfl, s2, ks, by rw [et]; exact hv.skip (decide_eq_false fun z => c3 z.2.2.1), hfr⟩
      · exact ⟨_, _, rfl, s2, ks, by rw [et]; exact hv.skip (decide_eq_false fun z => c2 z.2.1), hfr⟩
    · rintro σ H2 ⟨v5, v6, rfl, s2, ks, hv, hfr⟩
      rw [List.length_map, hx.1, List.take_length] at hv
      walk_at "rs"
      exact k D ks _ s2 hv
theorem ok_counts (T : Txt K mg a) : ∃ fd, FnOk P w K mg base CX0 1 a.d_counts fd ["prevote", "turns"] (spCounts K) ∧ Binds K fd ["prevote", "turns"] [] := by
  obtain ⟨fd, F, b⟩ := T.d_counts.F
  refine ⟨fd, F.ok sc_counts (fun vs H Q E h => ?_) (fun cdv A outer s H vs Q E hr h => ?_), b⟩
  · obtain ⟨_, _, _, _, rfl, _⟩ := h
    rfl
  · obtain ⟨p, D, m, L, rfl, hp, hk, hD, k⟩ := h
    have k0 := k H (Same.refl H)
    unfold cntL at k0
    refine ⟨_, (pss_cons (ps_set (i := 2) sc_counts.nd rfl (Or.inl rfl) (pe_ix ix_tup (pv 0) (pe_glob (v := (.int 4)) rfl T.c_LEAN.choose_spec ⟨_, rfl⟩) (fun _ _ => rfl)))
      (pss_one (ps_ret (pe_or (pe_cmpR op_isN (pv 2) pe_non (nomark _)) (pe_one (pe_and (pe_cmpR op_lt (pv 2) (pe_ix ix_tup (pv 0) (pe_glob (v := (.int 2)) rfl T.c_TURN.choose_spec ⟨_, rfl⟩) (fun _ _ => rfl)) (nomark _)) (pe_one (pe_cmp (pc_din (hu_of hr) (pv 2) (pv 1)) rfl)))))))), ?_⟩
    walk_at "rs"
    refine ite2 (fun c1 => ?_) (fun c1 => ?_) <;> simp only [koIn, decide_eq_true_iff] at c1
    · rw [c1] at k0
      exact k0
    obtain ⟨i, hl⟩ : ∃ i, m.l = some i := by
      cases hl : m.l with
      | none => exact absurd hl c1
      | some i => exact ⟨i, rfl⟩
    rw [hl] at k0 ⊢
    have k0 : Q (.bl (decide (i < m.t) && decide (i ∈ L))) H := k0
    refine ⟨_, rfl, ?_⟩
    walk_at "rs"
    refine ite2 (fun c2 => ?_) (fun c2 => ?_) <;> simp only [decide_eq_true_iff] at c2
    · rw [decide_eq_true c2, Bool.true_and] at k0
      walk_at "rs"
      refine ⟨D, _, rfl, DGet.k (k := Sum.inl i) hD, ?_⟩
      rw [val_tru]
      exact k0
    · rw [decide_eq_false c2, Bool.false_and] at k0
      exact k0
theorem ok_certified_turns (T : Txt K mg a) : ∃ fd, FnOk P w K mg base CX0 3 a.d_certified_turns fd ["committee", "letters", "height", "block"] (spCts K a.C_Committee) ∧ Binds K fd ["committee", "letters", "height", "block"] [] := by
  obtain ⟨fd, F, b⟩ := T.d_certified_turns.F
  obtain ⟨fd_votes_by_turn, G_votes_by_turn, b_votes_by_turn⟩ := ok_votes_by_turn (P := P) (w := w) (base := base) T
  obtain ⟨fd_Committee_is_quorum, G_Committee_is_quorum, b_Committee_is_quorum⟩ := ok_Committee_is_quorum (P := P) (w := w) (base := base) T
  obtain ⟨fd_counts, G_counts, b_counts⟩ := ok_counts (P := P) (w := w) (base := base) T
  refine ⟨fd, F.ok sc_certified_turns (fun vs H Q E h => ?_) (fun cdv A outer s H vs Q E hr h => ?_), b⟩
  · obtain ⟨_, _, _, _, _, _, _, rfl, _⟩ := h
    rfl
  · obtain ⟨c, l, ws, ps, xs, h, b, rfl, hc, gw, hl, hx, few, tb, k⟩ := h
    obtain ⟨dx, t, hcp, hct⟩ := id hc
    refine ⟨_, (pss_cons (ps_set (i := 4) sc_certified_turns.nd rfl (Or.inl rfl) (pe_call G_votes_by_turn (hr.mono (by decide)) rfl T.d_votes_by_turn.g T.d_votes_by_turn.kp b_votes_by_turn .nil pass0 (pa_cons (pv 1) (pa_cons pe_str (pa_cons (pv 2) (pa_cons (pv 3) pa_nil))))))
      (pss_cons (ps_set (i := 5) sc_certified_turns.nd rfl (Or.inr rfl) pe_dnewK)
      (pss_cons (ps_for PassesOwn.never rfl (pi_list (pe_callB (call_sortedDI rfl) (by rfl) T.n_sorted (by decide +kernel) (pa_cons (pv 4) pa_nil))) (pg_name (i := 6) sc_certified_turns.nd rfl (Or.inl rfl))
      (pss_cons (ps_setLc (i := 7) (own := [("letter", 8)]) (g := (gName 8)) rfl sc_certified_turns.nd rfl rfl (sw_true rfl rfl rfl (by decide +kernel)) (pi_list (pe_dget (hu_of hr) (pv 4) (pv 6) (fun _ _ => rfl))) (blkOk_by (own := [("letter", 8)]) (N := sc_certified_turns_N) (sc := defScope s_certified_turns) (by decide +kernel)) (fun _ _ _ _ _ => (pg_name (i := 8) sc_certified_turns.nd rfl (Or.inl rfl))) (fun _ _ _ _ _ => (pts_one (pt_val (pe_call G_counts (hr.mono (by decide)) rfl T.d_counts.g T.d_counts.kp b_counts .nil pass0 (pa_cons (pe_ix (r := rIxT K) ix_tup (pv 8) pe_int (fun _ _ => rfl)) (pa_cons (pv 5) pa_nil)))))) (fun _ _ _ _ _ => (pe_ix (r := rIxT K) ix_tup (pv 8) pe_int (fun _ _ => rfl))))
        (pss_one (ps_if (pt_val (pe_meth (pv 0) T.cl_Committee T.me_Committee_is_quorum G_Committee_is_quorum (hr.mono (by decide)) b_Committee_is_quorum .nil pass0 (pa_cons (pv 7) pa_nil)))
        (pss_one (ps_dput (hu_of hr) (pv 5) (pv 6) pe_bl rfl))
        pss_nil))))
      (pss_one (ps_ret (pe_callTy (call_listD rfl) (by rfl) T.n_list (by decide +kernel) (pa_cons (pv 5) pa_nil))))))), ?_⟩
    walk_at "rs"
    refine ⟨l, ps, xs, .pre, h, b, rfl, hl, hx, few, fun D ks H1 s1 hv => ?_⟩
    walk_at "rs"
    intro F1 hF1
    have s2 : Same H1 (upd H1 F1 (.dK [])) := same_new hF1
    have hF2 : (upd H1 F1 (.dK [])) F1 = some (.dK (tru [])) := upd_same
    have hv2 := hv.same s2
    have hFH : H F1 = none := s1.free hF1
    generalize upd H1 F1 (.dK []) = H2 at s2 hF2 hv2 ⊢
    walk_at "rs"
    have kb : ∀ t ∈ ks.map (·.1), 0 ≤ t ∧ t < 60 := fun t ht => by
      obtain ⟨x, hx, z⟩ := (hv.ky t).mp ht
      rw [inT_t z]
      exact tb x hx
    have k60 := nodup_few 60 hv.nd kb
    rw [List.length_map] at k60
    refine ⟨D, _, ks.map (·.1), rfl, .inl hv2.here, by unfold vbK; simp [Function.comp_def], by rw [List.length_map]; omega, fun ts R hp hpw hR => ?_⟩
    have nd := (hp.nodup_iff).mpr hv.nd
    have ky : ∀ t : Int, t ∈ ts ↔ ∃ x ∈ xs, inT .pre h b t x = true := fun t => by rw [hp.mem_iff]; exact hv.ky t
    have tb2 : ∀ t ∈ ts, 0 ≤ t ∧ t < 60 := fun t ht => kb t (hp.mem_iff.mp ht)
    have s3 : Same H2 (upd H2 R (.lst (ts.map V.int))) := same_new hR
    have hF3 := s3 _ _ hF2
    have hR3 : (upd H2 R (.lst (ts.map V.int))) R = some (.lst (ts.map V.int)) := upd_same
    generalize upd H2 R (.lst (ts.map V.int)) = H3 at s3 hF3 hR3 ⊢
    have nF : H1 F1 = none := hF1
    refine ⟨R, rfl, ⟨_, SqL.of hR3⟩, for_list (K := K) (a := R) (xs := ts.map V.int) (fun i σ H4 => ∃ v6 v7 : Option V, σ = [some (.ref c), some (.ref l), some (.int h), some (oS b), some (.ref D), some (.ref F1), v6, v7, none] ∧ Same H1 H4 ∧ H4 R = some (.lst (ts.map V.int)) ∧ H4 F1 = some (.dK (tru (lns ws xs h b (nxt ts i)))))
      ⟨_, _, rfl, s2.trans s3, hR3, hF3⟩ (fun i σ H4 _ ⟨_, _, _, _, hr4, _⟩ => SqL.of hr4) ?_ ?_⟩
    · rintro i y σ H4 hy ⟨v6, v7, rfl, s4, hr4, hf4⟩
      have hi : i < ts.length := by
        have e := (List.getElem?_eq_some_iff.mp hy).1
        rwa [List.length_map] at e
      rw [at_ints hi] at hy
      cases hy
      have ht := getD_mem hi
      have hb := tb2 _ ht
      obtain ⟨x0, hx0, i0⟩ := (ky _).mp ht
      have nb := (inT_some i0).1
      obtain ⟨n, en⟩ := Int.eq_ofNat_of_zero_le hb.1
      have lo : ∀ k, k < i → 0 ≤ ts.getD k 0 := fun k hk => (tb2 _ (getD_mem (by omega))).1
      have eL : lns ws xs h b n = lns ws xs h b (nxt ts i) := by
        refine gap_gen gw nb ky hpw nd (Nat.le_of_lt hi) ?_ fun j h1 h2 => ?_
        · cases i with
          | zero => exact Nat.zero_le _
          | succ k =>
            have h3 := srt_lt hpw nd (show k < k + 1 by omega) hi
            have h4 := lo k (show k < k + 1 by omega)
            have h5 : nxt ts (k + 1) = (ts.getD k 0 + 1).toNat := rfl
            omega
        · rcases Nat.lt_or_ge i j with z | z
          · have := srt_lt hpw nd z h2
            omega
          · have : j = i := by omega
            rw [this]
            omega
      have eN : nxt ts (i + 1) = n + 1 := by
        have h5 : nxt ts (i + 1) = (ts.getD i 0 + 1).toNat := rfl
        omega
      rw [← eL] at hf4
      rw [eN]
      rw [en] at i0 ⊢
      clear eL eN hb en
      have hin : (n : Int) ∈ ks.map (·.1) := (hv.ky _).mpr ⟨x0, hx0, i0⟩
      obtain ⟨lt, hm, e2⟩ := val_vb hin
      have hv4 := hv.same s4
      obtain ⟨qs, hl4, hls⟩ := hv4.ls _ hm
      have hls : LsAt H4 qs (xs.filter (inT .pre h b (n : Int))) := hls
      have lq : qs.length ≤ 900 := by
        have h1 := List.length_filter_le (inT .pre h b (n : Int)) xs
        have h2 := hls.1
        omega
      have eM : memM xs h n b (lns ws xs h b n) = ((xs.filter (inT .pre h b n)).filter fun x => cntL x.m (lns ws xs h b n)).map Lt.w := mem_inT nb
      have eC : certM ws xs h b n = qrm ws (memM xs h n b (lns ws xs h b n)) := rfl
      have lL := lns_len ws xs h b n
      have n60 : n < 60 := by
        have := tb2 _ ht
        have e := tb x0 hx0
        have e3 := inT_t i0
        omega
      have nL : (n : Int) ∉ lns ws xs h b n := fun z => by
        have := ((mem_lnsI (n : Int) n).mp z).2.1
        omega
      have yes := fun q => lns_yes (ws := ws) (xs := xs) (h := h) (b := b) (n := n) q
      have no := fun q => lns_no (ws := ws) (xs := xs) (h := h) (b := b) (n := n) q
      rw [eC, eM] at yes no
      clear eC eM
      generalize lns ws xs h b n = L at hf4 lL nL yes no
      have ysk : ∀ j, j < (xs.filter (inT .pre h b (n : Int))).length → ((xs.filter (inT .pre h b (n : Int))).getD j default).m.k = .pre := fun j hj => (inT_some (filt_mem hj).2).2
      generalize xs.filter (inT .pre h b (n : Int)) = ys at hls yes no ysk
      walk_at "rs"
      refine ⟨D, .ref lt, rfl, by rw [← e2]; exact DGet.k (k := Sum.inl (n : Int)) hv4.here, ?_⟩
      walk_at "rs"
      refine ⟨⟨_, SqL.of hl4⟩, fun D3 hD3 => ?_⟩
      refine lc_list (K := K) (a := lt) (xs := qs.map V.ref) (fun j H5 => Same H4 H5 ∧ H5 D3 = some (.lst ((((ys.take j).filter fun x => cntL x.m L).map Lt.w).map V.int))) ⟨same_new hD3, by rw [upd_same]; simp⟩ (fun j H5 _ ⟨s5, _⟩ => SqL.of (s5 _ _ hl4)) ?_ ?_
      · rintro j y H5 hy ⟨s5, hd5⟩
        have hj : j < qs.length := by
          have e := (List.getElem?_eq_some_iff.mp hy).1
          rwa [List.length_map] at e
        have hj' : j < ys.length := by
          rw [← hls.1]
          exact hj
        rw [at_refs hj] at hy
        cases hy
        have hlt := (hls.2 j hj').same s5
        obtain ⟨q, hp5, hq5⟩ := id hlt
        have hk5 := ysk j hj'
        have et := take_succ_getD (d := default) hj'
        generalize ys.getD j default = x at hlt hp5 hq5 hk5 et
        refine ⟨rfl, ?_⟩
        walk_at "rs"
        refine ⟨_, _, _, _, rfl, rfl, SqT.of hp5, rfl, ?_⟩
        walk_at "rs"
        refine ⟨q, F1, x.m, L, rfl, hq5, hk5, s5 _ _ hf4, fun H6 s6 => ?_⟩
        walk_at "rs"
        refine ite2 (fun c1 => ?_) (fun c1 => ?_)
        · walk_at "rs"
          refine ⟨_, _, _, _, rfl, rfl, SqT.of (s6 _ _ hp5), rfl, ?_⟩
          have l5 := List.length_filter_le (fun x => cntL x.m L) (ys.take j)
          rw [List.length_take] at l5
          have l6 := hls.1
          refine ⟨_, s6 _ _ hd5, by rw [List.length_map, List.length_map]; exact small1000 (by omega), same_upd (s5.trans s6) hD3, ?_⟩
          rw [upd_same, et, List.filter_append, List.filter_cons_of_pos (by exact c1)]
          simp
        · refine ⟨s5.trans s6, ?_⟩
          rw [s6 _ _ hd5, et, List.filter_append, List.filter_cons_of_neg (by exact c1)]
          simp
      · rintro H5 ⟨s5, hd5⟩
        rw [List.length_map, hls.1, List.take_length] at hd5
        have l5 := List.length_filter_le (fun x => cntL x.m L) ys
        have l6 := hls.1
        have s15 := s4.trans s5
        have sH5 := s1.trans s15
        walk_at "rs"
        refine ⟨c, dx, _, rfl, sH5 _ _ hcp, cfs_no _ _ (by decide +kernel) (by decide +kernel) (by decide +kernel), ?_⟩
        walk_at "rs"
        refine ⟨c, D3, ws, _, rfl, hc.same sH5, gw.2.1, SqL.of hd5, by rw [List.length_map]; omega, fun H6 s6 => ?_⟩
        walk_at "rs"
        have hf6 := s6 _ _ (s5 _ _ hf4)
        have s16 := s15.trans s6
        have hr6 := s6 _ _ (s5 _ _ hr4)
        refine ite2 (fun c1 => ?_) (fun c1 => ?_)
        · walk_at "rs"
          refine ⟨F1, _, rfl, DPut.k (k := Sum.inl (n : Int)) hf6 (by unfold tru; rw [List.length_map]; exact small1000 (by omega)), ?_⟩
          refine ⟨_, _, rfl, same_upd s16 nF, ?_, ?_⟩
          · rw [upd_ne (fun z => by rw [← z, hr6] at hf6; cases hf6)]
            exact hr6
          · have ev : valV (tru L) (Sum.inl (n : Int)) = none := by
              have := val_tru (t := (n : Int)) (L := L)
              rw [decide_eq_false nL] at this
              cases q : valV (tru L) (Sum.inl (n : Int)) with
              | none => rfl
              | some v => rw [q] at this; cases this
            rw [upd_same, putK_new ev, yes c1, tru_snoc]
        · refine ⟨_, _, rfl, s16, hr6, ?_⟩
          rw [no c1]
          exact hf6
    · rintro σ H4 ⟨v6, v7, rfl, s4, hr4, hf4⟩
      rw [List.length_map] at hf4
      have eE : lns ws xs h b (nxt ts ts.length) = ctL ws xs h b := by
        cases b with
        | none =>
          have : ts = [] := by
            cases ts with
            | nil => rfl
            | cons t ts =>
              obtain ⟨x, _, z⟩ := (ky t).mp List.mem_cons_self
              exact absurd rfl (inT_some z).1
          rw [this]
          rfl
        | some bb =>
          symm
          refine gap_gen (b := some bb) (h := h) gw (by simp) ky hpw nd (Nat.le_refl _) ?_ fun j h1 h2 => absurd h2 (by omega)
          cases q : ts.length with
          | zero => exact Nat.zero_le _
          | succ k =>
            have h5 : nxt ts (k + 1) = (ts.getD k 0 + 1).toNat := rfl
            have h6 := tb2 _ (getD_mem (show k < ts.length by omega))
            omega
      rw [eE] at hf4
      walk_at "rs"
      refine ⟨F1, _, rfl, .inl hf4, fun R2 hR2 => ?_⟩
      have s5 := same_new (o := .lst ((ctL ws xs h b).map V.int)) hR2
      have e : (tru (ctL ws xs h b)).map (fun kv => kV kv.1) = (ctL ws xs h b).map V.int := by
        unfold tru
        rw [List.map_map]
        rfl
      rw [e]
      exact k R2 _ (s1.trans (s4.trans s5)) (s1.free (s4.free hR2)) upd_same
theorem ok_committed_turns (T : Txt K mg a) : ∃ fd, FnOk P w K mg base CX0 4 a.d_committed_turns fd ["committee", "letters", "height", "block"] (spCms K a.C_Committee) ∧ Binds K fd ["committee", "letters", "height", "block"] [] := by
  obtain ⟨fd, F, b⟩ := T.d_committed_turns.F
  obtain ⟨fd_votes_by_turn, G_votes_by_turn, b_votes_by_turn⟩ := ok_votes_by_turn (P := P) (w := w) (base := base) T
  obtain ⟨fd_certified_turns, G_certified_turns, b_certified_turns⟩ := ok_certified_turns (P := P) (w := w) (base := base) T
  obtain ⟨fd_Committee_is_quorum, G_Committee_is_quorum, b_Committee_is_quorum⟩ := ok_Committee_is_quorum (P := P) (w := w) (base := base) T
  refine ⟨fd, F.ok sc_committed_turns (fun vs H Q E h => ?_) (fun cdv A outer s H vs Q E hr h => ?_), b⟩
  · obtain ⟨_, _, _, _, _, _, _, rfl, _⟩ := h
    rfl
  · obtain ⟨c, l, ws, ps, xs, h, b, rfl, hc, gw, hl, hx, few, tb, k⟩ := h
    obtain ⟨dx, t, hcp, hct⟩ := id hc
    refine ⟨_, (pss_cons (ps_set (i := 4) sc_committed_turns.nd rfl (Or.inl rfl) (pe_call G_votes_by_turn (hr.mono (by decide)) rfl T.d_votes_by_turn.g T.d_votes_by_turn.kp b_votes_by_turn .nil pass0 (pa_cons (pv 1) (pa_cons pe_str (pa_cons (pv 2) (pa_cons (pv 3) pa_nil))))))
      (pss_cons (ps_set (i := 5) sc_committed_turns.nd rfl (Or.inl rfl) (pe_lst pa_nil))
      (pss_cons (ps_for PassesOwn.never rfl (pi_list (pe_call G_certified_turns (hr.mono (by decide)) rfl T.d_certified_turns.g T.d_certified_turns.kp b_certified_turns .nil pass0 (pa_cons (pv 0) (pa_cons (pv 1) (pa_cons (pv 2) (pa_cons (pv 3) pa_nil)))))) (pg_name (i := 6) sc_committed_turns.nd rfl (Or.inl rfl))
      (pss_cons (ps_setLc (i := 7) (own := [("letter", 8)]) (g := (gName 8)) (tt := tYes) rfl sc_committed_turns.nd rfl rfl (sw_true rfl rfl rfl (by decide +kernel)) (pi_list (pe_dget2 (hu_of hr) (pv 4) (pv 6) (pe_lst pa_nil) ⟨rfl, rfl, rfl, rfl⟩)) (blkOk_by (own := [("letter", 8)]) (N := sc_committed_turns_N) (sc := defScope s_committed_turns) (by decide +kernel)) (fun _ _ _ _ _ => (pg_name (i := 8) sc_committed_turns.nd rfl (Or.inl rfl))) (fun _ _ _ _ _ => pts_nil) (fun _ _ _ _ _ => (pe_ix (r := rIxT K) ix_tup (pv 8) pe_int (fun _ _ => rfl))))
        (pss_one (ps_if (pt_val (pe_meth (pv 0) T.cl_Committee T.me_Committee_is_quorum G_Committee_is_quorum (hr.mono (by decide)) b_Committee_is_quorum .nil pass0 (pa_cons (pv 7) pa_nil)))
        (pss_one (ps_expr (pe_bm PySem.F.plainAttrs_list PySem.F.slot_list_append PySem.F.type_list_append mt_append (pv 5) (pa_cons (pv 6) pa_nil))))
        pss_nil))))
      (pss_one (ps_ret (pv 5)))))), ?_⟩
    walk_at "rs"
    refine ⟨l, ps, xs, .com, h, b, rfl, hl, hx, few, fun D ks H1 s1 hv => ?_⟩
    walk_at "rs"
    refine ⟨(by show 0 ≤ sizeLine; decide), fun F1 hF1 => ?_⟩
    have s2 : Same H1 (upd H1 F1 (.lst [])) := same_new hF1
    have hF2 : (upd H1 F1 (.lst [])) F1 = some (.lst (([] : List Int).map V.int)) := upd_same
    have nF : H F1 = none := s1.free hF1
    generalize upd H1 F1 (.lst []) = H2 at s2 hF2 ⊢
    walk_at "rs"
    have s02 := s1.trans s2
    refine ⟨c, l, ws, ps, xs, h, b, rfl, hc.same s02, gw, s02 _ _ hl, hx.same s02, few, tb, fun R H3 s3 hR hR3 => ?_⟩
    have s03 := s02.trans s3
    have hv3 := hv.same (s2.trans s3)
    have hF3 := s3 _ _ hF2
    have s13 := s2.trans s3
    have nRF : R ≠ F1 := fun e => by
      rw [e, hF2] at hR
      cases hR
    have lC : (ctL ws xs h b).length ≤ 60 := by
      unfold ctL
      cases b with
      | none => exact Nat.zero_le _
      | some bb => exact lns_len ws xs h (some bb) 60
    have nbC : ∀ t ∈ ctL ws xs h b, b ≠ none := fun t ht z => by
      rw [z] at ht
      cases ht
    unfold cmL at k
    generalize ctL ws xs h b = C at hR3 lC nbC k
    refine ⟨R, rfl, ⟨_, SqL.of hR3⟩, for_list (K := K) (a := R) (xs := C.map V.int) (fun i σ H4 => ∃ v6 v7 : Option V, σ = [some (.ref c), some (.ref l), some (.int h), some (oS b), some (.ref D), some (.ref F1), v6, v7, none] ∧ Same H1 H4 ∧ H4 R = some (.lst (C.map V.int)) ∧ H4 F1 = some (.lst (((C.take i).filter fun t => qrm ws (comS xs h t b)).map V.int)))
      ⟨_, _, rfl, s13, hR3, hF3⟩ (fun i σ H4 _ ⟨_, _, _, _, hr4, _⟩ => SqL.of hr4) ?_ ?_⟩
    · rintro i y σ H4 hy ⟨v6, v7, rfl, s4, hr4, hf4⟩
      have hi : i < C.length := by
        have e := (List.getElem?_eq_some_iff.mp hy).1
        rwa [List.length_map] at e
      rw [at_ints hi] at hy
      cases hy
      have nb := nbC _ (getD_mem hi)
      have et := take_succ_getD (d := (0 : Int)) hi
      generalize C.getD i 0 = t at et ⊢
      have hv4 := hv.same s4
      have s04 := s1.trans s4
      have eS : comS xs h t b = (xs.filter (inT .com h b t)).map Lt.w := com_inT nb
      have lF := List.length_filter_le (inT .com h b t) xs
      walk_at "rs"
      refine ⟨.inl ⟨_, .inl hv4.here⟩, ?_⟩
      walk_at "rs"
      refine ⟨(by show 0 ≤ sizeLine; decide), fun z hz => ?_⟩
      have sz : Same H4 (upd H4 z (.lst [])) := same_new hz
      have hzz : (upd H4 z (.lst [])) z = some (.lst (([] : List Addr).map V.ref)) := upd_same
      have hv5 := hv4.same sz
      have hr5 := sz _ _ hr4
      have hf5 := sz _ _ hf4
      have s05 := s04.trans sz
      have s15 := s4.trans sz
      generalize upd H4 z (.lst []) = H5 at sz hzz hv5 hr5 hf5 s05 s15 ⊢
      obtain ⟨lt, qs, o, hdg, eo, hlt, hls⟩ : ∃ (lt : Addr) (qs : List Addr) (o : Option V), DGet H5 D (.int t) o ∧ o.getD (.ref z) = .ref lt ∧ H5 lt = some (.lst (qs.map V.ref)) ∧ LsAt H5 qs (xs.filter (inT .com h b t)) := by
        by_cases hin : t ∈ ks.map (·.1)
        · obtain ⟨lt, hm, e2⟩ := val_vb hin
          obtain ⟨qs, h1, h2⟩ := hv5.ls _ hm
          exact ⟨lt, qs, _, DGet.k (k := Sum.inl t) hv5.here, by rw [e2]; rfl, h1, h2⟩
        · refine ⟨z, [], _, DGet.k (k := Sum.inl t) hv5.here, by rw [val_vbn hin]; rfl, hzz, ?_⟩
          have e0 : xs.filter (inT .com h b t) = [] := List.filter_eq_nil_iff.mpr fun x hx y => hin ((hv.ky t).mpr ⟨x, hx, y⟩)
          rw [e0]
          exact LsAt.nil
      refine ⟨o, hdg, ?_⟩
      rw [eo]
      walk_at "rs"
      generalize xs.filter (inT .com h b t) = ys at hls lF eS
      refine ⟨⟨_, SqL.of hlt⟩, fun D3 hD3 => ?_⟩
      refine lc_list (K := K) (a := lt) (xs := qs.map V.ref) (fun j H6 => Same H5 H6 ∧ H6 D3 = some (.lst (((ys.take j).map Lt.w).map V.int))) ⟨same_new hD3, by rw [upd_same]; simp⟩ (fun j H6 _ ⟨s6, _⟩ => SqL.of (s6 _ _ hlt)) ?_ ?_
      · rintro j y H6 hy ⟨s6, hd6⟩
        have hj : j < qs.length := by
          have e := (List.getElem?_eq_some_iff.mp hy).1
          rwa [List.length_map] at e
        have hj' : j < ys.length := by
          rw [← hls.1]
          exact hj
        rw [at_refs hj] at hy
        cases hy
        have hl6 := (hls.2 j hj').same s6
        obtain ⟨q, hp6, hq6⟩ := id hl6
        have ej := take_succ_getD (d := default) hj'
        refine ⟨rfl, ?_⟩
        walk_at "rs"
        refine ⟨_, _, _, _, rfl, rfl, SqT.of hp6, rfl, ?_⟩
        refine ⟨_, hd6, by rw [List.length_map, List.length_map, List.length_take]; exact small1000 (by omega), same_upd s6 hD3, ?_⟩
        rw [upd_same, ej]
        simp
      · rintro H6 ⟨s6, hd6⟩
        rw [List.length_map, hls.1, List.take_length] at hd6
        have s06 := s05.trans s6
        walk_at "rs"
        refine ⟨c, dx, _, rfl, s06 _ _ hcp, cfs_no _ _ (by decide +kernel) (by decide +kernel) (by decide +kernel), ?_⟩
        walk_at "rs"
        refine ⟨c, D3, ws, _, rfl, hc.same s06, gw.2.1, SqL.of hd6, by rw [List.length_map]; omega, fun H7 s7 => ?_⟩
        walk_at "rs"
        have hf7 := s7 _ _ (s6 _ _ hf5)
        have hr7 := s7 _ _ (s6 _ _ hr5)
        have s17 := (s15.trans s6).trans s7
        refine ite2 (fun c1 => ?_) (fun c1 => ?_)
        · walk_at "rs"
          refine ⟨.inl ⟨rfl, _, SqL.of hf7⟩, ?_⟩
          walk_at "rs"
          have l7 := List.length_filter_le (fun t => qrm ws (comS xs h t b)) (C.take i)
          rw [List.length_take] at l7
          refine ⟨F1, _, _, rfl, rfl, hf7, by rw [List.length_map]; exact small1000 (by omega), ?_⟩
          refine ⟨_, _, rfl, same_upd s17 hF1, ?_, ?_⟩
          · rw [upd_ne nRF]
            exact hr7
          · rw [upd_same, et, List.filter_append, List.filter_cons_of_pos (by rw [eS]; exact c1)]
            simp
        · refine ⟨_, _, rfl, s17, hr7, ?_⟩
          rw [hf7, et, List.filter_append, List.filter_cons_of_neg (by rw [eS]; exact c1)]
          simp
    · rintro σ H4 ⟨v6, v7, rfl, s4, hr4, hf4⟩
      rw [List.length_map, List.take_length] at hf4
      walk_at "rs"
      exact k F1 _ (s1.trans s4) nF hf4

theorem ok_is_vote (T : Txt K mg a) : ∃ fd, FnOk P w K mg base CX0 1 a.d_is_vote fd ["statement"] (spVote K) ∧ Binds K fd ["statement"] [] := by
  obtain ⟨fd, F, b⟩ := T.d_is_vote.F
  refine ⟨fd, F.ok sc_is_vote (fun vs H Q E h => ?_) (fun cdv A outer s H vs Q E hr h => ?_), b⟩
  · obtain ⟨p, m, rfl, _⟩ := h
    rfl
  · obtain ⟨p, m, rfl, hp, k⟩ := h
    refine ⟨_, (pss_one (ps_ret (pe_cmpR op_in_seq (pe_ix ix_tup (pv 0) (pe_glob (v := (.int 0)) rfl T.c_KIND.choose_spec ⟨_, rfl⟩) (fun _ _ => rfl)) (pe_tup (pa_cons pe_str (pa_cons pe_str pa_nil))) (by rfl)))), ?_⟩
    refine ⟨_, rfl, p, _, _, _, rfl, rfl, SqT.of hp, at0 m, (by show 2 ≤ sizeLine; decide), fun t ht => ?_⟩
    refine ⟨t, _, rfl, .inr (SqT.of upd_same), rfl, rfl, ?_⟩
    have e : inV (V.str m.k.s) [V.str "prevote", V.str "precommit"] = decide (m.k ≠ .prop) := by
      cases hk : m.k <;> decide +kernel
    show Q (.bl (inV (V.str m.k.s) [V.str "prevote", V.str "precommit"])) _
    rw [e]
    exact k _ (same_new ht)

theorem hu9 {k : Nat} {A : Around} (r : Room k A) : A.units + 9 < cLine := by
  have := hu65 r
  omega
theorem ok_missing (T : Txt K mg a) : ∃ fd, FnOk P w K mg base CX0 1 a.d_missing fd ["turns", "block", "pairs"] (spMissing K) ∧ Binds K fd ["turns", "block", "pairs"] [] := by
  obtain ⟨fd, F, b⟩ := T.d_missing.F
  refine ⟨fd, F.ok sc_missing (fun vs H Q E h => ?_) (fun cdv A outer s H vs Q E hr h => ?_), b⟩
  · obtain ⟨_, _, _, _, _, _, rfl, _⟩ := h
    rfl
  · obtain ⟨R, L, ts, b, qs, cs, rfl, hR, hL, hc, okc, okb, few, k⟩ := h
    refine ⟨_, (pss_one (ps_ret (pe_lc (own := [("turn", 3)]) (g := (gName 3)) rfl sc_missing.nd (pi_list (pv 0)) (blkOk_by (own := [("turn", 3)]) (N := sc_missing_N) (sc := defScope s_missing) (by decide +kernel)) (fun _ _ _ _ _ => (pg_name (i := 3) sc_missing.nd rfl (Or.inl rfl))) (fun _ _ _ _ _ => (pts_one (pt_cmpR (r := rNotInD K) (op_notInD (hu65 hr)) (pe_tup (pa_cons (pv 3) (pa_cons (pv 1) pa_nil))) (pv 2) (by rfl)))) (fun _ _ _ _ _ => (pe_tup (pa_cons (pv 3) (pa_cons (pv 1) pa_nil))))))), ?_⟩
    walk_at "rs"
    refine ⟨⟨_, SqL.of hR⟩, fun D hD => ?_⟩
    refine lc_list (K := K) (a := R) (xs := ts.map V.int) (fun i H2 => Same H H2 ∧ ∃ ps, H2 D = some (.lst (ps.map V.ref)) ∧ PsAt H2 ps (miss (ts.take i) b cs)) ⟨same_new hD, [], upd_same, by rw [List.take_zero]; exact PsAt.nil⟩ (fun i H2 _ ⟨s2, _⟩ => SqL.of (s2 _ _ hR)) ?_ ?_
    · rintro i y H2 hy ⟨s2, ps, hd, hp⟩
      have hi : i < ts.length := by
        have e := (List.getElem?_eq_some_iff.mp hy).1
        rwa [List.length_map] at e
      obtain rfl : y = V.int (ts.getD i default) := by
        rw [List.getElem?_map, List.getElem?_eq_getElem hi] at hy
        cases hy
        rw [List.getD_eq_getElem?_getD, List.getElem?_eq_getElem hi]
        rfl
      have ml := miss_len (ts.take i) b cs
      rw [List.length_take] at ml
      have n1 := hp.1
      refine ⟨rfl, ?_⟩
      walk_at "rs"
      refine ⟨(by show 2 ≤ sizeLine; decide), fun p1 hp1 => ?_⟩
      have s3 := same_new (o := .tup [V.int (ts.getD i default), oS b]) hp1
      have h3 : PrAt (upd H2 p1 (.tup [V.int (ts.getD i default), oS b])) p1 (ts.getD i default, b) := upd_same
      walk_at "rs"
      refine ⟨prD (ts.getD i default, b), cs.map prD, dp_pr h3, .lst (SqL.of (s3 _ _ (s2 _ _ hL))) (dp_prs ((hc.same s2).same s3)), shaped_pr okb, shaped_prs okc, ?_⟩
      rw [any_pr]
      walk_at "rs"
      refine ite2 (fun c => ?_) (fun c => ?_)
      · have c : (ts.getD i default, b) ∉ cs := by simpa using c
        walk_at "rs"
        refine ⟨(by show 2 ≤ sizeLine; decide), fun p2 hp2 => ?_⟩
        have s4 := same_new (o := .tup [V.int (ts.getD i default), oS b]) hp2
        refine ⟨_, s4 _ _ (s3 _ _ hd), by rw [List.length_map]; exact small1000 (by omega), same_upd ((s2.trans s3).trans s4) hD, ps ++ [p2], by rw [upd_same]; simp, ?_⟩
        rw [miss_yes hi c]
        refine (((hp.same s3).same s4).app (PsAt.one (p := p2) (q := (ts.getD i default, b)) (by unfold PrAt; exact upd_same))).updM fun ys e => ?_
        rw [s4 _ _ (s3 _ _ hd)] at e
        cases e
      · have c : ¬ (ts.getD i default, b) ∉ cs := by simpa using c
        refine ⟨s2.trans s3, ps, s3 _ _ hd, ?_⟩
        rw [miss_no hi c]
        exact hp.same s3
    · rintro H2 ⟨s2, ps, hd, hp⟩
      rw [List.length_map, List.take_length] at hp
      exact k D ps H2 s2 hD hd hp
theorem ok_Book_init (T : Txt K mg a) : ∃ fd, FnOk P w K mg base CX0 1 a.d_Book_init fd ["self", "committee", "height"] (spBI K a.C_Book a.C_Committee) ∧ Binds K fd ["self", "committee", "height"] [] := by
  obtain ⟨fd, F, b⟩ := T.d_Book_init.F
  refine ⟨fd, F.ok sc_Book_init (fun vs H Q E h => ?_) (fun cdv A outer s H vs Q E hr h => ?_), b⟩
  · obtain ⟨_, _, _, _, _, rfl, _⟩ := h
    rfl
  · obtain ⟨p, dx, c, h, ws, rfl, hp, hc, gw, k⟩ := h
    refine ⟨_, (pss_cons (ps_fld (pv 0) (pv 1) rfl)
      (pss_cons (ps_fld (pv 0) (pv 2) rfl)
      (pss_cons (ps_fld (pv 0) (pe_lst pa_nil) rfl)
      (pss_cons (ps_fld (pv 0) (pe_lst pa_nil) rfl)
      (pss_cons (ps_fld (pv 0) pe_dnewK rfl)
      (pss_one (ps_fld (pv 0) pe_dnewK rfl))))))), ?_⟩
    walk_at "rs"
    refine ⟨p, _, dx, [], rfl, hp, T.cl_Book, T.a_Book_committee, (by show 0 < 1000; decide), ?_⟩
    walk_at "rs"
    refine ⟨p, _, dx, _, rfl, upd_same, T.cl_Book, T.a_Book_height, (by show 1 < 1000; decide), ?_⟩
    walk_at "rs"
    have e0 : upd (upd H p (.ins a.C_Book dx (putF "committee" (.ref c) []))) p (.ins a.C_Book dx (putF "height" (.int h) (putF "committee" (.ref c) []))) = upd H p (.ins a.C_Book dx (putF "height" (.int h) (putF "committee" (.ref c) []))) := upd_upd
    rw [e0]
    refine ⟨(by show 0 ≤ sizeLine; decide), fun Lc hLc => ?_⟩
    have np1 : p ≠ Lc := fun e => by rw [← e, upd_same] at hLc; cases hLc
    have f1 : H Lc = none := by rwa [upd_ne np1.symm] at hLc
    walk_at "rs"
    refine ⟨p, _, dx, _, rfl, by rw [upd_ne np1, upd_same], T.cl_Book, T.a_Book_certificates, (by show 2 < 1000; decide), ?_⟩
    walk_at "rs"
    refine ⟨(by show 0 ≤ sizeLine; decide), fun Lm hLm => ?_⟩
    have np2 : p ≠ Lm := fun e => by rw [← e, upd_same] at hLm; cases hLm
    have ncm : Lc ≠ Lm := fun e => by rw [← e, upd_ne np1.symm, upd_same] at hLm; cases hLm
    have f2 : H Lm = none := by rwa [upd_ne np2.symm, upd_ne ncm.symm, upd_ne np2.symm] at hLm
    walk_at "rs"
    refine ⟨p, _, dx, _, rfl, by rw [upd_ne np2, upd_same], T.cl_Book, T.a_Book_commits, (by show 3 < 1000; decide), ?_⟩
    walk_at "rs"
    intro Dk hDk
    have np3 : p ≠ Dk := fun e => by rw [← e, upd_same] at hDk; cases hDk
    have nck : Lc ≠ Dk := fun e => by
      rw [← e, upd_ne np1.symm, upd_ne ncm, upd_ne np1.symm, upd_same] at hDk
      cases hDk
    have nmk : Lm ≠ Dk := fun e => by
      rw [← e, upd_ne np2.symm, upd_same] at hDk
      cases hDk
    have f3 : H Dk = none := by rwa [upd_ne np3.symm, upd_ne nmk.symm, upd_ne np3.symm, upd_ne nck.symm, upd_ne np3.symm] at hDk
    walk_at "rs"
    refine ⟨p, _, dx, _, rfl, by rw [upd_ne np3, upd_same], T.cl_Book, T.a_Book__kept, (by show 4 < 1000; decide), ?_⟩
    walk_at "rs"
    intro Db hDb
    have np4 : p ≠ Db := fun e => by rw [← e, upd_same] at hDb; cases hDb
    have nkb : Dk ≠ Db := fun e => by
      rw [← e, upd_ne np3.symm, upd_same] at hDb
      cases hDb
    have nmb : Lm ≠ Db := fun e => by
      rw [← e, upd_ne np2.symm, upd_ne nmk, upd_ne np2.symm, upd_same] at hDb
      cases hDb
    have ncb : Lc ≠ Db := fun e => by
      rw [← e, upd_ne np1.symm, upd_ne nck, upd_ne np1.symm, upd_ne ncm, upd_ne np1.symm, upd_same] at hDb
      cases hDb
    have f4 : H Db = none := by rwa [upd_ne np4.symm, upd_ne nkb.symm, upd_ne np4.symm, upd_ne nmb.symm, upd_ne np4.symm, upd_ne ncb.symm, upd_ne np4.symm] at hDb
    walk_at "rs"
    refine ⟨p, _, dx, _, rfl, by rw [upd_ne np4, upd_same], T.cl_Book, T.a_Book__by_block, (by show 5 < 1000; decide), ?_⟩
    have lst : ∀ b o, b ≠ p → b ≠ Lc → b ≠ Lm → b ≠ Dk → b ≠ Db → H b = some o → (upd (upd (upd (upd (upd (upd (upd (upd (upd H p (HO.ins a.C_Book dx (putF "height" (V.int h) (putF "committee" (V.ref c) [])))) Lc (HO.lst [])) p (HO.ins a.C_Book dx (putF "certificates" (V.ref Lc) (putF "height" (V.int h) (putF "committee" (V.ref c) []))))) Lm (HO.lst [])) p
          (HO.ins a.C_Book dx (putF "commits" (V.ref Lm) (putF "certificates" (V.ref Lc) (putF "height" (V.int h) (putF "committee" (V.ref c) [])))))) Dk (HO.dK [])) p (HO.ins a.C_Book dx (putF "_kept" (V.ref Dk) (putF "commits" (V.ref Lm) (putF "certificates" (V.ref Lc) (putF "height" (V.int h) (putF "committee" (V.ref c) []))))))) Db (HO.dK [])) p
          (HO.ins a.C_Book dx (bfs c h Lc Lm Dk Db))) b = some o := fun b o d1 d2 d3 d4 d5 e => by
      rw [upd_ne d1, upd_ne d5, upd_ne d1, upd_ne d4, upd_ne d1, upd_ne d3, upd_ne d1, upd_ne d2, upd_ne d1]
      exact e
    have nn : ∀ b o, H b = some o → b ≠ Lc ∧ b ≠ Lm ∧ b ≠ Dk ∧ b ≠ Db := fun b o e => ⟨ne_of_none e f1, ne_of_none e f2, ne_of_none e f3, ne_of_none e f4⟩
    refine k Lc Lm Dk Db _ (fun P w => ?_) f1 f2 f3 f4 fun b o hb e => ?_
    · obtain ⟨cd, ct, hc1, hc2⟩ := hc
      have cp : c ≠ p := fun e => by
        rw [e, hp] at hc1
        injection hc1 with hc1
        injection hc1 with _ _ hc1
        have := cfs_s ct ws
        rw [← hc1] at this
        cases this
      have tp : ct ≠ p := fun e => by rw [e, hp] at hc2; cases hc2
      obtain ⟨c1, c2, c3, c4⟩ := nn _ _ hc1
      obtain ⟨t1, t2, t3, t4⟩ := nn _ _ hc2
      exact { obj := ⟨dx, upd_same⟩, com := ⟨cd, ct, lst _ _ cp c1 c2 c3 c4 hc1, lst _ _ tp t1 t2 t3 t4 hc2⟩, gw := gw,
              kept := NdAt.new (by rw [upd_ne np3.symm, upd_ne nkb, upd_ne np3.symm, upd_same]), byb := OdAt.new (by rw [upd_ne np4.symm, upd_same]),
              lc := by
                rw [upd_ne np1.symm, upd_ne ncb, upd_ne np1.symm, upd_ne nck, upd_ne np1.symm, upd_ne ncm, upd_ne np1.symm, upd_same]
                rfl
              pc := .nil
              lm := by
                rw [upd_ne np2.symm, upd_ne nmb, upd_ne np2.symm, upd_ne nmk, upd_ne np2.symm, upd_same]
                rfl
              pm := .nil, rows := fun e he => (nomatch he), non := fun _ _ => rfl, nk := .nil, nl := List.nodup_cons.mpr ⟨fun m => ncm (List.mem_singleton.mp m), List.nodup_cons.mpr ⟨fun m => (nomatch m), .nil⟩⟩, nd := nkb, kl := Nat.le_refl _,
              tb := fun x hx => (nomatch hx), okx := fun x hx => (nomatch hx), okc := fun x hx => (nomatch hx), okm := fun x hx => (nomatch hx) }
    · obtain ⟨c1, c2, c3, c4⟩ := nn _ _ e
      exact lst b o hb c1 c2 c3 c4 e
theorem ok_Book_belongs (T : Txt K mg a) : ∃ fd, FnOk P w K mg base CX0 2 a.d_Book_belongs fd ["self", "letter"] (spBel P w K a.C_Book a.C_Committee) ∧ Binds K fd ["self", "letter"] [] := by
  obtain ⟨fd, F, b⟩ := T.d_Book_belongs.F
  obtain ⟨fd_is_vote, G_is_vote, b_is_vote⟩ := ok_is_vote (P := P) (w := w) (base := base) T
  refine ⟨fd, F.ok sc_Book_belongs (fun vs H Q E h => ?_) (fun cdv A outer s H vs Q E hr h => ?_), b⟩
  · obtain ⟨_, _, _, _, rfl, _⟩ := h
    rfl
  · obtain ⟨bk, p, B, x, rfl, N, ⟨q, hp, hq⟩, k⟩ := h
    obtain ⟨dx, ho⟩ := N.obj
    obtain ⟨dc, tc, hc, _⟩ := id N.com
    have hq' : H q = some (.tup x.m.vals) := hq
    refine ⟨_, (pss_cons (ps_asg (pv 1) (pg_tup rfl (pgs_cons (pg_name (i := 2) sc_Book_belongs.nd rfl (Or.inl rfl)) (pgs_cons (pg_name (i := 3) sc_Book_belongs.nd rfl (Or.inl rfl)) pgs_nil))))
      (pss_cons (ps_set (i := 4) sc_Book_belongs.nd rfl (Or.inl rfl) (pe_chain op_le op_lt pe_int (pv 2) (pe_fld (pe_fld (pv 0) rfl) rfl)))
      (pss_one (ps_ret (pe_and (pv 4) (pe_and (pe_call G_is_vote (hr.mono (by decide)) rfl T.d_is_vote.g T.d_is_vote.kp b_is_vote .nil pass0 (pa_cons (pv 3) pa_nil)) (pe_one (pe_cmpR op_eq (pe_ix ix_tup (pv 3) (pe_glob (v := (.int 1)) rfl T.c_HEIGHT.choose_spec ⟨_, rfl⟩) (fun _ _ => rfl)) (pe_fld (pv 0) rfl) (nomark _))))))))), ?_⟩
    walk_at "rs"
    refine ⟨_, _, rfl, SqT.of hp, rfl, _, _, rfl, _, _, rfl, rfl, ?_⟩
    walk_at "rs"
    have out : bel B.ws B.h x = false → Q (.bl false) H := fun e => by
      have := k H (Same.refl H)
      rwa [e] at this
    refine ite2 (fun c1 => ?_) (fun c1 => ?_)
    · have c1 : 0 ≤ x.w := by simpa using c1
      walk_at "rs"
      refine ⟨bk, _, dx, _, .ref B.c, rfl, ho, T.cl_Book, T.a_Book_committee, bfs_co _ _ _ _ _ _, ?_⟩
      walk_at "rs"
      refine ⟨B.c, _, dc, _, .int B.ws.length, rfl, hc, T.cl_Committee, T.a_Committee_size, cfs_s _ _, ?_⟩
      walk_at "rs"
      refine ite2 (fun c2 => ?_) (fun c2 => ?_)
      · have c2 : x.w < B.ws.length := by simpa using c2
        walk_at "rs"
        refine ⟨q, x.m, rfl, hq, fun H1 s1 => ?_⟩
        walk_at "rs"
        refine ite2 (fun c3 => ?_) (fun c3 => ?_)
        · walk_at "rs"
          refine ⟨q, _, _, _, rfl, rfl, SqT.of (s1 _ _ hq'), at1 x.m, ?_⟩
          walk_at "rs"
          refine ⟨bk, _, dx, _, .int B.h, rfl, s1 _ _ ho, T.cl_Book, T.a_Book_height, bfs_h _ _ _ _ _ _, ?_⟩
          walk_at "rs"
          have e : decide (V.int x.m.h = V.int B.h) = bel B.ws B.h x := by
            unfold bel
            rw [decide_eq_true c1, decide_eq_true c2, c3]
            simp
          rw [e]
          exact k H1 s1
        · have := k H1 s1
          rwa [show bel B.ws B.h x = false by
            unfold bel
            rw [show decide (x.m.k ≠ .prop) = false from Bool.eq_false_iff.mpr c3, Bool.false_and, Bool.and_false]] at this
      · exact out (by
          unfold bel
          rw [show decide (x.w < B.ws.length) = false from Bool.eq_false_iff.mpr c2, Bool.and_false, Bool.false_and])
    · walk_at "rs"
      rw [if_neg Bool.false_ne_true]
      exact out (by unfold bel; rw [show decide (0 ≤ x.w) = false by simpa using c1]; rfl)
theorem ok_Book_letters (T : Txt K mg a) : ∃ fd, FnOk P w K mg base CX0 1 a.d_Book_letters fd ["self"] (spBLet P w K a.C_Book a.C_Committee) ∧ Binds K fd ["self"] [] := by
  obtain ⟨fd, F, b⟩ := T.d_Book_letters.F
  refine ⟨fd, F.ok sc_Book_letters (fun vs H Q E h => ?_) (fun cdv A outer s H vs Q E hr h => ?_), b⟩
  · obtain ⟨_, _, rfl, _⟩ := h
    rfl
  · obtain ⟨bk, B, rfl, N, k⟩ := h
    obtain ⟨dx, ho⟩ := N.obj
    refine ⟨_, (pss_one (ps_ret (pe_callTy (call_list_nd rfl) (by rfl) T.n_list (by decide +kernel) (pa_cons (pe_fld (pv 0) rfl) pa_nil)))), ?_⟩
    walk_at "rs"
    refine ⟨bk, _, dx, _, .ref B.Dk, rfl, ho, T.cl_Book, T.a_Book__kept, bfs_k _ _ _ _ _ _, ?_⟩
    refine ⟨B.Dk, B.ps, B.xs, rfl, N.kept, fun D hD => ?_⟩
    exact k D _ (same_new hD) hD upd_same
theorem ctL_len (ws : List Int) (xs : List Lt) (h : Int) (b : Option Str) : (ctL ws xs h b).length ≤ 60 := by
  unfold ctL
  cases b with
  | none => exact Nat.zero_le _
  | some x => exact lns_len ws xs h (some x) 60
theorem cmL_len (ws : List Int) (xs : List Lt) (h : Int) (b : Option Str) : (cmL ws xs h b).length ≤ 60 := Nat.le_trans (List.length_filter_le _ _) (ctL_len ws xs h b)
theorem ok_Book_enter (T : Txt K mg a) : ∃ fd, FnOk P w K mg base CX0 5 a.d_Book_enter fd ["self", "block"] (spEnter P w K a.C_Book a.C_Committee) ∧ Binds K fd ["self", "block"] [] := by
  obtain ⟨fd, F, b⟩ := T.d_Book_enter.F
  obtain ⟨fd_certified_turns, G_certified_turns, b_certified_turns⟩ := ok_certified_turns (P := P) (w := w) (base := base) T
  obtain ⟨fd_committed_turns, G_committed_turns, b_committed_turns⟩ := ok_committed_turns (P := P) (w := w) (base := base) T
  obtain ⟨fd_missing, G_missing, b_missing⟩ := ok_missing (P := P) (w := w) (base := base) T
  refine ⟨fd, F.ok sc_Book_enter (fun vs H Q E h => ?_) (fun cdv A outer s H vs Q E hr h => ?_), b⟩
  · obtain ⟨_, _, _, _, rfl, _⟩ := h
    rfl
  · obtain ⟨bk, B, b, ar, rfl, N, g, ob, few, fc, fm, k⟩ := h
    obtain ⟨dx, ho⟩ := N.obj
    obtain ⟨ls, hl, hls⟩ := N.rows _ (odGet_mem g)
    refine ⟨_, (pss_cons (ps_set (i := 2) sc_Book_enter.nd rfl (Or.inl rfl) (pe_odget (pe_fld (pv 0) rfl) (pv 1) (fun _ _ => rfl)))
      (pss_cons (ps_set (i := 3) sc_Book_enter.nd rfl (Or.inl rfl) (pe_call G_certified_turns (hr.mono (by decide)) rfl T.d_certified_turns.g T.d_certified_turns.kp b_certified_turns .nil pass0 (pa_cons (pe_fld (pv 0) rfl) (pa_cons (pv 2) (pa_cons (pe_fld (pv 0) rfl) (pa_cons (pv 1) pa_nil))))))
      (pss_cons (ps_set (i := 4) sc_Book_enter.nd rfl (Or.inl rfl) (pe_call G_committed_turns (hr.mono (by decide)) rfl T.d_committed_turns.g T.d_committed_turns.kp b_committed_turns .nil pass0 (pa_cons (pe_fld (pv 0) rfl) (pa_cons (pv 2) (pa_cons (pe_fld (pv 0) rfl) (pa_cons (pv 1) pa_nil))))))
      (pss_cons (ps_set (i := 5) sc_Book_enter.nd rfl (Or.inl rfl) (pe_call G_missing (hr.mono (by decide)) rfl T.d_missing.g T.d_missing.kp b_missing .nil pass0 (pa_cons (pv 3) (pa_cons (pv 1) (pa_cons (pe_fld (pv 0) rfl) pa_nil)))))
      (pss_cons (ps_set (i := 6) sc_Book_enter.nd rfl (Or.inl rfl) (pe_call G_missing (hr.mono (by decide)) rfl T.d_missing.g T.d_missing.kp b_missing .nil pass0 (pa_cons (pv 4) (pa_cons (pv 1) (pa_cons (pe_fld (pv 0) rfl) pa_nil)))))
      (pss_cons (ps_expr (pe_bm PySem.F.plainAttrs_list PySem.F.slot_list_extend PySem.F.type_list_extend mt_extend (pe_fld (pv 0) rfl) (pa_cons (pv 5) pa_nil)))
      (pss_one (ps_expr (pe_bm PySem.F.plainAttrs_list PySem.F.slot_list_extend PySem.F.type_list_extend mt_extend (pe_fld (pv 0) rfl) (pa_cons (pv 6) pa_nil)))))))))), ?_⟩
    walk_at "rs"
    have few' : (inB b B.xs).length ≤ 900 := Nat.le_trans (List.length_filter_le _ _) few
    have tb' : TB (inB b B.xs) := fun y hy => N.tb y (List.mem_filter.mp hy).1
    refine ⟨bk, _, dx, _, .ref B.Db, rfl, ho, T.cl_Book, T.a_Book__by_block, bfs_b _ _ _ _ _ _, ?_⟩
    walk_at "rs"
    refine ⟨B.Db, B.kvs, b, ar, rfl, rfl, N.byb, g, ?_⟩
    walk_at "rs"
    refine ⟨bk, _, dx, _, .ref B.c, rfl, ho, T.cl_Book, T.a_Book_committee, bfs_co _ _ _ _ _ _, ?_⟩
    walk_at "rs"
    refine ⟨bk, _, dx, _, .int B.h, rfl, ho, T.cl_Book, T.a_Book_height, bfs_h _ _ _ _ _ _, ?_⟩
    walk_at "rs"
    refine ⟨B.c, ar, B.ws, ls, inB b B.xs, B.h, b, rfl, N.com, N.gw, hl, hls, few', tb', fun R1 H1 s1 hR1 hRR1 => ?_⟩
    walk_at "rs"
    refine ⟨bk, _, dx, _, .ref B.c, rfl, s1 _ _ ho, T.cl_Book, T.a_Book_committee, bfs_co _ _ _ _ _ _, ?_⟩
    walk_at "rs"
    refine ⟨bk, _, dx, _, .int B.h, rfl, s1 _ _ ho, T.cl_Book, T.a_Book_height, bfs_h _ _ _ _ _ _, ?_⟩
    walk_at "rs"
    refine ⟨B.c, ar, B.ws, ls, inB b B.xs, B.h, b, rfl, N.com.same s1, N.gw, s1 _ _ hl, hls.same s1, few', tb', fun R2 H2 s2 hR2 hRR2 => ?_⟩
    walk_at "rs"
    have s02 := s1.trans s2
    refine ⟨bk, _, dx, _, .ref B.Lc, rfl, s02 _ _ ho, T.cl_Book, T.a_Book_certificates, bfs_ce _ _ _ _ _ _, ?_⟩
    walk_at "rs"
    refine ⟨R1, B.Lc, _, b, B.qc, B.cs, rfl, s2 _ _ hRR1, s02 _ _ N.lc, N.pc.same s02, N.okc, ob, ?_, fun D1 p1 H3 s3 hD1 hDD1 hP1 => ?_⟩
    · have := ctL_len B.ws (inB b B.xs) B.h b
      omega
    have s03 := s02.trans s3
    walk_at "rs"
    refine ⟨bk, _, dx, _, .ref B.Lm, rfl, s03 _ _ ho, T.cl_Book, T.a_Book_commits, bfs_cm _ _ _ _ _ _, ?_⟩
    walk_at "rs"
    refine ⟨R2, B.Lm, _, b, B.qm, B.ms, rfl, s3 _ _ hRR2, s03 _ _ N.lm, N.pm.same s03, N.okm, ob, ?_, fun D2 p2 H4 s4 hD2 hDD2 hP2 => ?_⟩
    · have := cmL_len B.ws (inB b B.xs) B.h b
      omega
    have s04 := s03.trans s4
    walk_at "rs"
    refine ⟨bk, _, dx, _, .ref B.Lc, rfl, s04 _ _ ho, T.cl_Book, T.a_Book_certificates, bfs_ce _ _ _ _ _ _, ?_⟩
    walk_at "rs"
    refine ⟨.inl ⟨rfl, _, SqL.of (s04 _ _ N.lc)⟩, ?_⟩
    walk_at "rs"
    have l1 := hP1.1
    have l2 := hP2.1
    have m1 := miss_len (ctL B.ws (inB b B.xs) B.h b) b B.cs
    have m2 := miss_len (cmL B.ws (inB b B.xs) B.h b) b B.ms
    have m3 := ctL_len B.ws (inB b B.xs) B.h b
    have m4 := cmL_len B.ws (inB b B.xs) B.h b
    have n1 := N.pc.1
    have n2 := N.pm.1
    obtain ⟨d1, _, _, _⟩ := nodup_two N.nl
    refine ⟨B.Lc, D1, _, _, rfl, rfl, s04 _ _ N.lc, s4 _ _ hDD1, by rw [List.length_map, List.length_map, sizeLine_eq]; omega, ?_⟩
    walk_at "rs"
    have ob2 : bk ≠ B.Lc := fun e => by
      rw [e, N.lc] at ho
      cases ho
    refine ⟨bk, _, dx, _, .ref B.Lm, rfl, by rw [upd_ne ob2]; exact s04 _ _ ho, T.cl_Book, T.a_Book_commits, bfs_cm _ _ _ _ _ _, ?_⟩
    refine ⟨.inl ⟨rfl, _, SqL.of (by rw [upd_ne d1.symm]; exact s04 _ _ N.lm)⟩, ?_⟩
    walk_at "rs"
    have dD : D2 ≠ B.Lc := fun e => by
      have := s03 _ _ N.lc
      rw [← e, hD2] at this
      cases this
    refine ⟨B.Lm, D2, _, _, rfl, rfl, by rw [upd_ne d1.symm]; exact s04 _ _ N.lm, by rw [upd_ne dD]; exact hDD2, by rw [List.length_map, List.length_map, sizeLine_eq]; omega, ?_⟩
    refine k p1 p2 _ ?_ ((N.same s04).ext (hP1.same s4) hP2 (miss_ok ob) (miss_ok ob))
    refine (Keeps.of s04).trans ((keeps_upd ?_).trans (keeps_upd ?_))
    · exact List.mem_cons_self
    · exact List.mem_cons_of_mem _ List.mem_cons_self
theorem ok_Book_add (T : Txt K mg a) : ∃ fd, FnOk P w K mg base CX0 6 a.d_Book_add fd ["self", "letter"] (spAdd P w K a.C_Book a.C_Committee) ∧ Binds K fd ["self", "letter"] [] := by
  obtain ⟨fd, F, b⟩ := T.d_Book_add.F
  obtain ⟨fd_Book_enter, G_Book_enter, b_Book_enter⟩ := ok_Book_enter (P := P) (w := w) (base := base) T
  obtain ⟨fd_Book_belongs, G_Book_belongs, b_Book_belongs⟩ := ok_Book_belongs (P := P) (w := w) (base := base) T
  refine ⟨fd, F.ok sc_Book_add (fun vs H Q E h => ?_) (fun cdv A outer s H vs Q E hr h => ?_), b⟩
  · obtain ⟨_, _, _, _, rfl, _⟩ := h
    rfl
  · obtain ⟨bk, p, B, x, rfl, N, hx, ob, tx, few, fc, fm, kf, kt⟩ := h
    obtain ⟨dx, ho⟩ := N.obj
    refine ⟨_, (pss_cons (ps_if (PW.pt (pw_or (pt_cmp (pc_ndin (hu9 hr) (pv 1) (pe_fld (pv 0) rfl))) (pw_or1 (pt_not (pt_val (pe_meth (pv 0) T.cl_Book T.me_Book_belongs G_Book_belongs (hr.mono (by decide)) b_Book_belongs .nil pass0 (pa_cons (pv 1) pa_nil)))))))
      (pss_one (ps_ret pe_bl))
      pss_nil)
      (pss_cons (ps_ndput (hu9 hr) (pe_fld (pv 0) rfl) (pv 1) pe_bl rfl)
      (pss_cons (ps_set (i := 2) sc_Book_add.nd rfl (Or.inl rfl) (pe_ix ix_tup (pe_ix ix_tup (pv 1) pe_int (fun _ _ => rfl)) (pe_glob (v := (.int 3)) rfl T.c_BLOCK.choose_spec ⟨_, rfl⟩) (fun _ _ => rfl)))
      (pss_cons (ps_expr (pe_bm PySem.F.plainAttrs_list PySem.F.slot_list_append PySem.F.type_list_append mt_append (pe_odsetd (pe_fld (pv 0) rfl) (pv 2) (pe_lst pa_nil) ⟨rfl, rfl, rfl, rfl⟩) (pa_cons (pv 1) pa_nil)))
      (pss_cons (ps_expr (pe_meth (pv 0) T.cl_Book T.me_Book_enter G_Book_enter (hr.mono (by decide)) b_Book_enter .nil pass0 (pa_cons (pv 2) pa_nil)))
      (pss_one (ps_ret pe_bl))))))), ?_⟩
    walk_at "rs"
    refine ⟨bk, _, dx, _, .ref B.Dk, rfl, ho, T.cl_Book, T.a_Book__kept, bfs_k _ _ _ _ _ _, ?_⟩
    refine ⟨p, B.Dk, x, B.ps, B.xs, rfl, rfl, hx, N.kept, ?_⟩
    walk_at "rs"
    refine ite2 (fun c1 => ?_) (fun c1 => ?_)
    · walk_at "rs"
      exact kf (.inl (of_decide_eq_true c1)) H (Same.refl H)
    have nin : ltKey x ∉ B.xs.map ltKey := by simpa using c1
    walk_at "rs"
    refine ⟨bk, dx, _, rfl, ho, bfs_no _ _ _ _ _ _ (by decide +kernel) (by decide +kernel) (by decide +kernel) (by decide +kernel) (by decide +kernel) (by decide +kernel), ?_⟩
    walk_at "rs"
    refine ⟨bk, p, B, x, rfl, N, hx, fun H1 s1 => ?_⟩
    walk_at "rs"
    refine ite2 (fun c2 => ?_) (fun c2 => ?_)
    · walk_at "rs"
      exact kf (.inr (by simpa using c2)) H1 s1
    have k := kt nin (by simpa using c2)
    clear kf kt
    have N1 := N.same s1
    have hx1 := hx.same s1
    walk_at "rs"
    refine ⟨bk, _, dx, _, .ref B.Dk, rfl, s1 _ _ ho, T.cl_Book, T.a_Book__kept, bfs_k _ _ _ _ _ _, ?_⟩
    walk_at "rs"
    refine ⟨p, B.Dk, x, B.ps, B.xs, rfl, rfl, rfl, hx1, N1.kept, nin, ?_⟩
    change (_ : Hp → Prop) (upd H1 B.Dk (.ext (ndPhi w B.Dk (B.ps ++ [p]) (B.xs ++ [x]))))
    generalize eo : HO.ext (ndPhi w B.Dk (B.ps ++ [p]) (B.xs ++ [x])) = o1
    have kd : Keeps B.S H1 (upd H1 B.Dk o1) := keeps_upd (List.mem_cons_of_mem _ (List.mem_cons_of_mem _ List.mem_cons_self))
    have ho1 := kd _ _ (N1.notS (s1 _ _ ho) True.intro) (s1 _ _ ho)
    obtain ⟨q, hp, hq⟩ := hx1.keeps kd N1.tupS
    have hq' : (upd H1 B.Dk o1) q = some (.tup x.m.vals) := hq
    walk_at "rs"
    refine ⟨p, _, _, _, rfl, rfl, SqT.of hp, rfl, ?_⟩
    walk_at "rs"
    refine ⟨bk, _, dx, _, .ref B.Db, rfl, ho1, T.cl_Book, T.a_Book__by_block, bfs_b _ _ _ _ _ _, ?_⟩
    have hb1 : OdAt P w (upd H1 B.Dk o1) B.Db B.kvs := N1.byb.updM N1.nd.symm
    refine ⟨B.Db, B.kvs, rfl, hb1, ?_⟩
    walk_at "rs"
    refine ⟨(by show 0 ≤ sizeLine; decide), fun z hz => ?_⟩
    have hz0 : H1 z = none := by
      have : z ≠ B.Dk := fun e => by rw [e, upd_same] at hz; cases hz
      rwa [upd_ne this] at hz
    have sz : Same (upd H1 B.Dk o1) (upd (upd H1 B.Dk o1) z (.lst [])) := same_new hz
    refine ⟨B.kvs, x.m.b, z, hb1.same sz, rfl, rfl, fun v hv => ?_, fun hn => ?_⟩
    · obtain ⟨ls, hl, hls⟩ := N1.rows _ (odGet_mem hv)
      have vD := ne_lD N1.kept hl
      have hl2 := sz _ _ (by rw [upd_ne vD]; exact hl : (upd H1 B.Dk o1) v = some (.lst (ls.map V.ref)))
      have few2 := N1.kept.few
      have fl : ls.length ≤ B.xs.length := by
        have e := hls.1
        have := List.length_filter_le (fun y : Lt => decide (y.m.b = x.m.b)) B.xs
        have e : ls.length = (B.xs.filter fun y : Lt => decide (y.m.b = x.m.b)).length := e
        omega
      walk_at "rs"
      refine ⟨.inl ⟨rfl, _, SqL.of hl2⟩, ?_⟩
      walk_at "rs"
      refine ⟨v, _, _, rfl, rfl, hl2, by rw [List.length_map]; exact small1000 (by omega), ?_⟩
      have N4 := N1.put1 hx1 nin (by omega) hv tx ob hz0 hl
      rw [eo] at N4
      have vS : v ∈ B.S := List.mem_cons_of_mem _ (List.mem_cons_of_mem _ (List.mem_cons_of_mem _ (List.mem_cons_of_mem _ (List.mem_map.mpr ⟨_, odGet_mem hv, rfl⟩))))
      have k4 : Keeps B.S H (upd (upd (upd H1 B.Dk o1) z (.lst [])) v (.lst (ls.map V.ref ++ [V.ref p]))) := (((Keeps.of s1).trans kd).trans (.of sz)).trans (keeps_upd vS)
      obtain ⟨dx4, ho4⟩ := N4.obj
      generalize upd (upd (upd H1 B.Dk o1) z (.lst [])) v (.lst (ls.map V.ref ++ [V.ref p])) = H4 at N4 k4 ho4 ⊢
      walk_at "rs"
      refine ⟨bk, dx4, _, rfl, ho4, bfs_no _ _ _ _ _ _ (by decide +kernel) (by decide +kernel) (by decide +kernel) (by decide +kernel) (by decide +kernel) (by decide +kernel), ?_⟩
      walk_at "rs"
      refine ⟨bk, _, x.m.b, v, rfl, N4, hv, ob, by show (B.xs ++ [x]).length ≤ 900; rw [List.length_append, List.length_singleton]; omega, by show B.cs.length ≤ _; omega, by show B.ms.length ≤ _; omega, fun q1 q2 H5 k5 N5 => ?_⟩
      walk_at "rs"
      exact k B.kvs q1 q2 H5 (k4.trans k5) (fun e he => .inl he) N5
    · have few2 := N1.kept.few
      have N4 := N1.put2 hx1 nin (by omega) hn tx ob hz0
      rw [eo] at N4
      have zB : z ≠ B.Db := fun e => by
        rcases N1.byb.at_ with ⟨_, q⟩ | q <;> (rw [← e, hz0] at q; cases q)
      have hl2 : (upd (upd (upd H1 B.Dk o1) z (.lst [])) B.Db (.ext (odPhi P w B.Db (B.kvs ++ [(x.m.b, z)])))) z = some (.lst []) := by rw [upd_ne zB, upd_same]
      walk_at "rs"
      refine ⟨.inl ⟨rfl, _, SqL.of hl2⟩, ?_⟩
      walk_at "rs"
      refine ⟨z, _, _, rfl, rfl, hl2, by show 0 < sizeLine; decide, ?_⟩
      have bS : B.Db ∈ B.S := List.mem_cons_of_mem _ (List.mem_cons_of_mem _ (List.mem_cons_of_mem _ List.mem_cons_self))
      have hzH : H z = none := by
        cases hh : H z with
        | none => rfl
        | some o => rw [s1 _ _ hh] at hz0; cases hz0
      change (_ : Hp → Prop) (upd (upd (upd (upd H1 B.Dk o1) z (.lst [])) B.Db (.ext (odPhi P w B.Db (B.kvs ++ [(x.m.b, z)])))) z (.lst [V.ref p]))
      generalize eo2 : HO.ext (odPhi P w B.Db (B.kvs ++ [(x.m.b, z)])) = o2 at N4 hl2 ⊢
      have k4 : Keeps B.S H (upd (upd (upd (upd H1 B.Dk o1) z (.lst [])) B.Db o2) z (.lst [V.ref p])) := fun b o n e => by
        have := ((((Keeps.of s1).trans kd).trans (.of sz)).trans (keeps_upd (o := o2) bS)) b o n e
        rw [upd_ne (ne_of_none e hzH)]
        exact this
      obtain ⟨dx4, ho4⟩ := N4.obj
      generalize upd (upd (upd (upd H1 B.Dk o1) z (.lst [])) B.Db o2) z (.lst [V.ref p]) = H4 at N4 k4 ho4 ⊢
      walk_at "rs"
      refine ⟨bk, dx4, _, rfl, ho4, bfs_no _ _ _ _ _ _ (by decide +kernel) (by decide +kernel) (by decide +kernel) (by decide +kernel) (by decide +kernel) (by decide +kernel), ?_⟩
      walk_at "rs"
      refine ⟨bk, _, x.m.b, z, rfl, N4, odGet_new hn, ob, by show (B.xs ++ [x]).length ≤ 900; rw [List.length_append, List.length_singleton]; omega, by show B.cs.length ≤ _; omega, by show B.ms.length ≤ _; omega, fun q1 q2 H5 k5 N5 => ?_⟩
      walk_at "rs"
      refine k (B.kvs ++ [(x.m.b, z)]) q1 q2 H5 (fun b o n e => k5 b o (fun m => ?_) (k4 b o n e)) (fun e he => ?_) N5
      · unfold Bk.S at m n
        have m : b ∈ B.Lc :: B.Lm :: B.Dk :: B.Db :: (B.kvs ++ [(x.m.b, z)]).map (·.2) := m
        have bz := ne_of_none e hzH
        rcases List.mem_cons.mp m with q | m
        · exact n (by rw [q]; exact List.mem_cons_self)
        rcases List.mem_cons.mp m with q | m
        · exact n (by rw [q]; exact List.mem_cons_of_mem _ List.mem_cons_self)
        rcases List.mem_cons.mp m with q | m
        · exact n (by rw [q]; exact List.mem_cons_of_mem _ (List.mem_cons_of_mem _ List.mem_cons_self))
        rcases List.mem_cons.mp m with q | m
        · exact n (by rw [q]; exact bS)
        rw [List.map_append] at m
        rcases List.mem_append.mp m with m | m
        · exact n (List.mem_cons_of_mem _ (List.mem_cons_of_mem _ (List.mem_cons_of_mem _ (List.mem_cons_of_mem _ m))))
        · exact bz (List.mem_singleton.mp m)
      · rcases List.mem_append.mp he with he | he
        · exact .inl he
        · rw [List.mem_singleton.mp he]
          exact .inr hzH

theorem ok_until_quorum (T : Txt K mg a) : ∃ fd, FnOk P w K mg base CX0 3 a.d_until_quorum fd ["committee", "letters"] (spUq K a.C_Committee) ∧ Binds K fd ["committee", "letters"] [] := by
  obtain ⟨fd, F, b⟩ := T.d_until_quorum.F
  obtain ⟨fd_Committee_is_quorum, G_Committee_is_quorum, b_Committee_is_quorum⟩ := ok_Committee_is_quorum (P := P) (w := w) (base := base) T
  refine ⟨fd, F.ok sc_until_quorum (fun vs H Q E h => ?_) (fun cdv A outer s H vs Q E hr h => ?_), b⟩
  · obtain ⟨_, _, _, _, _, rfl, _⟩ := h
    rfl
  · obtain ⟨c, l, ws, ps, xs, rfl, hc, gw, hl, hx, few, k⟩ := h
    obtain ⟨dc, tc, hcp, hct⟩ := id hc
    have n1 := hx.1
    refine ⟨_, (pss_cons (ps_set (i := 2) sc_until_quorum.nd rfl (Or.inl rfl) pe_dnewK)
      (pss_cons (ps_for PassesOwn.never rfl (pi_list (pv 1)) (pg_name (i := 3) sc_until_quorum.nd rfl (Or.inl rfl))
      (pss_one (ps_if (pt_not (pt_val (pe_meth (pv 0) T.cl_Committee T.me_Committee_is_quorum G_Committee_is_quorum (hr.mono (by decide)) b_Committee_is_quorum .nil pass0 (pa_cons (pe_callTy (call_listD rfl) (by rfl) T.n_list (by decide +kernel) (pa_cons (pv 2) pa_nil)) pa_nil))))
        (pss_one (ps_expr (pe_dsetd (pv 2) (pe_ix ix_tup (pv 3) pe_int (fun _ _ => rfl)) (pv 3) ⟨rfl, rfl, rfl, rfl⟩)))
        pss_nil)))
      (pss_one (ps_ret (pe_callTy (call_list_val rfl) (by rfl) T.n_list (by decide +kernel) (pa_cons (pe_dval (pv 2)) pa_nil)))))), ?_⟩
    walk_at "rs"
    intro tk htk
    have s1 : Same H (upd H tk (.dK [])) := same_new htk
    have ht1 : (upd H tk (.dK [])) tk = some (.dK (uK [] [])) := upd_same
    have htH : H tk = none := htk
    generalize upd H tk (.dK []) = H1 at s1 ht1 ⊢
    walk_at "rs"
    refine ⟨⟨_, SqL.of (s1 _ _ hl)⟩, for_list (K := K) (a := l) (xs := ps.map V.ref) (fun i σ H2 => ∃ v3 : Option V, σ = [some (.ref c), some (.ref l), some (.ref tk), v3] ∧ Same H H2 ∧ ∃ rs, H2 tk = some (.dK (uK rs (uq ws (xs.take i)))) ∧ LsAt H2 rs (uq ws (xs.take i))) ⟨_, rfl, s1, [], by rw [List.take_zero]; exact ht1, by rw [List.take_zero]; exact LsAt.nil⟩ (fun _ _ _ _ ⟨_, _, s2, _⟩ => SqL.of (s2 _ _ hl)) ?_ ?_⟩
    · rintro i y σ H2 hy ⟨v3, rfl, s2, rs, ht2, hT⟩
      have hi : i < ps.length := by
        have e := (List.getElem?_eq_some_iff.mp hy).1
        rwa [List.length_map] at e
      rw [at_refs hi] at hy
      cases hy
      have hi' : i < xs.length := by omega
      have hlt := (hx.2 i hi').same s2
      have et := take_succ_getD (d := default) hi'
      generalize ex : xs.getD i default = x at hlt et
      have ul := uq_len ws _ (xs.take i) rfl
      rw [List.length_take] at ul
      have stay : uqS ws (uq ws (xs.take i)) x = uq ws (xs.take i) → ∀ H3, Same H2 H3 → ∃ v3 : Option V, [some (V.ref c), some (.ref l), some (.ref tk), some (.ref (ps.getD i 0))] = [some (.ref c), some (.ref l), some (.ref tk), v3] ∧ Same H H3 ∧ ∃ rs, H3 tk = some (.dK (uK rs (uq ws (xs.take (i + 1))))) ∧ LsAt H3 rs (uq ws (xs.take (i + 1))) := fun e H3 s3 => by
        rw [et, uq_snoc, e]
        exact ⟨_, rfl, s2.trans s3, rs, s3 _ _ ht2, hT.same s3⟩
      have nT := hT.1
      walk_at "rs"
      refine ⟨c, dc, _, rfl, s2 _ _ hcp, cfs_no _ _ (by decide +kernel) (by decide +kernel) (by decide +kernel), ?_⟩
      walk_at "rs"
      refine ⟨tk, _, rfl, .inl ht2, fun p hp => ?_⟩
      rw [uK_keys nT]
      have s3 : Same H2 (upd H2 p (.lst (((uq ws (xs.take i)).map Lt.w).map V.int))) := same_new hp
      have hp3 : (upd H2 p (.lst (((uq ws (xs.take i)).map Lt.w).map V.int))) p = some (.lst (((uq ws (xs.take i)).map Lt.w).map V.int)) := upd_same
      generalize upd H2 p (.lst (((uq ws (xs.take i)).map Lt.w).map V.int)) = H3 at s3 hp3 ⊢
      refine ⟨c, p, ws, _, rfl, (hc.same s2).same s3, gw.2.1, SqL.of hp3, by rw [List.length_map]; omega, fun H4 s4 => ?_⟩
      have s24 := s3.trans s4
      walk_at "rs"
      refine ite2 (fun c1 => ?_) (fun c1 => ?_)
      · have c1 : qrm ws ((uq ws (xs.take i)).map Lt.w) = false := by simpa [qrm] using c1
        obtain ⟨q, hp4, _⟩ := hlt.same s24
        have ht4 := s24 _ _ ht2
        walk_at "rs"
        refine ⟨.inl ⟨_, .inl ht4⟩, ?_⟩
        walk_at "rs"
        refine ⟨_, _, _, _, rfl, rfl, SqT.of hp4, rfl, ?_⟩
        walk_at "rs"
        refine ⟨_, Sum.inl x.w, ht4, rfl, by unfold uK; rw [List.length_map, List.length_zip, sizeLine_eq]; omega, fun v hv => ?_, fun hv => ?_⟩
        · have e := uK_val (w := x.w) nT
          rw [hv] at e
          have m : x.w ∈ (uq ws (xs.take i)).map Lt.w := of_decide_eq_true e.symm
          exact stay (by unfold uqS; rw [if_neg (by rw [c1]; exact Bool.false_ne_true), if_pos m]) H4 s24
        · have e := uK_val (w := x.w) nT
          rw [hv] at e
          have m : ¬ x.w ∈ (uq ws (xs.take i)).map Lt.w := of_decide_eq_false e.symm
          have e2 : uqS ws (uq ws (xs.take i)) x = uq ws (xs.take i) ++ [x] := by unfold uqS; rw [if_neg (by rw [c1]; exact Bool.false_ne_true), if_neg m]
          refine ⟨_, rfl, same_upd (s2.trans s24) htH, rs ++ [ps.getD i 0], ?_, ?_⟩
          · rw [upd_same, putK_new hv, et, uq_snoc, e2, uK_snoc nT]
          · rw [et, uq_snoc, e2]
            exact ((hT.same s24).snoc (hlt.same s24)).updM fun ys z => by rw [ht4] at z; cases z
      · have c1 : qrm ws ((uq ws (xs.take i)).map Lt.w) = true := by simpa [qrm] using c1
        exact stay (by unfold uqS; rw [if_pos c1]) H4 s24
    · rintro σ H2 ⟨v3, rfl, s2, rs, ht2, hT⟩
      rw [List.length_map, n1, List.take_length] at ht2 hT
      walk_at "rs"
      refine ⟨tk, _, rfl, ht2, fun p hp => ?_⟩
      have ntk : tk ≠ p := fun z => by rw [← z, ht2] at hp; cases hp
      walk_at "rs"
      refine ⟨p, tk, _, rfl, upd_same, by rw [upd_ne ntk]; exact ht2, fun D hD => ?_⟩
      rw [uK_vals hT.1]
      have sp : Same H2 (upd H2 p (viewD p tk)) := same_new hp
      have sD := same_new (o := .lst (rs.map V.ref)) hD
      have s2D := sp.trans sD
      have hDH : H D = none := by
        cases e : H D with
        | none => rfl
        | some o => rw [sp _ _ (s2 _ _ e)] at hD; cases hD
      exact k D rs _ (s2.trans s2D) hDH upd_same (hT.same s2D)
theorem ok_countsL (T : Txt K mg a) : ∃ fd, FnOk P w K mg base CX0 1 a.d_counts fd ["prevote", "turns"] (spCountsL K) ∧ Binds K fd ["prevote", "turns"] [] := by
  obtain ⟨fd, F, b⟩ := T.d_counts.F
  refine ⟨fd, F.ok sc_counts (fun vs H Q E h => ?_) (fun cdv A outer s H vs Q E hr h => ?_), b⟩
  · obtain ⟨_, _, _, _, rfl, _⟩ := h
    rfl
  · obtain ⟨p, D, m, L, rfl, hp, hk, hD, k⟩ := h
    have k0 := k H (Same.refl H)
    unfold cntL at k0
    refine ⟨_, (pss_cons (ps_set (i := 2) sc_counts.nd rfl (Or.inl rfl) (pe_ix ix_tup (pv 0) (pe_glob (v := (.int 4)) rfl T.c_LEAN.choose_spec ⟨_, rfl⟩) (fun _ _ => rfl)))
      (pss_one (ps_ret (pe_or (pe_cmpR op_isN (pv 2) pe_non (nomark _)) (pe_one (pe_and (pe_cmpR op_lt (pv 2) (pe_ix ix_tup (pv 0) (pe_glob (v := (.int 2)) rfl T.c_TURN.choose_spec ⟨_, rfl⟩) (fun _ _ => rfl)) (nomark _)) (pe_one (pe_cmpR op_in_seq (pv 2) (pv 1) (by rfl))))))))), ?_⟩
    walk_at "rs"
    refine ite2 (fun c1 => ?_) (fun c1 => ?_) <;> simp only [koIn, decide_eq_true_iff] at c1
    · rw [c1] at k0
      exact k0
    obtain ⟨i, hl⟩ : ∃ i, m.l = some i := by
      cases hl : m.l with
      | none => exact absurd hl c1
      | some i => exact ⟨i, rfl⟩
    rw [hl] at k0 ⊢
    have k0 : Q (.bl (decide (i < m.t) && decide (i ∈ L))) H := k0
    refine ⟨_, rfl, ?_⟩
    walk_at "rs"
    refine ite2 (fun c2 => ?_) (fun c2 => ?_) <;> simp only [decide_eq_true_iff] at c2
    · rw [decide_eq_true c2, Bool.true_and] at k0
      walk_at "rs"
      refine ⟨D, _, rfl, .inl (SqL.of hD), rfl, flat_ints _, ?_⟩
      have e : inV (oI (some i)) (L.map V.int) = decide (i ∈ L) := inV_ints L i
      rw [if_neg Bool.false_ne_true, e]
      exact k0
    · rw [decide_eq_false c2, Bool.false_and] at k0
      exact k0
theorem ok_prevotes (T : Txt K mg a) : ∃ fd, FnOk P w K mg base CX0 4 a.d_prevotes fd ["book", "block", "turn"] (spPrev P w K a.C_Book a.C_Committee) ∧ Binds K fd ["book", "block", "turn"] [] := by
  obtain ⟨fd, F, b⟩ := T.d_prevotes.F
  obtain ⟨fd_votes_by_turn, G_votes_by_turn, b_votes_by_turn⟩ := ok_votes_by_turn (P := P) (w := w) (base := base) T
  obtain ⟨fd_Book_letters, G_Book_letters, b_Book_letters⟩ := ok_Book_letters (P := P) (w := w) (base := base) T
  obtain ⟨fd_counts, G_counts, b_counts⟩ := ok_countsL (P := P) (w := w) (base := base) T
  obtain ⟨fd_until_quorum, G_until_quorum, b_until_quorum⟩ := ok_until_quorum (P := P) (w := w) (base := base) T
  refine ⟨fd, F.ok sc_prevotes (fun vs H Q E h => ?_) (fun cdv A outer s H vs Q E hr h => ?_), b⟩
  · obtain ⟨_, _, _, _, rfl, _⟩ := h
    rfl
  · obtain ⟨bk, B, bb, t, rfl, N, few, fc, tin, okc, k⟩ := h
    obtain ⟨dx, ho⟩ := N.obj
    refine ⟨_, (pss_cons (ps_set (i := 3) sc_prevotes.nd rfl (Or.inl rfl) (pe_call G_votes_by_turn (hr.mono (by decide)) rfl T.d_votes_by_turn.g T.d_votes_by_turn.kp b_votes_by_turn .nil pass0 (pa_cons (pe_meth0 (pv 0) T.cl_Book T.me_Book_letters G_Book_letters (hr.mono (by decide)) b_Book_letters .nil pass0) (pa_cons pe_str (pa_cons (pe_fld (pv 0) rfl) (pa_cons (pv 1) pa_nil))))))
      (pss_cons (ps_set (i := 4) sc_prevotes.nd rfl (Or.inr rfl) (pe_lc (own := [("found", 11), ("of", 12)]) (g := (gTup K 2 (gCons (gName 11) (gCons (gName 12) gNil)))) rfl sc_prevotes.nd (pi_list (pe_fld (pv 0) rfl)) (blkOk_by (own := [("found", 11), ("of", 12)]) (N := sc_prevotes_N) (sc := defScope s_prevotes) (by decide +kernel)) (fun _ _ _ _ _ => (pg_tup rfl (pgs_cons (pg_name (i := 11) sc_prevotes.nd rfl (Or.inl rfl)) (pgs_cons (pg_name (i := 12) sc_prevotes.nd rfl (Or.inl rfl)) pgs_nil)))) (fun _ _ _ _ _ => (pts_one (pt_cmpR op_eq (pv 12) (pv 1) (nomark _)))) (fun _ _ _ _ _ => (pv 11))))
      (pss_cons (ps_set (i := 5) sc_prevotes.nd rfl (Or.inl rfl) (pe_lst pa_nil))
      (pss_cons (ps_set (i := 6) sc_prevotes.nd rfl (Or.inl rfl) (pe_lst (pa_cons (pv 2) pa_nil)))
      (pss_cons (ps_while PassesOwn.never (pt_cmpR op_gt (pe_callB call_len_seq (by rfl) T.n_len PySem.boot_len (pa_cons (pv 6) pa_nil)) pe_int (nomark _))
      (pss_cons (ps_set (i := 7) sc_prevotes.nd rfl (Or.inr rfl) (pe_callB (cr_max rfl) (by rfl) T.n_max (by decide +kernel) (pa_cons (pv 6) pa_nil)))
        (pss_cons (ps_setLc (i := 8) (own := [("letter", 13)]) (g := (gName 13)) rfl sc_prevotes.nd rfl rfl (sw_true rfl rfl rfl (by decide +kernel)) (pi_list (pe_dget (hu_of hr) (pv 3) (pv 7) (fun _ _ => rfl))) (blkOk_by (own := [("letter", 13)]) (N := sc_prevotes_N) (sc := defScope s_prevotes) (by decide +kernel)) (fun _ _ _ _ _ => (pg_name (i := 13) sc_prevotes.nd rfl (Or.inl rfl))) (fun _ _ _ _ _ => (pts_one (pt_val (pe_call G_counts (hr.mono (by decide)) rfl T.d_counts.g T.d_counts.kp b_counts .nil pass0 (pa_cons (pe_ix (r := rIxT K) ix_tup (pv 13) pe_int (fun _ _ => rfl)) (pa_cons (pv 4) pa_nil)))))) (fun _ _ _ _ _ => (pv 13)))
        (pss_cons (ps_set (i := 9) sc_prevotes.nd rfl (Or.inl rfl) (pe_call G_until_quorum (hr.mono (by decide)) rfl T.d_until_quorum.g T.d_until_quorum.kp b_until_quorum .nil pass0 (pa_cons (pe_fld (pv 0) rfl) (pa_cons (pv 8) pa_nil))))
        (pss_cons (ps_setLc (i := 10) (own := [("letter", 13)]) (g := (gName 13)) rfl sc_prevotes.nd rfl rfl (sw_true rfl rfl rfl (by decide +kernel)) (pi_list (pv 9)) (blkOk_by (own := [("letter", 13)]) (N := sc_prevotes_N) (sc := defScope s_prevotes) (by decide +kernel)) (fun _ _ _ _ _ => (pg_name (i := 13) sc_prevotes.nd rfl (Or.inl rfl))) (fun _ _ _ _ _ => (pts_one (pt_cmpR op_notN (pe_ix (r := rIxT K) ix_tup (pe_ix (r := rIxT K) ix_tup (pv 13) pe_int (fun _ _ => rfl)) (pe_glob (v := (.int 4)) rfl T.c_LEAN.choose_spec ⟨_, rfl⟩) (fun _ _ => rfl)) pe_non (nomark _)))) (fun _ _ _ _ _ => (pe_ix (r := rIxT K) ix_tup (pe_ix (r := rIxT K) ix_tup (pv 13) pe_int (fun _ _ => rfl)) (pe_glob (v := (.int 4)) rfl T.c_LEAN.choose_spec ⟨_, rfl⟩) (fun _ _ => rfl))))
        (pss_cons (ps_set (i := 6) sc_prevotes.nd rfl (Or.inl rfl) (pe_op op_cat (pe_lc (own := [("earlier", 14)]) (g := (gName 14)) rfl sc_prevotes.nd (pi_list (pv 6)) (blkOk_by (own := [("earlier", 14)]) (N := sc_prevotes_N) (sc := defScope s_prevotes) (by decide +kernel)) (fun _ _ _ _ _ => (pg_name (i := 14) sc_prevotes.nd rfl (Or.inl rfl))) (fun _ _ _ _ _ => (pts_one (pt_cmpR op_ne (pv 14) (pv 7) (nomark _)))) (fun _ _ _ _ _ => (pv 14))) (pv 10)))
        (pss_one (ps_set (i := 5) sc_prevotes.nd rfl (Or.inl rfl) (pe_op op_cat (pv 5) (pv 9))))))))))
      (pss_one (ps_ret (pv 5)))))))), ?_⟩
    walk_at "rs"
    refine ⟨bk, dx, _, rfl, ho, bfs_no _ _ _ _ _ _ (by decide +kernel) (by decide +kernel) (by decide +kernel) (by decide +kernel) (by decide +kernel) (by decide +kernel), ?_⟩
    walk_at "rs"
    refine ⟨bk, B, rfl, N, fun pl H1 s1 hpl hl1 => ?_⟩
    walk_at "rs"
    refine ⟨bk, _, dx, _, .int B.h, rfl, s1 _ _ ho, T.cl_Book, T.a_Book_height, bfs_h _ _ _ _ _ _, ?_⟩
    walk_at "rs"
    refine ⟨pl, B.ps, B.xs, .pre, B.h, some bb, rfl, hl1, N.kept.ls.same s1, by omega, fun Dv ks H2 s2 hv => ?_⟩
    have s02 := s1.trans s2
    walk_at "rs"
    refine ⟨bk, _, dx, _, .ref B.Lc, rfl, s02 _ _ ho, T.cl_Book, T.a_Book_certificates, bfs_ce _ _ _ _ _ _, ?_⟩
    walk_at "rs"
    have lc2 := s02 _ _ N.lc
    have pc2 := N.pc.same s02
    have n1 := N.pc.1
    refine ⟨⟨_, SqL.of lc2⟩, fun Dc hDc => ?_⟩
    refine lc_list (K := K) (a := B.Lc) (xs := B.qc.map V.ref) (fun i H3 => Same H2 H3 ∧ H3 Dc = some (.lst ((forB (B.cs.take i) (some bb)).map V.int))) ⟨same_new hDc, upd_same⟩ (fun i H3 _ ⟨s3, _⟩ => SqL.of (s3 _ _ lc2)) ?_ ?_
    · rintro i y H3 hy ⟨s3, hd⟩
      have hi : i < B.qc.length := by
        have e := (List.getElem?_eq_some_iff.mp hy).1
        rwa [List.length_map] at e
      rw [at_refs hi] at hy
      cases hy
      have hi' : i < B.cs.length := by omega
      have hp := s3 _ _ (pc2.2 i hi')
      have et := take_succ_getD (d := default) hi'
      have bl : (forB (B.cs.take i) (some bb)).length ≤ i := by
        unfold forB
        rw [List.length_map]
        have := List.length_filter_le (fun q : Pr => decide (q.2 = some bb)) (B.cs.take i)
        rw [List.length_take] at this
        omega
      have no : decide ((B.cs.getD i default).2 = some bb) = false → forB (B.cs.take (i + 1)) (some bb) = forB (B.cs.take i) (some bb) := fun c => by
        unfold forB
        rw [et, List.filter_append, List.filter_cons_of_neg (p := fun q : Pr => decide (q.2 = some bb)) (by rw [c]; exact Bool.false_ne_true)]
        simp
      have yes : decide ((B.cs.getD i default).2 = some bb) = true → forB (B.cs.take (i + 1)) (some bb) = forB (B.cs.take i) (some bb) ++ [(B.cs.getD i default).1] := fun c => by
        unfold forB
        rw [et, List.filter_append, List.filter_cons_of_pos (p := fun q : Pr => decide (q.2 = some bb)) c]
        simp
      refine ⟨_, _, rfl, SqT.of hp, rfl, _, _, rfl, _, _, rfl, rfl, ?_⟩
      walk_at "rs"
      refine ⟨scal_oS _ (some bb), ?_⟩
      walk_at "rs"
      rw [show decide (oS (B.cs.getD i default).2 = V.str bb) = decide ((B.cs.getD i default).2 = some bb) from dec_oS _ (some bb)]
      refine ite2 (fun c1 => ?_) (fun c1 => ?_)
      · walk_at "rs"
        refine ⟨_, hd, by rw [List.length_map, sizeLine_eq]; omega, same_upd s3 hDc, ?_⟩
        rw [upd_same, yes c1]
        simp
      · refine ⟨s3, ?_⟩
        rw [no (Bool.eq_false_iff.mpr c1)]
        exact hd
    · rintro H3 ⟨s3, hdc⟩
      rw [List.length_map, n1, List.take_length] at hdc
      have s03 := s02.trans s3
      have hv3 := hv.same s3
      walk_at "rs"
      refine ⟨(by show 0 ≤ sizeLine; decide), fun p1 hp1 => ?_⟩
      have s4 : Same H3 (upd H3 p1 (.lst [])) := same_new hp1
      have h4 : (upd H3 p1 (.lst [])) p1 = some (.lst (([] : List Addr).map V.ref)) := upd_same
      generalize upd H3 p1 (.lst []) = H4 at s4 h4 ⊢
      walk_at "rs"
      refine ⟨(by show 1 ≤ sizeLine; decide), fun p2 hp2 => ?_⟩
      have s5 : Same H4 (upd H4 p2 (.lst [V.int t])) := same_new hp2
      have h5 : (upd H4 p2 (.lst [V.int t])) p2 = some (.lst (([t] : List Int).map V.int)) := upd_same
      generalize upd H4 p2 (.lst [V.int t]) = H5 at s5 h5 ⊢
      have hD1 : H p1 = none := by
        cases e : H p1 with
        | none => rfl
        | some o => rw [s03 _ _ e] at hp1; cases hp1
      have tL := okc t tin
      obtain ⟨t0, t60, _⟩ := okc t tin
      have lL : ∀ u ∈ forB B.cs (some bb), 0 ≤ u ∧ u < 60 := fun u hu => ⟨(okc u hu).1, (okc u hu).2.1⟩
      have hk0 := N.kept.ls
      have n0 := hk0.1
      have s05 := (s03.trans s4).trans s5
      have hv5 := (hv3.same s4).same s5
      have hdc5 := s5 _ _ (s4 _ _ hdc)
      have hp1' := s5 _ _ h4
      generalize eL : forB B.cs (some bb) = L at tin okc lL hdc5 k
      walk_at "rs"
      refine ⟨fun n σ H6 => ∃ (pt pw : Addr) (v7 v8 v9 v10 : Option V) (rs : List Addr) (taken : List Lt) (wait wanted : List Int), σ = [some (.ref bk), some (.str bb), some (.int t), some (.ref Dv), some (.ref Dc), some (.ref pt), some (.ref pw), v7, v8, v9, v10, none, none, none, none] ∧ Same H5 H6 ∧ H pt = none ∧ H6 pt = some (.lst (rs.map V.ref)) ∧ LsAt H6 rs taken ∧ H6 pw = some (.lst (wait.map V.int)) ∧
        (∀ u ∈ wait, u ∈ L ∧ u < (n : Int)) ∧ (∀ u : Nat, u < n → ((u : Int) ∈ wanted ↔ (u : Int) ∈ wait)) ∧ downP (qT B.ws B.xs B.h (some bb) L) n taken wanted = prevM B.ws B.xs B.h (some bb) L t ∧ taken.length + 100 * n ≤ 6100 ∧ wait.length + 100 * n ≤ 6101,
        ⟨t.toNat + 1, p1, p2, _, _, _, _, [], [], [t], [t], rfl, Same.refl H5, hD1, hp1', LsAt.nil, h5, fun u hu => ?_, fun u _ => Iff.rfl, rfl, ?_, ?_⟩, ?_⟩
      · rw [List.mem_singleton.mp hu]
        exact ⟨tin, by omega⟩
      · show 0 + _ ≤ _
        omega
      · show 1 + _ ≤ _
        omega
      rintro n σ H6 ⟨pt, pw, v7, v8, v9, v10, rs, taken, wait, wanted, rfl, s6, hDt, hpt, hT, hpw, hw, hwt, hdown, lt, lw⟩
      have nT := hT.1
      walk_at "rs"
      refine ⟨pw, _, rfl, .inl (SqL.of hpw), ?_⟩
      walk_at "rs"
      refine ite2 (fun c1 => ?_) (fun c1 => ?_)
      · have pos : 0 < wait.length := by
          have : (0 : Int) < ((wait.map V.int).length : Int) := by simpa using c1
          rw [List.length_map] at this
          omega
        refine ⟨_, fun _ _ h => h, ?_⟩
        walk_at "rs"
        refine ⟨pw, wait, rfl, SqL.of hpw, pos, fun m hm mx => ?_⟩
        obtain ⟨hmL, hmn⟩ := hw m hm
        obtain ⟨m0, m60, xm, hxm, ixm⟩ := okc m hmL
        obtain ⟨mn, rfl⟩ : ∃ mn : Nat, m = (mn : Int) := ⟨m.toNat, by omega⟩
        have hin : (mn : Int) ∈ ks.map (·.1) := (hv5.ky _).mpr ⟨xm, hxm, ixm⟩
        obtain ⟨lt2, hm2, e2⟩ := val_vb hin
        obtain ⟨qs, hl2, hls⟩ := hv5.ls _ hm2
        have hl6 := s6 _ _ hl2
        have hls6 := hls.same s6
        have nq := hls6.1
        have fq := List.length_filter_le (inT .pre B.h (some bb) (mn : Int)) B.xs
        have fP : ∀ y ∈ B.xs.filter (inT .pre B.h (some bb) (mn : Int)), y.m.k = .pre ∧ y.m.t = (mn : Int) := fun y hy => by
          have h := (List.mem_filter.mp hy).2
          have h2 := inT_t h
          unfold inT selV at h
          rw [Bool.and_eq_true_iff, decide_eq_true_iff] at h
          exact ⟨h.1.2.1, h2.symm⟩
        generalize hP : B.xs.filter (inT .pre B.h (some bb) (mn : Int)) = PV at hls6 nq fq fP
        walk_at "rs"
        refine ⟨Dv, .ref lt2, rfl, by rw [← e2]; exact DGet.k (k := Sum.inl (mn : Int)) (s6 _ _ hv5.here), ?_⟩
        walk_at "rs"
        refine ⟨⟨_, SqL.of hl6⟩, fun Dn hDn => ?_⟩
        refine lc_list (K := K) (a := lt2) (xs := qs.map V.ref) (fun i H7 => Same H6 H7 ∧ ∃ us, H7 Dn = some (.lst (us.map V.ref)) ∧ LsAt H7 us ((PV.take i).filter fun x => cntL x.m L)) ⟨same_new hDn, [], upd_same, LsAt.nil⟩ (fun i H7 _ ⟨s7, _⟩ => SqL.of (s7 _ _ hl6)) ?_ ?_
        · rintro i y H7 hy ⟨s7, us, hd7, hu7⟩
          have hi : i < qs.length := by
            have e := (List.getElem?_eq_some_iff.mp hy).1
            rwa [List.length_map] at e
          rw [at_refs hi] at hy
          cases hy
          have hi' : i < PV.length := by
            show i < PV.length
            omega
          have hlt := (hls6.2 i hi').same s7
          have et := take_succ_getD (d := default) hi'
          have kx := fP _ (getD_mem2 (d := default) hi')
          generalize PV.getD i default = x at hlt et kx
          obtain ⟨q, hp7, hq7⟩ := id hlt
          have un := hu7.1
          have ul := List.length_filter_le (fun x => cntL x.m L) (PV.take i)
          rw [List.length_take] at ul
          refine ⟨rfl, ?_⟩
          walk_at "rs"
          refine ⟨_, _, _, _, rfl, rfl, SqT.of hp7, rfl, ?_⟩
          walk_at "rs"
          refine ⟨q, Dc, x.m, L, rfl, hq7, kx.1, s7 _ _ (s6 _ _ hdc5), fun H8 s8 => ?_⟩
          walk_at "rs"
          refine ite2 (fun c2 => ?_) (fun c2 => ?_)
          · walk_at "rs"
            refine ⟨_, s8 _ _ hd7, by rw [List.length_map]; exact small1000 (by omega), same_upd (s7.trans s8) hDn, us ++ [qs.getD i 0], by rw [upd_same]; simp, ?_⟩
            rw [et, List.filter_append, List.filter_cons_of_pos (p := fun x : Lt => cntL x.m L) c2]
            exact ((hu7.same s8).snoc (hlt.same s8)).updM fun ys z => by rw [s8 _ _ hd7] at z; cases z
          · refine ⟨s7.trans s8, us, s8 _ _ hd7, ?_⟩
            rw [et, List.filter_append, List.filter_cons_of_neg (p := fun x : Lt => cntL x.m L) c2, List.filter_nil, List.append_nil]
            exact hu7.same s8
        · rintro H7 ⟨s7, us, hd7, hu7⟩
          have eP : (qs.map V.ref).length = PV.length := by rw [List.length_map, nq]
          rw [eP, List.take_length] at hu7
          have s57 := s6.trans s7
          have hC := N.com.same (s05.trans s57)
          have cl := List.length_filter_le (fun x => cntL x.m L) PV
          walk_at "rs"
          refine ⟨bk, _, dx, _, .ref B.c, rfl, (s05.trans s57) _ _ ho, T.cl_Book, T.a_Book_committee, bfs_co _ _ _ _ _ _, ?_⟩
          walk_at "rs"
          refine ⟨B.c, Dn, B.ws, us, _, rfl, hC, N.gw, hd7, hu7, by omega, fun Dq rq H8 s8 _ hd8 hq8 => ?_⟩
          have eq8 : uq B.ws (PV.filter fun x => cntL x.m L) = qT B.ws B.xs B.h (some bb) L (mn : Int) := by
            unfold qT
            rw [hP]
          have fQ : ∀ y ∈ uq B.ws (PV.filter fun x => cntL x.m L), y.m.k = .pre ∧ y.m.t = (mn : Int) ∧ cntL y.m L = true := fun y hy => by
            have := List.mem_filter.mp (uq_mem hy)
            exact ⟨(fP y this.1).1, (fP y this.1).2, this.2⟩
          have ql := uq_len B.ws _ (PV.filter fun x => cntL x.m L) rfl
          rw [eq8] at hq8 fQ ql
          have lq8 := hq8.1
          generalize hQ : qT B.ws B.xs B.h (some bb) L (mn : Int) = Qm at hq8 fQ ql lq8
          walk_at "rs"
          refine ⟨⟨_, SqL.of hd8⟩, fun Dl hDl => ?_⟩
          refine lc_list (K := K) (a := Dq) (xs := rq.map V.ref) (fun i H9 => Same H8 H9 ∧ H9 Dl = some (.lst ((leansOf (Qm.take i)).map V.int))) ⟨same_new hDl, upd_same⟩ (fun i H9 _ ⟨s9, _⟩ => SqL.of (s9 _ _ hd8)) ?_ ?_
          · rintro i y H9 hy ⟨s9, hd9⟩
            have hi : i < rq.length := by
              have e := (List.getElem?_eq_some_iff.mp hy).1
              rwa [List.length_map] at e
            rw [at_refs hi] at hy
            cases hy
            have hi' : i < Qm.length := by omega
            have hlt := (hq8.2 i hi').same s9
            have et := take_succ_getD (d := default) hi'
            have kx := fQ _ (getD_mem2 (d := default) hi')
            have ll : (leansOf (Qm.take i)).length ≤ i := by
              unfold leansOf
              have := List.length_filterMap_le (fun x : Lt => x.m.l) (Qm.take i)
              rw [List.length_take] at this
              omega
            generalize Qm.getD i default = x at hlt et kx
            obtain ⟨q, hp9, hq9⟩ := id hlt
            have hq9' : H9 q = some (.tup x.m.vals) := hq9
            have kx1 := kx.1
            refine ⟨rfl, ?_⟩
            walk_at "rs"
            refine ⟨_, _, _, _, rfl, rfl, SqT.of hp9, rfl, ?_⟩
            walk_at "rs"
            refine ite2 (fun c2 => ?_) (fun c2 => ?_)
            · obtain ⟨l0, hl0⟩ : ∃ l0, x.m.l = some l0 := by
                cases hl0 : x.m.l with
                | some l0 => exact ⟨l0, rfl⟩
                | none =>
                  rw [hl0] at c2
                  simp [oI] at c2
              walk_at "rs"
              refine ⟨_, _, _, _, rfl, rfl, SqT.of hp9, rfl, ?_⟩
              walk_at "rs"
              refine ⟨_, hd9, by rw [List.length_map]; exact small1000 (by omega), same_upd s9 hDl, ?_⟩
              rw [upd_same, et]
              unfold leansOf
              rw [List.filterMap_append, List.filterMap_cons_some (by exact hl0), hl0]
              simp [oI]
            · have hl0 : x.m.l = none := by
                cases hl0 : x.m.l with
                | none => rfl
                | some l0 =>
                  exfalso
                  apply c2
                  rw [hl0]
                  simp [oI]
              refine ⟨s9, ?_⟩
              rw [et]
              unfold leansOf
              rw [List.filterMap_append, List.filterMap_cons_none (by exact hl0), List.filterMap_nil, List.append_nil]
              exact hd9
          · rintro H9 ⟨s9, hd9⟩
            have eQ : (rq.map V.ref).length = Qm.length := by rw [List.length_map, lq8]
            rw [eQ, List.take_length] at hd9
            have s69 := (s7.trans s8).trans s9
            have hpw9 := s69 _ _ hpw
            walk_at "rs"
            refine ⟨⟨_, SqL.of hpw9⟩, fun De hDe => ?_⟩
            refine lc_list (K := K) (a := pw) (xs := wait.map V.int) (fun i HA => Same H9 HA ∧ HA De = some (.lst (((wait.take i).filter fun u => decide (u ≠ (mn : Int))).map V.int))) ⟨same_new hDe, upd_same⟩ (fun i HA _ ⟨sA, _⟩ => SqL.of (sA _ _ hpw9)) ?_ ?_
            · rintro i y HA hy ⟨sA, hdA⟩
              have hi : i < wait.length := by
                have e := (List.getElem?_eq_some_iff.mp hy).1
                rwa [List.length_map] at e
              rw [at_ints hi] at hy
              cases hy
              have et := take_succ_getD (d := (0 : Int)) hi
              have fl := List.length_filter_le (fun u => decide (u ≠ (mn : Int))) (wait.take i)
              rw [List.length_take] at fl
              refine ⟨rfl, ?_⟩
              walk_at "rs"
              refine ite2 (fun c2 => ?_) (fun c2 => ?_)
              · have c2 : wait.getD i 0 ≠ (mn : Int) := by simpa using c2
                walk_at "rs"
                refine ⟨_, hdA, by rw [List.length_map, sizeLine_eq]; omega, same_upd sA hDe, ?_⟩
                rw [upd_same, et, List.filter_append, List.filter_cons_of_pos (p := fun u => decide (u ≠ (mn : Int))) (decide_eq_true c2)]
                simp
              · have c2 : ¬ wait.getD i 0 ≠ (mn : Int) := by simpa using c2
                refine ⟨sA, ?_⟩
                rw [et, List.filter_append, List.filter_cons_of_neg (p := fun u => decide (u ≠ (mn : Int))) (by simpa using c2), List.filter_nil, List.append_nil]
                exact hdA
            · rintro HA ⟨sA, hdA⟩
              rw [List.length_map, List.take_length] at hdA
              have fl := List.length_filter_le (fun u => decide (u ≠ (mn : Int))) wait
              have ll : (leansOf Qm).length ≤ Qm.length := List.length_filterMap_le _ _
              walk_at "rs"
              refine ⟨De, Dl, _, _, rfl, rfl, hdA, sA _ _ hd9, by rw [List.length_map, List.length_map, sizeLine_eq]; omega, fun pw2 hpw2 => ?_⟩
              have sB := same_new (o := .lst (((wait.filter fun u => decide (u ≠ (mn : Int))).map V.int) ++ (leansOf Qm).map V.int)) hpw2
              have hpwB := (upd_same : (upd HA pw2 (.lst (((wait.filter fun u => decide (u ≠ (mn : Int))).map V.int) ++ (leansOf Qm).map V.int))) pw2 = _)
              generalize upd HA pw2 (.lst (((wait.filter fun u => decide (u ≠ (mn : Int))).map V.int) ++ (leansOf Qm).map V.int)) = HB at sB hpwB ⊢
              have s6B := (s69.trans sA).trans sB
              have s8B := (s9.trans sA).trans sB
              walk_at "rs"
              refine ⟨pt, Dq, _, _, rfl, rfl, s6B _ _ hpt, s8B _ _ hd8, by rw [List.length_map, List.length_map, sizeLine_eq]; omega, fun pt2 hpt2 => ?_⟩
              have sC := same_new (o := .lst (rs.map V.ref ++ rq.map V.ref)) hpt2
              have hptC := (upd_same : (upd HB pt2 (.lst (rs.map V.ref ++ rq.map V.ref))) pt2 = _)
              have hDt2 : H pt2 = none := by
                cases e : H pt2 with
                | none => rfl
                | some o => rw [s6B _ _ (s6 _ _ (s05 _ _ e))] at hpt2; cases hpt2
              generalize upd HB pt2 (.lst (rs.map V.ref ++ rq.map V.ref)) = HC at sC hptC ⊢
              have below : ∀ u ∈ (wait.filter fun u => decide (u ≠ (mn : Int))) ++ leansOf Qm, u ∈ L ∧ u < (mn : Int) := fun u hu => by
                rcases List.mem_append.mp hu with hu | hu
                · obtain ⟨h1, h2⟩ := List.mem_filter.mp hu
                  have h2 := of_decide_eq_true h2
                  have := mx u h1
                  exact ⟨(hw u h1).1, by omega⟩
                · obtain ⟨y, hy, hl0⟩ := List.mem_filterMap.mp hu
                  obtain ⟨_, h2, h3⟩ := fQ y hy
                  unfold cntL at h3
                  rw [hl0] at h3
                  have h3 : (decide (u < y.m.t) && decide (u ∈ L)) = true := h3
                  rw [Bool.and_eq_true_iff, decide_eq_true_iff, decide_eq_true_iff] at h3
                  exact ⟨h3.2, by rw [← h2]; exact h3.1⟩
              refine ⟨mn, by omega, pt2, pw2, _, _, _, _, rs ++ rq, taken ++ Qm, (wait.filter fun u => decide (u ≠ (mn : Int))) ++ leansOf Qm, wanted ++ leansOf Qm, rfl, s6.trans (s6B.trans sC), hDt2, by rw [hptC, List.map_append], ((hT.same s6B).same sC).append ((hq8.same s8B).same sC), by rw [sC _ _ hpwB, List.map_append], below, fun u hu => ?_, ?_, ?_, ?_⟩
              · rw [List.mem_append, List.mem_append, hwt u (by omega), List.mem_filter]
                have : (u : Int) ≠ (mn : Int) := by omega
                simp [this]
              · rw [← hdown, ← hQ]
                obtain ⟨k2, ek⟩ : ∃ k2, n = mn + 1 + k2 := ⟨n - (mn + 1), by omega⟩
                have skip : downP (qT B.ws B.xs B.h (some bb) L) n taken wanted = downP (qT B.ws B.xs B.h (some bb) L) (mn + 1) taken wanted := by
                  rw [ek]
                  exact downP_skip k2 fun u h1 h2 hmem => by
                    have := mx _ ((hwt u (by omega)).mp hmem)
                    omega
                rw [skip, downP, if_pos ((hwt mn (by omega)).mpr hm)]
              · rw [List.length_append]
                omega
              · rw [List.length_append]
                omega
      · have em : wait = [] := by
          cases wait with
          | nil => rfl
          | cons u us =>
            exfalso
            apply c1
            simp
        subst em
        have e2 : taken = prevM B.ws B.xs B.h (some bb) L t := by
          rw [← hdown]
          obtain ⟨k2, ek⟩ : ∃ k2, n = 0 + k2 := ⟨n, by omega⟩
          rw [ek, downP_skip (n := 0) k2 fun u _ h2 hmem => by
            have := (hwt u (by omega)).mp hmem
            cases this]
          rfl
        rw [e2] at hT
        walk_at "rs"
        exact k pt rs H6 (s05.trans s6) hDt hpt hT

theorem ok_shown_turn (T : Txt K mg a) : ∃ fd, FnOk P w K mg base CX0 5 a.d_shown_turn fd ["committee", "height", "block", "letters"] (spShown K a.C_Committee) ∧ Binds K fd ["committee", "height", "block", "letters"] [] := by
  obtain ⟨fd, F, b⟩ := T.d_shown_turn.F
  obtain ⟨fd_committed_turns, G_committed_turns, b_committed_turns⟩ := ok_committed_turns (P := P) (w := w) (base := base) T
  refine ⟨fd, F.ok sc_shown_turn (fun vs H Q E h => ?_) (fun cdv A outer s H vs Q E hr h => ?_), b⟩
  · obtain ⟨_, _, _, _, _, _, _, rfl, _⟩ := h
    rfl
  · obtain ⟨c, l, ws, ps, xs, h, b, rfl, hc, gw, hl, hx, few, tb, k⟩ := h
    refine ⟨_, (pss_one (ps_ret (pe_callBK (cr_mind rfl) (by rfl) T.n_min (by decide +kernel) (pa_cons (pe_call G_committed_turns (hr.mono (by decide)) rfl T.d_committed_turns.g T.d_committed_turns.kp b_committed_turns .nil pass0 (pa_cons (pv 0) (pa_cons (pv 3) (pa_cons (pv 1) (pa_cons (pv 2) pa_nil))))) pa_nil) (pk_cons pe_non pk_nil)))), ?_⟩
    walk_at "rs"
    refine ⟨c, l, ws, ps, xs, h, b, rfl, hc, gw, hl, hx, few, tb, fun R H1 s1 hR hR1 => ?_⟩
    walk_at "rs"
    refine ⟨R, _, _, rfl, rfl, SqL.of hR1, fun e => ?_, fun m hm lo => ?_⟩
    · exact k _ H1 s1 (fun _ => rfl) (fun z => absurd e z)
    · refine k _ H1 s1 (fun e => ?_) (fun _ => ⟨m, hm, lo, rfl⟩)
      rw [e] at hm
      cases hm
theorem ok_shows (T : Txt K mg a) : ∃ fd, FnOk P w K mg base CX0 6 a.d_shows fd ["committee", "height", "block", "letters"] (spShows K a.C_Committee) ∧ Binds K fd ["committee", "height", "block", "letters"] [] := by
  obtain ⟨fd, F, b⟩ := T.d_shows.F
  obtain ⟨fd_shown_turn, G_shown_turn, b_shown_turn⟩ := ok_shown_turn (P := P) (w := w) (base := base) T
  refine ⟨fd, F.ok sc_shows (fun vs H Q E h => ?_) (fun cdv A outer s H vs Q E hr h => ?_), b⟩
  · obtain ⟨_, _, _, _, _, _, _, rfl, _⟩ := h
    rfl
  · obtain ⟨c, l, ws, ps, xs, h, b, rfl, hc, gw, hl, hx, few, tb, k⟩ := h
    refine ⟨_, (pss_one (ps_ret (pe_cmpR op_notN (pe_call G_shown_turn (hr.mono (by decide)) rfl T.d_shown_turn.g T.d_shown_turn.kp b_shown_turn .nil pass0 (pa_cons (pv 0) (pa_cons (pv 1) (pa_cons (pv 2) (pa_cons (pv 3) pa_nil))))) pe_non (nomark _)))), ?_⟩
    walk_at "rs"
    refine ⟨c, l, ws, ps, xs, h, b, rfl, hc, gw, hl, hx, few, tb, fun v H1 s1 e0 e1 => ?_⟩
    have k1 := k H1 s1
    unfold shM at k1
    cases q : cmL ws xs h b with
    | nil =>
      rw [e0 q]
      rw [q] at k1
      walk_at "rs"
      exact k1
    | cons y ys =>
      obtain ⟨m, _, _, rfl⟩ := e1 (by rw [q]; exact fun z => nomatch z)
      rw [q] at k1
      walk_at "rs"
      exact k1

theorem ok_commit_paper (TE : TxtE K mg a) (T : Txt K mg a) : ∃ fd, FnOk P w K mg base (L2.CX P w) 5 a.d_commit_paper fd ["book", "block"] (spPaperX P w K a.C_Book a.C_Committee a.C_BadPaper) ∧ Binds K fd ["book", "block"] [] := by
  obtain ⟨fd, F, b⟩ := T.d_commit_paper.F
  obtain ⟨fd_votes_by_turn, G_votes_by_turn, b_votes_by_turn⟩ := ok_votes_by_turn (P := P) (w := w) (base := base) T
  obtain ⟨fd_Book_letters, G_Book_letters, b_Book_letters⟩ := ok_Book_letters (P := P) (w := w) (base := base) T
  obtain ⟨fd_until_quorum, G_until_quorum, b_until_quorum⟩ := ok_until_quorum (P := P) (w := w) (base := base) T
  obtain ⟨fd_prevotes, G_prevotes, b_prevotes⟩ := ok_prevotes (P := P) (w := w) (base := base) T
  refine ⟨fd, F.okX sc_commit_paper (fun vs H Q E h => ?_) (fun cdv A outer s H vs Q E hr h => ?_), b⟩
  · obtain ⟨_, _, _, rfl, _⟩ := h
    rfl
  · obtain ⟨bk, B, bb, rfl, N, few, fc, fm, okc, cmin, kn, k⟩ := h
    obtain ⟨dx, ho⟩ := N.obj
    refine ⟨_, (pss_cons (ps_setLc (i := 2) (own := [("found", 5), ("of", 6)]) (g := (gTup K 2 (gCons (gName 5) (gCons (gName 6) gNil)))) rfl sc_commit_paper.nd rfl rfl (sw_true rfl rfl rfl (by decide +kernel)) (pi_list (pe_fld (pv 0) rfl)) (blkOk_by (own := [("found", 5), ("of", 6)]) (N := sc_commit_paper_N) (sc := defScope s_commit_paper) (by decide +kernel)) (fun _ _ _ _ _ => (pg_tup rfl (pgs_cons (pg_name (i := 5) sc_commit_paper.nd rfl (Or.inl rfl)) (pgs_cons (pg_name (i := 6) sc_commit_paper.nd rfl (Or.inl rfl)) pgs_nil)))) (fun _ _ _ _ _ => (pts_one (pt_cmpR op_eq (pv 6) (pv 1) (nomark _)))) (fun _ _ _ _ _ => (pv 5)))
      (pss_cons (ps_if (pt_cmpR op_eq (pe_callB call_len_seq (by rfl) T.n_len PySem.boot_len (pa_cons (pv 2) pa_nil)) pe_int (nomark _))
      (pss_one (ps_raise rfl (takes_of rfl rfl rfl rfl) (pmk_own PySem.F.excBase_ValueError TE.x_BadPaper TE.g_BadPaper TE.kc_BadPaper (raises_own TE.b_BadPaper TE.t_BadPaper) rfl)))
      pss_nil)
      (pss_cons (ps_set (i := 3) sc_commit_paper.nd rfl (Or.inl rfl) (pe_callB (cr_min rfl) (by rfl) T.n_min (by decide +kernel) (pa_cons (pv 2) pa_nil)))
      (pss_cons (ps_set (i := 4) sc_commit_paper.nd rfl (Or.inl rfl) (pe_call G_votes_by_turn (hr.mono (by decide)) rfl T.d_votes_by_turn.g T.d_votes_by_turn.kp b_votes_by_turn .nil pass0 (pa_cons (pe_meth0 (pv 0) T.cl_Book T.me_Book_letters G_Book_letters (hr.mono (by decide)) b_Book_letters .nil pass0) (pa_cons pe_str (pa_cons (pe_fld (pv 0) rfl) (pa_cons (pv 1) pa_nil))))))
      (pss_one (ps_ret (pe_op op_cat (pe_call G_until_quorum (hr.mono (by decide)) rfl T.d_until_quorum.g T.d_until_quorum.kp b_until_quorum .nil pass0 (pa_cons (pe_fld (pv 0) rfl) (pa_cons (pe_dget (hu_of hr) (pv 4) (pv 3) (fun _ _ => rfl)) pa_nil))) (pe_call G_prevotes (hr.mono (by decide)) rfl T.d_prevotes.g T.d_prevotes.kp b_prevotes .nil pass0 (pa_cons (pv 0) (pa_cons (pv 1) (pa_cons (pv 3) pa_nil))))))))))), ?_⟩
    walk_at "rs"
    refine ⟨bk, _, dx, _, .ref B.Lm, rfl, ho, T.cl_Book, T.a_Book_commits, bfs_cm _ _ _ _ _ _, ?_⟩
    walk_at "rs"
    have z0 : Same H H := Same.refl H
    have lc2 := z0 _ _ N.lm
    have pc2 := N.pm.same z0
    have n1 := N.pm.1
    refine ⟨⟨_, SqL.of lc2⟩, fun Dc hDc => ?_⟩
    refine lc_list (K := K) (a := B.Lm) (xs := B.qm.map V.ref) (fun i H3 => Same H H3 ∧ H3 Dc = some (.lst ((forB (B.ms.take i) (some bb)).map V.int))) ⟨same_new hDc, upd_same⟩ (fun i H3 _ ⟨s3, _⟩ => SqL.of (s3 _ _ lc2)) ?_ ?_
    · rintro i y H3 hy ⟨s3, hd⟩
      have hi : i < B.qm.length := by
        have e := (List.getElem?_eq_some_iff.mp hy).1
        rwa [List.length_map] at e
      rw [at_refs hi] at hy
      cases hy
      have hi' : i < B.ms.length := by omega
      have hp := s3 _ _ (pc2.2 i hi')
      have et := take_succ_getD (d := default) hi'
      have bl : (forB (B.ms.take i) (some bb)).length ≤ i := by
        unfold forB
        rw [List.length_map]
        have := List.length_filter_le (fun q : Pr => decide (q.2 = some bb)) (B.ms.take i)
        rw [List.length_take] at this
        omega
      have no : decide ((B.ms.getD i default).2 = some bb) = false → forB (B.ms.take (i + 1)) (some bb) = forB (B.ms.take i) (some bb) := fun c => by
        unfold forB
        rw [et, List.filter_append, List.filter_cons_of_neg (p := fun q : Pr => decide (q.2 = some bb)) (by rw [c]; exact Bool.false_ne_true)]
        simp
      have yes : decide ((B.ms.getD i default).2 = some bb) = true → forB (B.ms.take (i + 1)) (some bb) = forB (B.ms.take i) (some bb) ++ [(B.ms.getD i default).1] := fun c => by
        unfold forB
        rw [et, List.filter_append, List.filter_cons_of_pos (p := fun q : Pr => decide (q.2 = some bb)) c]
        simp
      refine ⟨_, _, rfl, SqT.of hp, rfl, _, _, rfl, _, _, rfl, rfl, ?_⟩
      walk_at "rs"
      refine ⟨scal_oS _ (some bb), ?_⟩
      walk_at "rs"
      rw [show decide (oS (B.ms.getD i default).2 = V.str bb) = decide ((B.ms.getD i default).2 = some bb) from dec_oS _ (some bb)]
      refine ite2 (fun c1 => ?_) (fun c1 => ?_)
      · walk_at "rs"
        refine ⟨_, hd, by rw [List.length_map, sizeLine_eq]; omega, same_upd s3 hDc, ?_⟩
        rw [upd_same, yes c1]
        simp
      · refine ⟨s3, ?_⟩
        rw [no (Bool.eq_false_iff.mpr c1)]
        exact hd
    · rintro H3 ⟨s3, hdc⟩
      rw [List.length_map, n1, List.take_length] at hdc
      walk_at "rs"
      refine ⟨Dc, _, rfl, .inl (SqL.of hdc), ?_⟩
      walk_at "rs"
      refine ite2 (fun c1 => ?_) (fun c1 => ?_)
      · have e : forB B.ms (some bb) = [] := by
          simp at c1
          exact c1
        exact kn e H3 s3
      have ne : forB B.ms (some bb) ≠ [] := fun e => c1 (by rw [e]; rfl)
      have pos : 0 < (forB B.ms (some bb)).length := List.length_pos_iff.mpr ne
      walk_at "rs"
      refine ⟨Dc, _, rfl, SqL.of hdc, pos, fun t ht mn => ?_⟩
      have k := k t ht mn
      obtain ⟨tc, xm, hxm, ixm⟩ := cmin t ht
      walk_at "rs"
      refine ⟨bk, dx, _, rfl, s3 _ _ ho, bfs_no _ _ _ _ _ _ (by decide +kernel) (by decide +kernel) (by decide +kernel) (by decide +kernel) (by decide +kernel) (by decide +kernel), ?_⟩
      walk_at "rs"
      refine ⟨bk, B, rfl, N.same s3, fun pl H4 s4 hpl hl4 => ?_⟩
      have s04 := s3.trans s4
      walk_at "rs"
      refine ⟨bk, _, dx, _, .int B.h, rfl, s04 _ _ ho, T.cl_Book, T.a_Book_height, bfs_h _ _ _ _ _ _, ?_⟩
      walk_at "rs"
      refine ⟨pl, B.ps, B.xs, .com, B.h, some bb, rfl, hl4, N.kept.ls.same s04, by omega, fun Dv ks H5 s5 hv => ?_⟩
      have s05 := s04.trans s5
      have hin : t ∈ ks.map (·.1) := (hv.ky _).mpr ⟨xm, hxm, ixm⟩
      obtain ⟨lt2, hm2, e2⟩ := val_vb hin
      obtain ⟨qs, hl2, hls⟩ := hv.ls _ hm2
      have fq := List.length_filter_le (inT .com B.h (some bb) t) B.xs
      walk_at "rs"
      refine ⟨bk, _, dx, _, .ref B.c, rfl, s05 _ _ ho, T.cl_Book, T.a_Book_committee, bfs_co _ _ _ _ _ _, ?_⟩
      walk_at "rs"
      refine ⟨Dv, .ref lt2, rfl, by rw [← e2]; exact DGet.k (k := Sum.inl t) hv.here, ?_⟩
      walk_at "rs"
      refine ⟨B.c, lt2, B.ws, qs, _, rfl, N.com.same s05, N.gw, hl2, hls, by show (B.xs.filter (inT .com B.h (some bb) t)).length ≤ 900; omega, fun D1 r1 H6 s6 hD1 hd1 hr1 => ?_⟩
      have s06 := s05.trans s6
      walk_at "rs"
      refine ⟨bk, B, bb, t, rfl, N.same s06, few, fc, tc, okc, fun D2 r2 H7 s7 hD2 hd2 hr2 => ?_⟩
      have u1 := uq_len B.ws _ (B.xs.filter (inT .com B.h (some bb) t)) rfl
      have u2 := prevM_len B.ws B.xs B.h (some bb) (forB B.cs (some bb)) t (okc t tc).1 (okc t tc).2.1
      have hr1' : LsAt H6 r1 (uq B.ws (B.xs.filter (inT .com B.h (some bb) t))) := hr1
      have l1 := hr1'.1
      have l2 := hr2.1
      refine ⟨D1, D2, _, _, rfl, rfl, s7 _ _ hd1, hd2, by rw [List.length_map, List.length_map, sizeLine_eq]; omega, fun D hD => ?_⟩
      have s8 := same_new (o := .lst (r1.map V.ref ++ r2.map V.ref)) hD
      have s07 := s06.trans s7
      have hDH : H D = none := by
        cases e : H D with
        | none => rfl
        | some o => rw [s07 _ _ e] at hD; cases hD
      exact k D (r1 ++ r2) _ (s07.trans s8) hDH (by rw [upd_same, List.map_append]) (((hr1'.same s7).same s8).append (hr2.same s8))

/-! ### what is due in a book -/
theorem pos_w {ws : List Int} (g : GoodW ws) : ∀ k : Nat, 0 ≤ ws.getD k 0 := fun k => by
  rcases Nat.lt_or_ge k ws.length with h | h
  · have := (g.2.2 _ (getD_mem2 (d := (0 : Int)) h)).1
    omega
  · rw [List.getD_eq_getElem?_getD, List.getElem?_eq_none h]
    exact Int.le_refl _
theorem wOf_mono {ws ms ns : List Int} (pos : ∀ k : Nat, 0 ≤ ws.getD k 0) (h : ∀ k ∈ ms, k ∈ ns) : wOf ws ms ≤ wOf ws ns := by
  unfold wOf
  exact wt_mono ws _ _ pos _ fun k _ hf => decide_eq_true (h _ (of_decide_eq_true hf))
theorem qrm_mono {ws ms ns : List Int} (pos : ∀ k : Nat, 0 ≤ ws.getD k 0) (h : ∀ k ∈ ms, k ∈ ns) (q : qrm ws ms = true) : qrm ws ns = true := by
  have := wOf_mono pos h
  have d := of_decide_eq_true q
  exact decide_eq_true (by omega)
theorem qrm_nilW {ws : List Int} (g : GoodW ws) : qrm ws [] = false := by
  have p : ∀ (xs : List Int), (∀ w ∈ xs, 1 ≤ w ∧ w ≤ 1000000000000) → 0 ≤ xs.sum := fun xs => by
    induction xs with
    | nil => intro _; exact Int.le_refl _
    | cons x xs ih =>
      intro h
      have a := (h x List.mem_cons_self).1
      have b := ih fun w hw => h w (List.mem_cons_of_mem _ hw)
      rw [List.sum_cons]
      omega
  have s := p ws g.2.2
  have z : wOf ws [] = 0 := by
    unfold wOf
    have : ∀ n, wt ws (fun k => decide (k ∈ ([] : List Int))) n = 0 := fun n => by
      induction n with
      | zero => rfl
      | succ n ih =>
        rw [wt_succ, ih]
        simp
    exact this _
  unfold qrm
  rw [z]
  exact decide_eq_false (by omega)
theorem memM_mono {xs : List Lt} {x : Lt} {h t : Int} {b : Option Str} {L L' : List Int} (hl : ∀ l ∈ L, l ∈ L') : ∀ k ∈ memM xs h t b L, k ∈ memM (xs ++ [x]) h t b L' := fun k hk => by
  unfold memM at hk ⊢
  obtain ⟨y, hy, rfl⟩ := List.mem_map.mp hk
  rw [List.mem_filter] at hy
  refine List.mem_map.mpr ⟨y, List.mem_filter.mpr ⟨List.mem_append_left _ hy.1, ?_⟩, rfl⟩
  have c := hy.2
  unfold cnt at c ⊢
  rw [Bool.and_eq_true_iff] at c ⊢
  refine ⟨c.1, ?_⟩
  have c2 := c.2
  cases e : y.m.l with
  | none => rfl
  | some l =>
    rw [e] at c2
    simp only [Bool.and_eq_true_iff, decide_eq_true_iff] at c2 ⊢
    exact ⟨hl _ c2.1, c2.2⟩
theorem cert_mono {ws : List Int} {xs : List Lt} {x : Lt} {h : Int} {b : Option Str} (pos : ∀ k : Nat, 0 ≤ ws.getD k 0) : ∀ n, (∀ l ∈ lns ws xs h b n, l ∈ lns ws (xs ++ [x]) h b n) ∧ (certM ws xs h b n = true → certM ws (xs ++ [x]) h b n = true)
  | 0 => ⟨fun l hl => (nomatch hl), qrm_mono pos (memM_mono fun l hl => (nomatch hl))⟩
  | n + 1 => by
    obtain ⟨i1, i2⟩ := cert_mono (x := x) pos n
    have j1 : ∀ l ∈ lns ws xs h b (n + 1), l ∈ lns ws (xs ++ [x]) h b (n + 1) := fun l hl => by
      by_cases c : certM ws xs h b n = true
      · rw [lns_yes c] at hl
        rw [lns_yes (i2 c)]
        rcases List.mem_append.mp hl with hl | hl
        · exact List.mem_append_left _ (i1 l hl)
        · exact List.mem_append_right _ hl
      · rw [lns_no c] at hl
        by_cases c' : certM ws (xs ++ [x]) h b n = true
        · rw [lns_yes c']
          exact List.mem_append_left _ (i1 l hl)
        · rw [lns_no c']
          exact i1 l hl
    exact ⟨j1, qrm_mono pos (memM_mono j1)⟩
theorem comS_mono {xs : List Lt} {x : Lt} {h t : Int} {b : Option Str} : ∀ k ∈ comS xs h t b, k ∈ comS (xs ++ [x]) h t b := fun k hk => by
  unfold comS at hk ⊢
  rw [List.filter_append, List.map_append]
  exact List.mem_append_left _ hk
theorem commM_mono {ws : List Int} {xs : List Lt} {x : Lt} {h : Int} {b : Option Str} (pos : ∀ k : Nat, 0 ≤ ws.getD k 0) {n : Nat} (c : commM ws xs h b n = true) : commM ws (xs ++ [x]) h b n = true := by
  unfold commM at c ⊢
  rw [Bool.and_eq_true_iff] at c ⊢
  exact ⟨qrm_mono pos comS_mono c.1, (cert_mono pos n).2 c.2⟩
/-- only the letters for b tell of b -/
theorem memM_inB (xs : List Lt) (h t : Int) (b : Option Str) (L : List Int) : memM (inB b xs) h t b L = memM xs h t b L := by
  unfold memM inB
  rw [List.filter_filter]
  congr 1
  apply List.filter_congr
  intro x _
  unfold cnt
  by_cases c : x.m.b = b
  · simp [c]
  · simp [c]
theorem lns_inB (ws : List Int) (xs : List Lt) (h : Int) (b : Option Str) : ∀ n, lns ws (inB b xs) h b n = lns ws xs h b n
  | 0 => rfl
  | n + 1 => by
    have ih := lns_inB ws xs h b n
    unfold lns
    rw [ih, memM_inB]
theorem certM_inB (ws : List Int) (xs : List Lt) (h : Int) (b : Option Str) (n : Nat) : certM ws (inB b xs) h b n = certM ws xs h b n := by
  unfold certM
  rw [lns_inB, memM_inB]
theorem comS_inB (xs : List Lt) (h t : Int) (b : Option Str) : comS (inB b xs) h t b = comS xs h t b := by
  unfold comS inB
  rw [List.filter_filter]
  congr 1
  apply List.filter_congr
  intro x _
  by_cases c : x.m.b = b
  · simp [c]
  · simp [c]
theorem commM_inB (ws : List Int) (xs : List Lt) (h : Int) (b : Option Str) (n : Nat) : commM ws (inB b xs) h b n = commM ws xs h b n := by
  unfold commM
  rw [comS_inB, certM_inB]
theorem ctL_inB (ws : List Int) (xs : List Lt) (h : Int) (b : Option Str) : ctL ws (inB b xs) h b = ctL ws xs h b := by
  unfold ctL
  cases b with
  | none => rfl
  | some x => exact lns_inB ws xs h (some x) 60
theorem cmL_inB (ws : List Int) (xs : List Lt) (h : Int) (b : Option Str) : cmL ws (inB b xs) h b = cmL ws xs h b := by
  unfold cmL
  rw [ctL_inB]
  apply List.filter_congr
  intro t _
  rw [comS_inB]
theorem inB_other {b c : Option Str} {xs : List Lt} {x : Lt} (e : x.m.b = b) (ne : c ≠ b) : inB c (xs ++ [x]) = inB c xs := by
  rw [inB_snoc, if_neg fun z => ne (by rw [← z, e])]
theorem cert_other {ws : List Int} {xs : List Lt} {x : Lt} {h : Int} {c : Option Str} (ne : c ≠ x.m.b) (n : Nat) : certM ws (xs ++ [x]) h c n = certM ws xs h c n := by
  rw [← certM_inB, inB_other rfl ne, certM_inB]
theorem comm_other {ws : List Int} {xs : List Lt} {x : Lt} {h : Int} {c : Option Str} (ne : c ≠ x.m.b) (n : Nat) : commM ws (xs ++ [x]) h c n = commM ws xs h c n := by
  rw [← commM_inB, inB_other rfl ne, commM_inB]
theorem cert_late {ws : List Int} {xs : List Lt} {h : Int} {b : Option Str} {m : Nat} (g : GoodW ws) (tb : ∀ x ∈ xs, x.m.t < m) {n : Nat} (hn : m ≤ n) : certM ws xs h b n = false := by
  have : memM xs h n b (lns ws xs h b n) = [] := by
    unfold memM
    rw [List.filter_eq_nil_iff.mpr fun x hx c => ?_]
    · rfl
    · have t := tb x hx
      unfold cnt at c
      rw [Bool.and_eq_true_iff, decide_eq_true_iff] at c
      have := c.1.2.2.1
      omega
  unfold certM
  rw [this, qrm_nilW g]
theorem comm_late {ws : List Int} {xs : List Lt} {h : Int} {b : Option Str} {m : Nat} (g : GoodW ws) (tb : ∀ x ∈ xs, x.m.t < m) {n : Nat} (hn : m ≤ n) : commM ws xs h b n = false := by
  unfold commM
  rw [cert_late g tb hn, Bool.and_false]
/-- the turns below n with f, ascending -/
def LL (f : Option Str → Nat → Bool) (b : Option Str) (n : Nat) : List Int := ((List.range n).filter (f b)).map fun k : Nat => (k : Int)
theorem LL_succ (f : Option Str → Nat → Bool) (b : Option Str) (n : Nat) : LL f b (n + 1) = LL f b n ++ (if f b n then [(n : Int)] else []) := by
  unfold LL
  rw [List.range_succ, List.filter_append, List.map_append]
  cases h : f b n <;> simp [h]
theorem mem_LL {f : Option Str → Nat → Bool} {b : Option Str} {n : Nat} (t : Int) : t ∈ LL f b n ↔ ∃ k : Nat, t = k ∧ k < n ∧ f b k = true := by
  unfold LL
  rw [List.mem_map]
  constructor
  · rintro ⟨k, hk, rfl⟩
    rw [List.mem_filter, List.mem_range] at hk
    exact ⟨k, rfl, hk.1, hk.2⟩
  · rintro ⟨k, rfl, h1, h2⟩
    exact ⟨k, List.mem_filter.mpr ⟨List.mem_range.mpr h1, h2⟩, rfl⟩
theorem LL_asc (f : Option Str → Nat → Bool) (b : Option Str) : ∀ n, (LL f b n).Pairwise (· < ·)
  | 0 => .nil
  | n + 1 => by
    rw [LL_succ]
    refine List.pairwise_append.mpr ⟨LL_asc f b n, ?_, fun x hx y hy => ?_⟩
    · split
      · exact List.pairwise_singleton _ _
      · exact .nil
    · obtain ⟨k, rfl, h, _⟩ := (mem_LL x).mp hx
      split at hy
      · rw [List.mem_singleton.mp hy]
        omega
      · cases hy
theorem LL_late {f : Option Str → Nat → Bool} {b : Option Str} {m : Nat} (h : ∀ n, m ≤ n → f b n = false) : ∀ k, LL f b (m + k) = LL f b m
  | 0 => rfl
  | k + 1 => by
    rw [← Nat.add_assoc, LL_succ, h _ (by omega), LL_late h k]
    simp
theorem lns_LL (ws : List Int) (xs : List Lt) (h : Int) (b : Option Str) : ∀ n, lns ws xs h b n = LL (fun b k => certM ws xs h b k) b n
  | 0 => rfl
  | n + 1 => by
    rw [LL_succ, ← lns_LL ws xs h b n]
    by_cases c : certM ws xs h b n = true
    · rw [lns_yes c, c]
      rfl
    · rw [lns_no c, Bool.eq_false_iff.mpr c]
      simp
/-- the list of turns that a book looks at -/
def fL (f : Option Str → Nat → Bool) (b : Option Str) : List Int := match b with | none => [] | some _ => LL f b 60
theorem ctL_fL (ws : List Int) (xs : List Lt) (h : Int) (b : Option Str) : ctL ws xs h b = fL (fun b k => certM ws xs h b k) b := by
  cases b with
  | none => rfl
  | some x => exact lns_LL ws xs h (some x) 60
theorem cmL_fL (ws : List Int) (xs : List Lt) (h : Int) (b : Option Str) : cmL ws xs h b = fL (fun b k => commM ws xs h b k) b := by
  unfold cmL
  rw [ctL_fL]
  cases b with
  | none => rfl
  | some x =>
    show (LL _ (some x) 60).filter _ = LL _ (some x) 60
    have : ∀ n, (LL (fun b k => certM ws xs h b k) (some x) n).filter (fun t => qrm ws (comS xs h t (some x))) = LL (fun b k => commM ws xs h b k) (some x) n := fun n => by
      induction n with
      | zero => rfl
      | succ n ih =>
        rw [LL_succ, LL_succ, List.filter_append, ih]
        congr 1
        unfold commM
        cases certM ws xs h (some x) n <;> cases e : qrm ws (comS xs h n (some x)) <;> simp [e]
    exact this 60
/-- the pairs due in turn t, in the turns below n -/
def dT (f : Option Str → Nat → Bool) (t : Nat) : List Pr := (([some ("a" : Str), some ("b" : Str)] : List (Option Str)).filter fun b => f b t).map fun b => ((t : Int), b)
def dP (f : Option Str → Nat → Bool) (n : Nat) : List Pr := (List.range n).flatMap (dT f)
theorem dP_succ (f : Option Str → Nat → Bool) (n : Nat) : dP f (n + 1) = dP f n ++ dT f n := by
  unfold dP
  rw [List.range_succ, List.flatMap_append]
  simp
theorem mem_dT {f : Option Str → Nat → Bool} {t : Nat} (q : Pr) : q ∈ dT f t ↔ q.1 = t ∧ (q.2 = some ("a" : Str) ∨ q.2 = some ("b" : Str)) ∧ f q.2 t = true := by
  unfold dT
  rw [List.mem_map]
  constructor
  · rintro ⟨b, hb, rfl⟩
    rw [List.mem_filter] at hb
    exact ⟨rfl, by simpa using hb.1, hb.2⟩
  · rintro ⟨h1, h2, h3⟩
    exact ⟨q.2, List.mem_filter.mpr ⟨by simpa using h2, h3⟩, by rw [← h1]⟩
theorem mem_dP {f : Option Str → Nat → Bool} {n : Nat} (q : Pr) : q ∈ dP f n ↔ ∃ k : Nat, k < n ∧ q.1 = k ∧ (q.2 = some ("a" : Str) ∨ q.2 = some ("b" : Str)) ∧ f q.2 k = true := by
  unfold dP
  rw [List.mem_flatMap]
  constructor
  · rintro ⟨k, hk, h⟩
    exact ⟨k, List.mem_range.mp hk, (mem_dT q).mp h⟩
  · rintro ⟨k, hk, h⟩
    exact ⟨k, List.mem_range.mpr hk, (mem_dT q).mpr h⟩
/-- a book's list holds exactly what f tells -/
def CI (f : Option Str → Nat → Bool) (cs : List Pr) : Prop := ∀ (t : Int) (b : Option Str), (t, b) ∈ cs ↔ t ∈ fL f b
theorem CI.at {f : Option Str → Nat → Bool} {cs : List Pr} (c : CI f cs) {n : Nat} (hn : n < 60) {x : Str} : ((n : Int), some x) ∈ cs ↔ f (some x) n = true := by
  rw [c]
  show (n : Int) ∈ LL f (some x) 60 ↔ _
  rw [mem_LL]
  constructor
  · rintro ⟨k, e, _, h⟩
    have : n = k := by omega
    rw [this]
    exact h
  · intro h
    exact ⟨n, rfl, hn, h⟩
theorem CI.none_new {f : Option Str → Nat → Bool} {cs : List Pr} (c : CI f cs) : (dP f 4).filter (fun q => decide (q ∉ cs)) = [] := by
  rw [List.filter_eq_nil_iff]
  intro q hq
  obtain ⟨k, hk, h1, h2, h3⟩ := (mem_dP q).mp hq
  have : q ∈ cs := by
    obtain ⟨t, b⟩ := q
    have h1 : t = (k : Int) := h1
    subst h1
    rcases h2 with rfl | rfl <;> exact (c.at (by omega)).mpr h3
  simpa using this
theorem miss_app (xs ys : List Int) (b : Option Str) (cs : List Pr) : miss (xs ++ ys) b cs = miss xs b cs ++ miss ys b cs := by
  unfold miss
  rw [List.filter_append, List.map_append]
theorem miss_one (t : Int) (b : Option Str) (cs : List Pr) : miss [t] b cs = if (t, b) ∈ cs then [] else [(t, b)] := by
  unfold miss
  by_cases h : (t, b) ∈ cs <;> simp [h]
theorem dT_new {f f' : Option Str → Nat → Bool} {cs : List Pr} {b : Option Str} (c : CI f cs) (ab : b = some ("a" : Str) ∨ b = some ("b" : Str)) (same : ∀ c, c ≠ b → ∀ n, f' c n = f c n) {n : Nat} (hn : n < 60) :
    (dT f' n).filter (fun q => decide (q ∉ cs)) = miss (if f' b n then [(n : Int)] else []) b cs := by
  have nab : (some ("a" : Str) : Option Str) ≠ some ("b" : Str) := by decide +kernel
  have other : ∀ x : Str, some x ≠ b → f' (some x) n = true → ((n : Int), some x) ∈ cs := fun x hx h => (c.at hn).mpr (by rw [← same _ hx]; exact h)
  have m0 : ∀ b, miss [] b cs = [] := fun _ => rfl
  rcases ab with rfl | rfl
  · have o := other "b" nab.symm
    unfold dT
    cases ha : f' (some ("a" : Str)) n <;> cases hb : f' (some ("b" : Str)) n <;> by_cases hc : ((n : Int), (some ("a" : Str) : Option Str)) ∈ cs <;> simp [ha, hb, hc, m0, miss_one] <;> first | rfl | exact o hb | (have z := o hb; simp [z, m0]; done) | (have z := o hb; simp [z, m0]; exact hc)
  · have o := other "a" nab
    unfold dT
    cases ha : f' (some ("a" : Str)) n <;> cases hb : f' (some ("b" : Str)) n <;> by_cases hc : ((n : Int), (some ("b" : Str) : Option Str)) ∈ cs <;> simp [ha, hb, hc, m0, miss_one] <;> first | rfl | exact o ha | (have z := o ha; simp [z, m0]; done) | (have z := o ha; simp [z, m0]; exact hc)
theorem dP_new {f f' : Option Str → Nat → Bool} {cs : List Pr} {b : Option Str} (c : CI f cs) (ab : b = some ("a" : Str) ∨ b = some ("b" : Str)) (same : ∀ c, c ≠ b → ∀ n, f' c n = f c n) : ∀ n, n ≤ 60 → (dP f' n).filter (fun q => decide (q ∉ cs)) = miss (LL f' b n) b cs
  | 0, _ => rfl
  | n + 1, hn => by
    rw [dP_succ, List.filter_append, dP_new c ab same n (by omega), dT_new c ab same (by omega), LL_succ, miss_app]
/-- one more letter, of block b -/
theorem CI.step {f f' : Option Str → Nat → Bool} {cs : List Pr} {b : Option Str} (c : CI f cs) (ab : b = none ∨ b = some ("a" : Str) ∨ b = some ("b" : Str)) (mono : ∀ n, f b n = true → f' b n = true) (same : ∀ c, c ≠ b → ∀ n, f' c n = f c n) (late : ∀ n, 4 ≤ n → f' b n = false) :
    CI f' (cs ++ miss (fL f' b) b cs) ∧ (dP f' 4).filter (fun q => decide (q ∉ cs)) = miss (fL f' b) b cs := by
  constructor
  · intro t d
    rw [List.mem_append, mem_miss, c]
    by_cases e : d = b
    · subst e
      constructor
      · rintro (h | h)
        · cases d with
          | none => cases h
          | some x =>
            obtain ⟨k, rfl, hk, hf⟩ := (mem_LL t).mp (show t ∈ LL f (some x) 60 from h)
            exact (mem_LL _).mpr ⟨k, rfl, hk, mono k hf⟩
        · exact h.2.1
      · intro h
        by_cases m : t ∈ fL f d
        · exact .inl m
        · exact .inr ⟨rfl, h, m⟩
    · have sl : fL f' d = fL f d := by
        cases d with
        | none => rfl
        | some x =>
          show LL f' (some x) 60 = LL f (some x) 60
          unfold LL
          congr 1
          apply List.filter_congr
          intro n _
          exact same _ e n
      rw [sl]
      constructor
      · rintro (h | h)
        · exact h
        · exact absurd h.1 e
      · exact .inl
  · rcases ab with rfl | ab
    · rw [show miss (fL f' none) none cs = [] from rfl, List.filter_eq_nil_iff]
      intro q hq
      obtain ⟨k, hk, h1, h2, h3⟩ := (mem_dP q).mp hq
      have : q ∈ cs := by
        obtain ⟨t, d⟩ := q
        have h1 : t = (k : Int) := h1
        subst h1
        rcases h2 with rfl | rfl <;> exact (c.at (by omega)).mpr (by rw [← same _ (by simp)]; exact h3)
      simpa using this
    · rw [dP_new c ab same 4 (by omega)]
      have e : LL f' b 60 = LL f' b 4 := LL_late (m := 4) late 56
      have : fL f' b = LL f' b 4 := by
        rw [← e]
        rcases ab with rfl | rfl <;> rfl
      rw [this]
theorem fL_asc (f : Option Str → Nat → Bool) (b : Option Str) : (fL f b).Pairwise (· < ·) := by
  cases b with
  | none => exact .nil
  | some x => exact LL_asc f (some x) 60
theorem miss_asc {ts : List Int} {b : Option Str} {cs : List Pr} (h : ts.Pairwise (· < ·)) : (miss ts b cs).Pairwise (fun q r => q.1 < r.1) := by
  unfold miss
  rw [List.pairwise_map]
  exact h.filter _
theorem dP_len (f : Option Str → Nat → Bool) : ∀ n, (dP f n).length ≤ 2 * n
  | 0 => Nat.le_refl _
  | n + 1 => by
    rw [dP_succ, List.length_append]
    have := dP_len f n
    have d : (dT f n).length ≤ 2 := by
      unfold dT
      rw [List.length_map]
      exact List.length_filter_le _ _
    omega
/-- the first j blocks of turn t -/
def dTs (f : Option Str → Nat → Bool) (t j : Nat) : List Pr := ((([some ("a" : Str), some ("b" : Str)] : List (Option Str)).take j).filter fun b => f b t).map fun b => ((t : Int), b)
theorem dTs_two (f : Option Str → Nat → Bool) (t : Nat) : dTs f t 2 = dT f t := rfl
theorem dTs_next {f : Option Str → Nat → Bool} {t j : Nat} {b : Str} (h : ([("a" : Str), ("b" : Str)])[j]? = some b) : dTs f t (j + 1) = dTs f t j ++ (if f (some b) t then [((t : Int), some b)] else []) := by
  match j, h with
  | 0, h =>
    cases h
    unfold dTs
    cases e : f (some ("a" : Str)) t <;> simp [e]
  | 1, h =>
    cases h
    unfold dTs
    cases e : f (some ("a" : Str)) t <;> cases e2 : f (some ("b" : Str)) t <;> simp [e, e2]
  | j + 2, h => simp at h

def spCell (K : PySem.W.Frag) : Sp := fun vs H Q _ => ∃ (a : Addr) (ns : List Int) (k : Int), vs = [.ref a, .int k] ∧ SqL K H a (ns.map V.int) ∧ ns.length ≤ 63 ∧ 0 ≤ k ∧ Q (.int (ns.getD k.toNat 0)) H
def spRow (K : PySem.W.Frag) : Sp := fun vs H Q _ => ∃ (cell count size : Int), vs = [.int cell, .int count, .int size] ∧ 0 ≤ count ∧ count ≤ 1000 ∧ 0 < size ∧ size < 1000 ∧
  ∀ p (row : List Int) H', Same H H' → H' p = some (.lst (row.map V.int)) → row.length = count.toNat → (∀ x ∈ row, 0 ≤ x ∧ x < size) → H p = none → Q (.ref p) H'
def spWeights (K : PySem.W.Frag) : Sp := fun vs H Q _ => ∃ (cell most : Int), vs = [.int cell, .int most] ∧ 0 < most ∧ most ≤ 16 ∧ ∀ p (ws : List Int) H', Same H H' → H' p = some (.lst (ws.map V.int)) → GoodW ws → ws.length ≤ most.toNat → Q (.ref p) H'
def spWeight (K : PySem.W.Frag) : Sp := fun vs H Q _ => ∃ (p q : Addr) (ws ms : List Int), vs = [.ref p, .ref q] ∧ SqL K H p (ws.map V.int) ∧ SqL K H q (ms.map V.int) ∧ ws.length ≤ 16 ∧ ∀ H', Same H H' → Q (.int (wOf ws ms)) H'
def spStat (K : PySem.W.Frag) : Sp := fun vs H Q _ => ∃ (d h : Int), vs = [.int d, .int h] ∧ ∀ p m H', Same H H' → SmAt H' p m → OkS m.b → m.h = h → m.k ≠ .prop → 0 ≤ m.t → m.t < 4 ∧ LnOk m → Q (.ref p) H'
def spLCert (K : PySem.W.Frag) : Sp := fun vs H Q _ => ∃ (pw l : Addr) (ws : List Int) (ps : List Addr) (xs : List Lt) (h t : Int) (b : Option Str), vs = [.ref pw, .ref l, .int h, .int t, oS b] ∧ SqL K H pw (ws.map V.int) ∧ ws.length ≤ 16 ∧ H l = some (.lst (ps.map V.ref)) ∧ LsAt H ps xs ∧ xs.length ≤ 100 ∧
  0 ≤ t ∧ t ≤ 12 ∧ ∀ H', Same H H' → Q (.bl (certM ws xs h b t.toNat)) H'
def spLComm (K : PySem.W.Frag) : Sp := fun vs H Q _ => ∃ (pw l : Addr) (ws : List Int) (ps : List Addr) (xs : List Lt) (h t : Int) (b : Option Str), vs = [.ref pw, .ref l, .int h, .int t, oS b] ∧ SqL K H pw (ws.map V.int) ∧ ws.length ≤ 16 ∧ H l = some (.lst (ps.map V.ref)) ∧ LsAt H ps xs ∧ xs.length ≤ 100 ∧
  0 ≤ t ∧ t ≤ 12 ∧ OkS b ∧ OkL xs ∧ ∀ H', Same H H' → Q (.bl (commM ws xs h b t.toNat)) H'
def spLetters (K : PySem.W.Frag) : Sp := fun vs H Q _ => ∃ (cell count size : Int), vs = [.int cell, .int count, .int size] ∧ 0 ≤ count ∧ count ≤ 100 ∧ 0 < size ∧
  ∀ (p : Addr) (ps : List Addr) (xs : List Lt) (H' : Hp), Same H H' → H' p = some (.lst (ps.map V.ref)) → LsAt H' ps xs → xs.length = count.toNat → (∀ x ∈ xs, GoodLt size x) → H p = none → Q (.ref p) H'
def spPlanted (K : PySem.W.Frag) : Sp := fun vs H Q _ => ∃ (cell size : Int), vs = [.int cell, .int size] ∧ 0 < size ∧ size ≤ 16 ∧
  ∀ (p : Addr) (ps : List Addr) (xs : List Lt) (H' : Hp), Same H H' → H' p = some (.lst (ps.map V.ref)) → LsAt H' ps xs → xs.length ≤ 5 * size.toNat → (∀ x ∈ xs, GoodLt size x) → H p = none → Q (.ref p) H'
def spLift (K : PySem.W.Frag) : Sp := fun vs H Q _ => ∃ (p : Addr) (x : Lt) (h : Int), vs = [.ref p, .int h] ∧ LtAt H p x ∧ ∀ q H', Same H H' → LtAt H' q ⟨x.w, { x.m with h := h }⟩ → Q (.ref q) H'
def spMixed (K : PySem.W.Frag) : Sp := fun vs H Q _ => ∃ (l : Addr) (cell : Int) (ps : List Addr) (xs : List Lt), vs = [.ref l, .int cell] ∧ H l = some (.lst (ps.map V.ref)) ∧ LsAt H ps xs ∧ xs.length ≤ 200 ∧
  ∀ (q : Addr) (rs : List Addr) (ys : List Lt) H', Same H H' → H q = none → H' q = some (.lst (rs.map V.ref)) → LsAt H' rs ys → ys.length = xs.length → (∀ y ∈ ys, y ∈ xs) → Q (.ref q) H'
def spIsInt (K : PySem.W.Frag) : Sp := fun vs H Q _ => ∃ i : Int, vs = [.int i] ∧ Q (.bl true) H
/-- what the law's own reckoning tells -/
def due2 (c : Bool) (ws : List Int) (xs : List Lt) (h : Int) (b : Option Str) (n : Nat) : Bool := if c then commM ws xs h b n else certM ws xs h b n
def spPairs (K : PySem.W.Frag) : Sp := fun vs H Q _ => ∃ (pw l : Addr) (ws : List Int) (ps : List Addr) (xs : List Lt) (c : Bool) (h : Int), vs = [.ref pw, .ref l, .bl c, .int h] ∧ SqL K H pw (ws.map V.int) ∧ ws.length ≤ 16 ∧ H l = some (.lst (ps.map V.ref)) ∧ LsAt H ps xs ∧ xs.length ≤ 100 ∧ OkL xs ∧
  ∀ (D : Addr) (rs : List Addr) H', Same H H' → H D = none → H' D = some (.lst (rs.map V.ref)) → PsAt H' rs (dP (due2 c ws xs h) 4) → Q (.ref D) H'
def spGrown (K : PySem.W.Frag) : Sp := fun vs H Q _ => ∃ (pa pb pd : Addr) (qa qb qd : List Addr) (cs new ds : List Pr), vs = [.ref pa, .ref pb, .ref pd] ∧ H pa = some (.lst (qa.map V.ref)) ∧ H pb = some (.lst (qb.map V.ref)) ∧ H pd = some (.lst (qd.map V.ref)) ∧
  PsAt H qa (cs ++ new) ∧ PsAt H qb cs ∧ PsAt H qd ds ∧ OkP cs ∧ OkP new ∧ OkP ds ∧ cs.length ≤ 5000 ∧ new.length ≤ 100 ∧ ds.length ≤ 100 ∧ ds.filter (fun q => decide (q ∉ cs)) = new ∧ new.Pairwise (fun q r => q.1 < r.1) ∧ (∀ q ∈ new, q.2 ≠ none) ∧ ∀ H', Same H H' → Q (.bl true) H'
def spLatestL (P : Program) (w : World) (K : PySem.W.Frag) (CB CC : Addr) : Sp := fun vs H Q _ => ∃ (bk pd : Addr) (B : Bk) (qd : List Addr) (ds : List Pr), vs = [.ref bk, .ref pd] ∧ BookAt P w CB CC H bk B ∧ H pd = some (.lst (qd.map V.ref)) ∧ PsAt H qd ds ∧ OkP ds ∧ ds.length ≤ 100 ∧ B.cs.length ≤ 100000 ∧
  (∀ (t : Int) (b : Option Str), b = some ("a" : Str) ∨ b = some ("b" : Str) → ((t, b) ∈ B.cs ↔ (t, b) ∈ ds)) ∧ ∀ H', Same H H' → Q (.bl true) H'
def spLaw (K : PySem.W.Frag) : Sp := fun vs H Q _ => ∃ (a : Addr) (ns : List Int), vs = [.ref a] ∧ SqL K H a (ns.map V.int) ∧ ns.length ≤ 63 ∧ ∀ H', Q (.bl true) H'

theorem ok_law_cell (T : Txt K mg a) : ∃ fd, FnOk P w K mg base CX0 1 a.d_law_cell fd ["script", "k"] (spCell K) ∧ Binds K fd ["script", "k"] [] := by
  obtain ⟨fd, F, b⟩ := T.d_law_cell.F
  refine ⟨fd, F.ok sc_law_cell (fun vs H Q E h => ?_) (fun cdv A outer s H vs Q E hr h => ?_), b⟩
  · obtain ⟨a, ns, k, rfl, _⟩ := h
    rfl
  · obtain ⟨l, ns, k, rfl, hS, hl, hk, q⟩ := h
    refine ⟨_, (pss_cons (ps_if (pt_cmpR op_lt (pv 1) (pe_callB call_len_seq (by rfl) T.n_len PySem.boot_len (pa_cons (pv 0) pa_nil)) (nomark _))
      (pss_one (ps_ret (pe_ix ix_list (pv 0) (pv 1) (fun _ _ => rfl))))
      pss_nil)
      (pss_one (ps_ret pe_int))), ?_⟩
    refine ⟨_, rfl, _, rfl, l, _, rfl, .inl hS, _, _, rfl, rfl, _, rfl, ?_⟩
    refine ite2 (fun hlt => ?_) (fun hge => ?_)
    · have hlt : k < ((ns.map V.int).length : Int) := of_decide_eq_true hlt
      rw [List.length_map] at hlt
      have hj : k.toNat < ns.length := by omega
      have e : ns.getD k.toNat 0 = ns[k.toNat] := by rw [List.getD_eq_getElem?_getD, List.getElem?_eq_getElem hj]; rfl
      rw [e] at q
      refine ⟨_, rfl, _, rfl, l, _, k, .int ns[k.toNat], rfl, rfl, hS, at_of (j := k.toNat) (by omega) (by rw [List.getElem?_map, List.getElem?_eq_getElem hj]; rfl), q⟩
    · have hge : ¬ k < ((ns.map V.int).length : Int) := fun e => hge (decide_eq_true e)
      rw [List.length_map] at hge
      have e : ns.getD k.toNat 0 = 0 := by rw [List.getD_eq_getElem?_getD, List.getElem?_eq_none (by omega)]; rfl
      rw [e] at q
      exact q

theorem ok_law_is_integer (T : Txt K mg a) : ∃ fd, FnOk P w K mg base CX0 1 a.d_law_is_integer fd ["actual"] (spIsInt K) ∧ Binds K fd ["actual"] [] := by
  obtain ⟨fd, F, b⟩ := T.d_law_is_integer.F
  refine ⟨fd, F.ok sc_law_is_integer (fun vs H Q E h => ?_) (fun cdv A outer s H vs Q E hr h => ?_), b⟩
  · obtain ⟨_, rfl, _⟩ := h
    rfl
  · obtain ⟨i, rfl, k⟩ := h
    refine ⟨_, (pss_one (ps_ret (pe_and (pe_callB call_isi (by rfl) T.n_isinstance (by decide +kernel) (pa_cons (pv 0) (pa_cons (pe_bltn (v := .ty "int") (u := .type "int") (by rfl) T.n_int (by decide +kernel) rfl) pa_nil))) (pe_one (pe_not (pe_callB call_isi (by rfl) T.n_isinstance (by decide +kernel) (pa_cons (pv 0) (pa_cons (pe_bltn (v := .ty "bool") (u := .type "bool") (by rfl) T.n_bool (by decide +kernel) rfl) pa_nil)))))))), ?_⟩
    walk_at "rs"
    refine ⟨_, _, .type "int", .type "int", true, rfl, .ty _, .base (.int _), kit_ty (by decide +kernel), ?_⟩
    walk_at "rs"
    refine ⟨_, _, .type "int", .type "bool", false, rfl, .ty _, .base (.int _), kit_ty (by decide +kernel), ?_⟩
    walk_at "rs"
    exact k

theorem ok_law_row (T : Txt K mg a) : ∃ fd, FnOk P w K mg base CX0 1 a.d_law_row fd ["cell", "count", "size"] (spRow K) ∧ Binds K fd ["cell", "count", "size"] [] := by
  obtain ⟨fd, F, b⟩ := T.d_law_row.F
  refine ⟨fd, F.ok sc_law_row (fun vs H Q E h => ?_) (fun cdv A outer s H vs Q E hr h => ?_), b⟩
  · obtain ⟨_, _, _, rfl, _⟩ := h
    rfl
  · obtain ⟨cell, count, size, rfl, c0, c1, z0, z1, k⟩ := h
    refine ⟨_, (pss_cons (ps_set (i := 3) sc_law_row.nd rfl (Or.inl rfl) (pv 0))
      (pss_cons (ps_set (i := 4) sc_law_row.nd rfl (Or.inl rfl) (pe_lst pa_nil))
      (pss_cons (ps_for PassesOwn.never rfl (pi_range1 rfl T.n_range (pa_cons (pv 1) pa_nil)) (pg_name (i := 5) sc_law_row.nd rfl (Or.inl rfl))
      (pss_one (ps_if (pt_cmpR op_ge (pv 0) (pe_op op_pow pe_int pe_int) (nomark _))
        (pss_cons (ps_expr (pe_bm PySem.F.plainAttrs_list PySem.F.slot_list_append PySem.F.type_list_append mt_append (pv 4) (pa_cons (pe_op op_mod (pe_callTy call_int1 (by rfl) T.n_int (by decide +kernel) (pa_cons (pv 3) pa_nil)) (pv 2)) pa_nil)))
          (pss_one (ps_set (i := 3) sc_law_row.nd rfl (Or.inl rfl) (pe_op op_fdivN (pv 3) (pv 2)))))
        (pss_cons (ps_set (i := 3) sc_law_row.nd rfl (Or.inl rfl) (pe_op op_mod (pe_callTy call_int1 (by rfl) T.n_int (by decide +kernel) (pa_cons (pe_op op_add (pe_op op_mul (pv 3) pe_int) pe_int) pa_nil)) pe_int))
          (pss_one (ps_expr (pe_bm PySem.F.plainAttrs_list PySem.F.slot_list_append PySem.F.type_list_append mt_append (pv 4) (pa_cons (pe_op op_mod (pe_op op_mod (pe_callTy call_int1 (by rfl) T.n_int (by decide +kernel) (pa_cons (pe_op op_add (pe_op op_mul (pv 3) pe_int) (pe_op op_mul (pv 5) pe_int)) pa_nil)) pe_int) (pv 2)) pa_nil))))))))
      (pss_one (ps_ret (pv 4)))))), ?_⟩
    walk_at "rs"
    refine ⟨(by show 0 ≤ sizeLine; decide), fun p hp => ?_⟩
    walk_at "rs"
    refine ⟨(by show -(2 ^ 62 : Int) ≤ _; omega), (by show _ < (2 ^ 62 : Int); omega), ?_⟩
    refine for_range (lo := 0) (n := count.toNat) (fun i σ H2 => ∃ (st : Int) (row : List Int) (v5 : Option V), σ = [some (.int cell), some (.int count), some (.int size), some (.int st), some (.ref p), v5] ∧ Same H H2 ∧
      H2 p = some (.lst (row.map V.int)) ∧ row.length = i ∧ ∀ x ∈ row, 0 ≤ x ∧ x < size) ⟨_, [], _, rfl, same_new hp, upd_same, rfl, fun x hx => nomatch hx⟩ ?_ ?_
    · rintro i σ H2 hi ⟨st, row, v5, rfl, s2, hrow, hlen, hb⟩
      have fit : (row.map V.int).length < sizeLine := by
        rw [List.length_map]
        exact small1000 (by omega)
      have grow : ∀ z : Int, 0 ≤ z → z < size → ∀ x ∈ row ++ [z], 0 ≤ x ∧ x < size := fun z h0 h1 x hx => by
        rcases List.mem_append.mp hx with hx | hx
        · exact hb x hx
        · rw [List.mem_singleton.mp hx]
          exact ⟨h0, h1⟩
      walk_at "rs"
      refine ite2 (fun c1 => ?_) (fun c1 => ?_)
      · walk_at "rs"
        refine ⟨.inl ⟨rfl, _, SqL.of hrow⟩, ?_⟩
        walk_at "rs"
        refine ⟨p, _, _, rfl, rfl, hrow, fit, ?_⟩
        walk_at "rs"
        refine ⟨(show CDivN _ _ from ⟨by omega, by omega⟩), ?_⟩
        exact ⟨_, row ++ [st % size], _, rfl, same_upd s2 hp, by rw [upd_same]; simp, by simp [hlen], grow _ (Int.emod_nonneg _ (by omega)) (Int.emod_lt_of_pos _ z0)⟩
      · walk_at "rs"
        refine ⟨.inl ⟨rfl, _, SqL.of hrow⟩, ?_⟩
        walk_at "rs"
        refine ⟨p, _, _, rfl, rfl, hrow, fit, ?_⟩
        exact ⟨_, row ++ [((st * 48271 + 12345) % 2147483647 * 69621 + (i : Int) * 7919) % 2147483647 % size], _, rfl, same_upd s2 hp, by rw [upd_same]; simp, by simp [hlen], grow _ (Int.emod_nonneg _ (by omega)) (Int.emod_lt_of_pos _ z0)⟩
    · rintro σ H2 ⟨st, row, v5, rfl, s2, hrow, hlen, hb⟩
      walk_at "rs"
      exact k p row H2 s2 hrow hlen hb hp

theorem ok_law_weights (T : Txt K mg a) : ∃ fd, FnOk P w K mg base CX0 2 a.d_law_weights fd ["cell", "most"] (spWeights K) ∧ Binds K fd ["cell", "most"] [] := by
  obtain ⟨fd, F, b⟩ := T.d_law_weights.F
  obtain ⟨fd_law_row, G_law_row, b_law_row⟩ := ok_law_row (P := P) (w := w) (base := base) T
  refine ⟨fd, F.ok sc_law_weights (fun vs H Q E h => ?_) (fun cdv A outer s H vs Q E hr h => ?_), b⟩
  · obtain ⟨_, _, rfl, _⟩ := h
    rfl
  · obtain ⟨cell, most, rfl, m0, m1, k⟩ := h
    refine ⟨_, (pss_cons (ps_set (i := 2) sc_law_weights.nd rfl (Or.inl rfl) (pe_op op_add pe_int (pe_op op_mod (pe_callTy call_int1 (by rfl) T.n_int (by decide +kernel) (pa_cons (pv 0) pa_nil)) (pv 1))))
      (pss_cons (ps_if (pt_cmpR op_eq (pe_op op_mod (pe_op op_fdiv (pv 0) pe_int) pe_int) pe_int (nomark _))
      (pss_one (ps_ret (pe_op op_rep (pe_lst (pa_cons pe_int pa_nil)) (pv 2))))
      pss_nil)
      (pss_one (ps_ret (pe_lc (own := [("value", 3)]) (g := (gName 3)) (tt := tYes) rfl sc_law_weights.nd (pi_list (pe_call G_law_row (hr.mono (by decide)) rfl T.d_law_row.g T.d_law_row.kp b_law_row .nil pass0 (pa_cons (pe_op op_fdiv (pv 0) pe_int) (pa_cons (pv 2) (pa_cons pe_int pa_nil))))) (blkOk_by (own := [("value", 3)]) (N := sc_law_weights_N) (sc := defScope s_law_weights) (by decide +kernel)) (fun _ _ _ _ _ => (pg_name (i := 3) sc_law_weights.nd rfl (Or.inl rfl))) (fun _ _ _ _ _ => pts_nil) (fun _ _ _ _ _ => (pe_op op_add pe_int (pv 3)))))))), ?_⟩
    have c0 : 0 ≤ cell % most := Int.emod_nonneg _ (by omega)
    have c1 : cell % most < most := Int.emod_lt_of_pos _ (by omega)
    walk_at "rs"
    refine ite2 (fun c2 => ?_) (fun c2 => ?_)
    · walk_at "rs"
      refine ⟨(by show 1 ≤ sizeLine; decide), fun p hp => ?_⟩
      walk_at "rs"
      refine ⟨p, _, _, rfl, rfl, upd_same, (by show -(2 ^ 63 : Int) ≤ 1 + cell % most; omega), (by show 1 + cell % most < (2 ^ 63 : Int); omega), (by rw [sizeLine_eq]; show 1 * (1 + cell % most).toNat ≤ _; omega), fun q hq => ?_⟩
      refine k q (List.replicate (1 + cell % most).toNat 1) _ (same_upd (same_new hp) (Same.free (same_new hp) hq)) (by rw [upd_same]; simp) ⟨by rw [List.length_replicate]; omega, by rw [List.length_replicate]; omega, fun x hx => ?_⟩ (by rw [List.length_replicate]; omega)
      rw [(List.mem_replicate.mp hx).2]
      decide
    · walk_at "rs"
      refine ⟨_, _, _, rfl, by omega, by omega, by decide, by decide, fun p row H1 s1 hrow hlen hb hp => ?_⟩
      refine ⟨p, rfl, ⟨_, SqL.of hrow⟩, fun D hD => ?_⟩
      have nDp : D ≠ p := (ne_of_none hrow hD).symm
      refine lc_list (K := K) (a := p) (xs := row.map V.int) (fun i H2 => Same H1 H2 ∧ H2 D = some (.lst (((row.take i).map (1 + ·)).map V.int))) ⟨same_new hD, upd_same⟩ (fun i H2 _ ⟨s2, _⟩ => SqL.of (s2 _ _ hrow)) ?_ ?_
      · rintro i x H2 hx ⟨s2, hd⟩
        have hi : i < row.length := by
          have e := (List.getElem?_eq_some_iff.mp hx).1
          rwa [List.length_map] at e
        rw [at_ints hi] at hx
        cases hx
        refine ⟨rfl, ?_⟩
        walk_at "rs"
        refine ⟨_, hd, by simp only [List.length_map, List.length_take]; exact small1000 (by omega), same_upd s2 hD, ?_⟩
        rw [upd_same, List.take_add_one, List.getElem?_eq_getElem hi, List.getD_eq_getElem?_getD, List.getElem?_eq_getElem hi]
        simp only [Option.toList_some, Option.getD_some, List.map_append, List.map_cons, List.map_nil]
      · rintro H2 ⟨s2, hd⟩
        have e : row.take (row.map V.int).length = row := by rw [List.length_map, List.take_length]
        rw [e] at hd
        refine k D _ H2 (fun b o z => s2 _ _ (s1 _ _ z)) hd ⟨by rw [List.length_map]; omega, by rw [List.length_map]; omega, fun x hx => ?_⟩ (by rw [List.length_map]; omega)
        obtain ⟨y, hy, rfl⟩ := List.mem_map.mp hx
        have := hb y hy
        omega

theorem ok_law_weight (T : Txt K mg a) : ∃ fd, FnOk P w K mg base CX0 1 a.d_law_weight fd ["weights", "members"] (spWeight K) ∧ Binds K fd ["weights", "members"] [] := by
  obtain ⟨fd, F, b⟩ := T.d_law_weight.F
  refine ⟨fd, F.ok sc_law_weight (fun vs H Q E h => ?_) (fun cdv A outer s H vs Q E hr h => ?_), b⟩
  · obtain ⟨_, _, _, _, rfl, _⟩ := h
    rfl
  · obtain ⟨p, q, ws, ms, rfl, hp, hq, hlen, k⟩ := h
    refine ⟨_, (pss_one (ps_ret (pe_callB (cr_sum rfl) (by rfl) T.n_sum (by decide +kernel) (pa_cons (pe_lc (own := [("k", 2)]) (g := (gName 2)) rfl sc_law_weight.nd (pi_range1 rfl T.n_range (pa_cons (pe_callB call_len_seq (by rfl) T.n_len PySem.boot_len (pa_cons (pv 0) pa_nil)) pa_nil)) (blkOk_by (own := [("k", 2)]) (N := sc_law_weight_N) (sc := defScope s_law_weight) (by decide +kernel)) (fun _ _ _ _ _ => (pg_name (i := 2) sc_law_weight.nd rfl (Or.inl rfl))) (fun _ _ _ _ _ => (pts_one (pt_cmpR (r := rIn K false) op_in_seq (pv 2) (pv 1) (by rfl)))) (fun _ _ _ _ _ => (pe_ix (r := rIxL K) ix_list (pv 0) (pv 2) (fun _ _ => rfl)))) pa_nil)))), ?_⟩
    walk_at "rs"
    refine ⟨p, _, rfl, .inl hp, ?_⟩
    walk_at "rs"
    have hN : ((ws.map V.int).length : Int) = ws.length := by rw [List.length_map]
    refine ⟨(by show -(2 ^ 62 : Int) ≤ _; omega), (by show _ < (2 ^ 62 : Int); omega), fun D hD => ?_⟩
    refine lc_range (lo := 0) (n := (((ws.map V.int).length : Int)).toNat) (fun i H2 => Same H H2 ∧ H2 D = some (.lst ((pick ws (fun k => decide (k ∈ ms)) i).map V.int))) ⟨same_new hD, upd_same⟩ ?_ ?_
    · rintro i H2 hi ⟨s2, hd⟩
      have hi' : i < ws.length := by omega
      have fit : ((pick ws (fun k => decide (k ∈ ms)) i).map V.int).length < sizeLine := by
        have := pick_len ws (fun k => decide (k ∈ ms)) i
        rw [List.length_map]
        exact small1000 (by omega)
      refine ⟨rfl, ?_⟩
      walk_at "rs"
      refine ⟨q, _, rfl, .inl (s2.seq hq), rfl, flat_ints ms, ?_⟩
      rw [if_neg Bool.false_ne_true, inV_ints]
      walk_at "rs"
      refine ite2 (fun c1 => ?_) (fun c1 => ?_)
      · walk_at "rs"
        refine ⟨p, _, _, .int (ws.getD i 0), rfl, rfl, s2.seq hp, at_of (j := i) (by omega) (at_ints hi'), ?_⟩
        refine ⟨_, hd, fit, same_upd s2 hD, ?_⟩
        rw [upd_same, pick]
        have c1' : decide ((i : Int) ∈ ms) = true := by simpa using c1
        rw [if_pos c1']
        simp
      · refine ⟨s2, ?_⟩
        have c1' : ¬ decide ((i : Int) ∈ ms) = true := by simpa using c1
        rw [hd, pick, if_neg c1']
    · rintro H2 ⟨s2, hd⟩
      rw [hN, Int.toNat_natCast] at hd
      walk_at "rs"
      exact ⟨D, _, rfl, SqL.of hd, k H2 s2⟩

theorem ok_law_statement (T : Txt K mg a) : ∃ fd, FnOk P w K mg base CX0 1 a.d_law_statement fd ["digit", "height"] (spStat K) ∧ Binds K fd ["digit", "height"] [] := by
  obtain ⟨fd, F, b⟩ := T.d_law_statement.F
  refine ⟨fd, F.ok sc_law_statement (fun vs H Q E h => ?_) (fun cdv A outer s H vs Q E hr h => ?_), b⟩
  · obtain ⟨_, _, rfl, _⟩ := h
    rfl
  · obtain ⟨d, ht, rfl, k⟩ := h
    refine ⟨_, (pss_cons (ps_set (i := 2) sc_law_statement.nd rfl (Or.inl rfl) (pe_ix ix_tup (pe_tup (pa_cons pe_str (pa_cons pe_str (pa_cons pe_str (pa_cons pe_str (pa_cons pe_non pa_nil)))))) (pe_op op_mod (pe_callTy call_int1 (by rfl) T.n_int (by decide +kernel) (pa_cons (pv 0) pa_nil)) pe_int) (fun _ _ => rfl)))
      (pss_cons (ps_set (i := 3) sc_law_statement.nd rfl (Or.inl rfl) (pe_op op_mod (pe_op op_fdiv (pv 0) pe_int) pe_int))
      (pss_cons (ps_if (pt_cmpR op_eq (pe_op op_mod (pe_op op_fdiv (pv 0) pe_int) pe_int) pe_int (nomark _))
      (pss_one (ps_ret (pe_tup (pa_cons pe_str (pa_cons (pv 1) (pa_cons (pv 3) (pa_cons (pv 2) pa_nil)))))))
      pss_nil)
      (pss_cons (ps_set (i := 4) sc_law_statement.nd rfl (Or.inl rfl) pe_non)
      (pss_cons (ps_if (PW.pt (pw_and (pt_cmpR op_notN (pv 2) pe_non (nomark _)) (pw_and (pt_cmpR op_gt (pv 3) pe_int (nomark _)) (pw_and1 (pt_cmpR op_eq (pe_op op_mod (pe_op op_fdiv (pv 0) pe_int) pe_int) pe_int (nomark _))))))
      (pss_one (ps_set (i := 4) sc_law_statement.nd rfl (Or.inl rfl) (pe_op op_mod (pe_op op_fdiv (pv 0) pe_int) (pv 3))))
      pss_nil)
      (pss_one (ps_ret (pe_tup (pa_cons pe_str (pa_cons (pv 1) (pa_cons (pv 3) (pa_cons (pv 2) (pa_cons (pv 4) pa_nil))))))))))))), ?_⟩
    walk_at "rs"
    refine ⟨(by show 5 ≤ sizeLine; decide), fun p1 hp1 => ?_⟩
    obtain ⟨b1, hb1, ob1⟩ := pick5 (i := d % 5) (Int.emod_nonneg _ (by decide)) (Int.emod_lt_of_pos _ (by decide))
    have s1 : Same H (upd H p1 (.tup [V.str "a", V.str "b", V.str "a", V.str "b", V.non])) := same_new hp1
    have t0 : 0 ≤ d / 5 % 4 := Int.emod_nonneg _ (by decide)
    have ab1 := ab_pick (Int.emod_nonneg _ (by decide)) (Int.emod_lt_of_pos _ (by decide)) hb1
    have t4 : d / 5 % 4 < 4 := Int.emod_lt_of_pos _ (by decide)
    walk_at "rs"
    refine ⟨p1, _, _, _, rfl, rfl, SqT.of upd_same, hb1, ?_⟩
    walk_at "rs"
    refine ite2 (fun c1 => ?_) (fun c1 => ?_)
    · walk_at "rs"
      refine ⟨(by show 4 ≤ sizeLine; decide), fun q hq => ?_⟩
      exact k q ⟨.com, _, _, b1, none⟩ _ (s1.trans (same_new hq)) upd_same ob1 rfl (fun z => nomatch z) t0 ⟨t4, (fun l e => (nomatch e)), ab1⟩
    walk_at "rs"
    refine ite2 (fun c2 => ?_) (fun c2 => ?_)
    · walk_at "rs"
      refine ite2 (fun c3 => ?_) (fun c3 => ?_)
      · have c3' := of_decide_eq_true c3
        walk_at "rs"
        refine ite2 (fun c4 => ?_) (fun c4 => ?_)
        · walk_at "rs"
          refine ⟨(by show 5 ≤ sizeLine; decide), fun q hq => ?_⟩
          exact k q ⟨.pre, _, _, b1, some _⟩ _ (s1.trans (same_new hq)) upd_same ob1 rfl (fun z => nomatch z) t0 ⟨t4, fun l e => by cases e; exact ⟨Int.emod_nonneg _ (by omega), Int.emod_lt_of_pos _ (by omega)⟩, ab1⟩
        · walk_at "rs"
          refine ⟨(by show 5 ≤ sizeLine; decide), fun q hq => ?_⟩
          exact k q ⟨.pre, _, _, b1, none⟩ _ (s1.trans (same_new hq)) upd_same ob1 rfl (fun z => nomatch z) t0 ⟨t4, (fun l e => (nomatch e)), ab1⟩
      · walk_at "rs"
        refine ⟨(by show 5 ≤ sizeLine; decide), fun q hq => ?_⟩
        exact k q ⟨.pre, _, _, b1, none⟩ _ (s1.trans (same_new hq)) upd_same ob1 rfl (fun z => nomatch z) t0 ⟨t4, (fun l e => (nomatch e)), ab1⟩
    · walk_at "rs"
      refine ⟨(by show 5 ≤ sizeLine; decide), fun q hq => ?_⟩
      exact k q ⟨.pre, _, _, b1, none⟩ _ (s1.trans (same_new hq)) upd_same ob1 rfl (fun z => nomatch z) t0 ⟨t4, (fun l e => (nomatch e)), ab1⟩

theorem ok_law_certified (T : Txt K mg a) : ∃ fd, FnOk P w K mg base CX0 2 a.d_law_certified fd ["weights", "letters", "height", "turn", "block"] (spLCert K) ∧ Binds K fd ["weights", "letters", "height", "turn", "block"] [] := by
  obtain ⟨fd, F, b⟩ := T.d_law_certified.F
  obtain ⟨fd_law_weight, G_law_weight, b_law_weight⟩ := ok_law_weight (P := P) (w := w) (base := base) T
  refine ⟨fd, F.ok sc_law_certified (fun vs H Q E h => ?_) (fun cdv A outer s H vs Q E hr h => ?_), b⟩
  · obtain ⟨_, _, _, _, _, _, _, _, rfl, _⟩ := h
    rfl
  · obtain ⟨pw, l, ws, ps, xs, ht, tn, bb, rfl, hw, wl, hl, hx, few, t0, t12, k⟩ := h
    refine ⟨_, (pss_cons (ps_set (i := 5) sc_law_certified.nd rfl (Or.inl rfl) (pe_lst (pa_cons pe_non pa_nil)))
      (pss_cons (ps_for PassesOwn.never rfl (pi_range1 rfl T.n_range (pa_cons (pe_op op_add (pv 3) pe_int) pa_nil)) (pg_name (i := 6) sc_law_certified.nd rfl (Or.inl rfl))
      (pss_cons (ps_set (i := 7) sc_law_certified.nd rfl (Or.inl rfl) (pe_lst pa_nil))
        (pss_cons (ps_for PassesOwn.never rfl (pi_list (pv 1)) (pg_name (i := 8) sc_law_certified.nd rfl (Or.inl rfl))
        (pss_cons (ps_set (i := 9) sc_law_certified.nd rfl (Or.inl rfl) (pe_ix ix_tup (pv 8) pe_int (fun _ _ => rfl)))
          (pss_one (ps_if (PW.pt (pw_and (pt_cmpR op_eq (pe_ix ix_tup (pv 9) pe_int (fun _ _ => rfl)) pe_str (nomark _)) (pw_and (pt_cmpR op_eq (pe_ix ix_tup (pv 9) pe_int (fun _ _ => rfl)) (pv 2) (nomark _)) (pw_and (pt_cmpR op_eq (pe_ix ix_tup (pv 9) pe_int (fun _ _ => rfl)) (pv 6) (nomark _)) (pw_and1 (pt_cmpR op_eq (pe_ix ix_tup (pv 9) pe_int (fun _ _ => rfl)) (pv 4) (nomark _)))))))
          (pss_one (ps_if (PW.pt (pw_and (pt_cmpR op_in_seq (pe_ix ix_tup (pv 9) pe_int (fun _ _ => rfl)) (pv 5) (by rfl)) (pw_and1 (PW.pt (pw_or (pt_cmpR op_isN (pe_ix ix_tup (pv 9) pe_int (fun _ _ => rfl)) pe_non (nomark _)) (pw_or1 (pt_cmpR op_lt (pe_ix ix_tup (pv 9) pe_int (fun _ _ => rfl)) (pv 6) (nomark _))))))))
            (pss_one (ps_expr (pe_bm PySem.F.plainAttrs_list PySem.F.slot_list_append PySem.F.type_list_append mt_append (pv 7) (pa_cons (pe_ix ix_tup (pv 8) pe_int (fun _ _ => rfl)) pa_nil))))
            pss_nil))
          pss_nil))))
        (pss_cons (ps_set (i := 10) sc_law_certified.nd rfl (Or.inl rfl) (pe_cmpR op_gt (pe_op op_mul pe_int (pe_call G_law_weight (hr.mono (by decide)) rfl T.d_law_weight.g T.d_law_weight.kp b_law_weight .nil pass0 (pa_cons (pv 0) (pa_cons (pv 7) pa_nil)))) (pe_op op_mul pe_int (pe_callB (cr_sum rfl) (by rfl) T.n_sum (by decide +kernel) (pa_cons (pv 0) pa_nil))) (nomark _)))
        (pss_cons (ps_if (pt_cmpR op_eq (pv 6) (pv 3) (nomark _))
        (pss_one (ps_ret (pv 10)))
        pss_nil)
        (pss_one (ps_if (pt_val (pv 10))
        (pss_one (ps_expr (pe_bm PySem.F.plainAttrs_list PySem.F.slot_list_append PySem.F.type_list_append mt_append (pv 5) (pa_cons (pv 6) pa_nil))))
        pss_nil)))))))
      (pss_one (ps_ret pe_bl)))), ?_⟩
    walk_at "rs"
    refine ⟨(by show 1 ≤ sizeLine; decide), fun pn hpn => ?_⟩
    walk_at "rs"
    refine ⟨(by show -(2 ^ 62 : Int) ≤ _; omega), (by show _ < (2 ^ 62 : Int); omega), ?_⟩
    refine for_range (lo := 0) (n := (tn + 1).toNat) (fun i σ H2 => ∃ v6 v7 v8 v9 v10 : Option V, σ = [some (.ref pw), some (.ref l), some (.int ht), some (.int tn), some (oS bb), some (.ref pn), v6, v7, v8, v9, v10] ∧ (i : Int) ≤ tn ∧ Same H H2 ∧ H2 pn = some (.lst (lnV (lns ws xs ht bb i))))
      ⟨_, _, _, _, _, rfl, by omega, same_new hpn, upd_same⟩ ?_ ?_
    · rintro i σ H2 hi ⟨v6, v7, v8, v9, v10, rfl, hit, s2, hn2⟩
      have e0 : (0 : Int) + (i : Int) = (i : Int) := Int.zero_add _
      rw [e0]
      have ll := lns_len ws xs ht bb i
      generalize eL : lns ws xs ht bb i = L at hn2 ll
      have hl2 := s2 _ _ hl
      have hx2 := hx.same s2
      walk_at "rs"
      refine ⟨(by show 0 ≤ sizeLine; decide), fun pm hpm => ?_⟩
      have s23 : Same H2 (upd H2 pm (.lst [])) := same_new hpm
      walk_at "rs"
      refine ⟨⟨_, SqL.of (s23 _ _ hl2)⟩, for_list (K := K) (a := l) (xs := ps.map V.ref) (fun j σ H3 => ∃ v8 v9 : Option V, σ = [some (.ref pw), some (.ref l), some (.int ht), some (.int tn), some (oS bb), some (.ref pn), some (.int (i : Int)), some (.ref pm), v8, v9, v10] ∧ Same H2 H3 ∧ H3 pm = some (.lst ((memM (xs.take j) ht i bb L).map V.int)))
        ⟨_, _, rfl, s23, upd_same⟩ (fun j σ H3 _ ⟨_, _, _, s3, _⟩ => SqL.of (s3 _ _ hl2)) ?_ ?_⟩
      · rintro j y σ H3 hy ⟨v8, v9, rfl, s3, hm3⟩
        have hj : j < ps.length := by
          have e := (List.getElem?_eq_some_iff.mp hy).1
          rwa [List.length_map] at e
        have hj' : j < xs.length := by
          rw [← hx.1]
          exact hj
        rw [at_refs hj] at hy
        cases hy
        obtain ⟨q, hp, hq⟩ := (hx2.2 j hj').same s3
        have ex : ∃ x, xs.getD j default = x := ⟨_, rfl⟩
        obtain ⟨x, ex⟩ := ex
        rw [ex] at hp hq
        have ml := mem_len (xs.take j) ht i bb L
        rw [List.length_take] at ml
        have no : cnt ht i bb L x = false → ∃ v8 v9 : Option V, [some (V.ref pw), some (.ref l), some (.int ht), some (.int tn), some (oS bb), some (.ref pn), some (.int (i : Int)), some (.ref pm), some (.ref (ps.getD j 0)), some (.ref q), v10] = [some (.ref pw), some (.ref l), some (.int ht), some (.int tn), some (oS bb), some (.ref pn), some (.int (i : Int)), some (.ref pm), v8, v9, v10] ∧ Same H2 H3 ∧ H3 pm = some (.lst ((memM (xs.take (j + 1)) ht i bb L).map V.int)) := fun c => ⟨_, _, rfl, s3, by
          rw [mem_no hj' (by rw [ex]; exact c)]
          exact hm3⟩
        walk_at "rs"
        refine ⟨_, _, _, _, rfl, rfl, SqT.of hp, rfl, ?_⟩
        walk_at "rs"
        refine ite2 (fun c1 => ?_) (fun c1 => ?_) <;> simp only [kpre, decide_eq_true_iff] at c1
        · walk_at "rs"
          refine ite2 (fun c2 => ?_) (fun c2 => ?_) <;> simp only [dec_int, beq_iff_eq] at c2
          · walk_at "rs"
            refine ite2 (fun c3 => ?_) (fun c3 => ?_) <;> simp only [dec_int, beq_iff_eq] at c3
            · walk_at "rs"
              refine ite2 (fun c4 => ?_) (fun c4 => ?_) <;> simp only [dec_oS, decide_eq_true_iff] at c4
              · have cT := cnt_t (L := L) ⟨c1, c2, c3, c4⟩
                have hn3 := s3 _ _ hn2
                have yes : cnt ht i bb L x = true → ∃ v8 v9 : Option V, [some (V.ref pw), some (.ref l), some (.int ht), some (.int tn), some (oS bb), some (.ref pn), some (.int (i : Int)), some (.ref pm), some (.ref (ps.getD j 0)), some (.ref q), v10] = [some (.ref pw), some (.ref l), some (.int ht), some (.int tn), some (oS bb), some (.ref pn), some (.int (i : Int)), some (.ref pm), v8, v9, v10] ∧ Same H2 (upd H3 pm (.lst ((memM (xs.take j) ht i bb L).map V.int ++ [V.int x.w]))) ∧
                    (upd H3 pm (.lst ((memM (xs.take j) ht i bb L).map V.int ++ [V.int x.w]))) pm = some (.lst ((memM (xs.take (j + 1)) ht i bb L).map V.int)) := fun c => ⟨_, _, rfl, same_upd s3 hpm, by
                  rw [upd_same, mem_yes hj' (by rw [ex]; exact c), ex]
                  simp⟩
                have fit : ((memM (xs.take j) ht i bb L).map V.int).length < sizeLine := by
                  rw [List.length_map]
                  exact small1000 (by omega)
                obtain ⟨xw, xk, xh, xt, xb, xl⟩ := x
                cases (show xk = .pre from c1)
                walk_at "rs"
                cases xl with
                | none =>
                  refine ⟨pn, _, rfl, .inl (SqL.of hn3), rfl, flat_lnV L, ?_⟩
                  walk_at "rs"
                  refine ⟨.inl ⟨rfl, _, SqL.of hm3⟩, ?_⟩
                  walk_at "rs"
                  refine ⟨_, _, _, _, rfl, rfl, SqT.of hp, rfl, ?_⟩
                  walk_at "rs"
                  refine ⟨pm, _, _, rfl, rfl, hm3, fit, ?_⟩
                  exact yes cT
                | some l0 =>
                  refine ⟨pn, _, rfl, .inl (SqL.of hn3), rfl, flat_lnV L, ?_⟩
                  rw [if_neg Bool.false_ne_true, inV_lnV (some l0)]
                  walk_at "rs"
                  refine ite2 (fun c5 => ?_) (fun c5 => ?_)
                  · have c5 : decide (l0 ∈ L) = true := c5
                    walk_at "rs"
                    refine ite2 (fun c6 => ?_) (fun c6 => ?_)
                    · walk_at "rs"
                      refine ⟨.inl ⟨rfl, _, SqL.of hm3⟩, ?_⟩
                      walk_at "rs"
                      refine ⟨_, _, _, _, rfl, rfl, SqT.of hp, rfl, ?_⟩
                      walk_at "rs"
                      refine ⟨pm, _, _, rfl, rfl, hm3, fit, ?_⟩
                      exact yes (cT.trans (show (decide (l0 ∈ L) && decide (l0 < (i : Int))) = true by rw [c5, c6]; rfl))
                    · exact no (cT.trans (show (decide (l0 ∈ L) && decide (l0 < (i : Int))) = false by rw [Bool.eq_false_iff.mpr c6, Bool.and_false]))
                  · exact no (cT.trans (show (decide (l0 ∈ L) && decide (l0 < (i : Int))) = false by rw [Bool.eq_false_iff.mpr (show ¬ decide (l0 ∈ L) = true from c5), Bool.false_and]))
              · exact no (cnt_f fun y => c4 y.2.2.2)
            · exact no (cnt_f fun y => c3 y.2.2.1)
          · exact no (cnt_f fun y => c2 y.2.1)
        · exact no (cnt_f fun y => c1 y.1)
      · rintro σ H3 ⟨v8, v9, rfl, s3, hm3⟩
        rw [List.length_map, hx.1, List.take_length] at hm3
        have hw3 := (s2.trans s3).seq hw
        have hn3 := s3 _ _ hn2
        walk_at "rs"
        refine ⟨pw, pm, ws, _, rfl, hw3, SqL.of hm3, wl, fun H4 s4 => ?_⟩
        walk_at "rs"
        refine ⟨pw, ws, rfl, s4.seq hw3, ?_⟩
        walk_at "rs"
        have cert : certM ws xs ht bb i = decide (2 * ws.sum < 3 * wOf ws (memM xs ht i bb L)) := by
          unfold certM
          rw [eL]
          rfl
        refine ite2 (fun c1 => ?_) (fun c1 => ?_) <;> simp only [dec_int, beq_iff_eq] at c1
        · walk_at "rs"
          have kk := k H4 (fun b o y => s4 _ _ (s3 _ _ (s2 _ _ y)))
          rw [show tn.toNat = i by omega, cert] at kk
          exact kk
        walk_at "rs"
        refine ite2 (fun c2 => ?_) (fun c2 => ?_)
        · walk_at "rs"
          refine ⟨.inl ⟨rfl, _, SqL.of (s4 _ _ hn3)⟩, ?_⟩
          walk_at "rs"
          refine ⟨pn, _, _, rfl, rfl, s4 _ _ hn3, by show (lnV L).length < sizeLine; rw [lnV, List.length_cons, List.length_map]; exact small1000 (by omega), ?_⟩
          refine ⟨_, _, _, _, _, rfl, by omega, same_upd (fun b o y => s4 _ _ (s3 _ _ (s2 _ _ y))) hpn, ?_⟩
          rw [upd_same, lns_yes (cert.trans c2), eL, lnV_snoc]
        · refine ⟨_, _, _, _, _, rfl, by omega, fun b o y => s4 _ _ (s3 _ _ (s2 _ _ y)), ?_⟩
          rw [s4 _ _ hn3, lns_no (fun y => c2 (cert.symm.trans y)), eL]
    · rintro σ H2 ⟨v6, v7, v8, v9, v10, rfl, hit, s2, hn2⟩
      exfalso
      omega

theorem ok_law_committed (T : Txt K mg a) : ∃ fd, FnOk P w K mg base CX0 3 a.d_law_committed fd ["weights", "letters", "height", "turn", "block"] (spLComm K) ∧ Binds K fd ["weights", "letters", "height", "turn", "block"] [] := by
  obtain ⟨fd, F, b⟩ := T.d_law_committed.F
  obtain ⟨fd_law_certified, G_law_certified, b_law_certified⟩ := ok_law_certified (P := P) (w := w) (base := base) T
  obtain ⟨fd_law_weight, G_law_weight, b_law_weight⟩ := ok_law_weight (P := P) (w := w) (base := base) T
  refine ⟨fd, F.ok sc_law_committed (fun vs H Q E h => ?_) (fun cdv A outer s H vs Q E hr h => ?_), b⟩
  · obtain ⟨_, _, _, _, _, _, _, _, rfl, _⟩ := h
    rfl
  · obtain ⟨pw, l, ws, ps, xs, ht, tn, bb, rfl, hw, wl, hl, hx, few, t0, t12, ob, okl, k⟩ := h
    refine ⟨_, (pss_cons (ps_set (i := 5) sc_law_committed.nd rfl (Or.inl rfl) (pe_lst pa_nil))
      (pss_cons (ps_for PassesOwn.never rfl (pi_list (pv 1)) (pg_name (i := 6) sc_law_committed.nd rfl (Or.inl rfl))
      (pss_one (ps_if (pt_cmpR (op_eqD hr.units) (pe_ix ix_tup (pv 6) pe_int (fun _ _ => rfl)) (pe_tup (pa_cons pe_str (pa_cons (pv 2) (pa_cons (pv 3) (pa_cons (pv 4) pa_nil))))) (nomark _))
        (pss_one (ps_expr (pe_bm PySem.F.plainAttrs_list PySem.F.slot_list_append PySem.F.type_list_append mt_append (pv 5) (pa_cons (pe_ix ix_tup (pv 6) pe_int (fun _ _ => rfl)) pa_nil))))
        pss_nil)))
      (pss_cons (ps_if (pt_cmpR op_le (pe_op op_mul pe_int (pe_call G_law_weight (hr.mono (by decide)) rfl T.d_law_weight.g T.d_law_weight.kp b_law_weight .nil pass0 (pa_cons (pv 0) (pa_cons (pv 5) pa_nil)))) (pe_op op_mul pe_int (pe_callB (cr_sum rfl) (by rfl) T.n_sum (by decide +kernel) (pa_cons (pv 0) pa_nil))) (nomark _))
      (pss_one (ps_ret pe_bl))
      pss_nil)
      (pss_one (ps_ret (pe_call G_law_certified (hr.mono (by decide)) rfl T.d_law_certified.g T.d_law_certified.kp b_law_certified .nil pass0 (pa_cons (pv 0) (pa_cons (pv 1) (pa_cons (pv 2) (pa_cons (pv 3) (pa_cons (pv 4) pa_nil))))))))))), ?_⟩
    walk_at "rs"
    refine ⟨(by show 0 ≤ sizeLine; decide), fun pm hpm => ?_⟩
    have s1 : Same H (upd H pm (.lst [])) := same_new hpm
    walk_at "rs"
    refine ⟨⟨_, SqL.of (s1 _ _ hl)⟩, for_list (K := K) (a := l) (xs := ps.map V.ref) (fun j σ H3 => ∃ v6 : Option V, σ = [some (.ref pw), some (.ref l), some (.int ht), some (.int tn), some (oS bb), some (.ref pm), v6] ∧ Same H H3 ∧ H3 pm = some (.lst ((comS (xs.take j) ht tn bb).map V.int)))
      ⟨_, rfl, s1, upd_same⟩ (fun j σ H3 _ ⟨_, _, s3, _⟩ => SqL.of (s3 _ _ hl)) ?_ ?_⟩
    · rintro j y σ H3 hy ⟨v6, rfl, s3, hm3⟩
      have hj : j < ps.length := by
        have e := (List.getElem?_eq_some_iff.mp hy).1
        rwa [List.length_map] at e
      have hj' : j < xs.length := by
        rw [← hx.1]
        exact hj
      rw [at_refs hj] at hy
      cases hy
      obtain ⟨q, hp, hq⟩ := (hx.2 j hj').same s3
      have ox := okl _ (getD_mem2 (d := default) hj')
      obtain ⟨x, ex⟩ : ∃ x, xs.getD j default = x := ⟨_, rfl⟩
      rw [ex] at hp hq ox
      have ml := com_len (xs.take j) ht tn bb
      rw [List.length_take] at ml
      walk_at "rs"
      refine ⟨_, _, _, _, rfl, rfl, SqT.of hp, rfl, ?_⟩
      walk_at "rs"
      refine ⟨(by show 4 ≤ sizeLine; decide), fun t ht1 => ?_⟩
      have s4 : Same H3 (upd H3 t (.tup [V.str "precommit", V.int ht, V.int tn, oS bb])) := same_new ht1
      have hq' : SmAt (upd H3 t (.tup [V.str "precommit", V.int ht, V.int tn, oS bb])) q x.m := s4 _ _ hq
      have ht' : (upd H3 t (.tup [V.str "precommit", V.int ht, V.int tn, oS bb])) t = some (.tup (Sm.vals ⟨.com, ht, tn, bb, none⟩)) := upd_same
      refine ⟨_, _, dp_sm hq', dp_sm ht', shaped_sm _ ox, shaped_sm ⟨.com, ht, tn, bb, none⟩ ob, ?_⟩
      rw [eqv_com]
      walk_at "rs"
      refine ite2 (fun c1 => ?_) (fun c1 => ?_)
      · have c1 := of_decide_eq_true c1
        walk_at "rs"
        refine ⟨.inl ⟨rfl, _, SqL.of (s4 _ _ hm3)⟩, ?_⟩
        walk_at "rs"
        refine ⟨_, _, _, _, rfl, rfl, SqT.of (s4 _ _ hp), rfl, ?_⟩
        walk_at "rs"
        refine ⟨pm, _, _, rfl, rfl, s4 _ _ hm3, by rw [List.length_map]; exact small1000 (by omega), ?_⟩
        exact ⟨_, rfl, same_upd (s3.trans s4) hpm, by
          rw [upd_same, com_yes hj' (by rw [ex]; exact c1), ex]
          simp⟩
      · have c1 : ¬ _ := fun y => c1 (decide_eq_true y)
        exact ⟨_, rfl, s3.trans s4, by
          rw [com_no hj' (by rw [ex]; exact c1)]
          exact s4 _ _ hm3⟩
    · rintro σ H3 ⟨v6, rfl, s3, hm3⟩
      rw [List.length_map, hx.1, List.take_length] at hm3
      have hw3 := s3.seq hw
      walk_at "rs"
      refine ⟨pw, pm, ws, _, rfl, hw3, SqL.of hm3, wl, fun H4 s4 => ?_⟩
      walk_at "rs"
      refine ⟨pw, ws, rfl, s4.seq hw3, ?_⟩
      walk_at "rs"
      unfold commM at k
      have te : ((tn.toNat : Nat) : Int) = tn := by omega
      rw [te] at k
      refine ite2 (fun c1 => ?_) (fun c1 => ?_)
      · walk_at "rs"
        have kk := k H4 (fun b o y => s4 _ _ (s3 _ _ y))
        have c2 := of_decide_eq_true c1
        rw [show qrm ws (comS xs ht tn bb) = false from decide_eq_false (by omega), Bool.false_and] at kk
        exact kk
      walk_at "rs"
      have c2 : ¬ 3 * wOf ws (comS xs ht tn bb) ≤ 2 * ws.sum := fun y => c1 (decide_eq_true y)
      rw [show qrm ws (comS xs ht tn bb) = true from decide_eq_true (by omega), Bool.true_and] at k
      exact ⟨pw, l, ws, ps, xs, ht, tn, bb, rfl, s4.seq hw3, wl, s4 _ _ (s3 _ _ hl), (hx.same s3).same s4, few, t0, t12, fun H5 s5 => k H5 (fun b o y => s5 _ _ (s4 _ _ (s3 _ _ y)))⟩

theorem ok_law_letters (T : Txt K mg a) : ∃ fd, FnOk P w K mg base CX0 2 a.d_law_letters fd ["cell", "count", "size"] (spLetters K) ∧ Binds K fd ["cell", "count", "size"] [] := by
  obtain ⟨fd, F, b⟩ := T.d_law_letters.F
  obtain ⟨fd_law_row, G_law_row, b_law_row⟩ := ok_law_row (P := P) (w := w) (base := base) T
  obtain ⟨fd_law_statement, G_law_statement, b_law_statement⟩ := ok_law_statement (P := P) (w := w) (base := base) T
  refine ⟨fd, F.ok sc_law_letters (fun vs H Q E h => ?_) (fun cdv A outer s H vs Q E hr h => ?_), b⟩
  · obtain ⟨_, _, _, rfl, _⟩ := h
    rfl
  · obtain ⟨cell, count, size, rfl, c0, c1, z0, k⟩ := h
    refine ⟨_, (pss_cons (ps_set (i := 3) sc_law_letters.nd rfl (Or.inl rfl) (pe_call G_law_row (hr.mono (by decide)) rfl T.d_law_row.g T.d_law_row.kp b_law_row .nil pass0 (pa_cons (pv 0) (pa_cons (pe_op op_mul pe_int (pv 1)) (pa_cons pe_int pa_nil)))))
      (pss_cons (ps_set (i := 4) sc_law_letters.nd rfl (Or.inl rfl) (pe_lst pa_nil))
      (pss_cons (ps_for PassesOwn.never rfl (pi_range1 rfl T.n_range (pa_cons (pv 1) pa_nil)) (pg_name (i := 5) sc_law_letters.nd rfl (Or.inl rfl))
      (pss_one (ps_expr (pe_bm PySem.F.plainAttrs_list PySem.F.slot_list_append PySem.F.type_list_append mt_append (pv 4) (pa_cons (pe_tup (pa_cons (pe_op op_mod (pe_callTy call_int1 (by rfl) T.n_int (by decide +kernel) (pa_cons (pe_ix ix_list (pv 3) (pe_op op_mul pe_int (pv 5)) (fun _ _ => rfl)) pa_nil)) (pv 2)) (pa_cons (pe_call G_law_statement (hr.mono (by decide)) rfl T.d_law_statement.g T.d_law_statement.kp b_law_statement .nil pass0 (pa_cons (pe_ix ix_list (pv 3) (pe_op op_add (pe_op op_mul pe_int (pv 5)) pe_int) (fun _ _ => rfl)) (pa_cons pe_int pa_nil))) pa_nil))) pa_nil)))))
      (pss_one (ps_ret (pv 4)))))), ?_⟩
    walk_at "rs"
    refine ⟨_, _, _, rfl, by omega, by omega, by decide, by decide, fun pd row H1 s1 hrow rlen hb hpd => ?_⟩
    walk_at "rs"
    refine ⟨(by show 0 ≤ sizeLine; decide), fun pl hpl => ?_⟩
    have I0 : PL H (upd H1 pl (.lst [])) pl size 0 [] [] := PL.start s1 hpl
    have hrow0 : (upd H1 pl (.lst [])) pd = some (.lst (row.map V.int)) := (same_new hpl) _ _ hrow
    walk_at "rs"
    refine ⟨(by show -(2 ^ 62 : Int) ≤ _; omega), (by show _ < (2 ^ 62 : Int); omega), ?_⟩
    refine for_range (lo := 0) (n := count.toNat) (fun i σ H2 => ∃ v5 : Option V, σ = [some (.int cell), some (.int count), some (.int size), some (.ref pd), some (.ref pl), v5] ∧ ∃ ps xs, PL H H2 pl size i ps xs ∧ xs.length = i ∧ H2 pd = some (.lst (row.map V.int)))
      ⟨_, rfl, [], [], I0, rfl, hrow0⟩ ?_ ?_
    · rintro i σ H2 hi ⟨v5, rfl, ps, xs, I, hlen, hrow2⟩
      have e0 : (0 : Int) + (i : Int) = (i : Int) := Int.zero_add _
      rw [e0]
      walk_at "rs"
      refine ⟨.inl ⟨rfl, _, SqL.of I.at'⟩, ?_⟩
      walk_at "rs"
      refine ⟨pd, _, _, .int (row.getD (2 * i) 0), rfl, rfl, SqL.of hrow2, at_of (j := 2 * i) (by show (2 : Int) * (i : Int) = _; omega) (at_ints (by omega)), ?_⟩
      walk_at "rs"
      refine ⟨pd, _, _, .int (row.getD (2 * i + 1) 0), rfl, rfl, SqL.of hrow2, at_of (j := 2 * i + 1) (by show (2 : Int) * (i : Int) + 1 = _; omega) (at_ints (by omega)), ?_⟩
      refine ⟨_, _, rfl, fun q m H3 s3 hq om hh hk t0 t4 => ?_⟩
      walk_at "rs"
      refine ⟨(by show 2 ≤ sizeLine; decide), fun t ht => ?_⟩
      have s4 : Same H3 (upd H3 t (.tup [V.int (row.getD (2 * i) 0 % size), V.ref q])) := same_new ht
      have I4 := (I.go s3).go s4
      have hlt : LtAt (upd H3 t (.tup [V.int (row.getD (2 * i) 0 % size), V.ref q])) t ⟨row.getD (2 * i) 0 % size, m⟩ := ⟨q, upd_same, s4 _ _ hq⟩
      refine ⟨pl, _, _, rfl, rfl, I4.at', I4.fit (by omega), ?_⟩
      refine ⟨_, rfl, _, _, I4.push hlt ⟨om, Int.emod_nonneg _ (by omega), Int.emod_lt_of_pos _ z0, hh, hk, t0, t4⟩, by simp; omega, ?_⟩
      rw [upd_ne (ne_of_none hrow hpl)]
      exact s4 _ _ (s3 _ _ hrow2)
    · rintro σ H2 ⟨v5, rfl, ps, xs, I, hlen, hrow2⟩
      walk_at "rs"
      exact k pl ps xs H2 I.same I.at' I.ls hlen I.good I.free

theorem ok_law_planted (T : Txt K mg a) : ∃ fd, FnOk P w K mg base CX0 2 a.d_law_planted fd ["cell", "size"] (spPlanted K) ∧ Binds K fd ["cell", "size"] [] := by
  obtain ⟨fd, F, b⟩ := T.d_law_planted.F
  obtain ⟨fd_law_row, G_law_row, b_law_row⟩ := ok_law_row (P := P) (w := w) (base := base) T
  refine ⟨fd, F.ok sc_law_planted (fun vs H Q E h => ?_) (fun cdv A outer s H vs Q E hr h => ?_), b⟩
  · obtain ⟨_, _, rfl, _⟩ := h
    rfl
  · obtain ⟨cell, size, rfl, z0, z16, kk⟩ := h
    refine ⟨_, (pss_cons (ps_set (i := 2) sc_law_planted.nd rfl (Or.inl rfl) (pe_call G_law_row (hr.mono (by decide)) rfl T.d_law_row.g T.d_law_row.kp b_law_row .nil pass0 (pa_cons (pv 0) (pa_cons (pe_op op_add (pe_op op_mul pe_int (pv 1)) pe_int) (pa_cons pe_int pa_nil)))))
      (pss_cons (ps_set (i := 3) sc_law_planted.nd rfl (Or.inl rfl) (pe_lst pa_nil))
      (pss_cons (ps_set (i := 4) sc_law_planted.nd rfl (Or.inl rfl) (pe_op op_mod (pe_callTy call_int1 (by rfl) T.n_int (by decide +kernel) (pa_cons (pe_ix ix_list (pv 2) pe_int (fun _ _ => rfl)) pa_nil)) pe_int))
      (pss_cons (ps_set (i := 5) sc_law_planted.nd rfl (Or.inl rfl) (pe_op op_add (pv 4) (pe_op op_mod (pe_callTy call_int1 (by rfl) T.n_int (by decide +kernel) (pa_cons (pe_ix ix_list (pv 2) pe_int (fun _ _ => rfl)) pa_nil)) pe_int)))
      (pss_cons (ps_set (i := 6) sc_law_planted.nd rfl (Or.inl rfl) (pe_op op_mod (pe_callTy call_int1 (by rfl) T.n_int (by decide +kernel) (pa_cons (pe_ix ix_list (pv 2) pe_int (fun _ _ => rfl)) pa_nil)) pe_int))
      (pss_cons (ps_for PassesOwn.never rfl (pi_range1 rfl T.n_range (pa_cons (pv 1) pa_nil)) (pg_name (i := 7) sc_law_planted.nd rfl (Or.inl rfl))
      (C8.pss_cut (ps_if (pt_cmpR op_ne (pe_op op_mod (pe_callTy call_int1 (by rfl) T.n_int (by decide +kernel) (pa_cons (pe_ix ix_list (pv 2) (pe_op op_add pe_int (pv 7)) (fun _ _ => rfl)) pa_nil)) pe_int) pe_int (nomark _))
        (pss_cons (ps_expr (pe_bm PySem.F.plainAttrs_list PySem.F.slot_list_append PySem.F.type_list_append mt_append (pv 3) (pa_cons (pe_tup (pa_cons (pv 7) (pa_cons (pe_tup (pa_cons pe_str (pa_cons pe_int (pa_cons (pv 4) (pa_cons pe_str (pa_cons pe_non pa_nil)))))) pa_nil))) pa_nil)))
          (pss_one (ps_expr (pe_bm PySem.F.plainAttrs_list PySem.F.slot_list_append PySem.F.type_list_append mt_append (pv 3) (pa_cons (pe_tup (pa_cons (pv 7) (pa_cons (pe_tup (pa_cons pe_str (pa_cons pe_int (pa_cons (pv 4) (pa_cons pe_str pa_nil))))) pa_nil))) pa_nil)))))
        pss_nil)
        (pss_one (ps_if (pt_cmpR op_ne (pe_op op_mod (pe_callTy call_int1 (by rfl) T.n_int (by decide +kernel) (pa_cons (pe_ix ix_list (pv 2) (pe_op op_add (pe_op op_add pe_int (pv 1)) (pv 7)) (fun _ _ => rfl)) pa_nil)) pe_int) pe_int (nomark _))
        (C8.pss_cut (ps_if (PW.pt (pw_and (pt_cmpR op_gt (pv 5) (pv 4) (nomark _)) (pw_and1 (pt_cmpR op_eq (pv 6) pe_int (nomark _)))))
          (pss_cons (ps_expr (pe_bm PySem.F.plainAttrs_list PySem.F.slot_list_append PySem.F.type_list_append mt_append (pv 3) (pa_cons (pe_tup (pa_cons (pv 7) (pa_cons (pe_tup (pa_cons pe_str (pa_cons pe_int (pa_cons (pv 4) (pa_cons pe_str (pa_cons pe_non pa_nil)))))) pa_nil))) pa_nil)))
            (pss_one (ps_expr (pe_bm PySem.F.plainAttrs_list PySem.F.slot_list_append PySem.F.type_list_append mt_append (pv 3) (pa_cons (pe_tup (pa_cons (pv 7) (pa_cons (pe_tup (pa_cons pe_str (pa_cons pe_int (pa_cons (pv 5) (pa_cons pe_str (pa_cons (pv 4) pa_nil)))))) pa_nil))) pa_nil)))))
          (pss_one (ps_expr (pe_bm PySem.F.plainAttrs_list PySem.F.slot_list_append PySem.F.type_list_append mt_append (pv 3) (pa_cons (pe_tup (pa_cons (pv 7) (pa_cons (pe_tup (pa_cons pe_str (pa_cons pe_int (pa_cons (pv 5) (pa_cons pe_str (pa_cons pe_non pa_nil)))))) pa_nil))) pa_nil)))))
          (pss_one (ps_expr (pe_bm PySem.F.plainAttrs_list PySem.F.slot_list_append PySem.F.type_list_append mt_append (pv 3) (pa_cons (pe_tup (pa_cons (pv 7) (pa_cons (pe_tup (pa_cons pe_str (pa_cons pe_int (pa_cons (pv 5) (pa_cons pe_str pa_nil))))) pa_nil))) pa_nil)))))
        pss_nil))))
      (pss_one (ps_ret (pv 3))))))))), ?_⟩
    walk_at "rs"
    refine ⟨_, _, _, rfl, by omega, by omega, by decide, by decide, fun pd row H1 s1 hrow rlen hb hpd => ?_⟩
    walk_at "rs"
    refine ⟨(by show 0 ≤ sizeLine; decide), fun pl hpl => ?_⟩
    have I0 : PL H (upd H1 pl (.lst [])) pl size 0 [] [] := PL.start s1 hpl
    have npd := ne_of_none hrow hpl
    have hrow0 : (upd H1 pl (.lst [])) pd = some (.lst (row.map V.int)) := (same_new hpl) _ _ hrow
    walk_at "rs"
    refine ⟨pd, _, _, .int (row.getD 0 0), rfl, rfl, SqL.of hrow0, at_of (j := 0) rfl (at_ints (by omega)), ?_⟩
    walk_at "rs"
    refine ⟨pd, _, _, .int (row.getD 1 0), rfl, rfl, SqL.of hrow0, at_of (j := 1) rfl (at_ints (by omega)), ?_⟩
    walk_at "rs"
    refine ⟨pd, _, _, .int (row.getD 2 0), rfl, rfl, SqL.of hrow0, at_of (j := 2) rfl (at_ints (by omega)), ?_⟩
    walk_at "rs"
    refine ⟨(by show -(2 ^ 62 : Int) ≤ _; omega), (by show _ < (2 ^ 62 : Int); omega), ?_⟩
    have y0 : 0 ≤ row.getD 0 0 % 3 := Int.emod_nonneg _ (by decide)
    have y3 : row.getD 0 0 % 3 < 3 := Int.emod_lt_of_pos _ (by decide)
    have d0 : 0 ≤ row.getD 1 0 % 2 := Int.emod_nonneg _ (by decide)
    have d2 : row.getD 1 0 % 2 < 2 := Int.emod_lt_of_pos _ (by decide)
    refine for_range (lo := 0) (n := size.toNat) (fun i σ H2 => ∃ v7 : Option V, σ = [some (.int cell), some (.int size), some (.ref pd), some (.ref pl), some (.int (row.getD 0 0 % 3)), some (.int (row.getD 0 0 % 3 + row.getD 1 0 % 2)), some (.int (row.getD 2 0 % 3)), v7] ∧ ∃ ps xs, PL H H2 pl size (5 * i) ps xs ∧ H2 pd = some (.lst (row.map V.int))) ⟨_, rfl, [], [], I0, hrow0⟩ ?_ ?_
    · rintro k σ H2 hi ⟨v7, rfl, ps, xs, I, hrow2⟩
      have e0 : (0 : Int) + (k : Int) = (k : Int) := Int.zero_add _
      rw [e0]
      walk_at "rs"
      refine ⟨fun σ' H' => σ' = [some (.int cell), some (.int size), some (.ref pd), some (.ref pl), some (.int (row.getD 0 0 % 3)), some (.int (row.getD 0 0 % 3 + row.getD 1 0 % 2)), some (.int (row.getD 2 0 % 3)), some (.int (k : Int))] ∧ ∃ ps xs, PL H H' pl size (5 * k + 2) ps xs ∧ H' pd = some (.lst (row.map V.int)), ?_, ?_⟩
      · walk_at "rs"
        refine ⟨pd, _, _, .int (row.getD (8 + k) 0), rfl, rfl, SqL.of hrow2, at_of (j := 8 + k) (by show (8 : Int) + (k : Int) = _; omega) (at_ints (by omega)), ?_⟩
        walk_at "rs"
        refine ite2 (fun c1 => ?_) (fun c1 => ?_)
        · walk_at "rs"
          refine ⟨.inl ⟨rfl, _, SqL.of I.at'⟩, ?_⟩
          walk_at "rs"
          refine ⟨(by show 5 ≤ sizeLine; decide), fun qI1 hqI1 => ?_⟩
          refine ⟨(by show 2 ≤ sizeLine; decide), fun tI1 htI1 => ?_⟩
          obtain ⟨ltI1, sI1⟩ := lt_new (w := (k : Int)) (m := ⟨.pre, 0, row.getD 0 0 % 3, some "a", none⟩) hqI1 rfl htI1
          have JI1 := I.go sI1
          refine ⟨pl, _, _, rfl, rfl, JI1.at', JI1.fit (by omega), ?_⟩
          have I1 := JI1.push ltI1 ⟨okA, (by show (0 : Int) ≤ (k : Int); omega), (by show (k : Int) < size; omega), rfl, fun z => (nomatch z), (by show (0 : Int) ≤ row.getD 0 0 % 3; omega), (by show row.getD 0 0 % 3 < (4 : Int); omega), (fun l e => by first | (have z : (none : Option Int) = some l := e; cases z; done) | (cases e; have c2z := of_decide_eq_true c2; refine ⟨?_, ?_⟩ <;> first | (show (0 : Int) ≤ row.getD 0 0 % 3; omega) | (show row.getD 0 0 % 3 < row.getD 0 0 % 3 + row.getD 1 0 % 2; omega))), (by first | exact .inr (.inl rfl) | exact .inr (.inr rfl))⟩
          walk_at "rs"
          refine ⟨.inl ⟨rfl, _, SqL.of I1.at'⟩, ?_⟩
          walk_at "rs"
          refine ⟨(by show 4 ≤ sizeLine; decide), fun qI2 hqI2 => ?_⟩
          refine ⟨(by show 2 ≤ sizeLine; decide), fun tI2 htI2 => ?_⟩
          obtain ⟨ltI2, sI2⟩ := lt_new (w := (k : Int)) (m := ⟨.com, 0, row.getD 0 0 % 3, some "a", none⟩) hqI2 rfl htI2
          have JI2 := I1.go sI2
          refine ⟨pl, _, _, rfl, rfl, JI2.at', JI2.fit (by omega), ?_⟩
          have I2 := JI2.push ltI2 ⟨okA, (by show (0 : Int) ≤ (k : Int); omega), (by show (k : Int) < size; omega), rfl, fun z => (nomatch z), (by show (0 : Int) ≤ row.getD 0 0 % 3; omega), (by show row.getD 0 0 % 3 < (4 : Int); omega), (fun l e => by first | (have z : (none : Option Int) = some l := e; cases z; done) | (cases e; have c2z := of_decide_eq_true c2; refine ⟨?_, ?_⟩ <;> first | (show (0 : Int) ≤ row.getD 0 0 % 3; omega) | (show row.getD 0 0 % 3 < row.getD 0 0 % 3 + row.getD 1 0 % 2; omega))), (by first | exact .inr (.inl rfl) | exact .inr (.inr rfl))⟩
          walk_at "rs"
          exact ⟨_, _, I2.more (by omega), upd_row npd (sI2 _ _ (upd_row npd (sI1 _ _ hrow2)))⟩
        · exact ⟨rfl, _, _, I.more (by omega), hrow2⟩
      · clear I hrow2
        rintro σ' H3 ⟨rfl, ps, xs, I, hrow2⟩
        walk_at "rs"
        refine ⟨pd, _, _, .int (row.getD (8 + size.toNat + k) 0), rfl, rfl, SqL.of hrow2, at_of (j := 8 + size.toNat + k) (by show (8 : Int) + size + (k : Int) = _; omega) (at_ints (by omega)), ?_⟩
        walk_at "rs"
        refine ite2 (fun c1 => ?_) (fun c1 => ?_)
        · walk_at "rs"
          refine ⟨fun σ' H' => σ' = [some (.int cell), some (.int size), some (.ref pd), some (.ref pl), some (.int (row.getD 0 0 % 3)), some (.int (row.getD 0 0 % 3 + row.getD 1 0 % 2)), some (.int (row.getD 2 0 % 3)), some (.int (k : Int))] ∧ ∃ ps xs, PL H H' pl size (5 * k + 4) ps xs ∧ H' pd = some (.lst (row.map V.int)), ?_, ?_⟩
          · walk_at "rs"
            refine ite2 (fun c2 => ?_) (fun c2 => ?_)
            · walk_at "rs"
              refine ite2 (fun c3 => ?_) (fun c3 => ?_)
              · walk_at "rs"
                refine ⟨.inl ⟨rfl, _, SqL.of I.at'⟩, ?_⟩
                walk_at "rs"
                refine ⟨(by show 5 ≤ sizeLine; decide), fun qI1 hqI1 => ?_⟩
                refine ⟨(by show 2 ≤ sizeLine; decide), fun tI1 htI1 => ?_⟩
                obtain ⟨ltI1, sI1⟩ := lt_new (w := (k : Int)) (m := ⟨.pre, 0, row.getD 0 0 % 3, some "b", none⟩) hqI1 rfl htI1
                have JI1 := I.go sI1
                refine ⟨pl, _, _, rfl, rfl, JI1.at', JI1.fit (by omega), ?_⟩
                have I1 := JI1.push ltI1 ⟨okB, (by show (0 : Int) ≤ (k : Int); omega), (by show (k : Int) < size; omega), rfl, fun z => (nomatch z), (by show (0 : Int) ≤ row.getD 0 0 % 3; omega), (by show row.getD 0 0 % 3 < (4 : Int); omega), (fun l e => by first | (have z : (none : Option Int) = some l := e; cases z; done) | (cases e; have c2z := of_decide_eq_true c2; refine ⟨?_, ?_⟩ <;> first | (show (0 : Int) ≤ row.getD 0 0 % 3; omega) | (show row.getD 0 0 % 3 < row.getD 0 0 % 3 + row.getD 1 0 % 2; omega))), (by first | exact .inr (.inl rfl) | exact .inr (.inr rfl))⟩
                walk_at "rs"
                refine ⟨.inl ⟨rfl, _, SqL.of I1.at'⟩, ?_⟩
                walk_at "rs"
                refine ⟨(by show 5 ≤ sizeLine; decide), fun qI2 hqI2 => ?_⟩
                refine ⟨(by show 2 ≤ sizeLine; decide), fun tI2 htI2 => ?_⟩
                obtain ⟨ltI2, sI2⟩ := lt_new (w := (k : Int)) (m := ⟨.pre, 0, row.getD 0 0 % 3 + row.getD 1 0 % 2, some "b", some (row.getD 0 0 % 3)⟩) hqI2 rfl htI2
                have JI2 := I1.go sI2
                refine ⟨pl, _, _, rfl, rfl, JI2.at', JI2.fit (by omega), ?_⟩
                have I2 := JI2.push ltI2 ⟨okB, (by show (0 : Int) ≤ (k : Int); omega), (by show (k : Int) < size; omega), rfl, fun z => (nomatch z), (by show (0 : Int) ≤ row.getD 0 0 % 3 + row.getD 1 0 % 2; omega), (by show row.getD 0 0 % 3 + row.getD 1 0 % 2 < (4 : Int); omega), (fun l e => by first | (have z : (none : Option Int) = some l := e; cases z; done) | (cases e; have c2z := of_decide_eq_true c2; refine ⟨?_, ?_⟩ <;> first | (show (0 : Int) ≤ row.getD 0 0 % 3; omega) | (show row.getD 0 0 % 3 < row.getD 0 0 % 3 + row.getD 1 0 % 2; omega))), (by first | exact .inr (.inl rfl) | exact .inr (.inr rfl))⟩
                walk_at "rs"
                exact ⟨_, _, I2.more (by omega), upd_row npd (sI2 _ _ (upd_row npd (sI1 _ _ hrow2)))⟩
              · walk_at "rs"
                refine ⟨.inl ⟨rfl, _, SqL.of I.at'⟩, ?_⟩
                walk_at "rs"
                refine ⟨(by show 5 ≤ sizeLine; decide), fun qI1 hqI1 => ?_⟩
                refine ⟨(by show 2 ≤ sizeLine; decide), fun tI1 htI1 => ?_⟩
                obtain ⟨ltI1, sI1⟩ := lt_new (w := (k : Int)) (m := ⟨.pre, 0, row.getD 0 0 % 3 + row.getD 1 0 % 2, some "b", none⟩) hqI1 rfl htI1
                have JI1 := I.go sI1
                refine ⟨pl, _, _, rfl, rfl, JI1.at', JI1.fit (by omega), ?_⟩
                have I1 := JI1.push ltI1 ⟨okB, (by show (0 : Int) ≤ (k : Int); omega), (by show (k : Int) < size; omega), rfl, fun z => (nomatch z), (by show (0 : Int) ≤ row.getD 0 0 % 3 + row.getD 1 0 % 2; omega), (by show row.getD 0 0 % 3 + row.getD 1 0 % 2 < (4 : Int); omega), (fun l e => by first | (have z : (none : Option Int) = some l := e; cases z; done) | (cases e; have c2z := of_decide_eq_true c2; refine ⟨?_, ?_⟩ <;> first | (show (0 : Int) ≤ row.getD 0 0 % 3; omega) | (show row.getD 0 0 % 3 < row.getD 0 0 % 3 + row.getD 1 0 % 2; omega))), (by first | exact .inr (.inl rfl) | exact .inr (.inr rfl))⟩
                walk_at "rs"
                exact ⟨_, _, I1.more (by omega), upd_row npd (sI1 _ _ hrow2)⟩
            · walk_at "rs"
              refine ⟨.inl ⟨rfl, _, SqL.of I.at'⟩, ?_⟩
              walk_at "rs"
              refine ⟨(by show 5 ≤ sizeLine; decide), fun qI1 hqI1 => ?_⟩
              refine ⟨(by show 2 ≤ sizeLine; decide), fun tI1 htI1 => ?_⟩
              obtain ⟨ltI1, sI1⟩ := lt_new (w := (k : Int)) (m := ⟨.pre, 0, row.getD 0 0 % 3 + row.getD 1 0 % 2, some "b", none⟩) hqI1 rfl htI1
              have JI1 := I.go sI1
              refine ⟨pl, _, _, rfl, rfl, JI1.at', JI1.fit (by omega), ?_⟩
              have I1 := JI1.push ltI1 ⟨okB, (by show (0 : Int) ≤ (k : Int); omega), (by show (k : Int) < size; omega), rfl, fun z => (nomatch z), (by show (0 : Int) ≤ row.getD 0 0 % 3 + row.getD 1 0 % 2; omega), (by show row.getD 0 0 % 3 + row.getD 1 0 % 2 < (4 : Int); omega), (fun l e => by first | (have z : (none : Option Int) = some l := e; cases z; done) | (cases e; have c2z := of_decide_eq_true c2; refine ⟨?_, ?_⟩ <;> first | (show (0 : Int) ≤ row.getD 0 0 % 3; omega) | (show row.getD 0 0 % 3 < row.getD 0 0 % 3 + row.getD 1 0 % 2; omega))), (by first | exact .inr (.inl rfl) | exact .inr (.inr rfl))⟩
              walk_at "rs"
              exact ⟨_, _, I1.more (by omega), upd_row npd (sI1 _ _ hrow2)⟩
          · clear I hrow2
            rintro σ' H4 ⟨rfl, ps, xs, I, hrow2⟩
            walk_at "rs"
            refine ⟨.inl ⟨rfl, _, SqL.of I.at'⟩, ?_⟩
            walk_at "rs"
            refine ⟨(by show 4 ≤ sizeLine; decide), fun qI1 hqI1 => ?_⟩
            refine ⟨(by show 2 ≤ sizeLine; decide), fun tI1 htI1 => ?_⟩
            obtain ⟨ltI1, sI1⟩ := lt_new (w := (k : Int)) (m := ⟨.com, 0, row.getD 0 0 % 3 + row.getD 1 0 % 2, some "b", none⟩) hqI1 rfl htI1
            have JI1 := I.go sI1
            refine ⟨pl, _, _, rfl, rfl, JI1.at', JI1.fit (by omega), ?_⟩
            have I1 := JI1.push ltI1 ⟨okB, (by show (0 : Int) ≤ (k : Int); omega), (by show (k : Int) < size; omega), rfl, fun z => (nomatch z), (by show (0 : Int) ≤ row.getD 0 0 % 3 + row.getD 1 0 % 2; omega), (by show row.getD 0 0 % 3 + row.getD 1 0 % 2 < (4 : Int); omega), (fun l e => by first | (have z : (none : Option Int) = some l := e; cases z; done) | (cases e; have c2z := of_decide_eq_true c2; refine ⟨?_, ?_⟩ <;> first | (show (0 : Int) ≤ row.getD 0 0 % 3; omega) | (show row.getD 0 0 % 3 < row.getD 0 0 % 3 + row.getD 1 0 % 2; omega))), (by first | exact .inr (.inl rfl) | exact .inr (.inr rfl))⟩
            walk_at "rs"
            exact ⟨_, _, I1.more (by omega), upd_row npd (sI1 _ _ hrow2)⟩
        · exact ⟨_, rfl, _, _, I.more (by omega), hrow2⟩
    · rintro σ H2 ⟨v7, rfl, ps, xs, I, hrow2⟩
      walk_at "rs"
      exact kk pl ps xs H2 I.same I.at' I.ls I.few I.good I.free

theorem cutV_take {xs : List V} {i : Int} (h : 0 ≤ i) : cutV xs none (some i) = xs.take i.toNat := by
  have n : ¬ i < 0 := by omega
  have e1 : HT.sIx xs.length 0 none = 0 := rfl
  have e2 : HT.sIx xs.length xs.length (some i) = min i.toNat xs.length := by
    show (if i < 0 then _ else _) = _
    rw [if_neg n]
  unfold cutV
  rw [e1, e2, List.drop_zero, Nat.sub_zero]
  rcases Nat.le_total i.toNat xs.length with q | q
  · rw [Nat.min_eq_left q]
  · rw [Nat.min_eq_right q, List.take_of_length_le (Nat.le_refl _), List.take_of_length_le q]
theorem cutV_drop {xs : List V} {i : Int} (h : 0 ≤ i) : cutV xs (some i) none = xs.drop i.toNat := by
  have n : ¬ i < 0 := by omega
  have e1 : HT.sIx xs.length xs.length none = xs.length := rfl
  have e2 : HT.sIx xs.length 0 (some i) = min i.toNat xs.length := by
    show (if i < 0 then _ else _) = _
    rw [if_neg n]
  unfold cutV
  rw [e1, e2]
  rcases Nat.le_total i.toNat xs.length with q | q
  · rw [Nat.min_eq_left q, List.take_of_length_le (by rw [List.length_drop]; exact Nat.le_refl _)]
  · rw [Nat.min_eq_right q, List.drop_of_length_le (Nat.le_refl _), List.drop_of_length_le q, List.take_nil]
theorem take_refs {ps : List Addr} {i : Nat} : cutV (ps.map V.ref) none (some (i : Int)) = (ps.take i).map V.ref := by
  rw [cutV_take (Int.natCast_nonneg i), Int.toNat_natCast, List.map_take]
theorem drop_refs {ps : List Addr} {i : Nat} : cutV (ps.map V.ref) (some (i : Int)) none = (ps.drop i).map V.ref := by
  rw [cutV_drop (Int.natCast_nonneg i), Int.toNat_natCast, List.map_drop]
theorem ixN_natO {n j : Nat} (hj : j < n) : ixN n (j : Int) = some j := by
  unfold ixN
  rw [if_pos (by omega), if_pos (by omega)]
  simp
theorem LsAt.set {H : Hp} {ps : List Addr} {xs : List Lt} {p : Addr} {x : Lt} {i : Nat} (h : LsAt H ps xs) (e : LtAt H p x) : LsAt H (ps.set i p) (xs.set i x) := by
  refine ⟨by rw [List.length_set, List.length_set]; exact h.1, fun j hj => ?_⟩
  rw [List.length_set] at hj
  have hp : j < ps.length := by rw [h.1]; exact hj
  rw [List.getD_eq_getElem?_getD, List.getD_eq_getElem?_getD, List.getElem?_set, List.getElem?_set]
  by_cases c : i = j
  · subst c
    simp [hp, hj]
    exact e
  · simp [c]
    have := h.2 j hj
    rwa [List.getD_eq_getElem?_getD, List.getD_eq_getElem?_getD] at this
theorem map_ref_set (ps : List Addr) (i : Nat) (p : Addr) : (ps.map V.ref).set i (.ref p) = (ps.set i p).map V.ref := by
  rw [List.map_set]
theorem mem_set_or {α : Type} {xs : List α} {i : Nat} {x y : α} (h : y ∈ xs.set i x) : y ∈ xs ∨ y = x := List.mem_or_eq_of_mem_set h
theorem PsAt.take {H : Hp} {ps : List Addr} {qs : List Pr} {n : Nat} (h : PsAt H ps qs) : PsAt H (ps.take n) (qs.take n) := by
  refine ⟨by rw [List.length_take, List.length_take, h.1], fun i hi => ?_⟩
  rw [List.length_take] at hi
  have := h.2 i (by omega)
  rw [List.getD_eq_getElem?_getD, List.getD_eq_getElem?_getD] at this ⊢
  rwa [List.getElem?_take_of_lt (by omega), List.getElem?_take_of_lt (by omega)]
theorem PsAt.drop {H : Hp} {ps : List Addr} {qs : List Pr} {n : Nat} (h : PsAt H ps qs) : PsAt H (ps.drop n) (qs.drop n) := by
  refine ⟨by rw [List.length_drop, List.length_drop, h.1], fun i hi => ?_⟩
  rw [List.length_drop] at hi
  have := h.2 (n + i) (by omega)
  rw [List.getD_eq_getElem?_getD, List.getD_eq_getElem?_getD] at this ⊢
  rwa [List.getElem?_drop, List.getElem?_drop]
theorem mem_befT {cs : List Pr} {b : Option Str} {t z : Int} : z ∈ befT cs b t ↔ (z, b) ∈ cs ∧ z < t := by
  unfold befT
  rw [List.mem_map]
  constructor
  · rintro ⟨q, hq, rfl⟩
    rw [List.mem_filter, Bool.and_eq_true_iff, decide_eq_true_iff, decide_eq_true_iff] at hq
    rw [← hq.2.1]
    exact ⟨hq.1, hq.2.2⟩
  · rintro ⟨h1, h2⟩
    exact ⟨(z, b), List.mem_filter.mpr ⟨h1, by simp [h2]⟩, rfl⟩
theorem befT_same {cs ds : List Pr} {b : Option Str} {t : Int} (same : ∀ (t : Int) (b : Option Str), b = some ("a" : Str) ∨ b = some ("b" : Str) → ((t, b) ∈ cs ↔ (t, b) ∈ ds)) (ab : b = some ("a" : Str) ∨ b = some ("b" : Str)) (z : Int) : z ∈ befT cs b t ↔ z ∈ befT ds b t := by
  rw [mem_befT, mem_befT, same z b ab]

theorem cut_k (m : Sm) : cutV m.vals none (some 1) = [.str m.k.s] := by
  obtain ⟨mk, mh, mt, mb, ml⟩ := m
  cases mk <;> rfl
theorem cut_r (m : Sm) (h : Int) : [V.str m.k.s] ++ [.int h] ++ cutV m.vals (some 2) none = Sm.vals { m with h := h } := by
  obtain ⟨mk, mh, mt, mb, ml⟩ := m
  cases mk <;> rfl
theorem cut_n (m : Sm) : cutV m.vals (some 2) none ≠ [] := by
  obtain ⟨mk, mh, mt, mb, ml⟩ := m
  cases mk <;> exact fun z => nomatch z
theorem ok_law_lift (T : Txt K mg a) : ∃ fd, FnOk P w K mg base CX0 1 a.d_law_lift fd ["letter", "height"] (spLift K) ∧ Binds K fd ["letter", "height"] [] := by
  obtain ⟨fd, F, b⟩ := T.d_law_lift.F
  refine ⟨fd, F.ok sc_law_lift (fun vs H Q E h => ?_) (fun cdv A outer s H vs Q E hr h => ?_), b⟩
  · obtain ⟨_, _, _, rfl, _⟩ := h
    rfl
  · obtain ⟨p, x, ht, rfl, hx, k⟩ := h
    obtain ⟨q, hp, hq⟩ := id hx
    have hq' : H q = some (.tup x.m.vals) := hq
    have l4 : 4 ≤ x.m.vals.length ∧ x.m.vals.length ≤ 5 := by
      obtain ⟨xw, xk, xh, xt, xb, xl⟩ := x
      cases xk <;> exact ⟨by simp [Sm.vals], by simp [Sm.vals]⟩
    refine ⟨_, (pss_one (ps_ret (pe_tup (pa_cons (pe_ix ix_tup (pv 0) pe_int (fun _ _ => rfl)) (pa_cons (pe_op op_catA (pe_op op_catA (pe_slice sl_tup (pe_ix ix_tup (pv 0) pe_int (fun _ _ => rfl)) po_none (po_some pe_int)) (pe_tup (pa_cons (pv 1) pa_nil))) (pe_slice sl_tup (pe_ix ix_tup (pv 0) pe_int (fun _ _ => rfl)) (po_some pe_int) po_none)) pa_nil))))), ?_⟩
    walk_at "rs"
    refine ⟨_, _, _, _, rfl, rfl, SqT.of hp, rfl, ?_⟩
    walk_at "rs"
    refine ⟨_, _, _, _, rfl, rfl, SqT.of hp, rfl, ?_⟩
    walk_at "rs"
    refine ⟨q, _, rfl, SqT.of hq', ?_, fun p1 hp1 => ?_⟩
    · have e : HT.sIx x.m.vals.length x.m.vals.length (some 1) = 1 := by
        simp [HT.sIx]
        omega
      rw [e]
      omega
    rw [cut_k]
    have s1 : Same H (upd H p1 (.tup [V.str x.m.k.s])) := same_new hp1
    walk_at "rs"
    refine ⟨(by show 1 ≤ sizeLine; decide), fun p2 hp2 => ?_⟩
    have s2 : Same (upd H p1 (.tup [V.str x.m.k.s])) (upd (upd H p1 (.tup [V.str x.m.k.s])) p2 (.tup [V.int ht])) := same_new hp2
    refine ⟨p1, p2, _, _, rfl, rfl, SqT.of (s2 _ _ upd_same), SqT.of upd_same, (by show 2 ≤ sizeLine; decide), fun z => (nomatch z), fun _ z => (nomatch z), fun _ _ p3 hp3 => ?_⟩
    have s3 := same_new (o := .tup ([V.str x.m.k.s] ++ [V.int ht])) hp3
    have s13 : Same H _ := (s1.trans s2).trans s3
    have h3 := (upd_same : (upd (upd (upd H p1 (.tup [V.str x.m.k.s])) p2 (.tup [V.int ht])) p3 (.tup ([V.str x.m.k.s] ++ [V.int ht]))) p3 = _)
    generalize upd (upd (upd H p1 (.tup [V.str x.m.k.s])) p2 (.tup [V.int ht])) p3 (.tup ([V.str x.m.k.s] ++ [V.int ht])) = H3 at s3 s13 h3 ⊢
    walk_at "rs"
    refine ⟨_, _, _, _, rfl, rfl, SqT.of (s13 _ _ hp), rfl, ?_⟩
    walk_at "rs"
    refine ⟨q, _, rfl, SqT.of (s13 _ _ hq'), ?_, fun p4 hp4 => ?_⟩
    · have e : HT.sIx x.m.vals.length 0 (some 2) = 2 := by
        simp [HT.sIx]
        omega
      rw [e]
      omega
    have s4 := same_new (o := .tup (cutV x.m.vals (some 2) none)) hp4
    have cl := cutV_length x.m.vals (some 2) none
    refine ⟨p3, p4, _, _, rfl, rfl, SqT.of (s4 _ _ h3), SqT.of upd_same, by rw [sizeLine_eq]; simp; omega, fun z => (nomatch z), fun _ z => absurd z (cut_n _), fun _ _ p5 hp5 => ?_⟩
    rw [cut_r]
    have s5 := same_new (o := .tup (Sm.vals { x.m with h := ht })) hp5
    walk_at "rs"
    refine ⟨(by show 2 ≤ sizeLine; decide), fun p6 hp6 => ?_⟩
    have s6 := same_new (o := .tup [V.int x.w, V.ref p5]) hp6
    exact k p6 _ (((s13.trans s4).trans s5).trans s6) ⟨p5, upd_same, s6 _ _ upd_same⟩

theorem LsAt.app {H : Hp} {ps qs : List Addr} {xs ys : List Lt} (h : LsAt H ps xs) (e : LsAt H qs ys) : LsAt H (ps ++ qs) (xs ++ ys) := by
  refine ⟨by rw [List.length_append, List.length_append, h.1, e.1], fun i hi => ?_⟩
  rw [List.length_append] at hi
  rcases Nat.lt_or_ge i xs.length with z | z
  · rw [getD_left (by rw [h.1]; exact z), getD_left z]
    exact h.2 i z
  · have z' : ps.length ≤ i := by rw [h.1]; exact z
    rw [List.getD_eq_getElem?_getD, List.getD_eq_getElem?_getD, List.getElem?_append_right z', List.getElem?_append_right z, ← List.getD_eq_getElem?_getD, ← List.getD_eq_getElem?_getD, h.1]
    exact e.2 _ (by omega)
theorem LsAt.take {H : Hp} {ps : List Addr} {xs : List Lt} {n : Nat} (h : LsAt H ps xs) : LsAt H (ps.take n) (xs.take n) := by
  refine ⟨by rw [List.length_take, List.length_take, h.1], fun i hi => ?_⟩
  rw [List.length_take] at hi
  have := h.2 i (by omega)
  rw [List.getD_eq_getElem?_getD, List.getD_eq_getElem?_getD] at this ⊢
  rwa [List.getElem?_take_of_lt (by omega), List.getElem?_take_of_lt (by omega)]
/-- a letter that the law makes -/
def FinL (x : Lt) : Prop := OkS x.m.b ∧ 0 ≤ x.w ∧ 0 ≤ x.m.t ∧ x.m.t < 4 ∧ AB x.m.b
def Fin (xs : List Lt) : Prop := ∀ x ∈ xs, FinL x
theorem Fin.app {xs ys : List Lt} (h : Fin xs) (g : Fin ys) : Fin (xs ++ ys) := fun y hy => (List.mem_append.mp hy).elim (h y) (g y)
theorem Fin.take {xs : List Lt} (h : Fin xs) (n : Nat) : Fin (xs.take n) := fun y hy => h y (List.mem_of_mem_take hy)
theorem good_fin {size : Int} {xs : List Lt} (g : ∀ x ∈ xs, GoodLt size x) : Fin xs := fun x hx => ⟨(g x hx).1, (g x hx).2.1, (g x hx).2.2.2.2.2.1, (g x hx).2.2.2.2.2.2.1, (g x hx).2.2.2.2.2.2.2.2⟩
theorem Fin.okl {xs : List Lt} (h : Fin xs) : OkL xs := fun x hx => (h x hx).1
/-- what holds before each letter that is added -/
structure Loop (P : Program) (w : World) (CB CC : Addr) (H : Hp) (bk : Addr) (B : Bk) (pw pF pk : Addr) (ws : List Int) (ht : Int) (psF : List Addr) (xsF : List Lt) (i : Nat) : Prop where
  book : BookAt P w CB CC H bk B
  w_ : B.ws = ws
  h_ : B.h = ht
  kp : True
  wl : H pw = some (.lst (ws.map V.int))
  fl : H pF = some (.lst (psF.map V.ref))
  ls : LsAt H psF xsF
  dk : True
  dw : pw ∉ B.S
  df : pF ∉ B.S
  dkw : True
  dkf : True
  few : B.xs.length ≤ i
  fc : B.cs.length ≤ 60 * i
  fm : B.ms.length ≤ 60 * i
  cc : CI (due2 false ws B.xs ht) B.cs
  cm : CI (due2 true ws B.xs ht) B.ms
  fin : Fin B.xs
theorem BookAt.someS {P : Program} {w : World} {CB CC : Addr} {H : Hp} {bk : Addr} {B : Bk} (N : BookAt P w CB CC H bk B) {p : Addr} (m : p ∈ B.S) (e : H p = none) : False := by
  unfold Bk.S at m
  rcases List.mem_cons.mp m with rfl | m
  · rw [N.lc] at e; cases e
  rcases List.mem_cons.mp m with rfl | m
  · rw [N.lm] at e; cases e
  rcases List.mem_cons.mp m with rfl | m
  · rcases N.kept.at_ with ⟨_, a⟩ | a <;> (rw [a] at e; cases e)
  rcases List.mem_cons.mp m with rfl | m
  · rcases N.byb.at_ with ⟨_, a⟩ | a <;> (rw [a] at e; cases e)
  obtain ⟨q, hq, rfl⟩ := List.mem_map.mp m
  obtain ⟨ls, a, _⟩ := N.rows q hq
  rw [a] at e; cases e
theorem BookAt.off {P : Program} {w : World} {CB CC : Addr} {H : Hp} {bk : Addr} {B : Bk} {l : Addr} {ys zs : List V} (N : BookAt P w CB CC H bk B) (hl : H l = some (.lst ys)) (d : l ∉ B.S) : BookAt P w CB CC (_root_.L2.upd H l (.lst zs)) bk B := by
  have nt : ∀ ys, H l ≠ some (.tup ys) := fun ys e => by rw [hl] at e; cases e
  have k : Keeps [l] H (_root_.L2.upd H l (.lst zs)) := keeps_upd List.mem_cons_self
  have nf : ∀ p o, H p = some o → Fixed o → p ∉ [l] := fun p o e f m => by
    rw [List.mem_singleton.mp m, hl] at e
    cases e
    exact f
  have ns : ∀ a ∈ B.S, a ≠ l := fun a m e => d (e ▸ m)
  have m1 : B.Lc ∈ B.S := List.mem_cons_self
  have m2 : B.Lm ∈ B.S := List.mem_cons_of_mem _ List.mem_cons_self
  have m3 : B.Dk ∈ B.S := List.mem_cons_of_mem _ (List.mem_cons_of_mem _ List.mem_cons_self)
  have m4 : B.Db ∈ B.S := List.mem_cons_of_mem _ (List.mem_cons_of_mem _ (List.mem_cons_of_mem _ List.mem_cons_self))
  have m5 : ∀ e ∈ B.kvs, e.2 ∈ B.S := fun e he => List.mem_cons_of_mem _ (List.mem_cons_of_mem _ (List.mem_cons_of_mem _ (List.mem_cons_of_mem _ (List.mem_map.mpr ⟨e, he, rfl⟩))))
  have up : ∀ a ∈ B.S, ∀ o, H a = some o → (_root_.L2.upd H l (.lst zs)) a = some o := fun a m o e => by
    rw [upd_ne (ns a m)]
    exact e
  exact { N with obj := N.obj.imp fun _ e => k _ _ (nf _ _ e (show Fixed (.ins _ _ _) from True.intro)) e, com := N.com.keeps k nf, kept := N.kept.updM nt (ns _ m3), byb := N.byb.updM (ns _ m4), lc := up _ m1 _ N.lc, pc := N.pc.keeps k fun p ys e => nf _ _ e True.intro, lm := up _ m2 _ N.lm, pm := N.pm.keeps k fun p ys e => nf _ _ e True.intro,
                 rows := fun e he => let ⟨ls, h1, h2⟩ := N.rows e he; ⟨ls, up _ (m5 e he) _ h1, h2.keeps k fun p ys e => nf _ _ e True.intro⟩ }
theorem Loop.same {P : Program} {w : World} {CB CC : Addr} {H H' : Hp} {bk : Addr} {B : Bk} {pw pF pk : Addr} {ws : List Int} {ht : Int} {psF : List Addr} {xsF : List Lt} {i : Nat} (L : Loop P w CB CC H bk B pw pF pk ws ht psF xsF i) (s : Same H H') : Loop P w CB CC H' bk B pw pF pk ws ht psF xsF i :=
  { L with book := L.book.same s, kp := trivial, wl := s _ _ L.wl, fl := s _ _ L.fl, ls := L.ls.same s }
/-- what the law reckons to be new: told, and whether the book takes it -/
def newM (B : Bk) (x : Lt) : Bool := decide (ltKey x ∉ B.xs.map ltKey) && bel B.ws B.h x
/-- a letter was offered to the book -/
structure Added (P : Program) (w : World) (CB CC : Addr) (H0 H : Hp) (bk : Addr) (B B' : Bk) (p : Addr) (x : Lt) (n1 n2 : List Pr) (ws : List Int) (ht : Int) : Prop where
  book : BookAt P w CB CC H bk B'
  kp : Keeps B.S H0 H
  S : ∀ y ∈ B'.S, y ∈ B.S ∨ H0 y = none
  w_ : B'.ws = ws
  h_ : B'.h = ht
  ps : B'.ps = if newM B x then B.ps ++ [p] else B.ps
  xs : B'.xs = if newM B x then B.xs ++ [x] else B.xs
  cs : B'.cs = B.cs ++ n1
  ms : B'.ms = B.ms ++ n2
  e1 : (dP (due2 false ws B'.xs ht) 4).filter (fun q => decide (q ∉ B.cs)) = n1
  e2 : (dP (due2 true ws B'.xs ht) 4).filter (fun q => decide (q ∉ B.ms)) = n2
  a1 : n1.Pairwise (fun q r => q.1 < r.1)
  a2 : n2.Pairwise (fun q r => q.1 < r.1)
  o1 : ∀ q ∈ n1, q.2 ≠ none
  o2 : ∀ q ∈ n2, q.2 ≠ none
  k1 : OkP n1
  k2 : OkP n2
  l1 : n1.length ≤ 60
  l2 : n2.length ≤ 60
  cc : CI (due2 false ws B'.xs ht) B'.cs
  cm : CI (due2 true ws B'.xs ht) B'.ms
  fin : Fin B'.xs
theorem Added.no {P : Program} {w : World} {CB CC : Addr} {H0 H : Hp} {bk : Addr} {B : Bk} {p : Addr} {x : Lt} {pw pF pk : Addr} {ws : List Int} {ht : Int} {psF : List Addr} {xsF : List Lt} {i : Nat} (L : Loop P w CB CC H0 bk B pw pF pk ws ht psF xsF i) (s : Same H0 H) (e : newM B x = false) : Added P w CB CC H0 H bk B B p x [] [] ws ht where
  book := L.book.same s
  kp := .of s
  S := fun y m => .inl m
  w_ := L.w_
  h_ := L.h_
  ps := by rw [e]; rfl
  xs := by rw [e]; rfl
  cs := (List.append_nil _).symm
  ms := (List.append_nil _).symm
  e1 := L.cc.none_new
  e2 := L.cm.none_new
  a1 := .nil
  a2 := .nil
  o1 := fun q hq => nomatch hq
  o2 := fun q hq => nomatch hq
  k1 := fun q hq => nomatch hq
  k2 := fun q hq => nomatch hq
  l1 := Nat.zero_le _
  l2 := Nat.zero_le _
  cc := L.cc
  cm := L.cm
  fin := L.fin
theorem due2_f (ws : List Int) (xs : List Lt) (ht : Int) : due2 false ws xs ht = fun b n => certM ws xs ht b n := rfl
theorem due2_t (ws : List Int) (xs : List Lt) (ht : Int) : due2 true ws xs ht = fun b n => commM ws xs ht b n := rfl
theorem Added.yes {P : Program} {w : World} {CB CC : Addr} {H0 H : Hp} {bk : Addr} {B : Bk} {p : Addr} {x : Lt} {pw pF pk : Addr} {ws : List Int} {ht : Int} {psF : List Addr} {xsF : List Lt} {i : Nat} (L : Loop P w CB CC H0 bk B pw pF pk ws ht psF xsF i) (gw : GoodW ws) (fx : FinL x) (e : newM B x = true)
    {kvs : List (Option Str × Addr)} {q1 q2 : List Addr} (k : Keeps B.S H0 H) (c : ∀ e ∈ kvs, e ∈ B.kvs ∨ H0 e.2 = none) (N : BookAt P w CB CC H bk { B.plus p x with kvs := kvs, qc := B.qc ++ q1, cs := B.cs ++ (B.plus p x).c' x.m.b, qm := B.qm ++ q2, ms := B.ms ++ (B.plus p x).m' x.m.b }) :
    Added P w CB CC H0 H bk B { B.plus p x with kvs := kvs, qc := B.qc ++ q1, cs := B.cs ++ (B.plus p x).c' x.m.b, qm := B.qm ++ q2, ms := B.ms ++ (B.plus p x).m' x.m.b } p x ((B.plus p x).c' x.m.b) ((B.plus p x).m' x.m.b) ws ht := by
  have w1 := L.w_
  have h1 := L.h_
  have ab : AB x.m.b := fx.2.2.2.2
  have pos := pos_w gw
  have t4 : ∀ y ∈ B.xs ++ [x], y.m.t < ((4 : Nat) : Int) := fun y hy => by
    rcases List.mem_append.mp hy with hy | hy
    · exact (L.fin y hy).2.2.2.1
    · rw [List.mem_singleton.mp hy]
      exact fx.2.2.2.1
  have ec : (B.plus p x).c' x.m.b = miss (fL (due2 false ws (B.xs ++ [x]) ht) x.m.b) x.m.b B.cs := by
    show miss (ctL B.ws (inB x.m.b (B.xs ++ [x])) B.h x.m.b) x.m.b B.cs = _
    rw [ctL_inB, w1, h1, ctL_fL]
    rfl
  have em : (B.plus p x).m' x.m.b = miss (fL (due2 true ws (B.xs ++ [x]) ht) x.m.b) x.m.b B.ms := by
    show miss (cmL B.ws (inB x.m.b (B.xs ++ [x])) B.h x.m.b) x.m.b B.ms = _
    rw [cmL_inB, w1, h1, cmL_fL]
    rfl
  obtain ⟨c1, c2⟩ := L.cc.step (f' := due2 false ws (B.xs ++ [x]) ht) ab (fun n h => (cert_mono pos n).2 h) (fun d ne n => cert_other ne n) fun n hn => cert_late gw t4 hn
  obtain ⟨m1, m2⟩ := L.cm.step (f' := due2 true ws (B.xs ++ [x]) ht) ab (fun n h => commM_mono pos h) (fun d ne n => comm_other ne n) fun n hn => comm_late gw t4 hn
  have fb : ∀ f, (fL f x.m.b).length ≤ 60 := fun f => by
    rcases ab with h | h | h <;> rw [h]
    · exact Nat.zero_le _
    all_goals
      show (LL f _ 60).length ≤ 60
      unfold LL
      rw [List.length_map]
      exact Nat.le_trans (List.length_filter_le _ _) (by rw [List.length_range]; exact Nat.le_refl _)
  have nn : ∀ (f : Option Str → Nat → Bool) (cs : List Pr), ∀ q ∈ miss (fL f x.m.b) x.m.b cs, q.2 ≠ none := fun f cs q hq z => by
    obtain ⟨h1, h2, _⟩ := (mem_miss q).mp hq
    rw [← h1, z] at h2
    cases h2
  refine { book := N, kp := k, S := ?_, w_ := w1, h_ := h1, ps := by rw [e]; rfl, xs := by rw [e]; rfl, cs := rfl, ms := rfl, e1 := by rw [ec]; exact c2, e2 := by rw [em]; exact m2,
           a1 := by rw [ec]; exact miss_asc (fL_asc _ _), a2 := by rw [em]; exact miss_asc (fL_asc _ _), o1 := by rw [ec]; exact nn _ _, o2 := by rw [em]; exact nn _ _, k1 := by rw [ec]; exact miss_ok fx.1, k2 := by rw [em]; exact miss_ok fx.1,
           l1 := by rw [ec]; exact Nat.le_trans (miss_len _ _ _) (fb _), l2 := by rw [em]; exact Nat.le_trans (miss_len _ _ _) (fb _), cc := ?_, cm := ?_, fin := ?_ }
  · intro y m
    have m : y ∈ B.Lc :: B.Lm :: B.Dk :: B.Db :: kvs.map (·.2) := m
    unfold Bk.S
    rcases List.mem_cons.mp m with q | m
    · exact .inl (by rw [q]; exact List.mem_cons_self)
    rcases List.mem_cons.mp m with q | m
    · exact .inl (by rw [q]; exact List.mem_cons_of_mem _ List.mem_cons_self)
    rcases List.mem_cons.mp m with q | m
    · exact .inl (by rw [q]; exact List.mem_cons_of_mem _ (List.mem_cons_of_mem _ List.mem_cons_self))
    rcases List.mem_cons.mp m with q | m
    · exact .inl (by rw [q]; exact List.mem_cons_of_mem _ (List.mem_cons_of_mem _ (List.mem_cons_of_mem _ List.mem_cons_self)))
    obtain ⟨z, hz, rfl⟩ := List.mem_map.mp m
    rcases c z hz with h | h
    · exact .inl (List.mem_cons_of_mem _ (List.mem_cons_of_mem _ (List.mem_cons_of_mem _ (List.mem_cons_of_mem _ (List.mem_map.mpr ⟨z, h, rfl⟩)))))
    · exact .inr h
  · show CI (due2 false ws (B.xs ++ [x]) ht) (B.cs ++ (B.plus p x).c' x.m.b)
    rw [ec]
    exact c1
  · show CI (due2 true ws (B.xs ++ [x]) ht) (B.ms ++ (B.plus p x).m' x.m.b)
    rw [em]
    exact m1
  · exact L.fin.app fun y hy => by
      rw [List.mem_singleton.mp hy]
      exact fx

theorem qrm_mem {ws ms : List Int} (g : GoodW ws) (q : qrm ws ms = true) : ∃ m, m ∈ ms := by
  cases ms with
  | nil => rw [qrm_nilW g] at q; cases q
  | cons m ms => exact ⟨m, List.mem_cons_self⟩
theorem cert_has {ws : List Int} {xs : List Lt} {h : Int} {b : Str} {n : Nat} (g : GoodW ws) (c : certM ws xs h (some b) n = true) : ∃ x ∈ xs, inT .pre h (some b) n x = true := by
  obtain ⟨m, hm⟩ := qrm_mem g c
  unfold memM at hm
  obtain ⟨x, hx, _⟩ := List.mem_map.mp hm
  obtain ⟨h1, h2⟩ := List.mem_filter.mp hx
  unfold cnt at h2
  rw [Bool.and_eq_true_iff, decide_eq_true_iff] at h2
  refine ⟨x, h1, ?_⟩
  unfold inT selV
  rw [Bool.and_eq_true_iff]
  exact ⟨decide_eq_true ⟨(fun z => (nomatch z)), h2.1.1, h2.1.2.1, h2.1.2.2.2⟩, decide_eq_true h2.1.2.2.1⟩
theorem comm_has {ws : List Int} {xs : List Lt} {h : Int} {b : Str} {n : Nat} (g : GoodW ws) (c : commM ws xs h (some b) n = true) : ∃ x ∈ xs, inT .com h (some b) n x = true := by
  unfold commM at c
  rw [Bool.and_eq_true_iff] at c
  obtain ⟨m, hm⟩ := qrm_mem g c.1
  unfold comS at hm
  obtain ⟨x, hx, _⟩ := List.mem_map.mp hm
  obtain ⟨h1, h2⟩ := List.mem_filter.mp hx
  have h2 := of_decide_eq_true h2
  refine ⟨x, h1, ?_⟩
  unfold inT selV
  rw [Bool.and_eq_true_iff]
  exact ⟨decide_eq_true ⟨(fun z => (nomatch z)), h2.1, h2.2.1, h2.2.2.2⟩, decide_eq_true h2.2.2.1⟩
theorem mem_forB {cs : List Pr} {b : Option Str} {t : Int} : t ∈ forB cs b ↔ (t, b) ∈ cs := by
  unfold forB
  rw [List.mem_map]
  constructor
  · rintro ⟨q, hq, rfl⟩
    rw [List.mem_filter, decide_eq_true_iff] at hq
    rw [← hq.2]
    exact hq.1
  · intro h
    exact ⟨(t, b), List.mem_filter.mpr ⟨h, by simp⟩, rfl⟩
theorem mem_forF {f : Option Str → Nat → Bool} {cs : List Pr} {b : Str} (c : CI f cs) (t : Int) : t ∈ forB cs (some b) ↔ 0 ≤ t ∧ t < 60 ∧ f (some b) t.toNat = true := by
  rw [mem_forB, c]
  show t ∈ LL f (some b) 60 ↔ _
  rw [mem_LL]
  constructor
  · rintro ⟨k, rfl, h1, h2⟩
    exact ⟨by omega, by omega, by rw [Int.toNat_natCast]; exact h2⟩
  · rintro ⟨h1, h2, h3⟩
    exact ⟨t.toNat, by omega, by omega, h3⟩
theorem downP_mem {Q : Int → List Lt} {x : Lt} : ∀ (m : Nat) (taken : List Lt) (w : List Int), x ∈ downP Q m taken w → x ∈ taken ∨ ∃ t, x ∈ Q t
  | 0, _, _, h => .inl h
  | m + 1, taken, w, h => by
    rw [downP] at h
    split at h
    · rcases downP_mem m _ _ h with h | h
      · rcases List.mem_append.mp h with h | h
        · exact .inl h
        · exact .inr ⟨_, h⟩
      · exact .inr h
    · exact downP_mem m _ _ h
theorem paper_mem {ws : List Int} {xs : List Lt} {h : Int} {b : Option Str} {L : List Int} {t : Int} {x : Lt} (hx : x ∈ paperM ws xs h b L t) : x ∈ xs := by
  unfold paperM at hx
  rcases List.mem_append.mp hx with hx | hx
  · exact (List.mem_filter.mp (uq_mem hx)).1
  · rcases downP_mem _ _ _ hx with hx | ⟨u, hx⟩
    · cases hx
    · exact (List.mem_filter.mp (List.mem_filter.mp (uq_mem hx)).1).1
theorem uq_mono {ws : List Int} {ls : List Lt} {x : Lt} : x ∈ uq ws ls → ∀ y : Lt, x ∈ uqS ws (uq ws ls) y := fun h y => by
  unfold uqS
  split
  · exact h
  · split
    · exact h
    · exact List.mem_append_left _ h
/-- the list of letters is processed from its beginning -/
theorem snoc_ind {α : Type} {p : List α → Prop} (h0 : p []) (h1 : ∀ xs x, p xs → p (xs ++ [x])) : ∀ xs, p xs := fun xs => by
  have : ∀ (n : Nat) (xs : List α), xs.length = n → p xs := fun n => by
    induction n with
    | zero => intro xs h; rw [List.eq_nil_of_length_eq_zero h]; exact h0
    | succ n ih =>
      intro xs h
      have ne : xs ≠ [] := fun z => by rw [z] at h; cases h
      rw [← List.dropLast_concat_getLast ne]
      exact h1 _ _ (ih _ (by rw [List.length_dropLast, h]; rfl))
  exact this _ xs rfl
theorem uq_has {ws : List Int} : ∀ ls : List Lt, qrm ws ((uq ws ls).map Lt.w) = true ∨ ∀ x ∈ ls, x.w ∈ (uq ws ls).map Lt.w :=
  snoc_ind (.inr fun x hx => nomatch hx) fun ls x ih => by
    rw [uq_snoc]
    unfold uqS
    by_cases q : qrm ws ((uq ws ls).map Lt.w) = true
    · rw [if_pos q]
      exact .inl q
    · rw [if_neg q]
      have ih := ih.resolve_left q
      by_cases m : x.w ∈ (uq ws ls).map Lt.w
      · rw [if_pos m]
        refine .inr fun y hy => ?_
        rcases List.mem_append.mp hy with hy | hy
        · exact ih y hy
        · rw [List.mem_singleton.mp hy]
          exact m
      · rw [if_neg m]
        refine .inr fun y hy => ?_
        rw [List.map_append, List.mem_append]
        rcases List.mem_append.mp hy with hy | hy
        · exact .inl (ih y hy)
        · rw [List.mem_singleton.mp hy]
          exact .inr List.mem_cons_self
/-- if all are a quorum, those that are taken are one -/
theorem uq_quorum {ws : List Int} {ls : List Lt} (pos : ∀ k : Nat, 0 ≤ ws.getD k 0) (q : qrm ws (ls.map Lt.w) = true) : qrm ws ((uq ws ls).map Lt.w) = true := by
  rcases uq_has (ws := ws) ls with h | h
  · exact h
  · refine qrm_mono pos (fun k hk => ?_) q
    obtain ⟨x, hx, rfl⟩ := List.mem_map.mp hk
    exact h x hx
/-- without the last one they are none -/
theorem uq_least {ws : List Int} : ∀ ls : List Lt, uq ws ls = [] ∨ qrm ws ((uq ws ls).dropLast.map Lt.w) = false :=
  snoc_ind (.inl rfl) fun ls x ih => by
    rw [uq_snoc]
    unfold uqS
    by_cases q : qrm ws ((uq ws ls).map Lt.w) = true
    · rw [if_pos q]
      exact ih
    · rw [if_neg q]
      by_cases m : x.w ∈ (uq ws ls).map Lt.w
      · rw [if_pos m]
        exact ih
      · rw [if_neg m, List.dropLast_concat]
        exact .inr (Bool.eq_false_iff.mpr q)
theorem uq_nodup {ws : List Int} : ∀ ls : List Lt, (uq ws ls).Pairwise fun x y => x.w ≠ y.w :=
  snoc_ind .nil fun ls x ih => by
    rw [uq_snoc]
    unfold uqS
    split
    · exact ih
    · split
      · exact ih
      · rename_i m
        refine List.pairwise_append.mpr ⟨ih, List.pairwise_singleton _ _, fun y hy z hz e => m ?_⟩
        rw [List.mem_singleton.mp hz] at e
        exact List.mem_map.mpr ⟨y, hy, e⟩
theorem downP_sub {Q : Int → List Lt} {x : Lt} : ∀ (m : Nat) (taken : List Lt) (w : List Int), x ∈ taken → x ∈ downP Q m taken w
  | 0, _, _, h => h
  | m + 1, taken, w, h => by
    rw [downP]
    split
    · exact downP_sub m _ _ (List.mem_append_left _ h)
    · exact downP_sub m _ _ h
/-- letters of turn u that count by L are those that count -/
theorem cnt_cntL {ws : List Int} {xs : List Lt} {h : Int} {b : Str} {L : List Int} {u : Nat} {x : Lt} (hL : ∀ l, l ∈ L ↔ 0 ≤ l ∧ l < 60 ∧ certM ws xs h (some b) l.toNat = true) (u60 : u < 60) (ln : LnOk x.m) :
    cnt h u (some b) (lns ws xs h (some b) u) x = (inT .pre h (some b) u x && cntL x.m L) := by
  unfold cnt inT selV cntL
  rw [Bool.eq_iff_iff]
  simp only [Bool.and_eq_true_iff, decide_eq_true_iff]
  cases el : x.m.l with
  | none =>
    constructor
    · rintro ⟨⟨a1, a2, a3, a4⟩, _⟩
      exact ⟨⟨⟨(fun z => (nomatch z)), a1, a2, a4⟩, a3⟩, rfl⟩
    · rintro ⟨⟨⟨_, a1, a2, a4⟩, a3⟩, _⟩
      exact ⟨⟨a1, a2, a3, a4⟩, rfl⟩
  | some l =>
    obtain ⟨l0, l1⟩ := ln.1 l el
    simp only [decide_eq_true_iff, Bool.and_eq_true_iff]
    constructor
    · rintro ⟨⟨a1, a2, a3, a4⟩, a5, a6⟩
      obtain ⟨_, _, c⟩ := (mem_lnsI l u).mp a5
      exact ⟨⟨⟨(fun z => (nomatch z)), a1, a2, a4⟩, a3⟩, l1, (hL l).mpr ⟨l0, by omega, c⟩⟩
    · rintro ⟨⟨⟨_, a1, a2, a4⟩, a3⟩, _, a6⟩
      obtain ⟨_, _, c⟩ := (hL l).mp a6
      exact ⟨⟨a1, a2, a3, a4⟩, (mem_lnsI l u).mpr ⟨l0, by omega, c⟩, by omega⟩
theorem qT_quorum {ws : List Int} {xs : List Lt} {h : Int} {b : Str} {L : List Int} {u : Nat} (pos : ∀ k : Nat, 0 ≤ ws.getD k 0) (hL : ∀ l, l ∈ L ↔ 0 ≤ l ∧ l < 60 ∧ certM ws xs h (some b) l.toNat = true) (u60 : u < 60) (ln : ∀ x ∈ xs, LnOk x.m)
    (c : certM ws xs h (some b) u = true) : qrm ws ((qT ws xs h (some b) L u).map Lt.w) = true := by
  unfold qT
  refine uq_quorum pos ?_
  unfold certM memM at c
  rw [List.filter_filter]
  have e : xs.filter (cnt h u (some b) (lns ws xs h (some b) u)) = xs.filter fun x => cntL x.m L && inT .pre h (some b) u x := by
    apply List.filter_congr
    intro x hx
    rw [cnt_cntL hL u60 (ln x hx), Bool.and_comm]
  rw [← e]
  exact c
/-- the certificates that the paper wants stand in the paper -/
theorem down_cert {ws : List Int} {xs : List Lt} {h : Int} {b : Str} {L : List Int} (pos : ∀ k : Nat, 0 ≤ ws.getD k 0) (hL : ∀ l, l ∈ L ↔ 0 ≤ l ∧ l < 60 ∧ certM ws xs h (some b) l.toNat = true) (ln : ∀ x ∈ xs, LnOk x.m) {PP : List Lt} :
    ∀ (m : Nat) (taken : List Lt) (w : List Int), m ≤ 60 → (∀ x ∈ downP (qT ws xs h (some b) L) m taken w, x ∈ PP) → (∀ l ∈ w, l ∈ L) → ∀ u : Nat, u < m → (u : Int) ∈ w → certM ws PP h (some b) u = true
  | 0, _, _, _, _, _, u, hu, _ => absurd hu (Nat.not_lt_zero u)
  | m + 1, taken, w, m60, sub, wl, u, hu, hw => by
    rw [downP] at sub
    by_cases c : (m : Int) ∈ w
    · rw [if_pos c] at sub
      have wl' : ∀ l ∈ w ++ leansOf (qT ws xs h (some b) L m), l ∈ L := fun l hl => by
        rcases List.mem_append.mp hl with hl | hl
        · exact wl l hl
        · obtain ⟨y, hy, e⟩ := List.mem_filterMap.mp hl
          have := (List.mem_filter.mp (uq_mem hy)).2
          unfold cntL at this
          rw [e] at this
          have this : (decide (l < y.m.t) && decide (l ∈ L)) = true := this
          rw [Bool.and_eq_true_iff, decide_eq_true_iff, decide_eq_true_iff] at this
          exact this.2
      have ih := down_cert pos hL ln m _ _ (by omega) sub wl'
      rcases Nat.lt_or_ge u m with z | z
      · exact ih u z (List.mem_append_left _ hw)
      · have eu : u = m := by omega
        subst eu
        obtain ⟨_, _, cu⟩ := (hL u).mp (wl _ hw)
        rw [Int.toNat_natCast] at cu
        have q := qT_quorum pos hL (by omega) ln cu
        refine qrm_mono pos (fun k hk => ?_) q
        obtain ⟨y, hy, rfl⟩ := List.mem_map.mp hk
        have hyP : y ∈ PP := sub y (downP_sub _ _ _ (List.mem_append_right _ hy))
        obtain ⟨h1, h2⟩ := List.mem_filter.mp (uq_mem hy)
        obtain ⟨h3, h4⟩ := List.mem_filter.mp h1
        unfold memM
        refine List.mem_map.mpr ⟨y, List.mem_filter.mpr ⟨hyP, ?_⟩, rfl⟩
        have lny := ln y h3
        have t1 := inT_t h4
        unfold inT selV at h4
        rw [Bool.and_eq_true_iff, decide_eq_true_iff] at h4
        unfold cnt
        rw [Bool.and_eq_true_iff]
        refine ⟨decide_eq_true ⟨h4.1.2.1, h4.1.2.2.1, t1.symm, h4.1.2.2.2⟩, ?_⟩
        cases el : y.m.l with
        | none => rfl
        | some l =>
          obtain ⟨l0, l1⟩ := lny.1 l el
          have hl : l ∈ leansOf (qT ws xs h (some b) L u) := List.mem_filterMap.mpr ⟨y, hy, el⟩
          have lu : l < (u : Int) := by rw [t1]; exact l1
          have := ih l.toNat (by omega) (List.mem_append_right _ (by rw [Int.toNat_of_nonneg l0]; exact hl))
          show (decide (l ∈ lns ws PP h (some b) u) && decide (l < (u : Int))) = true
          rw [decide_eq_true lu, Bool.and_true]
          exact decide_eq_true ((mem_lnsI l u).mpr ⟨l0, lu, this⟩)
    · rw [if_neg c] at sub
      have un : u ≠ m := fun e => c (e ▸ hw)
      exact down_cert pos hL ln m _ _ (by omega) sub wl u (by omega) hw
theorem uqC_com {ws : List Int} {xs : List Lt} {h : Int} {b : Str} {t : Int} {x : Lt} (hx : x ∈ uq ws (xs.filter (inT .com h (some b) t))) : x.m.k = .com ∧ x.m.h = h ∧ x.m.t = t ∧ x.m.b = some b := by
  have h1 := (List.mem_filter.mp (uq_mem hx)).2
  have t1 := inT_t h1
  unfold inT selV at h1
  rw [Bool.and_eq_true_iff, decide_eq_true_iff] at h1
  exact ⟨h1.1.2.1, h1.1.2.2.1, t1.symm, h1.1.2.2.2⟩
theorem qT_pre {ws : List Int} {xs : List Lt} {h : Int} {b : Option Str} {L : List Int} {u : Int} {x : Lt} (hx : x ∈ qT ws xs h b L u) : x.m.k = .pre ∧ x.m.t = u := by
  have h1 := (List.mem_filter.mp (List.mem_filter.mp (uq_mem hx)).1).2
  have t1 := inT_t h1
  unfold inT selV at h1
  rw [Bool.and_eq_true_iff, decide_eq_true_iff] at h1
  exact ⟨h1.1.2.1, t1.symm⟩
theorem prev_pre {ws : List Int} {xs : List Lt} {h : Int} {b : Option Str} {L : List Int} {t : Int} {x : Lt} (hx : x ∈ prevM ws xs h b L t) : x.m.k = .pre := by
  rcases downP_mem _ _ _ hx with hx | ⟨u, hx⟩
  · cases hx
  · exact (qT_pre hx).1
/-- two letters that differ in sender, kind or turn -/
def Diff (x y : Lt) : Prop := x.w ≠ y.w ∨ x.m.k ≠ y.m.k ∨ x.m.t ≠ y.m.t
theorem Diff.key {x y : Lt} (d : Diff x y) : ltKey x ≠ ltKey y := fun e => by
  have h := key_eqv x y
  rw [decide_eq_true e] at h
  obtain ⟨xw, xk, xh, xt, xb, xl⟩ := x
  obtain ⟨yw, yk, yh, yt, yb, yl⟩ := y
  have k1 : ¬Kd.prop.s = Kd.pre.s := by decide
  have k2 : ¬Kd.prop.s = Kd.com.s := by decide
  have k3 : ¬Kd.pre.s = Kd.prop.s := by decide
  have k4 : ¬Kd.pre.s = Kd.com.s := by decide
  have k5 : ¬Kd.com.s = Kd.prop.s := by decide
  have k6 : ¬Kd.com.s = Kd.pre.s := by decide
  cases xk <;> cases yk <;> simp [Lt.dat, Sm.dat, PyData.eqv, PyData.eqvAll, k1, k2, k3, k4, k5, k6, Diff] at h d <;> (first | omega | (obtain ⟨h1, h2⟩ := h; first | exact d.elim (fun z => z h1) fun z => z h2.2.1 | omega))
theorem downP_diff {ws : List Int} {xs : List Lt} {h : Int} {b : Option Str} {L : List Int} : ∀ (m : Nat) (taken : List Lt) (w : List Int), taken.Pairwise Diff → (∀ x ∈ taken, x.m.k = .pre ∧ (m : Int) ≤ x.m.t) → (downP (qT ws xs h b L) m taken w).Pairwise Diff
  | 0, _, _, p, _ => p
  | m + 1, taken, w, p, g => by
    rw [downP]
    split
    · refine downP_diff m _ _ (List.pairwise_append.mpr ⟨p, ?_, fun x hx y hy => ?_⟩) fun x hx => ?_
      · exact (uq_nodup _).imp fun d => .inl d
      · have a := (g x hx).2
        have c := (qT_pre hy).2
        exact .inr (.inr (by omega))
      · rcases List.mem_append.mp hx with hx | hx
        · have := g x hx
          exact ⟨this.1, by omega⟩
        · have := qT_pre hx
          exact ⟨this.1, by omega⟩
    · exact downP_diff m _ _ p fun x hx => ⟨(g x hx).1, by have := (g x hx).2; omega⟩
theorem paper_diff {ws : List Int} {xs : List Lt} {h : Int} {b : Str} {L : List Int} {t : Int} : (paperM ws xs h (some b) L t).Pairwise Diff := by
  unfold paperM
  refine List.pairwise_append.mpr ⟨(uq_nodup _).imp fun d => .inl d, downP_diff _ _ _ .nil (fun x hx => nomatch hx), fun x hx y hy => .inr (.inl ?_)⟩
  rw [(uqC_com hx).1, prev_pre hy]
  exact fun z => nomatch z
theorem comS_pre {xs : List Lt} {h t : Int} {b : Option Str} (hp : ∀ x ∈ xs, x.m.k = .pre) : comS xs h t b = [] := by
  unfold comS
  rw [List.filter_eq_nil_iff.mpr fun x hx c => ?_]
  · rfl
  · rw [decide_eq_true_iff, hp x hx] at c
    cases c.1
theorem comS_app (xs ys : List Lt) (h t : Int) (b : Option Str) : comS (xs ++ ys) h t b = comS xs h t b ++ comS ys h t b := by
  unfold comS
  rw [List.filter_append, List.map_append]
theorem comS_all {xs : List Lt} {h t : Int} {b : Option Str} (hp : ∀ x ∈ xs, x.m.k = .com ∧ x.m.h = h ∧ x.m.t = t ∧ x.m.b = b) : comS xs h t b = xs.map Lt.w := by
  unfold comS
  rw [List.filter_eq_self.mpr fun x hx => decide_eq_true (hp x hx)]
section
variable {ws : List Int} {xs : List Lt} {h : Int} {b : Str} {L : List Int} {t : Int}
/-- the paper commits the block in its turn -/
theorem paper_commits (pos : ∀ k : Nat, 0 ≤ ws.getD k 0) (hL : ∀ l, l ∈ L ↔ 0 ≤ l ∧ l < 60 ∧ certM ws xs h (some b) l.toNat = true) (ln : ∀ x ∈ xs, LnOk x.m) (t0 : 0 ≤ t) (t60 : t < 60) (c : commM ws xs h (some b) t.toNat = true) :
    commM ws (paperM ws xs h (some b) L t) h (some b) t.toNat = true := by
  unfold commM at c ⊢
  rw [Bool.and_eq_true_iff, Int.toNat_of_nonneg t0] at c ⊢
  have e : comS xs h t (some b) = (xs.filter (inT .com h (some b) t)).map Lt.w := by
    unfold comS
    congr 1
    apply List.filter_congr
    intro x _
    unfold inT selV
    rw [Bool.eq_iff_iff]
    simp only [decide_eq_true_iff, Bool.and_eq_true_iff]
    constructor
    · rintro ⟨h1, h2, h3, h4⟩
      exact ⟨⟨(fun z => (nomatch z)), h1, h2, h4⟩, h3⟩
    · rintro ⟨⟨_, h1, h2, h4⟩, h3⟩
      exact ⟨h1, h2, h3, h4⟩
  refine ⟨?_, ?_⟩
  · have q := uq_quorum pos (show qrm ws ((xs.filter (inT .com h (some b) t)).map Lt.w) = true by rw [← e]; exact c.1)
    refine qrm_mono pos (fun k hk => ?_) q
    unfold paperM
    rw [comS_app, comS_all fun x hx => uqC_com hx]
    exact List.mem_append_left _ hk
  · have tL : t ∈ L := (hL t).mpr ⟨t0, t60, c.2⟩
    refine down_cert pos hL ln (t.toNat + 1) [] [t] (by omega) (fun x hx => ?_) (fun l hl => by rw [List.mem_singleton.mp hl]; exact tL) t.toNat (by omega) (by rw [Int.toNat_of_nonneg t0]; exact List.mem_cons_self)
    unfold paperM
    exact List.mem_append_right _ hx
/-- and not without its last precommit -/
theorem paper_least (pos : ∀ k : Nat, 0 ≤ ws.getD k 0) (ne : uq ws (xs.filter (inT .com h (some b) t)) ≠ []) (t0 : 0 ≤ t) :
    commM ws ((uq ws (xs.filter (inT .com h (some b) t))).dropLast ++ prevM ws xs h (some b) L t) h (some b) t.toNat = false := by
  have l := (uq_least (ws := ws) (xs.filter (inT .com h (some b) t))).resolve_left ne
  unfold commM
  rw [comS_app, comS_pre (fun x hx => prev_pre hx), List.append_nil, comS_all fun x hx => by rw [Int.toNat_of_nonneg t0]; exact uqC_com ((List.dropLast_sublist _).subset hx), l, Bool.false_and]
theorem uq_few (g : ∀ x ∈ xs, 0 ≤ x.w ∧ x.w < ws.length) {ls : List Lt} (hs : ∀ x ∈ ls, x ∈ xs) : (uq ws ls).length ≤ ws.length := by
  have nd : ((uq ws ls).map Lt.w).Nodup := by
    unfold List.Nodup
    rw [List.pairwise_map]
    exact uq_nodup ls
  have := nodup_few ws.length nd fun w hw => by
    obtain ⟨x, hx, rfl⟩ := List.mem_map.mp hw
    exact g x (hs x (uq_mem hx))
  rwa [List.length_map] at this
theorem paper_few (g : ∀ x ∈ xs, 0 ≤ x.w ∧ x.w < ws.length) (w5 : ws.length ≤ 5) (t0 : 0 ≤ t) (t4 : t < 4) : (uq ws (xs.filter (inT .com h (some b) t))).length ≤ 5 ∧ (prevM ws xs h (some b) L t).length ≤ 20 := by
  refine ⟨Nat.le_trans (uq_few g fun x hx => (List.mem_filter.mp hx).1) w5, ?_⟩
  have hq : ∀ u, (qT ws xs h (some b) L u).length ≤ 5 := fun u => Nat.le_trans (uq_few g fun x hx => (List.mem_filter.mp (List.mem_filter.mp hx).1).1) w5
  have := downP_len hq (t.toNat + 1) [] [t]
  unfold prevM
  have e : ([] : List Lt).length = 0 := rfl
  omega
end

def TB4 (xs : List Lt) : Prop := ∀ x ∈ xs, 0 ≤ x.m.t ∧ x.m.t < 4
def tnC (ws : List Int) (xs : List Lt) (h : Int) (b : Str) : List Int := LL (due2 true ws xs h) (some b) 4
def spTurns (K : PySem.W.Frag) : Sp := fun vs H Q _ => ∃ (pw l : Addr) (ws : List Int) (ps : List Addr) (xs : List Lt) (b : Str) (h : Int), vs = [.ref pw, .ref l, .str b, .int h] ∧ SqL K H pw (ws.map V.int) ∧ ws.length ≤ 16 ∧ H l = some (.lst (ps.map V.ref)) ∧ LsAt H ps xs ∧ xs.length ≤ 100 ∧ OkL xs ∧ OkS (some b) ∧
  ∀ (D : Addr) H', Same H H' → H D = none → H' D = some (.lst ((tnC ws xs h b).map V.int)) → Q (.ref D) H'
def spLShown (K : PySem.W.Frag) (CC : Addr) : Sp := fun vs H Q _ => ∃ (c l pt : Addr) (ws : List Int) (ps : List Addr) (xs : List Lt) (b : Str) (h : Int), vs = [.ref c, .str b, .ref l, .ref pt, .int h] ∧ CommAt CC H c ws ∧ GoodW ws ∧ H l = some (.lst (ps.map V.ref)) ∧ LsAt H ps xs ∧ xs.length ≤ 100 ∧ TB4 xs ∧
  H pt = some (.lst ((tnC ws xs h b).map V.int)) ∧ ∀ H', Same H H' → Q (.bl true) H'
def spLPaper (K : PySem.W.Frag) (CC : Addr) : Sp := fun vs H Q _ => ∃ (pw c pk pp : Addr) (ws : List Int) (ps : List Addr) (xs : List Lt) (rs : List Addr) (b : Str) (L : List Int) (t h : Int), vs = [.ref pw, .ref c, .ref pk, .str b, .ref pp, .int t, .int h] ∧ SqL K H pw (ws.map V.int) ∧ ws.length ≤ 5 ∧ CommAt CC H c ws ∧ GoodW ws ∧ H pk = some (.lst (ps.map V.ref)) ∧ LsAt H ps xs ∧ xs.length ≤ 100 ∧
  H pp = some (.lst (rs.map V.ref)) ∧ LsAt H rs (paperM ws xs h (some b) L t) ∧ TB4 xs ∧ OkL xs ∧ OkS (some b) ∧ 0 ≤ t ∧ t < 4 ∧ (∀ x ∈ xs, 0 ≤ x.w ∧ x.w < ws.length ∧ LnOk x.m) ∧ (∀ l, l ∈ L ↔ 0 ≤ l ∧ l < 60 ∧ certM ws xs h (some b) l.toNat = true) ∧ commM ws xs h (some b) t.toNat = true ∧ ∀ H', Same H H' → Q (.bl true) H'
theorem cmL_tn {ws : List Int} {xs : List Lt} {h : Int} {b : Str} (g : GoodW ws) (tb : TB4 xs) : cmL ws xs h (some b) = tnC ws xs h b := by
  rw [cmL_fL]
  exact LL_late (m := 4) (f := due2 true ws xs h) (fun n hn => comm_late (m := 4) g (fun y hy => (tb y hy).2) hn) 56

theorem LsAt.drop {H : Hp} {ps : List Addr} {xs : List Lt} {n : Nat} (h : LsAt H ps xs) : LsAt H (ps.drop n) (xs.drop n) := by
  refine ⟨by rw [List.length_drop, List.length_drop, h.1], fun i hi => ?_⟩
  rw [List.length_drop] at hi
  have := h.2 (n + i) (by omega)
  rw [List.getD_eq_getElem?_getD, List.getD_eq_getElem?_getD] at this ⊢
  rwa [List.getElem?_drop, List.getElem?_drop]
theorem ok_law_turns (T : Txt K mg a) : ∃ fd, FnOk P w K mg base CX0 4 a.d_law_turns fd ["weights", "letters", "block", "height"] (spTurns K) ∧ Binds K fd ["weights", "letters", "block", "height"] [] := by
  obtain ⟨fd, F, b⟩ := T.d_law_turns.F
  obtain ⟨fd_law_committed, G_law_committed, b_law_committed⟩ := ok_law_committed (P := P) (w := w) (base := base) T
  refine ⟨fd, F.ok sc_law_turns (fun vs H Q E h => ?_) (fun cdv A outer s H vs Q E hr h => ?_), b⟩
  · obtain ⟨_, _, _, _, _, _, _, rfl, _⟩ := h
    rfl
  · obtain ⟨pw, l, ws, ps, xs, bb, ht, rfl, hw, wl, hl, hx, few, okx, ob, k⟩ := h
    refine ⟨_, (pss_one (ps_ret (pe_lc (own := [("turn", 4)]) (g := (gName 4)) rfl sc_law_turns.nd (pi_range1 rfl T.n_range (pa_cons pe_int pa_nil)) (blkOk_by (own := [("turn", 4)]) (N := sc_law_turns_N) (sc := defScope s_law_turns) (by decide +kernel)) (fun _ _ _ _ _ => (pg_name (i := 4) sc_law_turns.nd rfl (Or.inl rfl))) (fun _ _ _ _ _ => (pts_one (pt_val (pe_call G_law_committed (hr.mono (by decide)) rfl T.d_law_committed.g T.d_law_committed.kp b_law_committed .nil pass0 (pa_cons (pv 0) (pa_cons (pv 1) (pa_cons (pv 3) (pa_cons (pv 4) (pa_cons (pv 2) pa_nil))))))))) (fun _ _ _ _ _ => (pv 4))))), ?_⟩
    walk_at "rs"
    refine ⟨(by decide), (by decide), fun D hD => ?_⟩
    refine lc_range (lo := 0) (n := (4 : Int).toNat) (fun i HB => Same H HB ∧ HB D = some (.lst ((LL (due2 true ws xs ht) (some bb) i).map V.int))) ⟨same_new hD, upd_same⟩ ?_ ?_
    · rintro i HB hi ⟨sB, hd⟩
      have i4 : i < 4 := hi
      have e0 : (0 : Int) + (i : Int) = (i : Int) := Int.zero_add _
      rw [e0]
      have ll : (LL (due2 true ws xs ht) (some bb) i).length ≤ i := by
        unfold LL
        rw [List.length_map]
        exact Nat.le_trans (List.length_filter_le _ _) (by rw [List.length_range]; exact Nat.le_refl _)
      refine ⟨rfl, ?_⟩
      walk_at "rs"
      refine ⟨pw, l, ws, ps, xs, ht, (i : Int), some bb, rfl, sB.seq hw, wl, sB _ _ hl, hx.same sB, few, by omega, by omega, ob, okx, fun HC sC => ?_⟩
      rw [Int.toNat_natCast]
      walk_at "rs"
      have ed : due2 true ws xs ht (some bb) i = commM ws xs ht (some bb) i := rfl
      refine ite2 (fun c => ?_) (fun c => ?_)
      · walk_at "rs"
        refine ⟨_, sC _ _ hd, by rw [List.length_map]; exact small1000 (by omega), same_upd (sB.trans sC) hD, ?_⟩
        rw [upd_same, LL_succ, ed, c]
        simp
      · refine ⟨sB.trans sC, ?_⟩
        rw [LL_succ, ed, Bool.eq_false_iff.mpr c]
        simpa using sC _ _ hd
    · rintro HB ⟨sB, hd⟩
      exact k D HB sB hD hd
theorem ok_law_shown (T : Txt K mg a) : ∃ fd, FnOk P w K mg base CX0 7 a.d_law_shown fd ["committee", "block", "letters", "turns", "height"] (spLShown K a.C_Committee) ∧ Binds K fd ["committee", "block", "letters", "turns", "height"] [] := by
  obtain ⟨fd, F, b⟩ := T.d_law_shown.F
  obtain ⟨fd_shown_turn, G_shown_turn, b_shown_turn⟩ := ok_shown_turn (P := P) (w := w) (base := base) T
  obtain ⟨fd_law_is_integer, G_law_is_integer, b_law_is_integer⟩ := ok_law_is_integer (P := P) (w := w) (base := base) T
  obtain ⟨fd_shows, G_shows, b_shows⟩ := ok_shows (P := P) (w := w) (base := base) T
  refine ⟨fd, F.ok sc_law_shown (fun vs H Q E h => ?_) (fun cdv A outer s H vs Q E hr h => ?_), b⟩
  · obtain ⟨_, _, _, _, _, _, _, _, rfl, _⟩ := h
    rfl
  · obtain ⟨c, l, pt, ws, ps, xs, bb, ht, rfl, hc, gw, hl, hx, few, tb, hpt, k⟩ := h
    have tb60 : TB xs := fun x hx => by
      have := tb x hx
      omega
    have ecm := cmL_tn (h := ht) (b := bb) gw tb
    have asc : (tnC ws xs ht bb).Pairwise (· < ·) := LL_asc _ _ _
    refine ⟨_, (pss_cons (ps_if (PW.pt (pw_and (pt_cmpR op_isnot_bl (pe_call G_shows (hr.mono (by decide)) rfl T.d_shows.g T.d_shows.kp b_shows .nil pass0 (pa_cons (pv 0) (pa_cons (pv 4) (pa_cons (pv 1) (pa_cons (pv 2) pa_nil))))) pe_bl (nomark _)) (pw_and1 (pt_cmpR op_gt (pe_callB call_len_seq (by rfl) T.n_len PySem.boot_len (pa_cons (pv 3) pa_nil)) pe_int (nomark _)))))
      (pss_one (ps_ret pe_bl))
      pss_nil)
      (pss_cons (ps_if (PW.pt (pw_and (pt_cmpR op_isnot_bl (pe_call G_shows (hr.mono (by decide)) rfl T.d_shows.g T.d_shows.kp b_shows .nil pass0 (pa_cons (pv 0) (pa_cons (pv 4) (pa_cons (pv 1) (pa_cons (pv 2) pa_nil))))) pe_bl (nomark _)) (pw_and1 (pt_cmpR op_eq (pe_callB call_len_seq (by rfl) T.n_len PySem.boot_len (pa_cons (pv 3) pa_nil)) pe_int (nomark _)))))
      (pss_one (ps_ret pe_bl))
      pss_nil)
      (pss_cons (ps_set (i := 5) sc_law_shown.nd rfl (Or.inl rfl) (pe_call G_shown_turn (hr.mono (by decide)) rfl T.d_shown_turn.g T.d_shown_turn.kp b_shown_turn .nil pass0 (pa_cons (pv 0) (pa_cons (pv 4) (pa_cons (pv 1) (pa_cons (pv 2) pa_nil))))))
      (pss_cons (ps_if (pt_cmpR op_eq (pe_callB call_len_seq (by rfl) T.n_len PySem.boot_len (pa_cons (pv 3) pa_nil)) pe_int (nomark _))
      (pss_one (ps_ret (pe_cmpR op_isN (pv 5) pe_non (nomark _))))
      pss_nil)
      (pss_one (ps_ret (pe_and (pe_call G_law_is_integer (hr.mono (by decide)) rfl T.d_law_is_integer.g T.d_law_is_integer.kp b_law_is_integer .nil pass0 (pa_cons (pv 5) pa_nil)) (pe_one (pe_cmpR op_eq (pv 5) (pe_ix ix_list (pv 3) pe_int (fun _ _ => rfl)) (nomark _)))))))))), ?_⟩
    walk_at "rs"
    refine ⟨c, l, ws, ps, xs, ht, some bb, rfl, hc, gw, hl, hx, by omega, tb60, fun H1 s1 => ?_⟩
    have esh : shM ws xs ht (some bb) = !(tnC ws xs ht bb).isEmpty := by
      unfold shM
      rw [ecm]
    rw [esh]
    cases ets : tnC ws xs ht bb with
    | nil =>
      rw [ets] at hpt
      walk_at "rs"
      refine ⟨pt, _, rfl, .inl (SqL.of (s1 _ _ hpt)), ?_⟩
      walk_at "rs"
      refine ⟨c, l, ws, ps, xs, ht, some bb, rfl, hc.same s1, gw, s1 _ _ hl, hx.same s1, by omega, tb60, fun H2 s2 => ?_⟩
      rw [esh, ets]
      walk_at "rs"
      have s12 := s1.trans s2
      refine ⟨c, l, ws, ps, xs, ht, some bb, rfl, hc.same s12, gw, s12 _ _ hl, hx.same s12, by omega, tb60, fun v H3 s3 e0 _ => ?_⟩
      rw [e0 (ecm.trans ets)]
      have s13 := s12.trans s3
      walk_at "rs"
      refine ⟨pt, _, rfl, .inl (SqL.of (s13 _ _ hpt)), ?_⟩
      walk_at "rs"
      exact k H3 s13
    | cons t0 ts =>
      rw [ets] at hpt asc
      walk_at "rs"
      refine ⟨c, l, ws, ps, xs, ht, some bb, rfl, hc.same s1, gw, s1 _ _ hl, hx.same s1, by omega, tb60, fun H2 s2 => ?_⟩
      rw [esh, ets]
      have s12 := s1.trans s2
      walk_at "rs"
      refine ⟨pt, _, rfl, .inl (SqL.of (s12 _ _ hpt)), ?_⟩
      walk_at "rs"
      refine ⟨c, l, ws, ps, xs, ht, some bb, rfl, hc.same s12, gw, s12 _ _ hl, hx.same s12, by omega, tb60, fun v H3 s3 _ e1 => ?_⟩
      have e1 := e1
      rw [ecm, ets] at e1
      obtain ⟨m, hm, lo, rfl⟩ := e1 (fun z => nomatch z)
      have em : m = t0 := by
        have a1 := lo t0 List.mem_cons_self
        rcases List.mem_cons.mp hm with rfl | hm
        · rfl
        · have := (List.pairwise_cons.mp asc).1 m hm
          omega
      subst em
      have s13 := s12.trans s3
      walk_at "rs"
      refine ⟨pt, _, rfl, .inl (SqL.of (s13 _ _ hpt)), ?_⟩
      walk_at "rs"
      refine ⟨pt, _, _, .int m, rfl, rfl, SqL.of (s13 _ _ hpt), at_of (j := 0) rfl rfl, ?_⟩
      walk_at "rs"
      have := k H3 s13
      simpa using this
/-- the place of the last precommit so far -/
def lastV : Nat → V
  | 0 => .non
  | n + 1 => .int (n : Int)
theorem ok_law_paper (T : Txt K mg a) : ∃ fd, FnOk P w K mg base CX0 8 a.d_law_paper fd ["weights", "committee", "kept", "block", "paper", "turn", "height"] (spLPaper K a.C_Committee) ∧ Binds K fd ["weights", "committee", "kept", "block", "paper", "turn", "height"] [] := by
  obtain ⟨fd, F, b⟩ := T.d_law_paper.F
  obtain ⟨fd_law_committed, G_law_committed, b_law_committed⟩ := ok_law_committed (P := P) (w := w) (base := base) T
  obtain ⟨fd_law_shown, G_law_shown, b_law_shown⟩ := ok_law_shown (P := P) (w := w) (base := base) T
  obtain ⟨fd_law_turns, G_law_turns, b_law_turns⟩ := ok_law_turns (P := P) (w := w) (base := base) T
  refine ⟨fd, F.ok sc_law_paper (fun vs H Q E h => ?_) (fun cdv A outer s H vs Q E hr h => ?_), b⟩
  · obtain ⟨_, _, _, _, _, _, _, _, _, _, _, _, rfl, _⟩ := h
    rfl
  · obtain ⟨pw, c, pk, pp, ws, ps, xs, rs, bb, L, t, ht, rfl, hw, w5, hc, gw, hk, hx, few, hp, hP, tb, okx, ob, t0, t4, gx, hL, hcm, k⟩ := h
    have nP := hP.1
    have pos := pos_w gw
    obtain ⟨f1, f2⟩ := paper_few (ws := ws) (xs := xs) (h := ht) (b := bb) (L := L) (t := t) (fun x hx => ⟨(gx x hx).1, (gx x hx).2.1⟩) w5 t0 t4
    have mem : ∀ x ∈ paperM ws xs ht (some bb) L t, x ∈ xs := fun x hx => paper_mem hx
    have okp : OkL (paperM ws xs ht (some bb) L t) := fun x hx => okx x (mem x hx)
    have tbp : TB4 (paperM ws xs ht (some bb) L t) := fun x hx => tb x (mem x hx)
    have dif : (paperM ws xs ht (some bb) L t).Pairwise Diff := paper_diff
    have pc := paper_commits pos hL (fun x hx => (gx x hx).2.2) t0 (by omega) hcm
    have uc : ∀ x ∈ uq ws (xs.filter (inT .com ht (some bb) t)), x.m.k = .com ∧ x.m.h = ht ∧ x.m.t = t ∧ x.m.b = some bb := fun x hx => uqC_com hx
    have vp : ∀ x ∈ prevM ws xs ht (some bb) L t, x.m.k = .pre := fun x hx => prev_pre hx
    have least := paper_least (L := L) (h := ht) (b := bb) (xs := xs) (t := t) pos
    have pl : (paperM ws xs ht (some bb) L t).length = (uq ws (xs.filter (inT .com ht (some bb) t))).length + (prevM ws xs ht (some bb) L t).length := by
      unfold paperM
      rw [List.length_append]
    have pe : paperM ws xs ht (some bb) L t = uq ws (xs.filter (inT .com ht (some bb) t)) ++ prevM ws xs ht (some bb) L t := rfl
    generalize uq ws (xs.filter (inT .com ht (some bb) t)) = U at *
    generalize prevM ws xs ht (some bb) L t = VV at *
    generalize paperM ws xs ht (some bb) L t = PM at *
    refine ⟨_, (pss_cons (ps_if (pt_not (pt_val (pe_callB call_isi (by rfl) T.n_isinstance (by decide +kernel) (pa_cons (pv 4) (pa_cons (pe_bltn (v := .ty "list") (u := .type "list") (by rfl) T.n_list (by decide +kernel) rfl) pa_nil)))))
      (pss_one (ps_ret pe_bl))
      pss_nil)
      (pss_cons (ps_set (i := 7) sc_law_paper.nd rfl (Or.inl rfl) pe_non)
      (pss_cons (ps_for PassesOwn.never rfl (pi_range1 rfl T.n_range (pa_cons (pe_callB call_len_seq (by rfl) T.n_len PySem.boot_len (pa_cons (pv 4) pa_nil)) pa_nil)) (pg_name (i := 8) sc_law_paper.nd rfl (Or.inl rfl))
      (pss_cons (ps_if (PW.pt (pw_or (pt_cmpR (op_notInD (hu65 hr)) (pe_ix ix_list (pv 4) (pv 8) (fun _ _ => rfl)) (pv 2) (by rfl)) (pw_or1 (pt_cmpR (op_inD (hu65 hr)) (pe_ix ix_list (pv 4) (pv 8) (fun _ _ => rfl)) (pe_slice sl_list (pv 4) po_none (po_some (pv 8))) (by rfl)))))
        (pss_one (ps_ret pe_bl))
        pss_nil)
        (pss_one (ps_if (pt_cmpR (op_eqD hr.units) (pe_ix ix_tup (pe_ix ix_list (pv 4) (pv 8) (fun _ _ => rfl)) pe_int (fun _ _ => rfl)) (pe_tup (pa_cons pe_str (pa_cons (pv 6) (pa_cons (pv 5) (pa_cons (pv 3) pa_nil))))) (nomark _))
        (pss_one (ps_set (i := 7) sc_law_paper.nd rfl (Or.inl rfl) (pv 8)))
        pss_nil))))
      (pss_cons (ps_if (PW.pt (pw_or (pt_cmpR op_isN (pv 7) pe_non (nomark _)) (pw_or1 (pt_not (pt_val (pe_call G_law_committed (hr.mono (by decide)) rfl T.d_law_committed.g T.d_law_committed.kp b_law_committed .nil pass0 (pa_cons (pv 0) (pa_cons (pv 4) (pa_cons (pv 6) (pa_cons (pv 5) (pa_cons (pv 3) pa_nil)))))))))))
      (pss_one (ps_ret pe_bl))
      pss_nil)
      (pss_cons (ps_if (pt_val (pe_call G_law_committed (hr.mono (by decide)) rfl T.d_law_committed.g T.d_law_committed.kp b_law_committed .nil pass0 (pa_cons (pv 0) (pa_cons (pe_op op_cat (pe_slice sl_list (pv 4) po_none (po_some (pv 7))) (pe_slice sl_list (pv 4) (po_some (pe_op op_add (pv 7) pe_int)) po_none)) (pa_cons (pv 6) (pa_cons (pv 5) (pa_cons (pv 3) pa_nil)))))))
      (pss_one (ps_ret pe_bl))
      pss_nil)
      (pss_one (ps_ret (pe_call G_law_shown (hr.mono (by decide)) rfl T.d_law_shown.g T.d_law_shown.kp b_law_shown .nil pass0 (pa_cons (pv 1) (pa_cons (pv 3) (pa_cons (pv 4) (pa_cons (pe_call G_law_turns (hr.mono (by decide)) rfl T.d_law_turns.g T.d_law_turns.kp b_law_turns .nil pass0 (pa_cons (pv 0) (pa_cons (pv 4) (pa_cons (pv 3) (pa_cons (pv 6) pa_nil))))) (pa_cons (pv 6) pa_nil))))))))))))), ?_⟩
    walk_at "rs"
    refine ⟨_, _, .type "list", .type "list", true, rfl, .ty _, .base (.lst hp), kit_ty (by decide +kernel), ?_⟩
    walk_at "rs"
    refine ⟨pp, _, rfl, .inl (SqL.of hp), ?_⟩
    walk_at "rs"
    have hlen : ((rs.map V.ref).length : Int) = PM.length := by rw [List.length_map, nP]
    refine ⟨(by show -(2 ^ 62 : Int) ≤ _; omega), (by show _ < (2 ^ 62 : Int); omega), ?_⟩
    refine for_range (lo := 0) (n := (((rs.map V.ref).length : Int)).toNat) (fun i σ H2 => ∃ v8 : Option V, σ = [some (.ref pw), some (.ref c), some (.ref pk), some (.str bb), some (.ref pp), some (.int t), some (.int ht), some (lastV (min i U.length)), v8] ∧ Same H H2) ⟨_, by rw [Nat.zero_min]; rfl, Same.refl H⟩ ?_ ?_
    · rintro i σ H2 hi ⟨v8, rfl, s2⟩
      have e0 : (0 : Int) + (i : Int) = (i : Int) := Int.zero_add _
      rw [e0]
      have hi : i < PM.length := by omega
      have hp2 := s2 _ _ hp
      have hP2 := hP.same s2
      have hlt := hP2.2 i hi
      have mx := mem _ (getD_mem2 (d := default) hi)
      have ox := okx _ mx
      have exx : PM.getD i default = PM[i] := by rw [List.getD_eq_getElem?_getD, List.getElem?_eq_getElem hi]; rfl
      have isU : (i < U.length → (PM.getD i default).m.k = .com ∧ (PM.getD i default).m.h = ht ∧ (PM.getD i default).m.t = t ∧ (PM.getD i default).m.b = some bb) ∧ (¬ i < U.length → (PM.getD i default).m.k = .pre) := by
        rw [pe]
        constructor
        · intro h
          rw [getD_left h]
          exact uc _ (getD_mem2 h)
        · intro h
          have h2 : i - U.length < VV.length := by omega
          have : (U ++ VV).getD i default = VV.getD (i - U.length) default := by
            rw [List.getD_eq_getElem?_getD, List.getElem?_append_right (by omega), ← List.getD_eq_getElem?_getD]
          rw [this]
          exact vp _ (getD_mem2 h2)
      walk_at "rs"
      refine ⟨pp, _, _, .ref (rs.getD i 0), rfl, rfl, SqL.of hp2, at_of (j := i) rfl (at_refs (by omega)), ?_⟩
      walk_at "rs"
      refine ⟨_, xs.map Lt.dat, dp_lt hlt, .lst (SqL.of (s2 _ _ hk)) (dp_lts (hx.same s2)), shaped_lt ox, shaped_lts okx, ?_⟩
      rw [any_key, decide_eq_true (List.mem_map.mpr ⟨_, mx, rfl⟩)]
      walk_at "rs"
      refine ⟨pp, _, _, .ref (rs.getD i 0), rfl, rfl, SqL.of hp2, at_of (j := i) rfl (at_refs (by omega)), ?_⟩
      walk_at "rs"
      refine ⟨pp, _, rfl, SqL.of hp2, fun q hq => ?_⟩
      rw [take_refs]
      have s3 : Same H2 (upd H2 q (.lst ((rs.take i).map V.ref))) := same_new hq
      have hq3 : (upd H2 q (.lst ((rs.take i).map V.ref))) q = some (.lst ((rs.take i).map V.ref)) := upd_same
      generalize upd H2 q (.lst ((rs.take i).map V.ref)) = H3 at s3 hq3 ⊢
      have okt : OkL (PM.take i) := fun y hy => okp y (List.mem_of_mem_take hy)
      refine ⟨_, (PM.take i).map Lt.dat, dp_lt (hlt.same s3), .lst (SqL.of hq3) (dp_lts ((hP2.same s3).take)), shaped_lt ox, shaped_lts okt, ?_⟩
      have fresh : ltKey (PM.getD i default) ∉ (PM.take i).map ltKey := fun hm => by
        obtain ⟨y, hy, e⟩ := List.mem_map.mp hm
        obtain ⟨j, hj, rfl⟩ := List.getElem_of_mem hy
        rw [List.length_take] at hj
        rw [List.getElem_take] at e
        have d := List.pairwise_iff_getElem.mp dif j i (by omega) hi (by omega)
        rw [exx] at e
        exact d.key e
      rw [any_key, decide_eq_false fresh]
      walk_at "rs"
      refine ⟨pp, _, _, .ref (rs.getD i 0), rfl, rfl, SqL.of (s3 _ _ hp2), at_of (j := i) rfl (at_refs (by omega)), ?_⟩
      generalize PM.getD i default = x at hlt isU ox
      obtain ⟨q2, hx3, hq2⟩ := hlt.same s3
      walk_at "rs"
      refine ⟨_, _, _, _, rfl, rfl, SqT.of hx3, rfl, ?_⟩
      walk_at "rs"
      refine ⟨(by show 4 ≤ sizeLine; decide), fun p4 hp4 => ?_⟩
      have s4 := same_new (o := .tup [V.str "precommit", V.int ht, V.int t, V.str bb]) hp4
      have h4 : SmAt (upd H3 p4 (.tup [V.str "precommit", V.int ht, V.int t, V.str bb])) p4 ⟨.com, ht, t, some bb, none⟩ := upd_same
      walk_at "rs"
      refine ⟨.tuple x.m.dat, .tuple (Sm.dat ⟨.com, ht, t, some bb, none⟩), dp_sm (s4 _ _ hq2), dp_sm h4, shaped_sm _ ox, shaped_sm _ ob, ?_⟩
      rw [eqv_com]
      walk_at "rs"
      refine ite2 (fun c2 => ?_) (fun c2 => ?_)
      · have c2 := of_decide_eq_true c2
        have iU : i < U.length := Decidable.byContradiction fun z => by
          have := isU.2 z
          rw [c2.1] at this
          cases this
        walk_at "rs"
        have e1 : lastV (min (i + 1) U.length) = .int (i : Int) := by
          rw [Nat.min_eq_left (by omega)]
          rfl
        rw [e1]
        exact ⟨_, rfl, (s2.trans s3).trans s4⟩
      · have iU : ¬ i < U.length := fun z => c2 (decide_eq_true (isU.1 z))
        have e1 : lastV (min (i + 1) U.length) = lastV (min i U.length) := by
          rw [Nat.min_eq_right (by omega), Nat.min_eq_right (by omega)]
        rw [e1]
        exact ⟨_, rfl, (s2.trans s3).trans s4⟩
    · rintro σ H2 ⟨v8, rfl, s2⟩
      have hp2 := s2 _ _ hp
      have hP2 := hP.same s2
      have neU : U ≠ [] := fun e => by
        have hp' : ∀ x ∈ PM, x.m.k = .pre := fun x hx => by
          rw [pe, e] at hx
          exact vp x hx
        unfold commM at pc
        rw [comS_pre hp', qrm_nilW gw, Bool.false_and] at pc
        cases pc
      obtain ⟨n, en⟩ : ∃ n, U.length = n + 1 := ⟨U.length - 1, by have := List.length_pos_iff.mpr neU; omega⟩
      have el : lastV (min (((rs.map V.ref).length : Int)).toNat U.length) = .int (n : Int) := by
        rw [Nat.min_eq_right (by omega), en]
        rfl
      rw [el]
      have d1 : PM.take n = U.dropLast := by
        rw [pe, List.take_append_of_le_length (by omega), List.dropLast_eq_take, en]
        rfl
      have d2 : PM.drop (n + 1) = VV := by rw [pe, ← en, List.drop_left]
      walk_at "rs"
      refine ⟨pw, pp, ws, rs, PM, ht, t, some bb, rfl, s2.seq hw, by omega, hp2, hP2, by omega, t0, by omega, ob, okp, fun H3 s3 => ?_⟩
      rw [pc]
      have s23 := s2.trans s3
      walk_at "rs"
      refine ⟨pp, _, rfl, SqL.of (s23 _ _ hp), fun q1 hq1 => ?_⟩
      rw [take_refs]
      have s4 : Same H3 (upd H3 q1 (.lst ((rs.take n).map V.ref))) := same_new hq1
      have h4 : (upd H3 q1 (.lst ((rs.take n).map V.ref))) q1 = some (.lst ((rs.take n).map V.ref)) := upd_same
      generalize upd H3 q1 (.lst ((rs.take n).map V.ref)) = H4 at s4 h4 ⊢
      have s24 := s23.trans s4
      walk_at "rs"
      refine ⟨pp, _, rfl, SqL.of (s24 _ _ hp), fun q2 hq2 => ?_⟩
      rw [show ((n : Int) + 1) = ((n + 1 : Nat) : Int) from rfl, drop_refs]
      have s5 : Same H4 (upd H4 q2 (.lst ((rs.drop (n + 1)).map V.ref))) := same_new hq2
      have h5 : (upd H4 q2 (.lst ((rs.drop (n + 1)).map V.ref))) q2 = some (.lst ((rs.drop (n + 1)).map V.ref)) := upd_same
      generalize upd H4 q2 (.lst ((rs.drop (n + 1)).map V.ref)) = H5 at s5 h5 ⊢
      have r1 := List.length_take_le n rs
      have r2 : (rs.drop (n + 1)).length ≤ rs.length := by rw [List.length_drop]; omega
      refine ⟨q1, q2, _, _, rfl, rfl, s5 _ _ h4, h5, by rw [List.length_map, List.length_map, sizeLine_eq]; omega, fun q3 hq3 => ?_⟩
      have s6 : Same H5 (upd H5 q3 (.lst ((rs.take n).map V.ref ++ (rs.drop (n + 1)).map V.ref))) := same_new hq3
      have h6 : (upd H5 q3 (.lst ((rs.take n).map V.ref ++ (rs.drop (n + 1)).map V.ref))) q3 = some (.lst ((rs.take n ++ rs.drop (n + 1)).map V.ref)) := by rw [upd_same, List.map_append]
      generalize upd H5 q3 (.lst ((rs.take n).map V.ref ++ (rs.drop (n + 1)).map V.ref)) = H6 at s6 h6 ⊢
      have s26 := (s24.trans s5).trans s6
      have hP6 : LsAt H6 (rs.take n ++ rs.drop (n + 1)) (U.dropLast ++ VV) := by
        rw [← d1, ← d2]
        exact ((hP.same s26).take).append (LsAt.drop (hP.same s26))
      have okm : OkL (U.dropLast ++ VV) := fun y hy => by
        rw [← d1, ← d2] at hy
        rcases List.mem_append.mp hy with hy | hy
        · exact okp y (List.mem_of_mem_take hy)
        · exact okp y (List.mem_of_mem_drop hy)
      have lm : (U.dropLast ++ VV).length ≤ 100 := by
        rw [List.length_append, List.length_dropLast]
        omega
      walk_at "rs"
      refine ⟨pw, q3, ws, _, _, ht, t, some bb, rfl, s26.seq hw, by omega, h6, hP6, lm, t0, by omega, ob, okm, fun H7 s7 => ?_⟩
      rw [least neU t0]
      have s27 := s26.trans s7
      walk_at "rs"
      refine ⟨pw, pp, ws, rs, PM, bb, ht, rfl, s27.seq hw, by omega, s27 _ _ hp, hP.same s27, by omega, okp, ob, fun D H8 s8 hD hd8 => ?_⟩
      have s28 := s27.trans s8
      walk_at "rs"
      refine ⟨c, pp, D, ws, rs, PM, bb, ht, rfl, hc.same s28, gw, s28 _ _ hp, hP.same s28, by omega, tbp, hd8, fun H9 s9 => ?_⟩
      exact k H9 (s28.trans s9)

theorem key_fields {x y : Lt} (e : ltKey y = ltKey x) : y.w = x.w ∧ y.m.k = x.m.k ∧ y.m.h = x.m.h ∧ y.m.t = x.m.t ∧ y.m.b = x.m.b ∧ (x.m.k = .pre → y.m.l = x.m.l) := by
  have h := key_eqv y x
  rw [decide_eq_true e] at h
  obtain ⟨xw, xk, xh, xt, xb, xl⟩ := x
  obtain ⟨yw, yk, yh, yt, yb, yl⟩ := y
  have k1 : ¬Kd.prop.s = Kd.pre.s := by decide
  have k2 : ¬Kd.prop.s = Kd.com.s := by decide
  have k3 : ¬Kd.pre.s = Kd.prop.s := by decide
  have k4 : ¬Kd.pre.s = Kd.com.s := by decide
  have k5 : ¬Kd.com.s = Kd.prop.s := by decide
  have k6 : ¬Kd.com.s = Kd.pre.s := by decide
  cases xk <;> cases yk <;> cases xb <;> cases yb <;> cases xl <;> cases yl <;> simp [Lt.dat, Sm.dat, PyData.eqv, PyData.eqvAll, k1, k2, k3, k4, k5, k6] at h ⊢ <;> (try exact h) <;> omega
theorem qrm_congr {ws ms ns : List Int} (h : ∀ k, k ∈ ms ↔ k ∈ ns) : qrm ws ms = qrm ws ns := by
  have : wOf ws ms = wOf ws ns := by
    unfold wOf
    exact wt_congr ws _ _ _ fun k _ => decide_eq_decide.mpr (h _)
  unfold qrm
  rw [this]
section
variable {ws : List Int} {A C : List Lt} {h : Int} {b : Option Str}
/-- two lists that hold the same letters of the height -/
def SameAt (h : Int) (A C : List Lt) : Prop := (∀ x ∈ A, x.m.h = h → ∃ y ∈ C, ltKey y = ltKey x) ∧ ∀ y ∈ C, y ∈ A
theorem memM_same (s : SameAt h A C) {t : Int} {L : List Int} (k : Int) : k ∈ memM A h t b L ↔ k ∈ memM C h t b L := by
  unfold memM
  rw [List.mem_map, List.mem_map]
  constructor
  · rintro ⟨x, hx, rfl⟩
    obtain ⟨h1, h2⟩ := List.mem_filter.mp hx
    unfold cnt at h2
    rw [Bool.and_eq_true_iff, decide_eq_true_iff] at h2
    obtain ⟨y, hy, e⟩ := s.1 x h1 h2.1.2.1
    obtain ⟨e1, e2, e3, e4, e5, e6⟩ := key_fields e
    refine ⟨y, List.mem_filter.mpr ⟨hy, ?_⟩, e1⟩
    unfold cnt
    rw [e2, e3, e4, e5, e6 h2.1.1, Bool.and_eq_true_iff, decide_eq_true_iff]
    exact h2
  · rintro ⟨y, hy, rfl⟩
    obtain ⟨h1, h2⟩ := List.mem_filter.mp hy
    exact ⟨y, List.mem_filter.mpr ⟨s.2 y h1, h2⟩, rfl⟩
theorem comS_same (s : SameAt h A C) {t : Int} (k : Int) : k ∈ comS A h t b ↔ k ∈ comS C h t b := by
  unfold comS
  rw [List.mem_map, List.mem_map]
  constructor
  · rintro ⟨x, hx, rfl⟩
    obtain ⟨h1, h2⟩ := List.mem_filter.mp hx
    have h2 := of_decide_eq_true h2
    obtain ⟨y, hy, e⟩ := s.1 x h1 h2.2.1
    obtain ⟨e1, e2, e3, e4, e5, _⟩ := key_fields e
    exact ⟨y, List.mem_filter.mpr ⟨hy, decide_eq_true (by rw [e2, e3, e4, e5]; exact h2)⟩, e1⟩
  · rintro ⟨y, hy, rfl⟩
    obtain ⟨h1, h2⟩ := List.mem_filter.mp hy
    exact ⟨y, List.mem_filter.mpr ⟨s.2 y h1, h2⟩, rfl⟩
theorem lns_same (s : SameAt h A C) : ∀ n, lns ws A h b n = lns ws C h b n
  | 0 => rfl
  | n + 1 => by
    unfold lns
    rw [lns_same s n, qrm_congr (memM_same s)]
theorem certM_same (s : SameAt h A C) (n : Nat) : certM ws A h b n = certM ws C h b n := by
  unfold certM
  rw [lns_same s n, qrm_congr (memM_same s)]
theorem commM_same (s : SameAt h A C) (n : Nat) : commM ws A h b n = commM ws C h b n := by
  unfold commM
  rw [certM_same s n, qrm_congr (comS_same s)]
theorem tnC_same (s : SameAt h A C) (b : Str) : tnC ws A h b = tnC ws C h b := by
  unfold tnC LL
  congr 1
  apply List.filter_congr
  intro n _
  exact commM_same s n
end

theorem LsAt.reverse {H : Hp} {ps : List Addr} {xs : List Lt} (h : LsAt H ps xs) : LsAt H ps.reverse xs.reverse := by
  have n := h.1
  refine ⟨by rw [List.length_reverse, List.length_reverse, n], fun i hi => ?_⟩
  rw [List.length_reverse] at hi
  have := h.2 (xs.length - 1 - i) (by omega)
  rw [List.getD_eq_getElem?_getD, List.getD_eq_getElem?_getD] at this ⊢
  rw [List.getElem?_reverse (by omega), List.getElem?_reverse hi, n]
  exact this
/-- a letter of the height -/
def OwnL (size h : Int) (x : Lt) : Prop := OkS x.m.b ∧ 0 ≤ x.w ∧ x.w < size ∧ x.m.h = h ∧ x.m.k ≠ .prop ∧ 0 ≤ x.m.t ∧ x.m.t < 4 ∧ LnOk x.m
theorem own_good {size h : Int} {x : Lt} (g : GoodLt size x) : OwnL size h ⟨x.w, { x.m with h := h }⟩ := by
  obtain ⟨a, b, c, _, d, e, f, g⟩ := g
  exact ⟨a, b, c, rfl, d, e, f, g⟩
theorem OwnL.fin {size h : Int} {x : Lt} (g : OwnL size h x) : FinL x := by
  obtain ⟨a, b, c, _, d, e, f, g⟩ := g
  exact ⟨a, b, e, f, g.2⟩
theorem okC : OkS (some "c") := fun x e => by
  cases e
  decide +kernel
theorem ok_law {f : Addr} {fd : FuncData} (F : Fun K "law" "law" s_law f fd) (TE : TxtE K mg a) (T : Txt K mg a) : FnOk P w K mg base CX0 9 f fd ["script"] (spLaw K) := by
  obtain ⟨fd_law_weights, G_law_weights, b_law_weights⟩ := ok_law_weights (P := P) (w := w) (base := base) T
  obtain ⟨fd_law_planted, G_law_planted, b_law_planted⟩ := ok_law_planted (P := P) (w := w) (base := base) T
  obtain ⟨fd_Committee_init, G_Committee_init, b_Committee_init⟩ := ok_Committee_init (P := P) (w := w) (base := base) T
  obtain ⟨fd_Book_init, G_Book_init, b_Book_init⟩ := ok_Book_init (P := P) (w := w) (base := base) T
  obtain ⟨fd_Book_letters, G_Book_letters, b_Book_letters⟩ := ok_Book_letters (P := P) (w := w) (base := base) T
  obtain ⟨fd_law_cell, G_law_cell, b_law_cell⟩ := ok_law_cell (P := P) (w := w) (base := base) T
  obtain ⟨fd_law_letters, G_law_letters, b_law_letters⟩ := ok_law_letters (P := P) (w := w) (base := base) T
  obtain ⟨fd_law_lift, G_law_lift, b_law_lift⟩ := ok_law_lift (P := P) (w := w) (base := base) T
  obtain ⟨fd_Book_add, G_Book_add, b_Book_add⟩ := ok_Book_add (P := P) (w := w) (base := base) T
  obtain ⟨fd_law_turns, G_law_turns, b_law_turns⟩ := ok_law_turns (P := P) (w := w) (base := base) T
  obtain ⟨fd_law_shown, G_law_shown, b_law_shown⟩ := ok_law_shown (P := P) (w := w) (base := base) T
  obtain ⟨fd_commit_paper, G_commit_paper, b_commit_paper⟩ := ok_commit_paper (P := P) (w := w) (base := base) TE T
  obtain ⟨fd_law_paper, G_law_paper, b_law_paper⟩ := ok_law_paper (P := P) (w := w) (base := base) T
  refine F.ok sc_law (fun vs H Q E h => ?_) (fun cdv A outer s H vs Q E hr h => ?_)
  · obtain ⟨_, _, rfl, _⟩ := h
    rfl
  · obtain ⟨l, ns, rfl, hS, hl, k⟩ := h
    refine ⟨_, (pss_cons (ps_set (i := 1) sc_law.nd rfl (Or.inl rfl) (pe_call G_law_weights (hr.mono (by decide)) rfl T.d_law_weights.g T.d_law_weights.kp b_law_weights .nil pass0 (pa_cons (pe_call G_law_cell (hr.mono (by decide)) rfl T.d_law_cell.g T.d_law_cell.kp b_law_cell .nil pass0 (pa_cons (pv 0) (pa_cons pe_int pa_nil))) (pa_cons pe_int pa_nil))))
      (pss_cons (ps_set (i := 2) sc_law.nd rfl (Or.inl rfl) (pe_call G_law_planted (hr.mono (by decide)) rfl T.d_law_planted.g T.d_law_planted.kp b_law_planted .nil pass0 (pa_cons (pe_call G_law_cell (hr.mono (by decide)) rfl T.d_law_cell.g T.d_law_cell.kp b_law_cell .nil pass0 (pa_cons (pv 0) (pa_cons pe_int pa_nil))) (pa_cons (pe_callB call_len_seq (by rfl) T.n_len PySem.boot_len (pa_cons (pv 1) pa_nil)) pa_nil))))
      (pss_cons (ps_set (i := 2) sc_law.nd rfl (Or.inl rfl) (pe_op op_cat (pv 2) (pe_call G_law_letters (hr.mono (by decide)) rfl T.d_law_letters.g T.d_law_letters.kp b_law_letters .nil pass0 (pa_cons (pe_call G_law_cell (hr.mono (by decide)) rfl T.d_law_cell.g T.d_law_cell.kp b_law_cell .nil pass0 (pa_cons (pv 0) (pa_cons pe_int pa_nil))) (pa_cons (pe_op op_mod (pe_callTy call_int1 (by rfl) T.n_int (by decide +kernel) (pa_cons (pe_call G_law_cell (hr.mono (by decide)) rfl T.d_law_cell.g T.d_law_cell.kp b_law_cell .nil pass0 (pa_cons (pv 0) (pa_cons pe_int pa_nil))) pa_nil)) pe_int) (pa_cons (pe_callB call_len_seq (by rfl) T.n_len PySem.boot_len (pa_cons (pv 1) pa_nil)) pa_nil))))))
      (C8.pss_cut (ps_if (pt_cmpR op_eq (pe_op op_mod (pe_op op_fdiv (pe_call G_law_cell (hr.mono (by decide)) rfl T.d_law_cell.g T.d_law_cell.kp b_law_cell .nil pass0 (pa_cons (pv 0) (pa_cons pe_int pa_nil))) pe_int) pe_int) pe_int (nomark _))
      (pss_one (ps_set (i := 2) sc_law.nd rfl (Or.inl rfl) (pe_back (pv 2) (pe_un un_neg pe_int))))
      pss_nil)
      (pss_cons (ps_set (i := 3) sc_law.nd rfl (Or.inr rfl) (pe_op op_mod (pe_op op_fdiv (pe_call G_law_cell (hr.mono (by decide)) rfl T.d_law_cell.g T.d_law_cell.kp b_law_cell .nil pass0 (pa_cons (pv 0) (pa_cons pe_int pa_nil))) pe_int) pe_int))
      (pss_cons (ps_set (i := 4) sc_law.nd rfl (Or.inr rfl) (pe_op op_add (pv 3) pe_int))
      (C8.pss_cut (ps_if (PW.pt (pw_and (pt_cmpR op_gt (pv 3) pe_int (nomark _)) (pw_and1 (pt_cmpR op_eq (pe_op op_mod (pe_op op_fdiv (pe_call G_law_cell (hr.mono (by decide)) rfl T.d_law_cell.g T.d_law_cell.kp b_law_cell .nil pass0 (pa_cons (pv 0) (pa_cons pe_int pa_nil))) pe_int) pe_int) pe_int (nomark _)))))
      (pss_one (ps_set (i := 4) sc_law.nd rfl (Or.inr rfl) (pe_op op_sub (pv 3) pe_int)))
      pss_nil)
      (pss_cons (ps_setLc (i := 5) (own := [("letter", 8)]) (g := (gName 8)) (tt := tYes) rfl sc_law.nd rfl rfl (sw_true rfl rfl rfl (by decide +kernel)) (pi_list (pv 2)) (blkOk_by (own := [("letter", 8)]) (N := sc_law_N) (sc := defScope s_law) (by decide +kernel)) (fun _ _ _ _ _ => (pg_name (i := 8) sc_law.nd rfl (Or.inl rfl))) (fun _ _ _ _ _ => pts_nil) (fun _ _ _ _ _ => (pe_call G_law_lift (hr.mono (by decide)) rfl T.d_law_lift.g T.d_law_lift.kp b_law_lift .nil pass0 (pa_cons (pv 8) (pa_cons (pv 3) pa_nil)))))
      (pss_cons (ps_set (i := 2) sc_law.nd rfl (Or.inl rfl) (pe_op op_cat (pe_lc (own := [("letter", 8)]) (g := (gName 8)) (tt := tYes) rfl sc_law.nd (pi_list (pe_slice sl_list (pv 2) po_none (po_some (pe_op op_mod (pe_op op_fdiv (pe_call G_law_cell (hr.mono (by decide)) rfl T.d_law_cell.g T.d_law_cell.kp b_law_cell .nil pass0 (pa_cons (pv 0) (pa_cons pe_int pa_nil))) pe_int) pe_int)))) (blkOk_by (own := [("letter", 8)]) (N := sc_law_N) (sc := defScope s_law) (by decide +kernel)) (fun _ _ _ _ _ => (pg_name (i := 8) sc_law.nd rfl (Or.inl rfl))) (fun _ _ _ _ _ => pts_nil) (fun _ _ _ _ _ => (pe_call G_law_lift (hr.mono (by decide)) rfl T.d_law_lift.g T.d_law_lift.kp b_law_lift .nil pass0 (pa_cons (pv 8) (pa_cons (pv 4) pa_nil))))) (pv 5)))
      (pss_cons (ps_set (i := 6) sc_law.nd rfl (Or.inl rfl) (pe_make T.m_Committee G_Committee_init (hr.mono (by decide)) (by rfl) T.g_Committee b_Committee_init .nil pass0 (pa_cons (pe_callTy call_list_of (by rfl) T.n_list (by decide +kernel) (pa_cons (pv 1) pa_nil)) pa_nil)))
      (pss_cons (ps_set (i := 7) sc_law.nd rfl (Or.inl rfl) (pe_make T.m_Book G_Book_init (hr.mono (by decide)) (by rfl) T.g_Book b_Book_init .nil pass0 (pa_cons (pv 6) (pa_cons (pv 3) pa_nil))))
      (pss_cons (ps_for PassesOwn.never rfl (pi_list (pv 2)) (pg_name (i := 8) sc_law.nd rfl (Or.inl rfl))
      (pss_one (ps_expr (pe_meth (pv 7) T.cl_Book T.me_Book_add G_Book_add (hr.mono (by decide)) b_Book_add .nil pass0 (pa_cons (pv 8) pa_nil)))))
      (pss_cons (ps_set (i := 9) sc_law.nd rfl (Or.inl rfl) (pe_meth0 (pv 7) T.cl_Book T.me_Book_letters G_Book_letters (hr.mono (by decide)) b_Book_letters .nil pass0))
      (pss_cons (ps_for PassesOwn.never rfl (pi_tup (pe_tup (pa_cons pe_str (pa_cons pe_str (pa_cons pe_str pa_nil))))) (pg_name (i := 10) sc_law.nd rfl (Or.inl rfl))
      (pss_cons (ps_set (i := 11) sc_law.nd rfl (Or.inl rfl) (pe_call G_law_turns (hr.mono (by decide)) rfl T.d_law_turns.g T.d_law_turns.kp b_law_turns .nil pass0 (pa_cons (pv 1) (pa_cons (pv 2) (pa_cons (pv 10) (pa_cons (pv 3) pa_nil))))))
        (pss_cons (ps_if (pt_not (pt_val (pe_call G_law_shown (hr.mono (by decide)) rfl T.d_law_shown.g T.d_law_shown.kp b_law_shown .nil pass0 (pa_cons (pv 6) (pa_cons (pv 10) (pa_cons (pv 2) (pa_cons (pv 11) (pa_cons (pv 3) pa_nil))))))))
        (pss_one (ps_ret pe_bl))
        pss_nil)
        (pss_one (ps_try_else (pb := ⟨0, 0, 0, 0⟩) (ps_try_as (i := 13) rfl rfl sc_law.nd rfl rfl ⟨rfl, by decide, .inl TE.g_TribunalError⟩ takes0 (fun W pn xe tk _ => (pss_cons (ps_set (i := 12) sc_law.nd rfl (Or.inl rfl) (pe_callS G_commit_paper (hr.mono (by decide)) rfl T.d_commit_paper.g T.d_commit_paper.kp b_commit_paper (fun σ => passAt tk σ) (pa_cons (pv 7) (pa_cons (pv 10) pa_nil)))) (pss_one ps_continue))) (fun ae oe cls d pn hz hf => (pss_one (ps_if (PW.pt (pw_or (pt_cmpR op_gt (pe_callB (id := "len") (r := rLenOf K) (cr_lenK rfl) (by rfl) T.n_len PySem.boot_len (pa_cons (pv 11) pa_nil)) pe_int (nomark _)) (pw_or (pt_val (pe_callB (call_isN hz hf) (by rfl) T.n_isinstance (by decide +kernel) (pa_cons (pv 13) (pa_cons (pe_glob (v := .ref a.C_BadLine) rfl TE.g_BadLine rfl) pa_nil)))) (pw_or1 (pt_not (pt_val (pe_callB (call_isN hz hf) (by rfl) T.n_isinstance (by decide +kernel) (pa_cons (pv 13) (pa_cons (pe_glob (v := .ref a.C_BadPaper) rfl TE.g_BadPaper rfl) pa_nil))))))))) (pss_one (ps_ret pe_bl)) pss_nil)))) (pss_one (ps_if (PW.pt (pw_or (pt_cmpR op_eq (pe_callB call_len_seq (by rfl) T.n_len PySem.boot_len (pa_cons (pv 11) pa_nil)) pe_int (nomark _)) (pw_or1 (pt_not (pt_val (pe_call G_law_paper (hr.mono (by decide)) rfl T.d_law_paper.g T.d_law_paper.kp b_law_paper .nil pass0 (pa_cons (pv 1) (pa_cons (pv 6) (pa_cons (pv 9) (pa_cons (pv 10) (pa_cons (pv 12) (pa_cons (pe_ix ix_list (pv 11) pe_int (fun _ _ => rfl)) (pa_cons (pv 3) pa_nil)))))))))))))
          (pss_one (ps_ret pe_bl))
          pss_nil)))))))
      (pss_one (ps_ret (pe_cmpR (op_eqD hr.units) (pe_meth0 (pv 7) T.cl_Book T.me_Book_letters G_Book_letters (hr.mono (by decide)) b_Book_letters .nil pass0) (pv 9) (nomark _)))))))))))))))))), ?_⟩
    walk_at "rs"
    refine ⟨l, ns, 0, rfl, hS, hl, by decide, ?_⟩
    walk_at "rs"
    refine ⟨_, _, rfl, by decide, by decide, fun pw ws H1 s1 hw1 gw w4 => ?_⟩
    have w5' : ws.length ≤ 5 := w4
    have hS1 := s1.seq hS
    have wpos := gw.1
    have w16 := gw.2.1
    have hN : ((ws.map V.int).length : Int) = ws.length := by rw [List.length_map]
    walk_at "rs"
    refine ⟨l, ns, 1, rfl, hS1, hl, by decide, ?_⟩
    walk_at "rs"
    refine ⟨pw, _, rfl, .inl (SqL.of hw1), ?_⟩
    walk_at "rs"
    refine ⟨_, _, rfl, by omega, by omega, fun p2 ps2 xs2 H2 s2 hp2 hx2 len2 good2 _ => ?_⟩
    have hS2 := s2.seq hS1
    have hw2 := s2 _ _ hw1
    walk_at "rs"
    refine ⟨l, ns, 2, rfl, hS2, hl, by decide, ?_⟩
    walk_at "rs"
    refine ⟨l, ns, 3, rfl, hS2, hl, by decide, ?_⟩
    walk_at "rs"
    refine ⟨pw, _, rfl, .inl (SqL.of hw2), ?_⟩
    walk_at "rs"
    have q0 : 0 ≤ ns.getD (Int.toNat 3) 0 % 11 := Int.emod_nonneg _ (by decide)
    have q11 : ns.getD (Int.toNat 3) 0 % 11 < 11 := Int.emod_lt_of_pos _ (by decide)
    refine ⟨_, _, _, rfl, q0, by omega, by omega, fun p3 ps3 xs3 H3 s3 hp3 hx3 len3 good3 _ => ?_⟩
    have hS3 := s3.seq hS2
    have hw3 := s3 _ _ hw2
    have hp23 := s3 _ _ hp2
    have a2 := hx2.1
    have a3 := hx3.1
    walk_at "rs"
    refine ⟨p2, p3, _, _, rfl, rfl, hp23, hp3, by rw [List.length_map, List.length_map, sizeLine_eq]; omega, fun p4 hp4 => ?_⟩
    have s4 := same_new (o := .lst (ps2.map V.ref ++ ps3.map V.ref)) hp4
    have h4 : (upd H3 p4 (.lst (ps2.map V.ref ++ ps3.map V.ref))) p4 = some (.lst ((ps2 ++ ps3).map V.ref)) := by rw [upd_same, List.map_append]
    generalize upd H3 p4 (.lst (ps2.map V.ref ++ ps3.map V.ref)) = H4 at s4 h4 ⊢
    have hx4 : LsAt H4 (ps2 ++ ps3) (xs2 ++ xs3) := ((hx2.same s3).same s4).append (hx3.same s4)
    have good4 : ∀ x ∈ xs2 ++ xs3, GoodLt ((ws.map V.int).length : Int) x := fun x hx => (List.mem_append.mp hx).elim (good2 x) (good3 x)
    have len4 : (xs2 ++ xs3).length ≤ 36 := by rw [List.length_append]; omega
    generalize ps2 ++ ps3 = ps4 at h4 hx4
    generalize xs2 ++ xs3 = xs4 at hx4 good4 len4
    have hS4 := s4.seq hS3
    have hw4 := s4 _ _ hw3
    clear hp2 hx2 hp3 hx3 hp23 good2 good3 hw1 hw2 hw3 hS1 hS2 hS3
    walk_at "rs"
    refine ⟨fun σ' H' => ∃ (p : Addr) (ps : List Addr) (xs : List Lt), σ' = [some (.ref l), some (.ref pw), some (.ref p), none, none, none, none, none, none, none, none, none, none, none] ∧ Same H4 H' ∧ H' p = some (.lst (ps.map V.ref)) ∧ LsAt H' ps xs ∧ xs.length ≤ 36 ∧ ∀ x ∈ xs, GoodLt ((ws.map V.int).length : Int) x, ?_, ?_⟩
    · walk_at "rs"
      refine ⟨l, ns, 3, rfl, hS4, hl, by decide, ?_⟩
      walk_at "rs"
      refine ite2 (fun c1 => ?_) (fun c1 => ?_)
      · walk_at "rs"
        refine ⟨p4, _, rfl, rfl, SqL.of h4, fun p5 hp5 => ?_⟩
        have s5 := same_new (o := .lst (ps4.map V.ref).reverse) hp5
        exact ⟨p5, ps4.reverse, xs4.reverse, rfl, s5, by rw [upd_same, List.map_reverse], (LsAt.reverse hx4).same s5, by rw [List.length_reverse]; exact len4, fun x hx => good4 x (List.mem_reverse.mp hx)⟩
      · exact ⟨p4, ps4, xs4, rfl, Same.refl H4, h4, hx4, len4, good4⟩
    · rintro σ' H5 ⟨p5, ps5, xs5, rfl, s5, hp5, hx5, len5, good5⟩
      have hS5 := s5.seq hS4
      have hw5 := s5 _ _ hw4
      have n5 := hx5.1
      clear h4 hx4 good4 hp4
      walk_at "rs"
      refine ⟨l, ns, 3, rfl, hS5, hl, by decide, ?_⟩
      walk_at "rs"
      have z0 : 0 ≤ ns.getD (Int.toNat 3) 0 / 22 % 3 := Int.emod_nonneg _ (by decide)
      have z3 : ns.getD (Int.toNat 3) 0 / 22 % 3 < 3 := Int.emod_lt_of_pos _ (by decide)
      obtain ⟨ht, eh⟩ : ∃ ht : Int, ns.getD (Int.toNat 3) 0 / 22 % 3 = ht := ⟨_, rfl⟩
      rw [eh] at z0 z3
      simp only [eh]
      refine ⟨fun σ' H' => ∃ nh : Int, σ' = [some (.ref l), some (.ref pw), some (.ref p5), some (.int ht), some (.int nh), none, none, none, none, none, none, none, none, none] ∧ Same H5 H' ∧ nh ≠ ht, ?_, ?_⟩
      · walk_at "rs"
        refine ite2 (fun c1 => ?_) (fun c1 => ?_)
        · have c1 := of_decide_eq_true c1
          walk_at "rs"
          refine ⟨l, ns, 3, rfl, hS5, hl, by decide, ?_⟩
          walk_at "rs"
          refine ite2 (fun c2 => ?_) (fun c2 => ?_)
          · walk_at "rs"
            exact ⟨Same.refl H5, by omega⟩
          · exact ⟨_, rfl, Same.refl H5, by omega⟩
        · exact ⟨_, rfl, Same.refl H5, by omega⟩
      · rintro σ' H6 ⟨nh, rfl, s6, nne⟩
        have hp6 := s6 _ _ hp5
        have hx6 := hx5.same s6
        have hw6 := s6 _ _ hw5
        have hS6 := s6.seq hS5
        clear hp5 hx5 hw5 hS5
        walk_at "rs"
        refine ⟨⟨_, SqL.of hp6⟩, fun D hD => ?_⟩
        refine lc_list (K := K) (a := p5) (xs := ps5.map V.ref) (fun i H7 => Same H6 H7 ∧ ∃ (qs : List Addr) (ys : List Lt), H7 D = some (.lst (qs.map V.ref)) ∧ LsAt H7 qs ys ∧ ys.length = i ∧ ∀ y ∈ ys, OwnL ((ws.map V.int).length : Int) ht y) ⟨same_new hD, [], [], upd_same, LsAt.nil, rfl, fun x hx => nomatch hx⟩ (fun _ _ _ ⟨s7, _⟩ => SqL.of (s7 _ _ hp6)) ?_ ?_
        · rintro i y H7 hy ⟨s7, qs, ys, hd, hy7, ylen, fy⟩
          have hi : i < ps5.length := by
            have e := (List.getElem?_eq_some_iff.mp hy).1
            rwa [List.length_map] at e
          rw [at_refs hi] at hy
          cases hy
          have hi' : i < xs5.length := by omega
          have hlt := (hx6.2 i hi').same s7
          have gx := good5 _ (getD_mem2 (d := default) hi')
          have b1 := hy7.1
          refine ⟨rfl, ?_⟩
          walk_at "rs"
          refine ⟨_, _, _, rfl, hlt, fun q5 H8 s8 hl5 => ?_⟩
          refine ⟨_, s8 _ _ hd, by rw [List.length_map]; exact small1000 (by omega), same_upd (s7.trans s8) hD, qs ++ [q5], ys ++ [_], by rw [upd_same]; simp, ((hy7.same s8).snoc hl5).upd (s8 _ _ hd), by simp; omega, fun y hy => ?_⟩
          rcases List.mem_append.mp hy with hy | hy
          · exact fy y hy
          · rw [List.mem_singleton.mp hy]
            exact own_good gx
        · rintro H7 ⟨s7, qs, ys, hd, hy7, ylen, fy⟩
          rw [List.length_map, n5] at ylen
          have hp7 := s7 _ _ hp6
          have hx7 := hx6.same s7
          have hw7 := s7 _ _ hw6
          have hS7 := s7.seq hS6
          have nq := hy7.1
          clear hp6 hx6 hw6 hS6
          walk_at "rs"
          refine ⟨l, ns, 3, rfl, hS7, hl, by decide, ?_⟩
          walk_at "rs"
          have u0 : 0 ≤ ns.getD (Int.toNat 3) 0 / 132 % 12 := Int.emod_nonneg _ (by decide)
          have u12 : ns.getD (Int.toNat 3) 0 / 132 % 12 < 12 := Int.emod_lt_of_pos _ (by decide)
          obtain ⟨n, en⟩ : ∃ n : Nat, ns.getD (Int.toNat 3) 0 / 132 % 12 = (n : Int) := ⟨(ns.getD (Int.toNat 3) 0 / 132 % 12).toNat, by omega⟩
          rw [en] at u12
          simp only [en]
          refine ⟨p5, _, rfl, SqL.of hp7, fun q0 hq0 => ?_⟩
          rw [take_refs]
          have s8 : Same H7 (upd H7 q0 (.lst ((ps5.take n).map V.ref))) := same_new hq0
          have h8 : (upd H7 q0 (.lst ((ps5.take n).map V.ref))) q0 = some (.lst ((ps5.take n).map V.ref)) := upd_same
          generalize upd H7 q0 (.lst ((ps5.take n).map V.ref)) = H8 at s8 h8 ⊢
          have t8 : LsAt H8 (ps5.take n) (xs5.take n) := hx7.take.same s8
          have t8l : (xs5.take n).length ≤ n := List.length_take_le _ _
          have g8 : ∀ x ∈ xs5.take n, GoodLt ((ws.map V.int).length : Int) x := fun x hx => good5 x (List.mem_of_mem_take hx)
          have hd8 := s8 _ _ hd
          have hy8 := hy7.same s8
          have hw8 := s8 _ _ hw7
          have hS8 := s8.seq hS7
          clear hp7 hx7 hw7 hS7 hd hy7 s7 s6 good5
          generalize ps5.take n = ps6 at h8 t8
          generalize xs5.take n = xs6 at t8 t8l g8
          have n6 := t8.1
          walk_at "rs"
          refine ⟨⟨_, SqL.of h8⟩, fun D2 hD2 => ?_⟩
          refine lc_list (K := K) (a := q0) (xs := ps6.map V.ref) (fun i H9 => Same H8 H9 ∧ ∃ (qs : List Addr) (ys : List Lt), H9 D2 = some (.lst (qs.map V.ref)) ∧ LsAt H9 qs ys ∧ ys.length = i ∧ ∀ y ∈ ys, OwnL ((ws.map V.int).length : Int) nh y) ⟨same_new hD2, [], [], upd_same, LsAt.nil, rfl, fun x hx => nomatch hx⟩ (fun _ _ _ ⟨s7, _⟩ => SqL.of (s7 _ _ h8)) ?_ ?_
          · rintro i y H9 hy ⟨s9, qs9, ys9, hd9, hy9, ylen9, fy9⟩
            have hi : i < ps6.length := by
              have e := (List.getElem?_eq_some_iff.mp hy).1
              rwa [List.length_map] at e
            rw [at_refs hi] at hy
            cases hy
            have hi' : i < xs6.length := by omega
            have hlt := (t8.2 i hi').same s9
            have gx := g8 _ (getD_mem2 (d := default) hi')
            have b1 := hy9.1
            refine ⟨rfl, ?_⟩
            walk_at "rs"
            refine ⟨_, _, _, rfl, hlt, fun q5 HA sA hl5 => ?_⟩
            refine ⟨_, sA _ _ hd9, by rw [List.length_map]; exact small1000 (by omega), same_upd (s9.trans sA) hD2, qs9 ++ [q5], ys9 ++ [_], by rw [upd_same]; simp, ((hy9.same sA).snoc hl5).upd (sA _ _ hd9), by simp; omega, fun y hy => ?_⟩
            rcases List.mem_append.mp hy with hy | hy
            · exact fy9 y hy
            · rw [List.mem_singleton.mp hy]
              exact own_good gx
          · rintro H9 ⟨s9, qs9, ys9, hd9, hy9, ylen9, fy9⟩
            rw [List.length_map, n6] at ylen9
            have nq9 := hy9.1
            have hdo := s9 _ _ hd8
            walk_at "rs"
            refine ⟨D2, D, _, _, rfl, rfl, hd9, hdo, by rw [List.length_map, List.length_map, sizeLine_eq]; omega, fun pF hpF => ?_⟩
            have sF : Same H9 (upd H9 pF (.lst (qs9.map V.ref ++ qs.map V.ref))) := same_new hpF
            have hF : (upd H9 pF (.lst (qs9.map V.ref ++ qs.map V.ref))) pF = some (.lst ((qs9 ++ qs).map V.ref)) := by rw [upd_same, List.map_append]
            generalize upd H9 pF (.lst (qs9.map V.ref ++ qs.map V.ref)) = HF at sF hF ⊢
            have hxF : LsAt HF (qs9 ++ qs) (ys9 ++ ys) := (hy9.append (hy8.same s9)).same sF
            have fin9 : ∀ y ∈ ys9 ++ ys, FinL y ∧ (0 ≤ y.w ∧ y.w < ws.length ∧ LnOk y.m) ∧ y.m.k ≠ .prop := fun y hy => by
              rw [hN] at fy fy9
              rcases List.mem_append.mp hy with hy | hy
              · obtain ⟨a, b, c, _, d, e, f, g⟩ := fy9 y hy
                exact ⟨⟨a, b, e, f, g.2⟩, ⟨b, c, g⟩, d⟩
              · obtain ⟨a, b, c, _, d, e, f, g⟩ := fy y hy
                exact ⟨⟨a, b, e, f, g.2⟩, ⟨b, c, g⟩, d⟩
            have lF : (ys9 ++ ys).length ≤ 47 := by rw [List.length_append]; omega
            have hwF := sF _ _ (s9 _ _ hw8)
            generalize qs9 ++ qs = psX at hF hxF
            generalize ys9 ++ ys = XS at hxF fin9 lF
            have nF := hxF.1
            clear hd9 hy9 hd8 hy8 hdo h8 t8 fy fy9 hpF hw8 hS8 g8
            walk_at "rs"
            refine ⟨pw, _, rfl, .inl (SqL.of hwF), fun q5 hq5 => ?_⟩
            have sq : Same HF (upd HF q5 (.lst (ws.map V.int))) := same_new hq5
            intro x dx nx ndx nex
            have sm : Same (upd HF q5 (.lst (ws.map V.int))) (upd (upd (upd HF q5 (.lst (ws.map V.int))) dx (.own x)) x (.ins a.C_Committee dx [])) := same_upd (same_new ndx) nx
            refine ⟨x, dx, q5, ws, rfl, upd_same, SqL.of (sm _ _ upd_same), gw, fun HG hc kp => ⟨rfl, ?_⟩⟩
            have sG : Same HF HG := sq.trans (Same.made nx ndx kp)
            have hwG := sG _ _ hwF
            have hFG := sG _ _ hF
            have hxG := hxF.same sG
            clear hF hxF hwF
            walk_at "rs"
            intro bk bd nb nbd nbx
            have sn : Same HG (upd (upd HG bd (.own bk)) bk (.ins a.C_Book bd [])) := same_upd (same_new nbd) nb
            refine ⟨bk, bd, x, ht, ws, rfl, upd_same, hc.same sn, gw, fun Lc Lm Dk Db HI hB f1 f2 f3 f4 kb => ⟨rfl, ?_⟩⟩
            have sGI : Same HG HI := Same.made nb nbd fun b o e n => kb b o n e
            have B0 := hB P w
            have fn : ∀ b o, HG b = some o → b ≠ Lc ∧ b ≠ Lm ∧ b ≠ Dk ∧ b ≠ Db := fun b o e => ⟨ne_of_none (sn _ _ e) f1, ne_of_none (sn _ _ e) f2, ne_of_none (sn _ _ e) f3, ne_of_none (sn _ _ e) f4⟩
            have L0 : Loop P w a.C_Book a.C_Committee HI bk ⟨x, ht, Lc, Lm, Dk, Db, ws, [], [], [], [], [], [], []⟩ pw pF pw ws ht psX XS 0 := by
              have ns : ∀ b o, HG b = some o → b ∉ [Lc, Lm, Dk, Db] := fun b o e m => by
                obtain ⟨a1, a2, a3, a4⟩ := fn b o e
                simp only [List.mem_cons, List.not_mem_nil, or_false] at m
                rcases m with m | m | m | m
                · exact a1 m
                · exact a2 m
                · exact a3 m
                · exact a4 m
              have c0 : ∀ c, CI (due2 c ws [] ht) [] := fun c t b => by
                constructor
                · intro h
                  cases h
                · intro h
                  cases b with
                  | none => cases h
                  | some y =>
                    obtain ⟨k, _, _, hk⟩ := (mem_LL t).mp (show t ∈ LL _ (some y) 60 from h)
                    have z1 : certM ws [] ht (some y) k = false := cert_late (xs := []) (m := 0) gw (fun x hx => absurd hx List.not_mem_nil) (Nat.zero_le _)
                    have z2 : commM ws [] ht (some y) k = false := comm_late (xs := []) (m := 0) gw (fun x hx => absurd hx List.not_mem_nil) (Nat.zero_le _)
                    unfold due2 at hk
                    cases c
                    · rw [if_neg Bool.false_ne_true, z1] at hk
                      cases hk
                    · rw [if_pos rfl, z2] at hk
                      cases hk
              exact { book := B0, w_ := rfl, h_ := rfl, kp := trivial, wl := sGI _ _ hwG, fl := sGI _ _ hFG, ls := hxG.same sGI, dk := trivial, dw := ns _ _ hwG, df := ns _ _ hFG, dkw := trivial, dkf := trivial,
                      few := Nat.le_refl _, fc := Nat.le_refl _, fm := Nat.le_refl _, cc := c0 false, cm := c0 true, fin := fun x hx => nomatch hx }
            have hcI := hc.same sGI
            clear hB B0 fn f1 f2 f3 f4 kp sm hc hwG hFG hxG
            have g0 : ∀ y ∈ (⟨x, ht, Lc, Lm, Dk, Db, ws, [], [], [], [], [], [], []⟩ : Bk).xs, y ∈ XS := fun y hy => absurd hy List.not_mem_nil
            generalize (⟨x, ht, Lc, Lm, Dk, Db, ws, [], [], [], [], [], [], []⟩ : Bk) = B0 at L0 g0
            walk_at "rs"
            refine ⟨⟨_, SqL.of L0.fl⟩, for_list (K := K) (a := pF) (xs := psX.map V.ref) (fun i σ H8 => ∃ (v8 : Option V) (B : Bk), σ = [some (.ref l), some (.ref pw), some (.ref pF), some (.int ht), some (.int nh), some (.ref D), some (.ref x), some (.ref bk), v8, none, none, none, none, none] ∧ Loop P w a.C_Book a.C_Committee H8 bk B pw pF pw ws ht psX XS i ∧ CommAt a.C_Committee H8 x ws ∧ (∀ y ∈ B.xs, y ∈ XS) ∧ ∀ z ∈ XS.take i, z.m.h = ht → ∃ y ∈ B.xs, ltKey y = ltKey z)
              ⟨_, B0, rfl, L0, hcI, g0, fun z hz => absurd hz List.not_mem_nil⟩ (fun _ _ _ _ ⟨_, _, _, L, _⟩ => SqL.of L.fl) ?_ ?_⟩
            · rintro i y σ H8 hy ⟨v8, B, rfl, L, hc8, gB, cB⟩
              have hi : i < psX.length := by
                have e := (List.getElem?_eq_some_iff.mp hy).1
                rwa [List.length_map] at e
              rw [at_refs hi] at hy
              cases hy
              have hi' : i < XS.length := by omega
              have mz := getD_mem2 (d := default) hi'
              obtain ⟨fx, ⟨z0', z1, _⟩, z2⟩ := fin9 _ mz
              have hlt := L.ls.2 i hi'
              have et := take_succ_getD (d := default) hi'
              generalize XS.getD i default = z at mz fx z0' z1 z2 hlt et
              generalize psX.getD i 0 = p at hlt
              obtain ⟨dx8, ho⟩ := L.book.obj
              have hxw : B.xs.length < 900 := by have := L.few; omega
              have hcw : B.cs.length ≤ 90000 := by have := L.fc; omega
              have hmw : B.ms.length ≤ 90000 := by have := L.fm; omega
              have hB1 := L.w_
              have hB2 := L.h_
              have fin : ∀ (B' : Bk) (n1 n2 : List Pr) (HD : Hp), Added P w a.C_Book a.C_Committee H8 HD bk B B' p z n1 n2 ws ht → ∃ (v8 : Option V) (B2 : Bk), ([some (V.ref l), some (.ref pw), some (.ref pF), some (.int ht), some (.int nh), some (.ref D), some (.ref x), some (.ref bk), some (.ref p), none, none, none, none, none] : List (Option V)) = [some (.ref l), some (.ref pw), some (.ref pF), some (.int ht), some (.int nh), some (.ref D), some (.ref x), some (.ref bk), v8, none, none, none, none, none] ∧ Loop P w a.C_Book a.C_Committee HD bk B2 pw pF pw ws ht psX XS (i + 1) ∧ CommAt a.C_Committee HD x ws ∧ (∀ y ∈ B2.xs, y ∈ XS) ∧ ∀ z ∈ XS.take (i + 1), z.m.h = ht → ∃ y ∈ B2.xs, ltKey y = ltKey z := fun B' n1 n2 HD A => by
                have dwD : pw ∉ B'.S := fun m => (A.S pw m).elim L.dw fun z => by rw [L.wl] at z; cases z
                have dfD : pF ∉ B'.S := fun m => (A.S pF m).elim L.df fun z => by rw [L.fl] at z; cases z
                have fewC := L.few
                have fcC := L.fc
                have fmC := L.fm
                have l1 := A.l1
                have l2 := A.l2
                have lx : B'.xs.length ≤ i + 1 := by
                  rw [A.xs]
                  split
                  · rw [List.length_append, List.length_singleton]
                    omega
                  · omega
                refine ⟨_, B', rfl, ?_, hc8.keeps A.kp fun _ _ => L.book.notS, ?_, ?_⟩
                · exact { book := A.book, w_ := A.w_, h_ := A.h_, kp := trivial, wl := A.kp _ _ L.dw L.wl, fl := A.kp _ _ L.df L.fl, ls := L.ls.keeps A.kp L.book.tupS, dk := trivial, dw := dwD, df := dfD, dkw := trivial, dkf := trivial, few := lx,
                          fc := by rw [A.cs, List.length_append]; omega, fm := by rw [A.ms, List.length_append]; omega, cc := A.cc, cm := A.cm, fin := A.fin }
                · intro y hy
                  rw [A.xs] at hy
                  split at hy
                  · rcases List.mem_append.mp hy with hy | hy
                    · exact gB y hy
                    · rw [List.mem_singleton.mp hy]
                      exact mz
                  · exact gB y hy
                · intro y hy yh
                  rw [et] at hy
                  rw [A.xs]
                  rcases List.mem_append.mp hy with hy | hy
                  · obtain ⟨u, hu, e⟩ := cB y hy yh
                    refine ⟨u, ?_, e⟩
                    split
                    · exact List.mem_append_left _ hu
                    · exact hu
                  · rw [List.mem_singleton.mp hy] at yh ⊢
                    split
                    · exact ⟨z, List.mem_append_right _ List.mem_cons_self, rfl⟩
                    · rename_i nn
                      have be : bel B.ws B.h z = true := by
                        unfold bel
                        rw [decide_eq_true z0', decide_eq_true (show z.w < B.ws.length by rw [hB1]; exact z1), decide_eq_true z2, decide_eq_true (show z.m.h = B.h by rw [hB2]; exact yh)]
                        rfl
                      unfold newM at nn
                      rw [be, Bool.and_true] at nn
                      have nn : ltKey z ∈ B.xs.map ltKey := by simpa using nn
                      obtain ⟨u, hu, e⟩ := List.mem_map.mp nn
                      exact ⟨u, hu, e⟩
              walk_at "rs"
              refine ⟨bk, dx8, _, rfl, ho, bfs_no _ _ _ _ _ _ (by decide +kernel) (by decide +kernel) (by decide +kernel) (by decide +kernel) (by decide +kernel) (by decide +kernel), ?_⟩
              walk_at "rs"
              refine ⟨bk, p, B, z, rfl, L.book, hlt, fx.1, ⟨fx.2.2.1, by have := fx.2.2.2.1; omega⟩, hxw, hcw, hmw, fun c H' s' => ?_, fun c1 c2 kvs q1 q2 H' k' cond N' => ?_⟩
              · have e : newM B z = false := by
                  unfold newM
                  rcases c with c | c
                  · rw [show decide (ltKey z ∉ B.xs.map ltKey) = false from decide_eq_false fun z => z c, Bool.false_and]
                  · rw [c, Bool.and_false]
                exact fin B [] [] H' (Added.no L s' e)
              · have e : newM B z = true := by
                  unfold newM
                  rw [decide_eq_true c1, c2]
                  rfl
                exact fin _ _ _ _ (Added.yes L gw fx e k' cond N')
            · rintro σ H8 ⟨v8, B, rfl, L, hc8, gB, cB⟩
              have few8 := L.few
              have fc8 := L.fc
              have fm8 := L.fm
              have e8 : (psX.map V.ref).length = psX.length := List.length_map _
              rw [e8] at few8 fc8 fm8
              rw [e8, nF, List.take_length] at cB
              have SA : SameAt ht XS B.xs := ⟨cB, gB⟩
              have hB1 := L.w_
              have hB2 := L.h_
              obtain ⟨dx8, ho⟩ := L.book.obj
              have xl : B.xs.length ≤ 47 := by omega
              have okx := L.fin.okl
              have okX : OkL XS := fun y hy => (fin9 y hy).1.1
              have tbX : TB4 XS := fun y hy => ⟨(fin9 y hy).1.2.2.1, (fin9 y hy).1.2.2.2.1⟩
              have tbB : TB4 B.xs := fun y hy => tbX y (gB y hy)
              have lateC : ∀ b n, 4 ≤ n → due2 true ws B.xs ht b n = false := fun b n hn => comm_late (m := 4) gw (fun y hy => (tbB y hy).2) hn
              walk_at "rs"
              refine ⟨bk, dx8, _, rfl, ho, bfs_no _ _ _ _ _ _ (by decide +kernel) (by decide +kernel) (by decide +kernel) (by decide +kernel) (by decide +kernel) (by decide +kernel), ?_⟩
              walk_at "rs"
              refine ⟨bk, B, rfl, L.book, fun pK HK sK _ hK => ?_⟩
              have ls8 := L.book.kept.ls
              walk_at "rs"
              have L := L.same sK
              have hc8 := hc8.same sK
              have hoK := sK _ _ ho
              refine ⟨(by show 3 ≤ sizeLine; decide), fun tp htp => ?_⟩
              have sT := same_new (o := .tup [V.str "a", V.str "b", V.str "c"]) htp
              have htp' := (upd_same : (upd HK tp (.tup [V.str "a", V.str "b", V.str "c"])) tp = _)
              generalize upd HK tp (.tup [V.str "a", V.str "b", V.str "c"]) = HT at sT htp' ⊢
              have L := L.same sT
              have hc8 := hc8.same sT
              have hoT := sT _ _ hoK
              have hKT := sT _ _ hK
              have lsT := L.book.kept.ls
              clear ls8 hK hoK ho sK sT
              refine ⟨tp, rfl, ⟨_, SqT.of htp'⟩, for_tup (K := K) (a := tp) (xs := [V.str "a", V.str "b", V.str "c"]) (fun j σ HA => ∃ v10 v11 v12 : Option V, σ = [some (.ref l), some (.ref pw), some (.ref pF), some (.int ht), some (.int nh), some (.ref D), some (.ref x), some (.ref bk), v8, some (.ref pK), v10, v11, v12, none] ∧ Same HT HA) ⟨_, _, _, rfl, Same.refl HT⟩ (fun _ _ _ _ ⟨_, _, _, _, h⟩ => SqT.of (h _ _ htp')) ?_ ?_⟩
              · rintro j y σ HA hy ⟨v10, v11, v12, rfl, sA⟩
                obtain ⟨bb, rfl, ob⟩ : ∃ bb : Str, y = V.str bb ∧ OkS (some bb) := by
                  match j, hy with
                  | 0, hy =>
                    cases hy
                    exact ⟨_, rfl, okA⟩
                  | 1, hy =>
                    cases hy
                    exact ⟨_, rfl, okB⟩
                  | 2, hy =>
                    cases hy
                    exact ⟨_, rfl, okC⟩
                  | j + 3, hy => simp at hy
                walk_at "rs"
                refine ⟨pw, pF, ws, psX, XS, bb, ht, rfl, SqL.of (sA _ _ L.wl), w16, sA _ _ L.fl, L.ls.same sA, by omega, okX, ob, fun Dt HB sB _ hd => ?_⟩
                have sAB := sA.trans sB
                walk_at "rs"
                refine ⟨x, pF, Dt, ws, psX, XS, bb, ht, rfl, hc8.same sAB, gw, sAB _ _ L.fl, L.ls.same sAB, by omega, tbX, hd, fun HC sC => ?_⟩
                have sAC := sAB.trans sC
                have hdC := sC _ _ hd
                rw [tnC_same SA bb] at hdC
                have asc : (tnC ws B.xs ht bb).Pairwise (· < ·) := LL_asc (due2 true ws B.xs ht) (some bb) 4
                have memT := fun t => mem_LL (f := due2 true ws B.xs ht) (b := some bb) (n := 4) t
                have memT : ∀ t, t ∈ tnC ws B.xs ht bb ↔ _ := memT
                generalize tnC ws B.xs ht bb = ts at hdC asc memT
                have fm : ∀ u, u ∈ forB B.ms (some bb) ↔ u ∈ ts := fun u => by
                  rw [mem_forF L.cm, memT]
                  constructor
                  · rintro ⟨h1, h2, h3⟩
                    refine ⟨u.toNat, by omega, ?_, h3⟩
                    refine Nat.lt_of_not_le fun h => ?_
                    rw [lateC _ _ h] at h3
                    cases h3
                  · rintro ⟨k2, rfl, h1, h2⟩
                    exact ⟨by omega, by omega, by rw [Int.toNat_natCast]; exact h2⟩
                walk_at "rs"
                refine ⟨bk, B, bb, rfl, L.book.same sAC, by omega, by omega, by omega, ?_, ?_, ?_, fun t h1 h2 D2 r2 HD sD _ hd2 hr2 => ?_⟩
                · intro u hu
                  obtain ⟨a1, a2, a3⟩ := (mem_forF L.cc u).mp hu
                  rw [hB2]
                  obtain ⟨z, hz, iz⟩ := cert_has gw (show certM ws B.xs ht (some bb) u.toNat = true from a3)
                  rw [Int.toNat_of_nonneg a1] at iz
                  exact ⟨a1, a2, z, hz, iz⟩
                · intro u hu
                  obtain ⟨a1, a2, a3⟩ := (mem_forF L.cm u).mp hu
                  have a3 : commM ws B.xs ht (some bb) u.toNat = true := a3
                  rw [hB2]
                  obtain ⟨z, hz, iz⟩ := comm_has gw a3
                  rw [Int.toNat_of_nonneg a1] at iz
                  refine ⟨(mem_forF L.cc u).mpr ⟨a1, a2, ?_⟩, z, hz, iz⟩
                  unfold commM at a3
                  rw [Bool.and_eq_true_iff] at a3
                  exact a3.2
                · intro e HD sD
                  have tn : ts = [] := List.eq_nil_iff_forall_not_mem.mpr fun u hu => by
                    have := (fm u).mpr hu
                    rw [e] at this
                    cases this
                  subst tn
                  refine ⟨true, TE.exm_TribunalError_BadPaper, fun _ ex hex => ?_, fun z => nomatch z⟩
                  walk_at "rs"
                  refine ⟨Dt, _, rfl, .inl (SqL.of (sD _ _ hdC)), ?_⟩
                  walk_at "rs"
                  refine ⟨a.C_BadPaper, .ref a.C_BadLine, .ref a.C_BadLine, false, rfl, rfl, rfl, TE.xc_BadPaper, .own _, TE.kt_BadPaper_BadLine, ?_⟩
                  walk_at "rs"
                  refine ⟨a.C_BadPaper, .ref a.C_BadPaper, .ref a.C_BadPaper, true, rfl, rfl, rfl, TE.xc_BadPaper, .own _, TE.kt_BadPaper_BadPaper, ?_⟩
                  walk_at "rs"
                  exact ⟨_, _, _, rfl, sAC.trans sD⟩
                · have tm : t ∈ ts := (fm t).mp h1
                  obtain ⟨kt, ekt, hkt, hkc⟩ := (memT t).mp tm
                  have pos : 0 < ts.length := List.length_pos_of_mem tm
                  have et : ts.getD 0 0 = t := by
                    have b1 := h2 _ ((fm _).mpr (getD_mem2 (d := 0) pos))
                    obtain ⟨j, hj, e⟩ := List.getElem_of_mem tm
                    rcases Nat.eq_zero_or_pos j with rfl | h
                    · rw [List.getD_eq_getElem?_getD, List.getElem?_eq_getElem hj]
                      exact e
                    · have := List.pairwise_iff_getElem.mp asc 0 j pos hj h
                      rw [e] at this
                      rw [List.getD_eq_getElem?_getD, List.getElem?_eq_getElem pos] at b1 ⊢
                      simp only [Option.getD_some] at b1 ⊢
                      omega
                  rw [hB1, hB2] at hr2
                  have sAD := sAC.trans sD
                  have hdD := sD _ _ hdC
                  walk_at "rs"
                  refine ⟨⟨_, _, _, rfl, sAD⟩, ?_⟩
                  walk_at "rs"
                  refine ⟨Dt, _, rfl, .inl (SqL.of hdD), ?_⟩
                  walk_at "rs"
                  refine ite2 (fun c => ?_) (fun c => ?_)
                  · exfalso
                    have c : ts = [] := by simpa using c
                    rw [c] at pos
                    cases pos
                  walk_at "rs"
                  refine ⟨Dt, _, _, .int (ts.getD 0 0), rfl, rfl, SqL.of hdD, at_of (j := 0) rfl (at_ints pos), ?_⟩
                  rw [et]
                  walk_at "rs"
                  refine ⟨pw, x, pK, D2, ws, _, B.xs, _, bb, forB B.cs (some bb), t, ht, rfl, SqL.of (sAD _ _ L.wl), w5', hc8.same sAD, gw, sAD _ _ hKT, lsT.same sAD, by omega, hd2, hr2, tbB, okx, ob, by omega, by omega, fun y hy => (fin9 y (gB y hy)).2.1, fun u => mem_forF L.cc u, ?_, fun HE sE => ?_⟩
                  · rw [ekt, Int.toNat_natCast]
                    exact hkc
                  walk_at "rs"
                  exact ⟨_, _, _, rfl, sAD.trans sE⟩
              · rintro σ HA ⟨v10, v11, v12, rfl, sA⟩
                walk_at "rs"
                refine ⟨bk, dx8, _, rfl, sA _ _ hoT, bfs_no _ _ _ _ _ _ (by decide +kernel) (by decide +kernel) (by decide +kernel) (by decide +kernel) (by decide +kernel) (by decide +kernel), ?_⟩
                walk_at "rs"
                refine ⟨bk, B, rfl, L.book.same sA, fun DE HB sB _ hD => ?_⟩
                have s8B := sA.trans sB
                walk_at "rs"
                refine ⟨_, _, .lst (SqL.of hD) (dp_lts (lsT.same s8B)), .lst (SqL.of (s8B _ _ hKT)) (dp_lts (lsT.same s8B)), shaped_lts okx, shaped_lts okx, ?_⟩
                rw [eqv_lts okx]
                exact k HB

end

theorem all_mk {l : PySem.W.OpenLaw} {w : World} {K : PySem.W.Frag} {h : Heap} {mg : Str → Option Value} {fa : Addr} (X : K.In h) (G : h.Ns mainGlobals mg) (hfa : mg "law" = some (.ref fa))
    {t_KIND : Tok} {t_HEIGHT : Tok} {t_TURN : Tok} {t_BLOCK : Tok} {t_LEAN : Tok} {t_MOST_MEMBERS : Tok} {t_MOST_WEIGHT : Tok} {C_Committee : Addr} {C_Book : Addr} {f_is_vote : Addr} {od_is_vote an_is_vote : Option Addr} {sl_is_vote : Array (Option Value)} {oc_is_vote kV_is_vote dc_is_vote pm_is_vote cd_is_vote ct_is_vote : Value} {f_first_wrong : Addr} {od_first_wrong an_first_wrong : Option Addr} {sl_first_wrong : Array (Option Value)} {oc_first_wrong kV_first_wrong dc_first_wrong pm_first_wrong cd_first_wrong ct_first_wrong : Value} {f_Committee_init : Addr} {od_Committee_init an_Committee_init : Option Addr} {sl_Committee_init : Array (Option Value)} {oc_Committee_init kV_Committee_init dc_Committee_init pm_Committee_init cd_Committee_init ct_Committee_init : Value} {f_Committee_weight_of : Addr} {od_Committee_weight_of an_Committee_weight_of : Option Addr} {sl_Committee_weight_of : Array (Option Value)} {oc_Committee_weight_of kV_Committee_weight_of dc_Committee_weight_of pm_Committee_weight_of cd_Committee_weight_of ct_Committee_weight_of : Value} {f_Committee_is_quorum : Addr} {od_Committee_is_quorum an_Committee_is_quorum : Option Addr} {sl_Committee_is_quorum : Array (Option Value)} {oc_Committee_is_quorum kV_Committee_is_quorum dc_Committee_is_quorum pm_Committee_is_quorum cd_Committee_is_quorum ct_Committee_is_quorum : Value} {f_votes_by_turn : Addr} {od_votes_by_turn an_votes_by_turn : Option Addr} {sl_votes_by_turn : Array (Option Value)} {oc_votes_by_turn kV_votes_by_turn dc_votes_by_turn pm_votes_by_turn cd_votes_by_turn ct_votes_by_turn : Value} {f_counts : Addr} {od_counts an_counts : Option Addr} {sl_counts : Array (Option Value)} {oc_counts kV_counts dc_counts pm_counts cd_counts ct_counts : Value} {f_certified_turns : Addr} {od_certified_turns an_certified_turns : Option Addr} {sl_certified_turns : Array (Option Value)} {oc_certified_turns kV_certified_turns dc_certified_turns pm_certified_turns cd_certified_turns ct_certified_turns : Value} {f_committed_turns : Addr} {od_committed_turns an_committed_turns : Option Addr} {sl_committed_turns : Array (Option Value)} {oc_committed_turns kV_committed_turns dc_committed_turns pm_committed_turns cd_committed_turns ct_committed_turns : Value} {f_missing : Addr} {od_missing an_missing : Option Addr} {sl_missing : Array (Option Value)} {oc_missing kV_missing dc_missing pm_missing cd_missing ct_missing : Value} {f_Book_init : Addr} {od_Book_init an_Book_init : Option Addr} {sl_Book_init : Array (Option Value)} {oc_Book_init kV_Book_init dc_Book_init pm_Book_init cd_Book_init ct_Book_init : Value} {f_Book_belongs : Addr} {od_Book_belongs an_Book_belongs : Option Addr} {sl_Book_belongs : Array (Option Value)} {oc_Book_belongs kV_Book_belongs dc_Book_belongs pm_Book_belongs cd_Book_belongs ct_Book_belongs : Value} {f_Book_enter : Addr} {od_Book_enter an_Book_enter : Option Addr} {sl_Book_enter : Array (Option Value)} {oc_Book_enter kV_Book_enter dc_Book_enter pm_Book_enter cd_Book_enter ct_Book_enter : Value} {f_Book_add : Addr} {od_Book_add an_Book_add : Option Addr} {sl_Book_add : Array (Option Value)} {oc_Book_add kV_Book_add dc_Book_add pm_Book_add cd_Book_add ct_Book_add : Value} {f_Book_letters : Addr} {od_Book_letters an_Book_letters : Option Addr} {sl_Book_letters : Array (Option Value)} {oc_Book_letters kV_Book_letters dc_Book_letters pm_Book_letters cd_Book_letters ct_Book_letters : Value} {f_until_quorum : Addr} {od_until_quorum an_until_quorum : Option Addr} {sl_until_quorum : Array (Option Value)} {oc_until_quorum kV_until_quorum dc_until_quorum pm_until_quorum cd_until_quorum ct_until_quorum : Value} {f_prevotes : Addr} {od_prevotes an_prevotes : Option Addr} {sl_prevotes : Array (Option Value)} {oc_prevotes kV_prevotes dc_prevotes pm_prevotes cd_prevotes ct_prevotes : Value} {f_commit_paper : Addr} {od_commit_paper an_commit_paper : Option Addr} {sl_commit_paper : Array (Option Value)} {oc_commit_paper kV_commit_paper dc_commit_paper pm_commit_paper cd_commit_paper ct_commit_paper : Value} {f_shown_turn : Addr} {od_shown_turn an_shown_turn : Option Addr} {sl_shown_turn : Array (Option Value)} {oc_shown_turn kV_shown_turn dc_shown_turn pm_shown_turn cd_shown_turn ct_shown_turn : Value} {f_shows : Addr} {od_shows an_shows : Option Addr} {sl_shows : Array (Option Value)} {oc_shows kV_shows dc_shows pm_shows cd_shows ct_shows : Value} {f_law_cell : Addr} {od_law_cell an_law_cell : Option Addr} {sl_law_cell : Array (Option Value)} {oc_law_cell kV_law_cell dc_law_cell pm_law_cell cd_law_cell ct_law_cell : Value} {f_law_is_integer : Addr} {od_law_is_integer an_law_is_integer : Option Addr} {sl_law_is_integer : Array (Option Value)} {oc_law_is_integer kV_law_is_integer dc_law_is_integer pm_law_is_integer cd_law_is_integer ct_law_is_integer : Value} {f_law_row : Addr} {od_law_row an_law_row : Option Addr} {sl_law_row : Array (Option Value)} {oc_law_row kV_law_row dc_law_row pm_law_row cd_law_row ct_law_row : Value} {f_law_weights : Addr} {od_law_weights an_law_weights : Option Addr} {sl_law_weights : Array (Option Value)} {oc_law_weights kV_law_weights dc_law_weights pm_law_weights cd_law_weights ct_law_weights : Value} {f_law_weight : Addr} {od_law_weight an_law_weight : Option Addr} {sl_law_weight : Array (Option Value)} {oc_law_weight kV_law_weight dc_law_weight pm_law_weight cd_law_weight ct_law_weight : Value} {f_law_certified : Addr} {od_law_certified an_law_certified : Option Addr} {sl_law_certified : Array (Option Value)} {oc_law_certified kV_law_certified dc_law_certified pm_law_certified cd_law_certified ct_law_certified : Value} {f_law_committed : Addr} {od_law_committed an_law_committed : Option Addr} {sl_law_committed : Array (Option Value)} {oc_law_committed kV_law_committed dc_law_committed pm_law_committed cd_law_committed ct_law_committed : Value} {f_law_statement : Addr} {od_law_statement an_law_statement : Option Addr} {sl_law_statement : Array (Option Value)} {oc_law_statement kV_law_statement dc_law_statement pm_law_statement cd_law_statement ct_law_statement : Value} {f_law_letters : Addr} {od_law_letters an_law_letters : Option Addr} {sl_law_letters : Array (Option Value)} {oc_law_letters kV_law_letters dc_law_letters pm_law_letters cd_law_letters ct_law_letters : Value} {f_law_planted : Addr} {od_law_planted an_law_planted : Option Addr} {sl_law_planted : Array (Option Value)} {oc_law_planted kV_law_planted dc_law_planted pm_law_planted cd_law_planted ct_law_planted : Value} {f_law_lift : Addr} {od_law_lift an_law_lift : Option Addr} {sl_law_lift : Array (Option Value)} {oc_law_lift kV_law_lift dc_law_lift pm_law_lift cd_law_lift ct_law_lift : Value} {f_law_turns : Addr} {od_law_turns an_law_turns : Option Addr} {sl_law_turns : Array (Option Value)} {oc_law_turns kV_law_turns dc_law_turns pm_law_turns cd_law_turns ct_law_turns : Value} {f_law_shown : Addr} {od_law_shown an_law_shown : Option Addr} {sl_law_shown : Array (Option Value)} {oc_law_shown kV_law_shown dc_law_shown pm_law_shown cd_law_shown ct_law_shown : Value} {f_law_paper : Addr} {od_law_paper an_law_paper : Option Addr} {sl_law_paper : Array (Option Value)} {oc_law_paper kV_law_paper dc_law_paper pm_law_paper cd_law_paper ct_law_paper : Value} {f_law : Addr} {od_law an_law : Option Addr} {sl_law : Array (Option Value)} {oc_law kV_law dc_law pm_law cd_law ct_law : Value} {C_BadLine : Addr} {C_BadPaper : Addr} {C_TribunalError : Addr}
    (c_KIND : PySem.W.nsIn K mainGlobals "KIND" = some (some (.int 0 t_KIND)))
    (c_HEIGHT : PySem.W.nsIn K mainGlobals "HEIGHT" = some (some (.int 1 t_HEIGHT)))
    (c_TURN : PySem.W.nsIn K mainGlobals "TURN" = some (some (.int 2 t_TURN)))
    (c_BLOCK : PySem.W.nsIn K mainGlobals "BLOCK" = some (some (.int 3 t_BLOCK)))
    (c_LEAN : PySem.W.nsIn K mainGlobals "LEAN" = some (some (.int 4 t_LEAN)))
    (c_MOST_MEMBERS : PySem.W.nsIn K mainGlobals "MOST_MEMBERS" = some (some (.int 16 t_MOST_MEMBERS)))
    (c_MOST_WEIGHT : PySem.W.nsIn K mainGlobals "MOST_WEIGHT" = some (some (.int 1000000000000 t_MOST_WEIGHT)))
    (n_len : PySem.W.nsIn K mainGlobals "len" = some none)
    (n_range : PySem.W.nsIn K mainGlobals "range" = some none)
    (n_isinstance : PySem.W.nsIn K mainGlobals "isinstance" = some none)
    (n_int : PySem.W.nsIn K mainGlobals "int" = some none)
    (n_bool : PySem.W.nsIn K mainGlobals "bool" = some none)
    (n_list : PySem.W.nsIn K mainGlobals "list" = some none)
    (n_tuple : PySem.W.nsIn K mainGlobals "tuple" = some none)
    (n_sum : PySem.W.nsIn K mainGlobals "sum" = some none)
    (n_enumerate : PySem.W.nsIn K mainGlobals "enumerate" = some none)
    (n_set : PySem.W.nsIn K mainGlobals "set" = some none)
    (n_sorted : PySem.W.nsIn K mainGlobals "sorted" = some none)
    (n_max : PySem.W.nsIn K mainGlobals "max" = some none)
    (n_min : PySem.W.nsIn K mainGlobals "min" = some none)
    (n_abs : PySem.W.nsIn K mainGlobals "abs" = some none)
    (g_Committee : PySem.W.nsIn K mainGlobals "Committee" = some (some (.ref C_Committee)))
    (g_Book : PySem.W.nsIn K mainGlobals "Book" = some (some (.ref C_Book)))
    (a_is_vote : PySem.W.nsIn K mainGlobals "is_vote" = some (some (.ref f_is_vote)))
    (l_is_vote : K.lookup f_is_vote = some ⟨oc_is_vote, od_is_vote, .func (PySem.W.fnOf "is_vote" "is_vote" (defArgs s_is_vote) (defBody s_is_vote) (defScope s_is_vote) .none kV_is_vote dc_is_vote pm_is_vote an_is_vote cd_is_vote ct_is_vote), sl_is_vote⟩)
    (q_is_vote : PySem.W.codeIn K cd_is_vote "is_vote" = true)
    (k_is_vote : PySem.W.keepIn K (.ref f_is_vote) = true)
    (a_first_wrong : PySem.W.nsIn K mainGlobals "_first_wrong" = some (some (.ref f_first_wrong)))
    (l_first_wrong : K.lookup f_first_wrong = some ⟨oc_first_wrong, od_first_wrong, .func (PySem.W.fnOf "_first_wrong" "_first_wrong" (defArgs s_first_wrong) (defBody s_first_wrong) (defScope s_first_wrong) .none kV_first_wrong dc_first_wrong pm_first_wrong an_first_wrong cd_first_wrong ct_first_wrong), sl_first_wrong⟩)
    (q_first_wrong : PySem.W.codeIn K cd_first_wrong "_first_wrong" = true)
    (k_first_wrong : PySem.W.keepIn K (.ref f_first_wrong) = true)
    (a_Committee_init : PySem.W.findIn K (.ref C_Committee) "__init__" = some (some (.ref f_Committee_init)))
    (i_Committee_init : PySem.W.isFn K (.ref f_Committee_init) = true)
    (l_Committee_init : K.lookup f_Committee_init = some ⟨oc_Committee_init, od_Committee_init, .func (PySem.W.fnOf "__init__" "Committee.__init__" (defArgs s_Committee_init) (defBody s_Committee_init) (defScope s_Committee_init) .none kV_Committee_init dc_Committee_init pm_Committee_init an_Committee_init cd_Committee_init ct_Committee_init), sl_Committee_init⟩)
    (q_Committee_init : PySem.W.codeIn K cd_Committee_init "Committee.__init__" = true)
    (k_Committee_init : PySem.W.keepIn K (.ref f_Committee_init) = true)
    (a_Committee_weight_of : PySem.W.findIn K (.ref C_Committee) "weight_of" = some (some (.ref f_Committee_weight_of)))
    (i_Committee_weight_of : PySem.W.isFn K (.ref f_Committee_weight_of) = true)
    (l_Committee_weight_of : K.lookup f_Committee_weight_of = some ⟨oc_Committee_weight_of, od_Committee_weight_of, .func (PySem.W.fnOf "weight_of" "Committee.weight_of" (defArgs s_Committee_weight_of) (defBody s_Committee_weight_of) (defScope s_Committee_weight_of) .none kV_Committee_weight_of dc_Committee_weight_of pm_Committee_weight_of an_Committee_weight_of cd_Committee_weight_of ct_Committee_weight_of), sl_Committee_weight_of⟩)
    (q_Committee_weight_of : PySem.W.codeIn K cd_Committee_weight_of "Committee.weight_of" = true)
    (k_Committee_weight_of : PySem.W.keepIn K (.ref f_Committee_weight_of) = true)
    (a_Committee_is_quorum : PySem.W.findIn K (.ref C_Committee) "is_quorum" = some (some (.ref f_Committee_is_quorum)))
    (i_Committee_is_quorum : PySem.W.isFn K (.ref f_Committee_is_quorum) = true)
    (l_Committee_is_quorum : K.lookup f_Committee_is_quorum = some ⟨oc_Committee_is_quorum, od_Committee_is_quorum, .func (PySem.W.fnOf "is_quorum" "Committee.is_quorum" (defArgs s_Committee_is_quorum) (defBody s_Committee_is_quorum) (defScope s_Committee_is_quorum) .none kV_Committee_is_quorum dc_Committee_is_quorum pm_Committee_is_quorum an_Committee_is_quorum cd_Committee_is_quorum ct_Committee_is_quorum), sl_Committee_is_quorum⟩)
    (q_Committee_is_quorum : PySem.W.codeIn K cd_Committee_is_quorum "Committee.is_quorum" = true)
    (k_Committee_is_quorum : PySem.W.keepIn K (.ref f_Committee_is_quorum) = true)
    (a_votes_by_turn : PySem.W.nsIn K mainGlobals "votes_by_turn" = some (some (.ref f_votes_by_turn)))
    (l_votes_by_turn : K.lookup f_votes_by_turn = some ⟨oc_votes_by_turn, od_votes_by_turn, .func (PySem.W.fnOf "votes_by_turn" "votes_by_turn" (defArgs s_votes_by_turn) (defBody s_votes_by_turn) (defScope s_votes_by_turn) .none kV_votes_by_turn dc_votes_by_turn pm_votes_by_turn an_votes_by_turn cd_votes_by_turn ct_votes_by_turn), sl_votes_by_turn⟩)
    (q_votes_by_turn : PySem.W.codeIn K cd_votes_by_turn "votes_by_turn" = true)
    (k_votes_by_turn : PySem.W.keepIn K (.ref f_votes_by_turn) = true)
    (a_counts : PySem.W.nsIn K mainGlobals "counts" = some (some (.ref f_counts)))
    (l_counts : K.lookup f_counts = some ⟨oc_counts, od_counts, .func (PySem.W.fnOf "counts" "counts" (defArgs s_counts) (defBody s_counts) (defScope s_counts) .none kV_counts dc_counts pm_counts an_counts cd_counts ct_counts), sl_counts⟩)
    (q_counts : PySem.W.codeIn K cd_counts "counts" = true)
    (k_counts : PySem.W.keepIn K (.ref f_counts) = true)
    (a_certified_turns : PySem.W.nsIn K mainGlobals "certified_turns" = some (some (.ref f_certified_turns)))
    (l_certified_turns : K.lookup f_certified_turns = some ⟨oc_certified_turns, od_certified_turns, .func (PySem.W.fnOf "certified_turns" "certified_turns" (defArgs s_certified_turns) (defBody s_certified_turns) (defScope s_certified_turns) .none kV_certified_turns dc_certified_turns pm_certified_turns an_certified_turns cd_certified_turns ct_certified_turns), sl_certified_turns⟩)
    (q_certified_turns : PySem.W.codeIn K cd_certified_turns "certified_turns" = true)
    (k_certified_turns : PySem.W.keepIn K (.ref f_certified_turns) = true)
    (a_committed_turns : PySem.W.nsIn K mainGlobals "committed_turns" = some (some (.ref f_committed_turns)))
    (l_committed_turns : K.lookup f_committed_turns = some ⟨oc_committed_turns, od_committed_turns, .func (PySem.W.fnOf "committed_turns" "committed_turns" (defArgs s_committed_turns) (defBody s_committed_turns) (defScope s_committed_turns) .none kV_committed_turns dc_committed_turns pm_committed_turns an_committed_turns cd_committed_turns ct_committed_turns), sl_committed_turns⟩)
    (q_committed_turns : PySem.W.codeIn K cd_committed_turns "committed_turns" = true)
    (k_committed_turns : PySem.W.keepIn K (.ref f_committed_turns) = true)
    (a_missing : PySem.W.nsIn K mainGlobals "_missing" = some (some (.ref f_missing)))
    (l_missing : K.lookup f_missing = some ⟨oc_missing, od_missing, .func (PySem.W.fnOf "_missing" "_missing" (defArgs s_missing) (defBody s_missing) (defScope s_missing) .none kV_missing dc_missing pm_missing an_missing cd_missing ct_missing), sl_missing⟩)
    (q_missing : PySem.W.codeIn K cd_missing "_missing" = true)
    (k_missing : PySem.W.keepIn K (.ref f_missing) = true)
    (a_Book_init : PySem.W.findIn K (.ref C_Book) "__init__" = some (some (.ref f_Book_init)))
    (i_Book_init : PySem.W.isFn K (.ref f_Book_init) = true)
    (l_Book_init : K.lookup f_Book_init = some ⟨oc_Book_init, od_Book_init, .func (PySem.W.fnOf "__init__" "Book.__init__" (defArgs s_Book_init) (defBody s_Book_init) (defScope s_Book_init) .none kV_Book_init dc_Book_init pm_Book_init an_Book_init cd_Book_init ct_Book_init), sl_Book_init⟩)
    (q_Book_init : PySem.W.codeIn K cd_Book_init "Book.__init__" = true)
    (k_Book_init : PySem.W.keepIn K (.ref f_Book_init) = true)
    (a_Book_belongs : PySem.W.findIn K (.ref C_Book) "_belongs" = some (some (.ref f_Book_belongs)))
    (i_Book_belongs : PySem.W.isFn K (.ref f_Book_belongs) = true)
    (l_Book_belongs : K.lookup f_Book_belongs = some ⟨oc_Book_belongs, od_Book_belongs, .func (PySem.W.fnOf "_belongs" "Book._belongs" (defArgs s_Book_belongs) (defBody s_Book_belongs) (defScope s_Book_belongs) .none kV_Book_belongs dc_Book_belongs pm_Book_belongs an_Book_belongs cd_Book_belongs ct_Book_belongs), sl_Book_belongs⟩)
    (q_Book_belongs : PySem.W.codeIn K cd_Book_belongs "Book._belongs" = true)
    (k_Book_belongs : PySem.W.keepIn K (.ref f_Book_belongs) = true)
    (a_Book_enter : PySem.W.findIn K (.ref C_Book) "_enter" = some (some (.ref f_Book_enter)))
    (i_Book_enter : PySem.W.isFn K (.ref f_Book_enter) = true)
    (l_Book_enter : K.lookup f_Book_enter = some ⟨oc_Book_enter, od_Book_enter, .func (PySem.W.fnOf "_enter" "Book._enter" (defArgs s_Book_enter) (defBody s_Book_enter) (defScope s_Book_enter) .none kV_Book_enter dc_Book_enter pm_Book_enter an_Book_enter cd_Book_enter ct_Book_enter), sl_Book_enter⟩)
    (q_Book_enter : PySem.W.codeIn K cd_Book_enter "Book._enter" = true)
    (k_Book_enter : PySem.W.keepIn K (.ref f_Book_enter) = true)
    (a_Book_add : PySem.W.findIn K (.ref C_Book) "add" = some (some (.ref f_Book_add)))
    (i_Book_add : PySem.W.isFn K (.ref f_Book_add) = true)
    (l_Book_add : K.lookup f_Book_add = some ⟨oc_Book_add, od_Book_add, .func (PySem.W.fnOf "add" "Book.add" (defArgs s_Book_add) (defBody s_Book_add) (defScope s_Book_add) .none kV_Book_add dc_Book_add pm_Book_add an_Book_add cd_Book_add ct_Book_add), sl_Book_add⟩)
    (q_Book_add : PySem.W.codeIn K cd_Book_add "Book.add" = true)
    (k_Book_add : PySem.W.keepIn K (.ref f_Book_add) = true)
    (a_Book_letters : PySem.W.findIn K (.ref C_Book) "letters" = some (some (.ref f_Book_letters)))
    (i_Book_letters : PySem.W.isFn K (.ref f_Book_letters) = true)
    (l_Book_letters : K.lookup f_Book_letters = some ⟨oc_Book_letters, od_Book_letters, .func (PySem.W.fnOf "letters" "Book.letters" (defArgs s_Book_letters) (defBody s_Book_letters) (defScope s_Book_letters) .none kV_Book_letters dc_Book_letters pm_Book_letters an_Book_letters cd_Book_letters ct_Book_letters), sl_Book_letters⟩)
    (q_Book_letters : PySem.W.codeIn K cd_Book_letters "Book.letters" = true)
    (k_Book_letters : PySem.W.keepIn K (.ref f_Book_letters) = true)
    (a_until_quorum : PySem.W.nsIn K mainGlobals "_until_quorum" = some (some (.ref f_until_quorum)))
    (l_until_quorum : K.lookup f_until_quorum = some ⟨oc_until_quorum, od_until_quorum, .func (PySem.W.fnOf "_until_quorum" "_until_quorum" (defArgs s_until_quorum) (defBody s_until_quorum) (defScope s_until_quorum) .none kV_until_quorum dc_until_quorum pm_until_quorum an_until_quorum cd_until_quorum ct_until_quorum), sl_until_quorum⟩)
    (q_until_quorum : PySem.W.codeIn K cd_until_quorum "_until_quorum" = true)
    (k_until_quorum : PySem.W.keepIn K (.ref f_until_quorum) = true)
    (a_prevotes : PySem.W.nsIn K mainGlobals "_prevotes" = some (some (.ref f_prevotes)))
    (l_prevotes : K.lookup f_prevotes = some ⟨oc_prevotes, od_prevotes, .func (PySem.W.fnOf "_prevotes" "_prevotes" (defArgs s_prevotes) (defBody s_prevotes) (defScope s_prevotes) .none kV_prevotes dc_prevotes pm_prevotes an_prevotes cd_prevotes ct_prevotes), sl_prevotes⟩)
    (q_prevotes : PySem.W.codeIn K cd_prevotes "_prevotes" = true)
    (k_prevotes : PySem.W.keepIn K (.ref f_prevotes) = true)
    (a_commit_paper : PySem.W.nsIn K mainGlobals "commit_paper" = some (some (.ref f_commit_paper)))
    (l_commit_paper : K.lookup f_commit_paper = some ⟨oc_commit_paper, od_commit_paper, .func (PySem.W.fnOf "commit_paper" "commit_paper" (defArgs s_commit_paper) (defBody s_commit_paper) (defScope s_commit_paper) .none kV_commit_paper dc_commit_paper pm_commit_paper an_commit_paper cd_commit_paper ct_commit_paper), sl_commit_paper⟩)
    (q_commit_paper : PySem.W.codeIn K cd_commit_paper "commit_paper" = true)
    (k_commit_paper : PySem.W.keepIn K (.ref f_commit_paper) = true)
    (a_shown_turn : PySem.W.nsIn K mainGlobals "shown_turn" = some (some (.ref f_shown_turn)))
    (l_shown_turn : K.lookup f_shown_turn = some ⟨oc_shown_turn, od_shown_turn, .func (PySem.W.fnOf "shown_turn" "shown_turn" (defArgs s_shown_turn) (defBody s_shown_turn) (defScope s_shown_turn) .none kV_shown_turn dc_shown_turn pm_shown_turn an_shown_turn cd_shown_turn ct_shown_turn), sl_shown_turn⟩)
    (q_shown_turn : PySem.W.codeIn K cd_shown_turn "shown_turn" = true)
    (k_shown_turn : PySem.W.keepIn K (.ref f_shown_turn) = true)
    (a_shows : PySem.W.nsIn K mainGlobals "shows" = some (some (.ref f_shows)))
    (l_shows : K.lookup f_shows = some ⟨oc_shows, od_shows, .func (PySem.W.fnOf "shows" "shows" (defArgs s_shows) (defBody s_shows) (defScope s_shows) .none kV_shows dc_shows pm_shows an_shows cd_shows ct_shows), sl_shows⟩)
    (q_shows : PySem.W.codeIn K cd_shows "shows" = true)
    (k_shows : PySem.W.keepIn K (.ref f_shows) = true)
    (a_law_cell : PySem.W.nsIn K mainGlobals "_law_cell" = some (some (.ref f_law_cell)))
    (l_law_cell : K.lookup f_law_cell = some ⟨oc_law_cell, od_law_cell, .func (PySem.W.fnOf "_law_cell" "_law_cell" (defArgs s_law_cell) (defBody s_law_cell) (defScope s_law_cell) .none kV_law_cell dc_law_cell pm_law_cell an_law_cell cd_law_cell ct_law_cell), sl_law_cell⟩)
    (q_law_cell : PySem.W.codeIn K cd_law_cell "_law_cell" = true)
    (k_law_cell : PySem.W.keepIn K (.ref f_law_cell) = true)
    (a_law_is_integer : PySem.W.nsIn K mainGlobals "_law_is_integer" = some (some (.ref f_law_is_integer)))
    (l_law_is_integer : K.lookup f_law_is_integer = some ⟨oc_law_is_integer, od_law_is_integer, .func (PySem.W.fnOf "_law_is_integer" "_law_is_integer" (defArgs s_law_is_integer) (defBody s_law_is_integer) (defScope s_law_is_integer) .none kV_law_is_integer dc_law_is_integer pm_law_is_integer an_law_is_integer cd_law_is_integer ct_law_is_integer), sl_law_is_integer⟩)
    (q_law_is_integer : PySem.W.codeIn K cd_law_is_integer "_law_is_integer" = true)
    (k_law_is_integer : PySem.W.keepIn K (.ref f_law_is_integer) = true)
    (a_law_row : PySem.W.nsIn K mainGlobals "_law_row" = some (some (.ref f_law_row)))
    (l_law_row : K.lookup f_law_row = some ⟨oc_law_row, od_law_row, .func (PySem.W.fnOf "_law_row" "_law_row" (defArgs s_law_row) (defBody s_law_row) (defScope s_law_row) .none kV_law_row dc_law_row pm_law_row an_law_row cd_law_row ct_law_row), sl_law_row⟩)
    (q_law_row : PySem.W.codeIn K cd_law_row "_law_row" = true)
    (k_law_row : PySem.W.keepIn K (.ref f_law_row) = true)
    (a_law_weights : PySem.W.nsIn K mainGlobals "_law_weights" = some (some (.ref f_law_weights)))
    (l_law_weights : K.lookup f_law_weights = some ⟨oc_law_weights, od_law_weights, .func (PySem.W.fnOf "_law_weights" "_law_weights" (defArgs s_law_weights) (defBody s_law_weights) (defScope s_law_weights) .none kV_law_weights dc_law_weights pm_law_weights an_law_weights cd_law_weights ct_law_weights), sl_law_weights⟩)
    (q_law_weights : PySem.W.codeIn K cd_law_weights "_law_weights" = true)
    (k_law_weights : PySem.W.keepIn K (.ref f_law_weights) = true)
    (a_law_weight : PySem.W.nsIn K mainGlobals "_law_weight" = some (some (.ref f_law_weight)))
    (l_law_weight : K.lookup f_law_weight = some ⟨oc_law_weight, od_law_weight, .func (PySem.W.fnOf "_law_weight" "_law_weight" (defArgs s_law_weight) (defBody s_law_weight) (defScope s_law_weight) .none kV_law_weight dc_law_weight pm_law_weight an_law_weight cd_law_weight ct_law_weight), sl_law_weight⟩)
    (q_law_weight : PySem.W.codeIn K cd_law_weight "_law_weight" = true)
    (k_law_weight : PySem.W.keepIn K (.ref f_law_weight) = true)
    (a_law_certified : PySem.W.nsIn K mainGlobals "_law_certified" = some (some (.ref f_law_certified)))
    (l_law_certified : K.lookup f_law_certified = some ⟨oc_law_certified, od_law_certified, .func (PySem.W.fnOf "_law_certified" "_law_certified" (defArgs s_law_certified) (defBody s_law_certified) (defScope s_law_certified) .none kV_law_certified dc_law_certified pm_law_certified an_law_certified cd_law_certified ct_law_certified), sl_law_certified⟩)
    (q_law_certified : PySem.W.codeIn K cd_law_certified "_law_certified" = true)
    (k_law_certified : PySem.W.keepIn K (.ref f_law_certified) = true)
    (a_law_committed : PySem.W.nsIn K mainGlobals "_law_committed" = some (some (.ref f_law_committed)))
    (l_law_committed : K.lookup f_law_committed = some ⟨oc_law_committed, od_law_committed, .func (PySem.W.fnOf "_law_committed" "_law_committed" (defArgs s_law_committed) (defBody s_law_committed) (defScope s_law_committed) .none kV_law_committed dc_law_committed pm_law_committed an_law_committed cd_law_committed ct_law_committed), sl_law_committed⟩)
    (q_law_committed : PySem.W.codeIn K cd_law_committed "_law_committed" = true)
    (k_law_committed : PySem.W.keepIn K (.ref f_law_committed) = true)
    (a_law_statement : PySem.W.nsIn K mainGlobals "_law_statement" = some (some (.ref f_law_statement)))
    (l_law_statement : K.lookup f_law_statement = some ⟨oc_law_statement, od_law_statement, .func (PySem.W.fnOf "_law_statement" "_law_statement" (defArgs s_law_statement) (defBody s_law_statement) (defScope s_law_statement) .none kV_law_statement dc_law_statement pm_law_statement an_law_statement cd_law_statement ct_law_statement), sl_law_statement⟩)
    (q_law_statement : PySem.W.codeIn K cd_law_statement "_law_statement" = true)
    (k_law_statement : PySem.W.keepIn K (.ref f_law_statement) = true)
    (a_law_letters : PySem.W.nsIn K mainGlobals "_law_letters" = some (some (.ref f_law_letters)))
    (l_law_letters : K.lookup f_law_letters = some ⟨oc_law_letters, od_law_letters, .func (PySem.W.fnOf "_law_letters" "_law_letters" (defArgs s_law_letters) (defBody s_law_letters) (defScope s_law_letters) .none kV_law_letters dc_law_letters pm_law_letters an_law_letters cd_law_letters ct_law_letters), sl_law_letters⟩)
    (q_law_letters : PySem.W.codeIn K cd_law_letters "_law_letters" = true)
    (k_law_letters : PySem.W.keepIn K (.ref f_law_letters) = true)
    (a_law_planted : PySem.W.nsIn K mainGlobals "_law_planted" = some (some (.ref f_law_planted)))
    (l_law_planted : K.lookup f_law_planted = some ⟨oc_law_planted, od_law_planted, .func (PySem.W.fnOf "_law_planted" "_law_planted" (defArgs s_law_planted) (defBody s_law_planted) (defScope s_law_planted) .none kV_law_planted dc_law_planted pm_law_planted an_law_planted cd_law_planted ct_law_planted), sl_law_planted⟩)
    (q_law_planted : PySem.W.codeIn K cd_law_planted "_law_planted" = true)
    (k_law_planted : PySem.W.keepIn K (.ref f_law_planted) = true)
    (a_law_lift : PySem.W.nsIn K mainGlobals "_law_lift" = some (some (.ref f_law_lift)))
    (l_law_lift : K.lookup f_law_lift = some ⟨oc_law_lift, od_law_lift, .func (PySem.W.fnOf "_law_lift" "_law_lift" (defArgs s_law_lift) (defBody s_law_lift) (defScope s_law_lift) .none kV_law_lift dc_law_lift pm_law_lift an_law_lift cd_law_lift ct_law_lift), sl_law_lift⟩)
    (q_law_lift : PySem.W.codeIn K cd_law_lift "_law_lift" = true)
    (k_law_lift : PySem.W.keepIn K (.ref f_law_lift) = true)
    (a_law_turns : PySem.W.nsIn K mainGlobals "_law_turns" = some (some (.ref f_law_turns)))
    (l_law_turns : K.lookup f_law_turns = some ⟨oc_law_turns, od_law_turns, .func (PySem.W.fnOf "_law_turns" "_law_turns" (defArgs s_law_turns) (defBody s_law_turns) (defScope s_law_turns) .none kV_law_turns dc_law_turns pm_law_turns an_law_turns cd_law_turns ct_law_turns), sl_law_turns⟩)
    (q_law_turns : PySem.W.codeIn K cd_law_turns "_law_turns" = true)
    (k_law_turns : PySem.W.keepIn K (.ref f_law_turns) = true)
    (a_law_shown : PySem.W.nsIn K mainGlobals "_law_shown" = some (some (.ref f_law_shown)))
    (l_law_shown : K.lookup f_law_shown = some ⟨oc_law_shown, od_law_shown, .func (PySem.W.fnOf "_law_shown" "_law_shown" (defArgs s_law_shown) (defBody s_law_shown) (defScope s_law_shown) .none kV_law_shown dc_law_shown pm_law_shown an_law_shown cd_law_shown ct_law_shown), sl_law_shown⟩)
    (q_law_shown : PySem.W.codeIn K cd_law_shown "_law_shown" = true)
    (k_law_shown : PySem.W.keepIn K (.ref f_law_shown) = true)
    (a_law_paper : PySem.W.nsIn K mainGlobals "_law_paper" = some (some (.ref f_law_paper)))
    (l_law_paper : K.lookup f_law_paper = some ⟨oc_law_paper, od_law_paper, .func (PySem.W.fnOf "_law_paper" "_law_paper" (defArgs s_law_paper) (defBody s_law_paper) (defScope s_law_paper) .none kV_law_paper dc_law_paper pm_law_paper an_law_paper cd_law_paper ct_law_paper), sl_law_paper⟩)
    (q_law_paper : PySem.W.codeIn K cd_law_paper "_law_paper" = true)
    (k_law_paper : PySem.W.keepIn K (.ref f_law_paper) = true)
    (a_law : PySem.W.nsIn K mainGlobals "law" = some (some (.ref f_law)))
    (l_law : K.lookup f_law = some ⟨oc_law, od_law, .func (PySem.W.fnOf "law" "law" (defArgs s_law) (defBody s_law) (defScope s_law) .none kV_law dc_law pm_law an_law cd_law ct_law), sl_law⟩)
    (q_law : PySem.W.codeIn K cd_law "law" = true)
    (k_law : PySem.W.keepIn K (.ref f_law) = true)
    (pg_Committee : PySem.W.plainGet K C_Committee Str.empty = true)
    (hd_Committee : PySem.W.hasDictIn K C_Committee = true)
    (po_Committee : PySem.W.plainOver K C_Committee = true)
    (sa_Committee : PySem.W.findIn K (.ref C_Committee) "__setattr__" = some (some (.builtin "object.__setattr__")))
    (mk_Committee : PySem.W.makesIn K C_Committee = true)
    (kc_Committee : PySem.W.keepIn K (.ref C_Committee) = true)
    (no_Committee_weights : PySem.W.findIn K (.ref C_Committee) "weights" = some none)
    (no_Committee_size : PySem.W.findIn K (.ref C_Committee) "size" = some none)
    (no_Committee_total : PySem.W.findIn K (.ref C_Committee) "total" = some none)
    (pg_Book : PySem.W.plainGet K C_Book Str.empty = true)
    (hd_Book : PySem.W.hasDictIn K C_Book = true)
    (po_Book : PySem.W.plainOver K C_Book = true)
    (sa_Book : PySem.W.findIn K (.ref C_Book) "__setattr__" = some (some (.builtin "object.__setattr__")))
    (mk_Book : PySem.W.makesIn K C_Book = true)
    (kc_Book : PySem.W.keepIn K (.ref C_Book) = true)
    (no_Book_committee : PySem.W.findIn K (.ref C_Book) "committee" = some none)
    (no_Book_height : PySem.W.findIn K (.ref C_Book) "height" = some none)
    (no_Book_certificates : PySem.W.findIn K (.ref C_Book) "certificates" = some none)
    (no_Book_commits : PySem.W.findIn K (.ref C_Book) "commits" = some none)
    (no_Book__kept : PySem.W.findIn K (.ref C_Book) "_kept" = some none)
    (no_Book__by_block : PySem.W.findIn K (.ref C_Book) "_by_block" = some none)
    (g_BadLine : PySem.W.nsIn K mainGlobals "BadLine" = some (some (.ref C_BadLine)))
    (g_BadPaper : PySem.W.nsIn K mainGlobals "BadPaper" = some (some (.ref C_BadPaper)))
    (x_BadPaper : PySem.W.excIn K C_BadPaper [.type "ValueError", .type "Exception", .type "BaseException", .type "object"] "ValueError.__new__" = true)
    (kc_BadPaper : PySem.W.keepIn K (.ref C_BadPaper) = true)
    (b_BadPaper : PySem.W.subIn K (.ref C_BadPaper) (.type "BaseException") = some true)
    (t_BadPaper : PySem.W.typeIn K (.ref C_BadPaper) = some (.type "type"))
    (xga_BadPaper : PySem.W.findIn K (.ref C_BadPaper) "__getattribute__" = some (some (.builtin "BaseException.__getattribute__")))
    (xgt_BadPaper : PySem.W.findIn K (.ref C_BadPaper) "__getattr__" = some none)
    (xhd_BadPaper : PySem.W.hasDictIn K C_BadPaper = true)
    (xcc_BadPaper : PySem.W.findIn K (.ref C_BadPaper) "__class__" = some (some (.builtin "object.__class__")))
    (xsp_BadPaper : PySem.W.specialIn K (.builtin "object.__class__") "__get__" = some (some (.builtin "getset_descriptor.__get__")))
    (xtk_BadPaper : PySem.W.takesIn K (.builtin "object.__class__") = some true)
    (xmo_BadPaper : PySem.W.mroIn K C_BadPaper (.type "object") = some true)
    (kt_BadPaper_BadPaper : PySem.W.kitOne K (.ref C_BadPaper) (.ref C_BadPaper) = some true)
    (kt_BadPaper_BadLine : PySem.W.kitOne K (.ref C_BadPaper) (.ref C_BadLine) = some false)
    (g_TribunalError : PySem.W.nsIn K mainGlobals "TribunalError" = some (some (.ref C_TribunalError)))
    (te1_TribunalError : PySem.W.subIn K (.ref C_TribunalError) (.type "BaseException") = some true)
    (te2_TribunalError : PySem.W.hasDictIn K C_TribunalError = true)
    (te3_TribunalError : PySem.W.typeIn K (.ref C_TribunalError) = some (.type "type"))
    (te4_TribunalError_BadPaper : PySem.W.subIn K (.ref C_BadPaper) (.ref C_TribunalError) = some true) :
    ∃ fd : FuncData, (∀ (s : Shared) (v : Value), BindsTo s fd ⟨[v], []⟩ [("script", v)]) ∧ ∀ base : Heap, K.In base → base.Ns mainGlobals mg → FnOk l.prog w K mg base CX0 9 fa fd ["script"] (spLaw K) := by
  have e := hfa.symm.trans (PySem.W.mg_of X G a_law)
  cases e
  have T : Txt K mg ⟨C_Committee, C_Book, f_is_vote, f_first_wrong, f_Committee_init, f_Committee_weight_of, f_Committee_is_quorum, f_votes_by_turn, f_counts, f_certified_turns, f_committed_turns, f_missing, f_Book_init, f_Book_belongs, f_Book_enter, f_Book_add, f_Book_letters, f_until_quorum, f_prevotes, f_commit_paper, f_shown_turn, f_shows, f_law_cell, f_law_is_integer, f_law_row, f_law_weights, f_law_weight, f_law_certified, f_law_committed, f_law_statement, f_law_letters, f_law_planted, f_law_lift, f_law_turns, f_law_shown, f_law_paper, C_BadPaper, C_TribunalError, C_BadLine⟩ := {
    n_len := mg_no X G n_len
    n_range := mg_no X G n_range
    n_isinstance := mg_no X G n_isinstance
    n_int := mg_no X G n_int
    n_bool := mg_no X G n_bool
    n_list := mg_no X G n_list
    n_tuple := mg_no X G n_tuple
    n_sum := mg_no X G n_sum
    n_enumerate := mg_no X G n_enumerate
    n_set := mg_no X G n_set
    n_sorted := mg_no X G n_sorted
    n_max := mg_no X G n_max
    n_min := mg_no X G n_min
    n_abs := mg_no X G n_abs
    c_KIND := ⟨_, PySem.W.mg_of X G c_KIND⟩
    c_HEIGHT := ⟨_, PySem.W.mg_of X G c_HEIGHT⟩
    c_TURN := ⟨_, PySem.W.mg_of X G c_TURN⟩
    c_BLOCK := ⟨_, PySem.W.mg_of X G c_BLOCK⟩
    c_LEAN := ⟨_, PySem.W.mg_of X G c_LEAN⟩
    c_MOST_MEMBERS := ⟨_, PySem.W.mg_of X G c_MOST_MEMBERS⟩
    c_MOST_WEIGHT := ⟨_, PySem.W.mg_of X G c_MOST_WEIGHT⟩
    g_Committee := PySem.W.mg_of X G g_Committee
    cl_Committee := ⟨pg_Committee, hd_Committee, po_Committee, sa_Committee⟩
    kc_Committee := kc_Committee
    mk_Committee := mk_Committee
    a_Committee_weights := no_Committee_weights
    a_Committee_size := no_Committee_size
    a_Committee_total := no_Committee_total
    g_Book := PySem.W.mg_of X G g_Book
    cl_Book := ⟨pg_Book, hd_Book, po_Book, sa_Book⟩
    kc_Book := kc_Book
    mk_Book := mk_Book
    a_Book_committee := no_Book_committee
    a_Book_height := no_Book_height
    a_Book_certificates := no_Book_certificates
    a_Book_commits := no_Book_commits
    a_Book__kept := no_Book__kept
    a_Book__by_block := no_Book__by_block
    d_is_vote := ⟨def_mk l_is_vote q_is_vote k_is_vote (fun _ _ _ _ _ _ us hl => match us, hl with | [_], _ => rfl), PySem.W.mg_of X G a_is_vote, k_is_vote⟩
    d_first_wrong := ⟨def_mk l_first_wrong q_first_wrong k_first_wrong (fun _ _ _ _ _ _ us hl => match us, hl with | [_], _ => rfl), PySem.W.mg_of X G a_first_wrong, k_first_wrong⟩
    d_Committee_init := ⟨def_mk l_Committee_init q_Committee_init k_Committee_init (fun _ _ _ _ _ _ us hl => match us, hl with | [_, _], _ => rfl), a_Committee_init, i_Committee_init, k_Committee_init⟩
    d_Committee_weight_of := ⟨def_mk l_Committee_weight_of q_Committee_weight_of k_Committee_weight_of (fun _ _ _ _ _ _ us hl => match us, hl with | [_, _], _ => rfl), a_Committee_weight_of, i_Committee_weight_of, k_Committee_weight_of⟩
    d_Committee_is_quorum := ⟨def_mk l_Committee_is_quorum q_Committee_is_quorum k_Committee_is_quorum (fun _ _ _ _ _ _ us hl => match us, hl with | [_, _], _ => rfl), a_Committee_is_quorum, i_Committee_is_quorum, k_Committee_is_quorum⟩
    d_votes_by_turn := ⟨def_mk l_votes_by_turn q_votes_by_turn k_votes_by_turn (fun _ _ _ _ _ _ us hl => match us, hl with | [_, _, _, _], _ => rfl), PySem.W.mg_of X G a_votes_by_turn, k_votes_by_turn⟩
    d_counts := ⟨def_mk l_counts q_counts k_counts (fun _ _ _ _ _ _ us hl => match us, hl with | [_, _], _ => rfl), PySem.W.mg_of X G a_counts, k_counts⟩
    d_certified_turns := ⟨def_mk l_certified_turns q_certified_turns k_certified_turns (fun _ _ _ _ _ _ us hl => match us, hl with | [_, _, _, _], _ => rfl), PySem.W.mg_of X G a_certified_turns, k_certified_turns⟩
    d_committed_turns := ⟨def_mk l_committed_turns q_committed_turns k_committed_turns (fun _ _ _ _ _ _ us hl => match us, hl with | [_, _, _, _], _ => rfl), PySem.W.mg_of X G a_committed_turns, k_committed_turns⟩
    d_missing := ⟨def_mk l_missing q_missing k_missing (fun _ _ _ _ _ _ us hl => match us, hl with | [_, _, _], _ => rfl), PySem.W.mg_of X G a_missing, k_missing⟩
    d_Book_init := ⟨def_mk l_Book_init q_Book_init k_Book_init (fun _ _ _ _ _ _ us hl => match us, hl with | [_, _, _], _ => rfl), a_Book_init, i_Book_init, k_Book_init⟩
    d_Book_belongs := ⟨def_mk l_Book_belongs q_Book_belongs k_Book_belongs (fun _ _ _ _ _ _ us hl => match us, hl with | [_, _], _ => rfl), a_Book_belongs, i_Book_belongs, k_Book_belongs⟩
    d_Book_enter := ⟨def_mk l_Book_enter q_Book_enter k_Book_enter (fun _ _ _ _ _ _ us hl => match us, hl with | [_, _], _ => rfl), a_Book_enter, i_Book_enter, k_Book_enter⟩
    d_Book_add := ⟨def_mk l_Book_add q_Book_add k_Book_add (fun _ _ _ _ _ _ us hl => match us, hl with | [_, _], _ => rfl), a_Book_add, i_Book_add, k_Book_add⟩
    d_Book_letters := ⟨def_mk l_Book_letters q_Book_letters k_Book_letters (fun _ _ _ _ _ _ us hl => match us, hl with | [_], _ => rfl), a_Book_letters, i_Book_letters, k_Book_letters⟩
    d_until_quorum := ⟨def_mk l_until_quorum q_until_quorum k_until_quorum (fun _ _ _ _ _ _ us hl => match us, hl with | [_, _], _ => rfl), PySem.W.mg_of X G a_until_quorum, k_until_quorum⟩
    d_prevotes := ⟨def_mk l_prevotes q_prevotes k_prevotes (fun _ _ _ _ _ _ us hl => match us, hl with | [_, _, _], _ => rfl), PySem.W.mg_of X G a_prevotes, k_prevotes⟩
    d_commit_paper := ⟨def_mk l_commit_paper q_commit_paper k_commit_paper (fun _ _ _ _ _ _ us hl => match us, hl with | [_, _], _ => rfl), PySem.W.mg_of X G a_commit_paper, k_commit_paper⟩
    d_shown_turn := ⟨def_mk l_shown_turn q_shown_turn k_shown_turn (fun _ _ _ _ _ _ us hl => match us, hl with | [_, _, _, _], _ => rfl), PySem.W.mg_of X G a_shown_turn, k_shown_turn⟩
    d_shows := ⟨def_mk l_shows q_shows k_shows (fun _ _ _ _ _ _ us hl => match us, hl with | [_, _, _, _], _ => rfl), PySem.W.mg_of X G a_shows, k_shows⟩
    d_law_cell := ⟨def_mk l_law_cell q_law_cell k_law_cell (fun _ _ _ _ _ _ us hl => match us, hl with | [_, _], _ => rfl), PySem.W.mg_of X G a_law_cell, k_law_cell⟩
    d_law_is_integer := ⟨def_mk l_law_is_integer q_law_is_integer k_law_is_integer (fun _ _ _ _ _ _ us hl => match us, hl with | [_], _ => rfl), PySem.W.mg_of X G a_law_is_integer, k_law_is_integer⟩
    d_law_row := ⟨def_mk l_law_row q_law_row k_law_row (fun _ _ _ _ _ _ us hl => match us, hl with | [_, _, _], _ => rfl), PySem.W.mg_of X G a_law_row, k_law_row⟩
    d_law_weights := ⟨def_mk l_law_weights q_law_weights k_law_weights (fun _ _ _ _ _ _ us hl => match us, hl with | [_, _], _ => rfl), PySem.W.mg_of X G a_law_weights, k_law_weights⟩
    d_law_weight := ⟨def_mk l_law_weight q_law_weight k_law_weight (fun _ _ _ _ _ _ us hl => match us, hl with | [_, _], _ => rfl), PySem.W.mg_of X G a_law_weight, k_law_weight⟩
    d_law_certified := ⟨def_mk l_law_certified q_law_certified k_law_certified (fun _ _ _ _ _ _ us hl => match us, hl with | [_, _, _, _, _], _ => rfl), PySem.W.mg_of X G a_law_certified, k_law_certified⟩
    d_law_committed := ⟨def_mk l_law_committed q_law_committed k_law_committed (fun _ _ _ _ _ _ us hl => match us, hl with | [_, _, _, _, _], _ => rfl), PySem.W.mg_of X G a_law_committed, k_law_committed⟩
    d_law_statement := ⟨def_mk l_law_statement q_law_statement k_law_statement (fun _ _ _ _ _ _ us hl => match us, hl with | [_, _], _ => rfl), PySem.W.mg_of X G a_law_statement, k_law_statement⟩
    d_law_letters := ⟨def_mk l_law_letters q_law_letters k_law_letters (fun _ _ _ _ _ _ us hl => match us, hl with | [_, _, _], _ => rfl), PySem.W.mg_of X G a_law_letters, k_law_letters⟩
    d_law_planted := ⟨def_mk l_law_planted q_law_planted k_law_planted (fun _ _ _ _ _ _ us hl => match us, hl with | [_, _], _ => rfl), PySem.W.mg_of X G a_law_planted, k_law_planted⟩
    d_law_lift := ⟨def_mk l_law_lift q_law_lift k_law_lift (fun _ _ _ _ _ _ us hl => match us, hl with | [_, _], _ => rfl), PySem.W.mg_of X G a_law_lift, k_law_lift⟩
    d_law_turns := ⟨def_mk l_law_turns q_law_turns k_law_turns (fun _ _ _ _ _ _ us hl => match us, hl with | [_, _, _, _], _ => rfl), PySem.W.mg_of X G a_law_turns, k_law_turns⟩
    d_law_shown := ⟨def_mk l_law_shown q_law_shown k_law_shown (fun _ _ _ _ _ _ us hl => match us, hl with | [_, _, _, _, _], _ => rfl), PySem.W.mg_of X G a_law_shown, k_law_shown⟩
    d_law_paper := ⟨def_mk l_law_paper q_law_paper k_law_paper (fun _ _ _ _ _ _ us hl => match us, hl with | [_, _, _, _, _, _, _], _ => rfl), PySem.W.mg_of X G a_law_paper, k_law_paper⟩ }
  have TE : TxtE K mg ⟨C_Committee, C_Book, f_is_vote, f_first_wrong, f_Committee_init, f_Committee_weight_of, f_Committee_is_quorum, f_votes_by_turn, f_counts, f_certified_turns, f_committed_turns, f_missing, f_Book_init, f_Book_belongs, f_Book_enter, f_Book_add, f_Book_letters, f_until_quorum, f_prevotes, f_commit_paper, f_shown_turn, f_shows, f_law_cell, f_law_is_integer, f_law_row, f_law_weights, f_law_weight, f_law_certified, f_law_committed, f_law_statement, f_law_letters, f_law_planted, f_law_lift, f_law_turns, f_law_shown, f_law_paper, C_BadPaper, C_TribunalError, C_BadLine⟩ := {
    g_BadLine := PySem.W.mg_of X G g_BadLine
    g_BadPaper := PySem.W.mg_of X G g_BadPaper
    x_BadPaper := x_BadPaper
    kc_BadPaper := kc_BadPaper
    b_BadPaper := b_BadPaper
    t_BadPaper := t_BadPaper
    xc_BadPaper := ⟨(PySem.W.any_some xhd_BadPaper).elim fun cd h => by rw [h.1]; rfl, xga_BadPaper, xgt_BadPaper, b_BadPaper, xhd_BadPaper, xcc_BadPaper, xsp_BadPaper, xtk_BadPaper, xmo_BadPaper⟩
    kt_BadPaper_BadPaper := kt_BadPaper_BadPaper
    kt_BadPaper_BadLine := kt_BadPaper_BadLine
    g_TribunalError := PySem.W.mg_of X G g_TribunalError
    exm_TribunalError_BadPaper := PySem.W.exm_ref te1_TribunalError te2_TribunalError te3_TribunalError te4_TribunalError_BadPaper }
  have F5 := fun_mk (st := s_law) l_law q_law k_law
  exact ⟨PySem.W.fnOf "law" "law" (defArgs s_law) (defBody s_law) (defScope s_law) .none kV_law dc_law pm_law an_law cd_law ct_law, fun s v => .of_eq rfl, fun base _ _ => ok_law F5 TE T⟩
theorem walk {l : PySem.W.OpenLaw} {q : Program} {loose : List Str} {XP : (Str → Option Value) → Heap → Prop} {YP : World → Heap → Prop} {d : DefRec} {K : Params → PySem.W.Frag} (hn : l.most = some 63) (hdf : d.params.defaults = [])
    (hY : ∀ (w : World) (h : Heap), YP w h → (K w.params).In h)
    (F : ∀ (w : World) (mg : Str → Option Value) (fa : Addr) (h : Heap), (K w.params).In h → h.Ns mainGlobals mg → mg d.name = some (.ref fa) →
      ∃ fd : FuncData, (∀ (s : Shared) (u : Value), BindsTo s fd ⟨[u], []⟩ [("script", u)]) ∧ ∀ base : Heap, (K w.params).In base → base.Ns mainGlobals mg → FnOk l.prog w (K w.params) mg base CX0 9 fa fd ["script"] (spLaw (K w.params))) :
    PySem.W.WalkO q loose XP YP l.row.toRowW d [] (fun f vs => PySem.call f vs) :=
  L2.walk_of (n := 63) (k := 9) (x := "script") (CX := fun _ => CX0) (sp := fun w => spLaw (K w.params)) hn (by decide) hdf ⟨rfl, by decide, by decide⟩ hY F (fun _ _ a ns hl _ hS => ⟨a, ns, rfl, hS, hl, fun _ => rfl⟩) fun _ _ _ _ _ z => z
end Toy
open PySem PySem.W PyProof.Rows
set_option maxRecDepth 100000 in
set_option maxHeartbeats 0 in
theorem PySem.Challenge.cw_tribunal_k11_papers_made_from_books_holds : PySem.Challenge.rw_tribunal_k11_papers_made_from_books.Holds := by
  w_on; o_law; k_head; (case hw => w_witness2)
  k_fill
  refine Toy.walk (l := PySem.Challenge.rw_tribunal_k11_papers_made_from_books) rfl rfl (fun w h Y => PySem.W.kIn_of Y) ?F
  case F =>
    intro w mg fa h KX G hmg
    refine' Toy.all_mk KX G hmg ?c_KIND ?c_HEIGHT ?c_TURN ?c_BLOCK ?c_LEAN ?c_MOST_MEMBERS ?c_MOST_WEIGHT ?n_len ?n_range ?n_isinstance ?n_int ?n_bool ?n_list ?n_tuple ?n_sum ?n_enumerate ?n_set ?n_sorted ?n_max ?n_min ?n_abs ?g_Committee ?g_Book ?a_is_vote ?l_is_vote ?q_is_vote ?k_is_vote ?a_first_wrong ?l_first_wrong ?q_first_wrong ?k_first_wrong ?a_Committee_init ?i_Committee_init ?l_Committee_init ?q_Committee_init ?k_Committee_init ?a_Committee_weight_of ?i_Committee_weight_of ?l_Committee_weight_of ?q_Committee_weight_of ?k_Committee_weight_of ?a_Committee_is_quorum ?i_Committee_is_quorum ?l_Committee_is_quorum ?q_Committee_is_quorum ?k_Committee_is_quorum ?a_votes_by_turn ?l_votes_by_turn ?q_votes_by_turn ?k_votes_by_turn ?a_counts ?l_counts ?q_counts ?k_counts ?a_certified_turns ?l_certified_turns ?q_certified_turns ?k_certified_turns ?a_committed_turns ?l_committed_turns ?q_committed_turns ?k_committed_turns ?a_missing ?l_missing ?q_missing ?k_missing ?a_Book_init ?i_Book_init ?l_Book_init ?q_Book_init ?k_Book_init ?a_Book_belongs ?i_Book_belongs ?l_Book_belongs ?q_Book_belongs ?k_Book_belongs ?a_Book_enter ?i_Book_enter ?l_Book_enter ?q_Book_enter ?k_Book_enter ?a_Book_add ?i_Book_add ?l_Book_add ?q_Book_add ?k_Book_add ?a_Book_letters ?i_Book_letters ?l_Book_letters ?q_Book_letters ?k_Book_letters ?a_until_quorum ?l_until_quorum ?q_until_quorum ?k_until_quorum ?a_prevotes ?l_prevotes ?q_prevotes ?k_prevotes ?a_commit_paper ?l_commit_paper ?q_commit_paper ?k_commit_paper ?a_shown_turn ?l_shown_turn ?q_shown_turn ?k_shown_turn ?a_shows ?l_shows ?q_shows ?k_shows ?a_law_cell ?l_law_cell ?q_law_cell ?k_law_cell ?a_law_is_integer ?l_law_is_integer ?q_law_is_integer ?k_law_is_integer ?a_law_row ?l_law_row ?q_law_row ?k_law_row ?a_law_weights ?l_law_weights ?q_law_weights ?k_law_weights ?a_law_weight ?l_law_weight ?q_law_weight ?k_law_weight ?a_law_certified ?l_law_certified ?q_law_certified ?k_law_certified ?a_law_committed ?l_law_committed ?q_law_committed ?k_law_committed ?a_law_statement ?l_law_statement ?q_law_statement ?k_law_statement ?a_law_letters ?l_law_letters ?q_law_letters ?k_law_letters ?a_law_planted ?l_law_planted ?q_law_planted ?k_law_planted ?a_law_lift ?l_law_lift ?q_law_lift ?k_law_lift ?a_law_turns ?l_law_turns ?q_law_turns ?k_law_turns ?a_law_shown ?l_law_shown ?q_law_shown ?k_law_shown ?a_law_paper ?l_law_paper ?q_law_paper ?k_law_paper ?a_law ?l_law ?q_law ?k_law ?pg_Committee ?hd_Committee ?po_Committee ?sa_Committee ?mk_Committee ?kc_Committee ?no_Committee_weights ?no_Committee_size ?no_Committee_total ?pg_Book ?hd_Book ?po_Book ?sa_Book ?mk_Book ?kc_Book ?no_Book_committee ?no_Book_height ?no_Book_certificates ?no_Book_commits ?no_Book__kept ?no_Book__by_block ?g_BadLine ?g_BadPaper ?x_BadPaper ?kc_BadPaper ?b_BadPaper ?t_BadPaper ?xga_BadPaper ?xgt_BadPaper ?xhd_BadPaper ?xcc_BadPaper ?xsp_BadPaper ?xtk_BadPaper ?xmo_BadPaper ?kt_BadPaper_BadPaper ?kt_BadPaper_BadLine ?g_TribunalError ?te1_TribunalError ?te2_TribunalError ?te3_TribunalError ?te4_TribunalError_BadPaper
    (case c_KIND => k_is)
    (case c_HEIGHT => k_is)
    (case c_TURN => k_is)
    (case c_BLOCK => k_is)
    (case c_LEAN => k_is)
    (case c_MOST_MEMBERS => k_is)
    (case c_MOST_WEIGHT => k_is)
    (case n_len => k_is)
    (case n_range => k_is)
    (case n_isinstance => k_is)
    (case n_int => k_is)
    (case n_bool => k_is)
    (case n_list => k_is)
    (case n_tuple => k_is)
    (case n_sum => k_is)
    (case n_enumerate => k_is)
    (case n_set => k_is)
    (case n_sorted => k_is)
    (case n_max => k_is)
    (case n_min => k_is)
    (case n_abs => k_is)
    (case g_Committee => k_is)
    (case g_Book => k_is)
    (case a_is_vote => k_is)
    (case l_is_vote => k_is)
    (case q_is_vote => k_is)
    (case k_is_vote => k_is)
    (case a_first_wrong => k_is)
    (case l_first_wrong => k_is)
    (case q_first_wrong => k_is)
    (case k_first_wrong => k_is)
    (case a_Committee_init => k_is)
    (case i_Committee_init => k_is)
    (case l_Committee_init => k_is)
    (case q_Committee_init => k_is)
    (case k_Committee_init => k_is)
    (case a_Committee_weight_of => k_is)
    (case i_Committee_weight_of => k_is)
    (case l_Committee_weight_of => k_is)
    (case q_Committee_weight_of => k_is)
    (case k_Committee_weight_of => k_is)
    (case a_Committee_is_quorum => k_is)
    (case i_Committee_is_quorum => k_is)
    (case l_Committee_is_quorum => k_is)
    (case q_Committee_is_quorum => k_is)
    (case k_Committee_is_quorum => k_is)
    (case a_votes_by_turn => k_is)
    (case l_votes_by_turn => k_is)
    (case q_votes_by_turn => k_is)
    (case k_votes_by_turn => k_is)
    (case a_counts => k_is)
    (case l_counts => k_is)
    (case q_counts => k_is)
    (case k_counts => k_is)
    (case a_certified_turns => k_is)
    (case l_certified_turns => k_is)
    (case q_certified_turns => k_is)
    (case k_certified_turns => k_is)
    (case a_committed_turns => k_is)
    (case l_committed_turns => k_is)
    (case q_committed_turns => k_is)
    (case k_committed_turns => k_is)
    (case a_missing => k_is)
    (case l_missing => k_is)
    (case q_missing => k_is)
    (case k_missing => k_is)
    (case a_Book_init => k_is)
    (case i_Book_init => k_is)
    (case l_Book_init => k_is)
    (case q_Book_init => k_is)
    (case k_Book_init => k_is)
    (case a_Book_belongs => k_is)
    (case i_Book_belongs => k_is)
    (case l_Book_belongs => k_is)
    (case q_Book_belongs => k_is)
    (case k_Book_belongs => k_is)
    (case a_Book_enter => k_is)
    (case i_Book_enter => k_is)
    (case l_Book_enter => k_is)
    (case q_Book_enter => k_is)
    (case k_Book_enter => k_is)
    (case a_Book_add => k_is)
    (case i_Book_add => k_is)
    (case l_Book_add => k_is)
    (case q_Book_add => k_is)
    (case k_Book_add => k_is)
    (case a_Book_letters => k_is)
    (case i_Book_letters => k_is)
    (case l_Book_letters => k_is)
    (case q_Book_letters => k_is)
    (case k_Book_letters => k_is)
    (case a_until_quorum => k_is)
    (case l_until_quorum => k_is)
    (case q_until_quorum => k_is)
    (case k_until_quorum => k_is)
    (case a_prevotes => k_is)
    (case l_prevotes => k_is)
    (case q_prevotes => k_is)
    (case k_prevotes => k_is)
    (case a_commit_paper => k_is)
    (case l_commit_paper => k_is)
    (case q_commit_paper => k_is)
    (case k_commit_paper => k_is)
    (case a_shown_turn => k_is)
    (case l_shown_turn => k_is)
    (case q_shown_turn => k_is)
    (case k_shown_turn => k_is)
    (case a_shows => k_is)
    (case l_shows => k_is)
    (case q_shows => k_is)
    (case k_shows => k_is)
    (case a_law_cell => k_is)
    (case l_law_cell => k_is)
    (case q_law_cell => k_is)
    (case k_law_cell => k_is)
    (case a_law_is_integer => k_is)
    (case l_law_is_integer => k_is)
    (case q_law_is_integer => k_is)
    (case k_law_is_integer => k_is)
    (case a_law_row => k_is)
    (case l_law_row => k_is)
    (case q_law_row => k_is)
    (case k_law_row => k_is)
    (case a_law_weights => k_is)
    (case l_law_weights => k_is)
    (case q_law_weights => k_is)
    (case k_law_weights => k_is)
    (case a_law_weight => k_is)
    (case l_law_weight => k_is)
    (case q_law_weight => k_is)
    (case k_law_weight => k_is)
    (case a_law_certified => k_is)
    (case l_law_certified => k_is)
    (case q_law_certified => k_is)
    (case k_law_certified => k_is)
    (case a_law_committed => k_is)
    (case l_law_committed => k_is)
    (case q_law_committed => k_is)
    (case k_law_committed => k_is)
    (case a_law_statement => k_is)
    (case l_law_statement => k_is)
    (case q_law_statement => k_is)
    (case k_law_statement => k_is)
    (case a_law_letters => k_is)
    (case l_law_letters => k_is)
    (case q_law_letters => k_is)
    (case k_law_letters => k_is)
    (case a_law_planted => k_is)
    (case l_law_planted => k_is)
    (case q_law_planted => k_is)
    (case k_law_planted => k_is)
    (case a_law_lift => k_is)
    (case l_law_lift => k_is)
    (case q_law_lift => k_is)
    (case k_law_lift => k_is)
    (case a_law_turns => k_is)
    (case l_law_turns => k_is)
    (case q_law_turns => k_is)
    (case k_law_turns => k_is)
    (case a_law_shown => k_is)
    (case l_law_shown => k_is)
    (case q_law_shown => k_is)
    (case k_law_shown => k_is)
    (case a_law_paper => k_is)
    (case l_law_paper => k_is)
    (case q_law_paper => k_is)
    (case k_law_paper => k_is)
    (case a_law => k_is)
    (case l_law => k_is)
    (case q_law => k_is)
    (case k_law => k_is)
    (case pg_Committee => k_is)
    (case hd_Committee => k_is)
    (case po_Committee => k_is)
    (case sa_Committee => k_is)
    (case mk_Committee => k_is)
    (case kc_Committee => k_is)
    (case no_Committee_weights => k_is)
    (case no_Committee_size => k_is)
    (case no_Committee_total => k_is)
    (case pg_Book => k_is)
    (case hd_Book => k_is)
    (case po_Book => k_is)
    (case sa_Book => k_is)
    (case mk_Book => k_is)
    (case kc_Book => k_is)
    (case no_Book_committee => k_is)
    (case no_Book_height => k_is)
    (case no_Book_certificates => k_is)
    (case no_Book_commits => k_is)
    (case no_Book__kept => k_is)
    (case no_Book__by_block => k_is)
    (case g_BadLine => k_is)
    (case g_BadPaper => k_is)
    (case x_BadPaper => k_exc)
    (case kc_BadPaper => k_is)
    (case b_BadPaper => k_is)
    (case t_BadPaper => k_is)
    (case xga_BadPaper => k_is)
    (case xgt_BadPaper => k_is)
    (case xhd_BadPaper => k_is)
    (case xcc_BadPaper => k_is)
    (case xsp_BadPaper => k_is)
    (case xtk_BadPaper => k_is)
    (case xmo_BadPaper => k_is)
    (case kt_BadPaper_BadPaper => kit_is)
    (case kt_BadPaper_BadLine => kit_is)
    (case g_TribunalError => k_is)
    (case te1_TribunalError => k_is)
    (case te2_TribunalError => k_is)
    (case te3_TribunalError => k_is)
    (case te4_TribunalError_BadPaper => k_is)
