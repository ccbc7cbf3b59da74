import PyProof.Rows.All
import Wide.All
import OpenK.AllK
import Wide.FinOn
import HandS.ForMost
import HandS.IsInst
import HandS.TupLe
import HandS.Codes
import HandS.More
import HandS.Exc
import HandS.ExcInit
import HandS.ExcSuper
import HandS.FStr
import HandS.ExcCtx
import HandS.HotCalls
import HandS.ExcInitHot
import HandS.ExcIs
import HandS.ExcField
import HandS.ExcOwn
import HandS.WordsExc
import HandS.RaiseMore
import HandS.RaiseFrom
import HandS.SuiteRaise
import HandS.Deep
import HandS.StrMore
import HandS.SortKw
import HandS.Walk
import KE.KMinBuiltin
import KE.KExcIs
import KE.GoesMore
import KE.GoesEnum
import KE.KTupSum
import KE.KExcSuper
import PySem.Challenge.RW_tribunal_k37_whole_journals_cut_anywhere
set_option Elab.async false
set_option linter.all false
set_option maxRecDepth 100000
set_option maxHeartbeats 4000000
namespace Toy
open PySem L2
def top (i : Nat) : Stmt := PySem.Challenge.pw_tribunal_k37_whole_journals_cut_anywhere.main.body.getD i (.Pass ⟨0, 0, 0, 0⟩)
abbrev s_proposal : Stmt := (top 12)
abbrev s_prevote : Stmt := (top 13)
abbrev s_precommit : Stmt := (top 14)
abbrev s_is_number : Stmt := (top 27)
abbrev s_is_block : Stmt := (top 28)
abbrev s_word_at : Stmt := (top 30)
abbrev s_number_at : Stmt := (top 31)
abbrev s_kind_at : Stmt := (top 32)
abbrev s_block_at : Stmt := (top 33)
abbrev s_lean_at : Stmt := (top 34)
abbrev s_end_at : Stmt := (top 35)
abbrev s_read_letter : Stmt := (top 26)
abbrev s_word : Stmt := (top 29)
abbrev s_letter_line : Stmt := (top 25)
abbrev s_is_vote : Stmt := (top 15)
abbrev s_clash : Stmt := (top 16)
abbrev s_abandons : Stmt := (top 17)
abbrev s_Journal_init : Stmt := (inClass (top 37) 0)
abbrev s_Journal_sign : Stmt := (inClass (top 37) 1)
abbrev s_Journal_lines : Stmt := (inClass (top 37) 3)
abbrev s_restore : Stmt := (top 38)
abbrev s_law_cell : Stmt := (top 40)
abbrev s_law_clash : Stmt := (top 43)
abbrev s_law_statement : Stmt := (top 44)
abbrev s_law_signed : Stmt := (top 47)
abbrev s_law : Stmt := (top 48)
abbrev s_BadLine_init : Stmt := (inClass (top 3) 0)
abbrev s_BadJournal_init : Stmt := (inClass (top 4) 0)
abbrev s_Refused_init : Stmt := (inClass (top 5) 0)
abbrev sc_proposal_N : List Str := ["height", "turn", "block"]
theorem sc_proposal : FnScope sc_proposal_N ["height", "turn", "block"] (defScope s_proposal) := ⟨rfl, rfl, rfl, by decide +kernel, rfl, by decide +kernel, by decide +kernel⟩
abbrev sc_prevote_N : List Str := ["height", "turn", "block", "lean"]
theorem sc_prevote : FnScope sc_prevote_N ["height", "turn", "block", "lean"] (defScope s_prevote) := ⟨rfl, rfl, rfl, by decide +kernel, rfl, by decide +kernel, by decide +kernel⟩
abbrev sc_precommit_N : List Str := ["height", "turn", "block"]
theorem sc_precommit : FnScope sc_precommit_N ["height", "turn", "block"] (defScope s_precommit) := ⟨rfl, rfl, rfl, by decide +kernel, rfl, by decide +kernel, by decide +kernel⟩
abbrev sc_is_number_N : List Str := ["word"]
theorem sc_is_number : FnScope sc_is_number_N ["word"] (defScope s_is_number) := ⟨rfl, rfl, rfl, by decide +kernel, rfl, by decide +kernel, by decide +kernel⟩
abbrev sc_is_block_N : List Str := ["word", "sign"]
theorem sc_is_block : FnScope sc_is_block_N ["word"] (defScope s_is_block) := ⟨rfl, rfl, rfl, by decide +kernel, rfl, by decide +kernel, by decide +kernel⟩
abbrev sc_word_at_N : List Str := ["words", "at"]
theorem sc_word_at : FnScope sc_word_at_N ["words", "at"] (defScope s_word_at) := ⟨rfl, rfl, rfl, by decide +kernel, rfl, by decide +kernel, by decide +kernel⟩
abbrev sc_number_at_N : List Str := ["words", "at", "word"]
theorem sc_number_at : FnScope sc_number_at_N ["words", "at"] (defScope s_number_at) := ⟨rfl, rfl, rfl, by decide +kernel, rfl, by decide +kernel, by decide +kernel⟩
abbrev sc_kind_at_N : List Str := ["words", "at", "word"]
theorem sc_kind_at : FnScope sc_kind_at_N ["words", "at"] (defScope s_kind_at) := ⟨rfl, rfl, rfl, by decide +kernel, rfl, by decide +kernel, by decide +kernel⟩
abbrev sc_block_at_N : List Str := ["words", "at", "kind", "word"]
theorem sc_block_at : FnScope sc_block_at_N ["words", "at", "kind"] (defScope s_block_at) := ⟨rfl, rfl, rfl, by decide +kernel, rfl, by decide +kernel, by decide +kernel⟩
abbrev sc_lean_at_N : List Str := ["words", "at", "turn", "word", "lean"]
theorem sc_lean_at : FnScope sc_lean_at_N ["words", "at", "turn"] (defScope s_lean_at) := ⟨rfl, rfl, rfl, by decide +kernel, rfl, by decide +kernel, by decide +kernel⟩
abbrev sc_end_at_N : List Str := ["words", "at"]
theorem sc_end_at : FnScope sc_end_at_N ["words", "at"] (defScope s_end_at) := ⟨rfl, rfl, rfl, by decide +kernel, rfl, by decide +kernel, by decide +kernel⟩
abbrev sc_read_letter_N : List Str := ["line", "words", "sender", "kind", "height", "turn", "block", "lean"]
theorem sc_read_letter : FnScope sc_read_letter_N ["line"] (defScope s_read_letter) := ⟨rfl, rfl, rfl, by decide +kernel, rfl, by decide +kernel, by decide +kernel⟩
abbrev sc_word_N : List Str := ["part"]
theorem sc_word : FnScope sc_word_N ["part"] (defScope s_word) := ⟨rfl, rfl, rfl, by decide +kernel, rfl, by decide +kernel, by decide +kernel⟩
abbrev sc_letter_line_N : List Str := ["letter", "sender", "statement", "part"]
theorem sc_letter_line : FnScope sc_letter_line_N ["letter"] (defScope s_letter_line) := ⟨rfl, rfl, rfl, by decide +kernel, rfl, by decide +kernel, by decide +kernel⟩
abbrev sc_is_vote_N : List Str := ["statement"]
theorem sc_is_vote : FnScope sc_is_vote_N ["statement"] (defScope s_is_vote) := ⟨rfl, rfl, rfl, by decide +kernel, rfl, by decide +kernel, by decide +kernel⟩
abbrev sc_clash_N : List Str := ["one", "other"]
theorem sc_clash : FnScope sc_clash_N ["one", "other"] (defScope s_clash) := ⟨rfl, rfl, rfl, by decide +kernel, rfl, by decide +kernel, by decide +kernel⟩
abbrev sc_abandons_N : List Str := ["one", "other"]
theorem sc_abandons : FnScope sc_abandons_N ["one", "other"] (defScope s_abandons) := ⟨rfl, rfl, rfl, by decide +kernel, rfl, by decide +kernel, by decide +kernel⟩
abbrev sc_Journal_init_N : List Str := ["self", "who"]
theorem sc_Journal_init : FnScope sc_Journal_init_N ["self", "who"] (defScope s_Journal_init) := ⟨rfl, rfl, rfl, by decide +kernel, rfl, by decide +kernel, by decide +kernel⟩
abbrev sc_Journal_sign_N : List Str := ["self", "statement", "earlier"]
theorem sc_Journal_sign : FnScope sc_Journal_sign_N ["self", "statement"] (defScope s_Journal_sign) := ⟨rfl, rfl, rfl, by decide +kernel, rfl, by decide +kernel, by decide +kernel⟩
abbrev sc_Journal_lines_N : List Str := ["self", "statement"]
theorem sc_Journal_lines : FnScope sc_Journal_lines_N ["self"] (defScope s_Journal_lines) := ⟨rfl, rfl, rfl, by decide +kernel, rfl, by decide +kernel, by decide +kernel⟩
abbrev sc_restore_N : List Str := ["who", "lines", "journal", "at", "line", "sender", "statement"]
theorem sc_restore : FnScope sc_restore_N ["who", "lines"] (defScope s_restore) := ⟨rfl, rfl, rfl, by decide +kernel, rfl, by decide +kernel, by decide +kernel⟩
abbrev sc_law_cell_N : List Str := ["script", "k"]
theorem sc_law_cell : FnScope sc_law_cell_N ["script", "k"] (defScope s_law_cell) := ⟨rfl, rfl, rfl, by decide +kernel, rfl, by decide +kernel, by decide +kernel⟩
abbrev sc_law_clash_N : List Str := ["one", "other", "first", "second"]
theorem sc_law_clash : FnScope sc_law_clash_N ["one", "other"] (defScope s_law_clash) := ⟨rfl, rfl, rfl, by decide +kernel, rfl, by decide +kernel, by decide +kernel⟩
abbrev sc_law_statement_N : List Str := ["digit", "height", "block", "turn", "lean"]
theorem sc_law_statement : FnScope sc_law_statement_N ["digit", "height"] (defScope s_law_statement) := ⟨rfl, rfl, rfl, by decide +kernel, rfl, by decide +kernel, by decide +kernel⟩
abbrev sc_law_signed_N : List Str := ["journal", "cells", "cell"]
theorem sc_law_signed : FnScope sc_law_signed_N ["journal", "cells"] (defScope s_law_signed) := ⟨rfl, rfl, rfl, by decide +kernel, rfl, by decide +kernel, by decide +kernel⟩
abbrev sc_law_N : List Str := ["script", "who", "half", "journal", "signed", "lines", "text", "cut", "left", "whole", "again", "e", "later", "statement", "earlier"]
theorem sc_law : FnScope sc_law_N ["script"] (defScope s_law) := ⟨rfl, rfl, rfl, by decide +kernel, rfl, by decide +kernel, by decide +kernel⟩
/-! ### what stands where -/
structure DefAt (K : PySem.W.Frag) (mg : Str → Option Value) (x : Str) (st : Stmt) (ps : List Str) (f : Addr) : Prop where
  F : ∃ fd, Fun K x x st f fd ∧ Binds K fd ps []
  g : mg x = some (.ref f)
  kp : PySem.W.keepIn K (.ref f) = true
structure MethAt (K : PySem.W.Frag) (C : Addr) (x qual : Str) (st : Stmt) (ps : List Str) (f : Addr) : Prop where
  F : ∃ fd, Fun K x qual st f fd ∧ Binds K fd ps []
  fi : PySem.W.findIn K (.ref C) x = some (some (.ref f))
  isf : PySem.W.isFn K (.ref f) = true
  kp : PySem.W.keepIn K (.ref f) = true
theorem def_mk {K : PySem.W.Frag} {x qual : Str} {st : Stmt} {f : Addr} {ps : List Str} {oc : Value} {od an : Option Addr} {osl : Array (Option Value)} {kV doc pm cdv ct : Value}
    (l : K.lookup f = some ⟨oc, od, .func (PySem.W.fnOf x qual (defArgs st) (defBody st) (defScope st) .none kV doc pm an cdv ct), osl⟩)
    (c : PySem.W.codeIn K cdv qual = true) (k : PySem.W.keepIn K (.ref f) = true)
    (h : ∀ (kV doc pm : Value) (an : Option Addr) (cdv ct : Value) (us : List Value), us.length = ps.length → bindArgs (PySem.W.fnOf x qual (defArgs st) (defBody st) (defScope st) .none kV doc pm an cdv ct) ⟨us, []⟩ = pure (ps.zip us)) :
    ∃ fd, Fun K x qual st f fd ∧ Binds K fd ps [] := by
  have F := fun_mk (st := st) l c k
  exact ⟨_, F, F.binds h⟩
theorem mg_no {K : PySem.W.Frag} {h : Heap} {mg : Str → Option Value} {n : Str} (X : K.In h) (G : h.Ns mainGlobals mg) (e : PySem.W.nsIn K mainGlobals n = some none) : mg n = none := PySem.W.mg_none_of X G e
theorem same_new {H : Hp} {p : Addr} {o : HO} (n : H p = Option.none) : Same H (upd H p o) := fun b u e => by
  rw [upd_ne (ne_of_none e n)]
  exact e
theorem same_upd {H H2 : Hp} {p : Addr} {o : HO} (s : Same H H2) (n : H p = Option.none) : Same H (upd H2 p o) := fun b u e => by
  rw [upd_ne (ne_of_none e n)]
  exact s b u e
structure Ads where
  C_Journal : Addr
  d_proposal : Addr
  d_prevote : Addr
  d_precommit : Addr
  d_is_number : Addr
  d_is_block : Addr
  d_word_at : Addr
  d_number_at : Addr
  d_kind_at : Addr
  d_block_at : Addr
  d_lean_at : Addr
  d_end_at : Addr
  d_read_letter : Addr
  d_word : Addr
  d_letter_line : Addr
  d_is_vote : Addr
  d_clash : Addr
  d_abandons : Addr
  d_Journal_init : Addr
  d_Journal_sign : Addr
  d_Journal_lines : Addr
  d_restore : Addr
  d_law_cell : Addr
  d_law_clash : Addr
  d_law_statement : Addr
  d_law_signed : Addr
  C_TribunalError : Addr
  C_BadLine : Addr
  d_BadLine_init : Addr
  C_BadJournal : Addr
  d_BadJournal_init : Addr
  C_Refused : Addr
  d_Refused_init : Addr
  P_KINDS : Addr
structure Txt (K : PySem.W.Frag) (mg : Str → Option Value) (a : Ads) : Prop where
  n_len : mg "len" = none
  n_range : mg "range" = none
  n_isinstance : mg "isinstance" = none
  n_int : mg "int" = none
  n_bool : mg "bool" = none
  n_list : mg "list" = none
  n_tuple : mg "tuple" = none
  n_str : mg "str" = none
  n_super : mg "super" = none
  n_ValueError : mg "ValueError" = none
  n_all : mg "all" = none
  n_abs : mg "abs" = none
  n_max : mg "max" = none
  n_enumerate : mg "enumerate" = none
  c_KIND : ∃ t, mg "KIND" = some (.int 0 t)
  c_HEIGHT : ∃ t, mg "HEIGHT" = some (.int 1 t)
  c_TURN : ∃ t, mg "TURN" = some (.int 2 t)
  c_BLOCK : ∃ t, mg "BLOCK" = some (.int 3 t)
  c_LEAN : ∃ t, mg "LEAN" = some (.int 4 t)
  c_NONE : ∃ t, mg "NONE" = some (.str "-" t)
  c_LETTERS : ∃ t, mg "LETTERS" = some (.str "abcdefghijklmnopqrstuvwxyz" t)
  c_BLOCK_SIGNS : ∃ t, mg "BLOCK_SIGNS" = some (.str "abcdefghijklmnopqrstuvwxyz0123456789" t)
  c_MOST_DIGITS : ∃ t, mg "MOST_DIGITS" = some (.int 9 t)
  c_MOST_SIGNS : ∃ t, mg "MOST_SIGNS" = some (.int 60 t)
  g_Journal : mg "Journal" = some (.ref a.C_Journal)
  cl_Journal : Cls K a.C_Journal
  kc_Journal : PySem.W.keepIn K (.ref a.C_Journal) = true
  mk_Journal : PySem.W.makesIn K a.C_Journal = true
  a_Journal_who : NoAttr K a.C_Journal "who"
  a_Journal_signed : NoAttr K a.C_Journal "signed"
  d_proposal : DefAt K mg "proposal" s_proposal ["height", "turn", "block"] a.d_proposal
  d_prevote : DefAt K mg "prevote" s_prevote ["height", "turn", "block", "lean"] a.d_prevote
  d_precommit : DefAt K mg "precommit" s_precommit ["height", "turn", "block"] a.d_precommit
  d_is_number : DefAt K mg "is_number" s_is_number ["word"] a.d_is_number
  d_is_block : DefAt K mg "is_block" s_is_block ["word"] a.d_is_block
  d_word_at : DefAt K mg "_word_at" s_word_at ["words", "at"] a.d_word_at
  d_number_at : DefAt K mg "_number_at" s_number_at ["words", "at"] a.d_number_at
  d_kind_at : DefAt K mg "_kind_at" s_kind_at ["words", "at"] a.d_kind_at
  d_block_at : DefAt K mg "_block_at" s_block_at ["words", "at", "kind"] a.d_block_at
  d_lean_at : DefAt K mg "_lean_at" s_lean_at ["words", "at", "turn"] a.d_lean_at
  d_end_at : DefAt K mg "_end_at" s_end_at ["words", "at"] a.d_end_at
  d_read_letter : DefAt K mg "read_letter" s_read_letter ["line"] a.d_read_letter
  d_word : DefAt K mg "_word" s_word ["part"] a.d_word
  d_letter_line : DefAt K mg "letter_line" s_letter_line ["letter"] a.d_letter_line
  d_is_vote : DefAt K mg "is_vote" s_is_vote ["statement"] a.d_is_vote
  d_clash : DefAt K mg "clash" s_clash ["one", "other"] a.d_clash
  d_abandons : DefAt K mg "_abandons" s_abandons ["one", "other"] a.d_abandons
  d_Journal_init : MethAt K a.C_Journal "__init__" "Journal.__init__" s_Journal_init ["self", "who"] a.d_Journal_init
  d_Journal_sign : MethAt K a.C_Journal "sign" "Journal.sign" s_Journal_sign ["self", "statement"] a.d_Journal_sign
  d_Journal_lines : MethAt K a.C_Journal "lines" "Journal.lines" s_Journal_lines ["self"] a.d_Journal_lines
  d_restore : DefAt K mg "restore" s_restore ["who", "lines"] a.d_restore
  d_law_cell : DefAt K mg "_law_cell" s_law_cell ["script", "k"] a.d_law_cell
  d_law_clash : DefAt K mg "_law_clash" s_law_clash ["one", "other"] a.d_law_clash
  d_law_statement : DefAt K mg "_law_statement" s_law_statement ["digit", "height"] a.d_law_statement
  d_law_signed : DefAt K mg "_law_signed" s_law_signed ["journal", "cells"] a.d_law_signed
theorem Txt.m_Journal {K : PySem.W.Frag} {mg : Str → Option Value} {a : Ads} (T : Txt K mg a) : Mk K a.C_Journal a.d_Journal_init := ⟨T.mk_Journal, T.d_Journal_init.fi, T.d_Journal_init.isf, T.kc_Journal⟩
theorem Txt.me_Journal_sign {K : PySem.W.Frag} {mg : Str → Option Value} {a : Ads} (T : Txt K mg a) : Meth K a.C_Journal "sign" a.d_Journal_sign := ⟨T.d_Journal_sign.fi, T.d_Journal_sign.isf, T.d_Journal_sign.kp⟩
theorem Txt.me_Journal_lines {K : PySem.W.Frag} {mg : Str → Option Value} {a : Ads} (T : Txt K mg a) : Meth K a.C_Journal "lines" a.d_Journal_lines := ⟨T.d_Journal_lines.fi, T.d_Journal_lines.isf, T.d_Journal_lines.kp⟩
section
open PyProof.Rows
/-! ### own rules: set(list of ints), k in that set; enumerate(a tuple) -/
theorem any_firstMet (zs : List Int) (k : Int) : (PyProof.Rows.firstMet (fun i => zs.getD i 0) zs.length).any (· == k) = decide (k ∈ zs) := by
  rw [PyProof.Rows.firstMet_any, Bool.eq_iff_iff, List.any_eq_true, decide_eq_true_iff]
  constructor
  · rintro ⟨y, hy, e⟩
    obtain ⟨i, hi, rfl⟩ := List.mem_map.mp hy
    have hi' : i < zs.length := List.mem_range.mp hi
    have e' : zs.getD i 0 = k := by simpa using e
    rw [← e', List.getD_eq_getElem?_getD, List.getElem?_eq_getElem hi']
    exact List.getElem_mem hi'
  · intro hk
    obtain ⟨i, hi, e⟩ := List.getElem_of_mem hk
    refine ⟨k, List.mem_map.mpr ⟨i, List.mem_range.mpr hi, ?_⟩, by simp⟩
    show zs.getD i 0 = k
    rw [List.getD_eq_getElem?_getD, List.getElem?_eq_getElem hi]
    exact e
/-- set(xs), xs a list of ints -/
def rSetOfL (K : PySem.W.Frag) : List V → Hp → VK → Prop := fun vs H Q => ∃ (l : Addr) (zs : List Int), vs = [V.ref l] ∧ SqL K H l (zs.map V.int) ∧ zs.length ≤ 1000 ∧
  ∀ (p : Addr) (n : Nat), H p = Option.none → Q (.ref p) (upd H p (.set (fun k => decide (k ∈ zs)) n))
theorem cr_set {X : Cx} (calm : X.calm = true) : CallR X (.type "set") (rSetOfL X.K) := by
  intro pins sh σ H vs us Q I rel hyp
  obtain ⟨l, zs, rfl, hl, few, q⟩ := hyp
  rw [Vals.ref1 rel]
  obtain ⟨its, rv, pl, _⟩ := I.list hl
  have isI := ints_of_vals rv
  have same : its.toArray.size = zs.length := by
    have e := rv.length
    rw [List.length_map] at e
    rw [List.size_toArray]
    exact e.symm
  refine PySem.call_set_list (items := its.toArray) (ns := zs) (I.ok.hd calm) pl.isList (by simpa using isI) (by rw [same]; unfold scanBound; omega) fun h' tk S kp => ?_
  have fresh : H sh.heap.objs.size = Option.none := I.hok.fresh (Nat.le_refl _)
  have e : (fun k => (PyProof.Rows.firstMet (fun i => zs.getD i 0) its.toArray.size).any (· == k)) = fun k => decide (k ∈ zs) := by
    funext k
    rw [same]
    exact any_firstMet zs k
  rw [e] at S
  exact ⟨.ref sh.heap.objs.size, upd H sh.heap.objs.size (.set (fun k => decide (k ∈ zs)) _), I.laid (t' := tk) (fun b o ho => kp b o (Heap.lt_size ho) ho) (Nat.le_refl _) S, rfl, q _ _ fresh⟩
/-- k in such a set -/
def rInSt (neg : Bool) : R2 := fun x y H Q => ∃ (k : Int) (b : Addr) (S : Int → Bool) (n : Nat), x = V.int k ∧ y = V.ref b ∧ H b = some (.set S n) ∧ Q (.bl (if neg then !S k else S k)) H
theorem op_in_set {X : Cx} : OpR X (compareOp .In) (rInSt false) := by
  intro pins sh σ H x y v u Q I r1 r2 hyp
  obtain ⟨k, b, S, n, rfl, rfl, hb, q⟩ := hyp
  obtain ⟨tk, rfl⟩ := r1
  cases r2
  have hS : sh.heap.SetOf (intKind X.prog X.w) b S n := I.hok b _ hb
  exact PySem.wpAny_inSet_of (PySem.intKind_is _ _ _ _) rfl hS ⟨.bl (S k), H, I.tok _, rfl, q⟩
/-- the pairs of enumerate over the tuple at a -/
def Itu (K : PySem.W.Frag) (a : Addr) : It where
  go i H := ∃ (ys : List V) (y : V), SqT K H a ys ∧ ys[i]? = some y
  yld i H v H' := ∃ (p : Addr) (y : V), v = .ref p ∧ H p = Option.none ∧ H' = upd H p (.tup [.int (i : Nat), y]) ∧ ∀ ys, SqT K H a ys → ys[i]? = some y
  stop i H := ∃ ys : List V, SqT K H a ys ∧ ys.length = i
theorem turn_enumT {P : Program} {w : World} {K : PySem.W.Frag} {elts : List Expr} {kk : Nat} {tpos : Pos} (a en it : Addr) (na : a ≠ it) (ne : en ≠ it) (nea : en ≠ a) :
    Turn P w K (.Tuple elts kk tpos) (Itu K a) [en, it] en (fun i h => (∃ old, IsEnum h en it ((i : Nat) : Int) old) ∧ h.IsTupleIter it a i) where
  mem := List.mem_cons_self
  obj := by
    rintro i h ⟨⟨old, he⟩, ⟨o, ho, hc, hd⟩⟩ b hb
    rcases List.mem_cons.mp hb with rfl | hb
    · exact ⟨_, he, fun v z => nomatch z⟩
    · rw [List.mem_singleton.mp hb]
      exact ⟨o, ho, fun v z => by rw [hd] at z; cases z⟩
  keep := by
    rintro i h h' ⟨⟨old, he⟩, hi⟩ kp
    exact ⟨⟨old, kp en List.mem_cons_self _ he⟩, hi.at fun o z => kp it (List.mem_cons_of_mem _ List.mem_cons_self) o z⟩
  item := by
    intro X hP hw hK calm i pins sh σ H E I fp st hg
    subst hP hw hK
    obtain ⟨⟨old, he⟩, hit⟩ := st
    obtain ⟨ys, y, hy, hix⟩ := hg
    obtain ⟨its, rv, tp, _⟩ := I.tuple hy
    obtain ⟨u, hu, ru⟩ := rv.get hix
    have hT : sh.heap.IsTuple a its.toArray := tp
    have hlen : i < its.toArray.size := by
      rw [List.size_toArray]
      exact (List.getElem?_eq_some_iff.mp hu).1
    have len : en < sh.heap.objs.size := Heap.lt_size he
    have lit : it < sh.heap.objs.size := by
      obtain ⟨_, z, _⟩ := hit
      exact Heap.lt_size z
    refine wpAny_pyNext_enum_itemD (Draws.tuple (by simp [I.ok.hd calm]) it a na its.toArray) he ⟨hit, hT⟩ hlen ne (by simp [ne, nea]) fun x h' tk hx ho hst hnew hsz kp => ?_
    have ex : x = u := by
      rw [List.getElem?_toArray, hu] at hx
      exact (Option.some.inj hx).symm
    subst ex
    refine ⟨_, rfl, wpAny_letOwnedTupleGo_enum (s := { sh with heap := h', toks := tk + 1 }) ho fun h2 he2 sb => ?_⟩
    have new2 : h2.get? sh.heap.objs.size = some { cls := .type "tuple", data := .seq #[.int i tk, x] } := (sb.2 _ (Nat.ne_of_gt len)).trans hnew
    have okN : ObjOk X.prog X.w (upd H sh.heap.objs.size (.tup [.int (i : Nat), y])) h2 sh.heap.objs.size (.tup [.int (i : Nat), y]) := by
      refine ⟨(by show 2 ≤ sizeLine; decide), [.int i tk, x], .cons ⟨_, rfl⟩ (.cons ru .nil), ?_⟩
      exact ⟨_, new2, rfl, _, rfl⟩
    have I2 : Inv X pins σ (upd H sh.heap.objs.size (.tup [.int (i : Nat), y])) { sh with heap := h2, toks := tk + 1 } := by
      refine I.turnedNew (ch := [en, it]) (fun b ob hb z => ?_) fp (Nat.le_refl _) okN
      have b1 : b ≠ en := fun q => hb (by rw [q]; exact List.mem_cons_self)
      have b2 : b ≠ it := fun q => hb (by rw [q]; exact List.mem_cons_of_mem _ List.mem_cons_self)
      exact (sb.2 b b1).trans (kp b ob b1 b2 z)
    refine ⟨.ref sh.heap.objs.size, _, I2, rfl, ⟨_, y, rfl, I.hok.fresh (Nat.le_refl _), rfl, fun zs hz => ?_⟩, ⟨⟨x, ?_⟩, hst.1.at fun o z => (sb.2 it (Ne.symm ne)).trans z⟩, fun b hb => ?_⟩
    · rw [I.tuple_inj hz hy]
      exact hix
    · have e1 : ((i + 1 : Nat) : Int) = (i : Int) + 1 := by omega
      rw [e1]
      exact he2
    · have lb : b < sh.heap.objs.size := by
        rcases List.mem_cons.mp hb with rfl | hb
        · exact len
        · rw [List.mem_singleton.mp hb]
          exact lit
      rw [upd_ne (Nat.ne_of_lt lb)]
      exact (fp b hb).1
  done := by
    intro X hP hw hK calm i pins sh σ H E I fp st hg
    subst hP hw hK
    obtain ⟨⟨old, he⟩, hit⟩ := st
    obtain ⟨ys, hy, rfl⟩ := hg
    obtain ⟨its, rv, tp, _⟩ := I.tuple hy
    have hT : sh.heap.IsTuple a its.toArray := tp
    have e : ys.length = its.toArray.size := by
      rw [List.size_toArray]
      exact rv.length
    rw [e] at hit
    obtain ⟨g0, g1, g2, g3, g4, g5⟩ := fp it (List.mem_cons_of_mem _ List.mem_cons_self)
    exact wpAny_pyNext_enum_endD (Draws.tuple (by simp [I.ok.hd calm]) it a na its.toArray) he ⟨hit, hT⟩ fun h' eb => ⟨rfl, I.turned (t' := sh.toks) (fun b o hb z => eb b o hb z) g0 g1 g3 g4 g5⟩
  self := by
    rintro A i s Q E ⟨⟨_, he⟩, _⟩ h
    exact wpAny_pyIter_enum he h
theorem meets_enum1 {v : Value} {o : Obj} {Z : Heap → Prop} (B : Begins v o Z) :
    Meets (Builtin.«enumerate.__new__» ⟨[.type "enumerate", v], []⟩) (fun _ R s => Z s.heap ∧
      R (.ok (.ret (.ref (s.heap.push o).objs.size))) { s with heap := (s.heap.push o).push { cls := .type "enumerate", data := .fields #[.none, .bool false, .ref s.heap.objs.size, rawInt 0, .none, .none] } }) :=
  .of_wp fun prog w A R s hyp => by
    obtain ⟨hp, g, d, tk, os⟩ := s
    obtain ⟨hz, hyp⟩ := hyp
    have sube := sub_enumerate
    have step : ∀ {A' : Around} {E' : Value → Shared → Prop} {Q' : Value → Shared → Prop}, Q' (.ref hp.objs.size) ⟨hp.push o, g, d, tk, os⟩ → wpAny (model prog w) A' (pyIter v) Q' E' ⟨hp, g, d, tk, os⟩ :=
      fun z => B.iter prog w _ _ ⟨hp, g, d, tk, os⟩ _ hz z
    wp_walk using step
    refine wpAny_stack_any fun st => wpAny_pure ?_
    split
    · rename_i c _ _ _ _ _
      cases (c == Value.type "enumerate") <;> (wp_walk using step; exact ⟨_, rfl, hyp⟩)
    · wp_walk using step
      exact ⟨_, rfl, hyp⟩
theorem call_enum1 {prog : Program} {w : World} {A : Around} {E : Value → Shared → Prop} {s : Shared} {v : Value} {o : Obj} {Z : Heap → Prop} {Q : Value → Shared → Prop} (B : Begins v o Z) (hz : Z s.heap)
    (fin : ∀ h', IsEnum h' (s.heap.objs.size + 1) s.heap.objs.size 0 .none → h'.get? s.heap.objs.size = some o → (∀ b u, s.heap.get? b = some u → h'.get? b = some u) → Q (.ref (s.heap.objs.size + 1)) { s with heap := h' }) :
    wpAny (model prog w) A (call (.type "enumerate") [v]) Q E s := by
  have size1 : (s.heap.push o).objs.size = s.heap.objs.size + 1 := Heap.size_push ..
  refine callType_new F.called_enumerate (by decide) (F.typeCall_enumerate_1 _) (F.newCall_enumerate_1 _) (fun obj => F.args_object_init_2 obj _) F.entry_enumerate_new (meets_enum1 B) ⟨hz, ?_⟩
  rw [size1]
  have isE : IsEnum ((s.heap.push o).push { cls := .type "enumerate", data := .fields #[.none, .bool false, .ref s.heap.objs.size, rawInt 0, .none, .none] }) (s.heap.objs.size + 1) s.heap.objs.size 0 .none := by
    have z := Heap.get?_push_size (s.heap.push o) (o := { cls := .type "enumerate", data := .fields #[.none, .bool false, .ref s.heap.objs.size, rawInt 0, .none, .none] }) rfl
    rwa [size1] at z
  exact ⟨⟨_, isE, rfl⟩, fin _ isE (Heap.get?_push_of_some _ (Heap.get?_push_size _ B.free)) fun b u z => Heap.get?_push_of_some _ (Heap.get?_push_of_some _ z)⟩
def iEnumT (K : PySem.W.Frag) (ta : TA) : TI := fun σ H R => ta σ H fun vs H1 => ∃ (a : Addr) (ys : List V), vs = [.ref a] ∧ SqT K H1 a ys ∧ R (Itu K a) H1
theorem pi_enumT {X : Cx} {e : Expr} {ta : TA} {p pos tpos : Pos} {elts : List Expr} {kk : Nat} (gl : Gl X "enumerate") (no : X.mg "enumerate" = none) (pa : PA X [e] ta) (plain : starEach [e] X.env = [(false, eval e X.env)] := by rfl) :
    PI X (.Tuple elts kk tpos) (.Call (.Name "enumerate" p) [e] [] pos) (iEnumT X.K ta) := by
  constructor
  intro pins s σ H R I hyp
  refine PyProof.Rows.Call_ (ld_blt I gl no boot_enumerate (PyProof.Rows.callWith_type1 (thn (pa.run pos pins s σ H _ I hyp) fun us s1 got => ?_) plain rfl))
  obtain ⟨vs, H1, I1, rel, a, ys, rfl, hy, q⟩ := got
  rw [Vals.ref1 rel]
  obtain ⟨its, rv, tp, _⟩ := I1.tuple hy
  have hT : s1.heap.IsTuple a its.toArray := tp
  have la : a < s1.heap.objs.size := by
    obtain ⟨_, z, _⟩ := hT
    exact Heap.lt_size z
  refine call_enum1 (begins_tuple a its.toArray) hT fun h' isE hit kp => wpAny_pyIter_enum isE ?_
  have I2 : Inv X pins σ H1 { s1 with heap := h' } := I1.kept (t' := s1.toks) kp
  refine ⟨s1.heap.objs.size + 1, [s1.heap.objs.size + 1, s1.heap.objs.size], _, _, H1, rfl, I2, turn_enumT a (s1.heap.objs.size + 1) s1.heap.objs.size (Nat.ne_of_lt la) (Nat.succ_ne_self _) (Nat.ne_of_gt (Nat.lt_succ_of_lt la)), ⟨⟨.none, isE⟩, _, hit, rfl, rfl⟩, fun b hb => ?_, q⟩
  have le : s1.heap.objs.size ≤ b := by
    rcases List.mem_cons.mp hb with rfl | hb
    · exact Nat.le_succ _
    · rw [List.mem_singleton.mp hb]
      exact Nat.le_refl _
  exact I1.fpOk le (I1.hok.fresh le)
/-- the forms that one uses: a word by the turn -/
theorem for_enumT {K : PySem.W.Frag} {a : Addr} {ys : List V} {g : TG} {tb : TS} {D : Ends} {σ : L2.St} {H : Hp} (Pv : Nat → L2.St → Hp → Prop) (h0 : Pv 0 σ H) (src : ∀ i σ H, i ≤ ys.length → Pv i σ H → SqT K H a ys)
    (turn : ∀ i y σ H p, ys[i]? = some y → Pv i σ H → H p = Option.none → g (.ref p) σ (upd H p (.tup [.int (i : Nat), y])) fun σ2 H2 => tb { D with nx := Pv (i + 1), ct := Pv (i + 1), bk := D.nx } σ2 H2) (fin : ∀ σ H, Pv ys.length σ H → D.nx σ H) :
    ∃ W : Nat → Nat → L2.St → Hp → Prop, (∃ m, W 0 m σ H) ∧ ∀ i m σ H, W i m σ H →
      ((Itu K a).stop i H ∧ D.nx σ H) ∨ ((Itu K a).go i H ∧ ∃ N : L2.St → Hp → Prop, (∀ σ' H', N σ' H' → ∃ m', m' < m ∧ W (i + 1) m' σ' H') ∧ ∀ x H', (Itu K a).yld i H x H' → g x σ H' fun σ2 H2 => tb { D with nx := N, ct := N, bk := D.nx } σ2 H2) := by
  refine ⟨fun i m σ H => m + i = ys.length ∧ Pv i σ H, ⟨ys.length, Nat.add_zero _, h0⟩, ?_⟩
  rintro i m σ H ⟨em, pv⟩
  have s := src i σ H (by omega) pv
  rcases Nat.lt_or_ge i ys.length with lt | ge
  · refine .inr ⟨⟨ys, ys[i], s, List.getElem?_eq_getElem lt⟩, Pv (i + 1), fun σ' H' z => ⟨m - 1, by omega, by omega, z⟩, ?_⟩
    rintro x H' ⟨p, y, rfl, hp, rfl, hy⟩
    exact turn i y σ H p (hy ys s) pv hp
  · have e : i = ys.length := by omega
    subst e
    exact .inl ⟨⟨ys, s, rfl⟩, fin σ H pv⟩
theorem lc_enumT {K : PySem.W.Frag} {a : Addr} {ys : List V} {g : TG} {tt : TT} {te : TE} {vs : List Nat} {σ : L2.St} {H1 : Hp} {D : Addr} {Qd : Hp → Prop} (Pv : Nat → Hp → Prop) (h0 : Pv 0 (upd H1 D (.lst []))) (src : ∀ i H, i ≤ ys.length → Pv i H → SqT K H a ys)
    (turn : ∀ i y H p, ys[i]? = some y → Pv i H → H p = Option.none → g (.ref p) (wipe σ vs) (upd H p (.tup [.int (i : Nat), y])) fun σ2 H2 => wipe σ2 vs = wipe σ vs ∧ tt σ2 H2 fun b H3 =>
      if b = true then te σ2 H3 fun y H4 => ∃ acc, H4 D = some (.lst acc) ∧ acc.length < sizeLine ∧ Pv (i + 1) (upd H4 D (.lst (acc ++ [y]))) else Pv (i + 1) H3) (fin : ∀ H, Pv ys.length H → Qd H) :
    ∃ W : Nat → Nat → Hp → Prop, (∃ m, W 0 m (upd H1 D (.lst []))) ∧ ∀ i m H, W i m H →
      ((Itu K a).stop i H ∧ Qd H) ∨ ((Itu K a).go i H ∧ ∃ Nx : Hp → Prop, (∀ H', Nx H' → ∃ m', m' < m ∧ W (i + 1) m' H') ∧ ∀ x H', (Itu K a).yld i H x H' → g x (wipe σ vs) H' fun σ2 H2 => wipe σ2 vs = wipe σ vs ∧ tt σ2 H2 fun b H3 =>
        if b = true then te σ2 H3 fun y H4 => ∃ acc, H4 D = some (.lst acc) ∧ acc.length < sizeLine ∧ Nx (upd H4 D (.lst (acc ++ [y]))) else Nx H3) := by
  refine ⟨fun i m H => m + i = ys.length ∧ Pv i H, ⟨ys.length, Nat.add_zero _, h0⟩, ?_⟩
  rintro i m H ⟨em, pv⟩
  have s := src i H (by omega) pv
  rcases Nat.lt_or_ge i ys.length with lt | ge
  · refine .inr ⟨⟨ys, ys[i], s, List.getElem?_eq_getElem lt⟩, Pv (i + 1), fun H' z => ⟨m - 1, by omega, by omega, z⟩, ?_⟩
    rintro x H' ⟨p, y, rfl, hp, rfl, hy⟩
    exact turn i y H p (hy ys s) pv hp
  · have e : i = ys.length := by omega
    subst e
    exact .inl ⟨⟨ys, s, rfl⟩, fin H pv⟩
/-- sum(t), t a tuple of ints -/
def rSumT (K : PySem.W.Frag) : List V → Hp → VK → Prop := fun vs H Q => ∃ (a : Addr) (zs : List Int), vs = [V.ref a] ∧ SqT K H a (zs.map V.int) ∧ Q (.int zs.sum) H
theorem cr_sumT {X : Cx} (calm : X.calm = true) : CallR X (.builtin "sum") (rSumT X.K) := by
  intro pins sh σ H vs us Q I rel hyp
  obtain ⟨a, zs, rfl, hz, q⟩ := hyp
  rw [Vals.ref1 rel]
  obtain ⟨its, rv, tp, _⟩ := I.tuple hz
  have hT : sh.heap.IsTuple a its.toArray := tp
  have isI : IntsAre its zs := Vals.ints rv
  obtain ⟨xs, ex⟩ := isI.allInts.items
  have en : numsOf (intItems xs).toList = zs := by
    rw [← ex]
    exact isI.numsOf
  rw [nums_intItems] at en
  rw [ex] at hT
  refine PySem.W.ktm_sumG (I.ok.hd calm) hT fun h' tk t' kp => ?_
  rw [preSum_eq, List.take_of_length_le (by simp), en]
  exact ⟨.int zs.sum, H, I.kept kp, ⟨_, rfl⟩, q⟩
/-- enumerate over a list, by a word -/
theorem for_enumL {K : PySem.W.Frag} {a : Addr} {ys : List V} {g : TG} {tb : TS} {D : Ends} {σ : L2.St} {H : Hp} (Pv : Nat → L2.St → Hp → Prop) (h0 : Pv 0 σ H) (src : ∀ i σ H, i ≤ ys.length → Pv i σ H → SqL K H a ys)
    (turn : ∀ i y σ H p, ys[i]? = some y → Pv i σ H → H p = Option.none → g (.ref p) σ (upd H p (.tup [.int (i : Nat), y])) fun σ2 H2 => tb { D with nx := Pv (i + 1), ct := Pv (i + 1), bk := D.nx } σ2 H2) (fin : ∀ σ H, Pv ys.length σ H → D.nx σ H) :
    ∃ W : Nat → Nat → L2.St → Hp → Prop, (∃ m, W 0 m σ H) ∧ ∀ i m σ H, W i m σ H →
      ((Ite K a).stop i H ∧ D.nx σ H) ∨ ((Ite K a).go i H ∧ ∃ N : L2.St → Hp → Prop, (∀ σ' H', N σ' H' → ∃ m', m' < m ∧ W (i + 1) m' σ' H') ∧ ∀ x H', (Ite K a).yld i H x H' → g x σ H' fun σ2 H2 => tb { D with nx := N, ct := N, bk := D.nx } σ2 H2) := by
  refine ⟨fun i m σ H => m + i = ys.length ∧ Pv i σ H, ⟨ys.length, Nat.add_zero _, h0⟩, ?_⟩
  rintro i m σ H ⟨em, pv⟩
  have s := src i σ H (by omega) pv
  rcases Nat.lt_or_ge i ys.length with lt | ge
  · refine .inr ⟨⟨ys, ys[i], s, List.getElem?_eq_getElem lt⟩, Pv (i + 1), fun σ' H' z => ⟨m - 1, by omega, by omega, z⟩, ?_⟩
    rintro x H' ⟨p, y, rfl, hp, rfl, hy⟩
    exact turn i y σ H p (hy ys s) pv hp
  · have e : i = ys.length := by omega
    subst e
    exact .inl ⟨⟨ys, s, Nat.le_refl _⟩, fin σ H pv⟩
/-- k in xs, xs a list of ints -/
theorem inV_ints (zs : List Int) (k : Int) : inV (V.int k) (zs.map V.int) = decide (k ∈ zs) := by
  induction zs with
  | nil => rfl
  | cons a r ih =>
    have e : inV (V.int k) ((a :: r).map V.int) = (eqV (V.int a) (V.int k) || inV (V.int k) (r.map V.int)) := rfl
    rw [e, ih]
    by_cases h : a = k
    · subst h
      simp [eqV]
    · have h' : ¬ k = a := fun z => h z.symm
      simp [eqV, h, h']
theorem flat_ints (zs : List Int) : (zs.map V.int).all flatV = true := by
  rw [List.all_eq_true]
  intro x hx
  obtain ⟨z, _, rfl⟩ := List.mem_map.mp hx
  rfl
end

/-! ### the data: a statement as the tuple that it is -/
inductive Kd where
  | prop | pre | com
  deriving DecidableEq
def Kd.s : Kd → Str
  | .prop => "proposal"
  | .pre => "prevote"
  | .com => "precommit"
structure Sm where
  k : Kd
  h : Int
  t : Int
  b : Option Str
  l : Option Int
def oS : Option Str → V
  | none => .non
  | some x => .str x
def oI : Option Int → V
  | none => .non
  | some x => .int x
def Sm.vals (m : Sm) : List V := match m.k with
  | .pre => [.str m.k.s, .int m.h, .int m.t, oS m.b, oI m.l]
  | _ => [.str m.k.s, .int m.h, .int m.t, oS m.b]
def SmAt (H : Hp) (p : Addr) (m : Sm) : Prop := H p = some (.tup m.vals)
theorem at0 (m : Sm) : atI m.vals 0 = some (.str m.k.s) := by
  cases m with | mk k h t b l => cases k <;> rfl
theorem at1 (m : Sm) : atI m.vals 1 = some (.int m.h) := by
  cases m with | mk k h t b l => cases k <;> rfl
theorem at2 (m : Sm) : atI m.vals 2 = some (.int m.t) := by
  cases m with | mk k h t b l => cases k <;> rfl
theorem at3 (m : Sm) : atI m.vals 3 = some (oS m.b) := by
  cases m with | mk k h t b l => cases k <;> rfl
theorem at4 (m : Sm) (e : m.k = .pre) : atI m.vals 4 = some (oI m.l) := by
  cases m with | mk k h t b l => cases k <;> first | rfl | cases e
theorem ks_pp : ¬ (("proposal" : Str) = "prevote") := by decide +kernel
theorem ks_pc : ¬ (("proposal" : Str) = "precommit") := by decide +kernel
theorem ks_vc : ¬ (("prevote" : Str) = "precommit") := by decide +kernel
theorem ks_vp : ¬ (("prevote" : Str) = "proposal") := fun e => ks_pp e.symm
theorem ks_cp : ¬ (("precommit" : Str) = "proposal") := fun e => ks_pc e.symm
theorem ks_cv : ¬ (("precommit" : Str) = "prevote") := fun e => ks_vc e.symm
theorem kd_inj (a b : Kd) : a.s = b.s ↔ a = b := by
  cases a <;> cases b <;> simp [Kd.s, ks_pp, ks_pc, ks_vc, ks_vp, ks_cp, ks_cv]
theorem dec_kd (a b : Kd) : decide (V.str a.s = V.str b.s) = decide (a = b) := by
  rw [Bool.eq_iff_iff, decide_eq_true_iff, decide_eq_true_iff]
  constructor
  · intro e
    injection e with e
    exact (kd_inj a b).mp e
  · intro e
    rw [e]
theorem kprop (a : Kd) : (V.str a.s = V.str "proposal") = (a = .prop) := propext (by simpa [Kd.s] using decide_eq_decide.mp (dec_kd a .prop))
theorem kpre (a : Kd) : (V.str a.s = V.str "prevote") = (a = .pre) := propext (by simpa [Kd.s] using decide_eq_decide.mp (dec_kd a .pre))
theorem kcom (a : Kd) : (V.str a.s = V.str "precommit") = (a = .com) := propext (by simpa [Kd.s] using decide_eq_decide.mp (dec_kd a .com))
theorem koS (a b : Option Str) : (oS a = oS b) = (a = b) := propext (by
  cases a <;> cases b <;> simp [oS])
theorem koSn (a : Option Str) : (oS a = V.non) = (a = none) := koS a none
theorem koIn (a : Option Int) : (oI a = V.non) = (a = none) := by cases a <;> simp [oI]
theorem dec_oS (a b : Option Str) : decide (oS a = oS b) = decide (a = b) := by
  rw [Bool.eq_iff_iff, decide_eq_true_iff, decide_eq_true_iff]
  constructor
  · intro e
    cases a <;> cases b <;> first | rfl | cases e
    rfl
  · intro e
    rw [e]
theorem dec_oSn (a : Option Str) : decide (oS a = V.non) = decide (a = none) := dec_oS a none
theorem dec_oIn (a : Option Int) : decide (oI a = V.non) = decide (a = none) := by
  cases a <;> rfl
theorem scal_oS (a b : Option Str) : scal (oS a) (oS b) = true := by
  cases a <;> cases b <;> rfl
/-! ### the mirror -/
def abandM (x y : Sm) : Bool :=
  if x.k = .com ∧ y.k = .pre ∧ x.b ≠ none ∧ y.b ≠ none ∧ x.b ≠ y.b ∧ x.t < y.t then (match y.l with | none => true | some l => decide (l < x.t)) else false
def clashM (x y : Sm) : Bool :=
  if x.h ≠ y.h then false
  else if x.k = y.k then (decide (x.k ≠ .prop) && (decide (x.t = y.t) && decide (x.b ≠ y.b)))
  else (abandM x y || abandM y x)
theorem clashM_comm (x y : Sm) : clashM x y = clashM y x := by
  unfold clashM
  by_cases h1 : x.h = y.h
  · by_cases h2 : x.k = y.k
    · simp only [h1, h2, ne_eq, not_true_eq_false, if_false, if_true]
      congr 1
      congr 1
      · exact decide_eq_decide.mpr ⟨Eq.symm, Eq.symm⟩
      · exact decide_eq_decide.mpr ⟨Ne.symm, Ne.symm⟩
    · have h3 : ¬ y.k = x.k := fun e => h2 e.symm
      simp only [h1, h2, h3, ne_eq, not_true_eq_false, if_false, Bool.or_comm]
  · have h3 : ¬ y.h = x.h := fun e => h1 e.symm
    simp only [h1, h3, ne_eq, not_false_eq_true, if_true]
def OkS (b : Option Str) : Prop := ∀ x, b = some x → PyData.strOk x = true
theorem okA : OkS (some "a") := fun x e => by
  cases e
  decide +kernel
theorem okB : OkS (some "b") := fun x e => by
  cases e
  decide +kernel
theorem okN : OkS none := fun x e => nomatch e
theorem pick5 {i : Int} (h0 : 0 ≤ i) (h5 : i < 5) : ∃ b : Option Str, atI [V.str "a", V.str "b", V.str "a", V.str "b", V.non] i = some (oS b) ∧ OkS b := by
  have h : i = 0 ∨ i = 1 ∨ i = 2 ∨ i = 3 ∨ i = 4 := by omega
  rcases h with rfl | rfl | rfl | rfl | rfl
  · exact ⟨some "a", rfl, okA⟩
  · exact ⟨some "b", rfl, okB⟩
  · exact ⟨some "a", rfl, okA⟩
  · exact ⟨some "b", rfl, okB⟩
  · exact ⟨none, rfl, okN⟩
def Sm.dat (m : Sm) : List PyData := match m.k with
  | .pre => [.str m.k.s, .int m.h, .int m.t, (match m.b with | none => .none | some x => .str x), (match m.l with | none => .none | some x => .int x)]
  | _ => [.str m.k.s, .int m.h, .int m.t, (match m.b with | none => .none | some x => .str x)]
theorem dp_oS {K : PySem.W.Frag} {H : Hp} (b : Option Str) : Dp K H (oS b) (match b with | none => .none | some x => .str x) := by
  cases b with
  | none => exact .non
  | some x => exact .str x
theorem dp_oI {K : PySem.W.Frag} {H : Hp} (b : Option Int) : Dp K H (oI b) (match b with | none => .none | some x => .int x) := by
  cases b with
  | none => exact .non
  | some x => exact .int x
theorem dp_sm {K : PySem.W.Frag} {H : Hp} {p : Addr} {m : Sm} (h : H p = some (.tup m.vals)) : Dp K H (.ref p) (.tuple m.dat) := by
  refine .tup (SqT.of h) ?_
  obtain ⟨mk, mh, mt, mb, ml⟩ := m
  cases mk
  · exact .cons (.str _) (.cons (.int _) (.cons (.int _) (.cons (dp_oS _) .nil)))
  · exact .cons (.str _) (.cons (.int _) (.cons (.int _) (.cons (dp_oS _) (.cons (dp_oI _) .nil))))
  · exact .cons (.str _) (.cons (.int _) (.cons (.int _) (.cons (dp_oS _) .nil)))
theorem ks_ok (k : Kd) : PyData.strOk k.s = true := by
  cases k <;> decide +kernel
theorem shaped_sm (m : Sm) (o : OkS m.b) : SeqAt.shaped (.tuple m.dat) = true := by
  obtain ⟨mk, mh, mt, mb, ml⟩ := m
  cases mk <;> cases mb <;> cases ml <;> simp [Sm.dat, SeqAt.shaped, PyData.canLay0, PyData.canLayAll0, PyData.depth, PyData.depthAll, ks_ok] <;> exact o _ rfl
theorem eqv_sm (m : Sm) (o : OkS m.b) : PyData.eqv (.tuple m.dat) (.tuple m.dat) = true := SeqAt.eqv_refl _ (by
  obtain ⟨mk, mh, mt, mb, ml⟩ := m
  cases mk <;> cases mb <;> cases ml <;> simp [Sm.dat, PyData.canLay0, PyData.canLayAll0, ks_ok] <;> exact o _ rfl)
def spVote (K : PySem.W.Frag) : Sp := fun vs H Q _ => ∃ (p : Addr) (m : Sm), vs = [.ref p] ∧ SmAt H p m ∧ ∀ H', Same H H' → Q (.bl (decide (m.k ≠ .prop))) H'
def spAband (K : PySem.W.Frag) : Sp := fun vs H Q _ => ∃ (p q : Addr) (m n : Sm), vs = [.ref p, .ref q] ∧ SmAt H p m ∧ SmAt H q n ∧ ∀ H', Same H H' → Q (.bl (abandM m n)) H'
def spClash (K : PySem.W.Frag) : Sp := fun vs H Q _ => ∃ (p q : Addr) (m n : Sm), vs = [.ref p, .ref q] ∧ SmAt H p m ∧ SmAt H q n ∧ ∀ H', Same H H' → Q (.bl (clashM m n)) H'

/-! ### letters, lists of letters, what is due -/
structure Lt where
  w : Int
  m : Sm
instance : Inhabited Lt := ⟨⟨0, ⟨.prop, 0, 0, none, none⟩⟩⟩
def LtAt (H : Hp) (p : Addr) (x : Lt) : Prop := ∃ q, H p = some (.tup [.int x.w, .ref q]) ∧ SmAt H q x.m
theorem LtAt.same {H H' : Hp} {p : Addr} {x : Lt} (h : LtAt H p x) (s : Same H H') : LtAt H' p x := by
  obtain ⟨q, h1, h2⟩ := h
  exact ⟨q, s _ _ h1, s _ _ h2⟩
theorem ne_lst {H : Hp} {p l : Addr} {xs ys : List V} (h : H p = some (.tup xs)) (hl : H l = some (.lst ys)) : p ≠ l := fun e => by
  rw [e, hl] at h
  cases h
theorem LtAt.upd {H : Hp} {p l : Addr} {x : Lt} {ys : List V} {o : HO} (h : LtAt H p x) (hl : H l = some (.lst ys)) : LtAt (upd H l o) p x := by
  obtain ⟨q, h1, h2⟩ := h
  have h2' : H q = some (.tup x.m.vals) := h2
  refine ⟨q, ?_, ?_⟩
  · rw [upd_ne (ne_lst h1 hl)]
    exact h1
  · unfold SmAt
    rw [upd_ne (ne_lst h2' hl)]
    exact h2
def LsAt (H : Hp) (ps : List Addr) (xs : List Lt) : Prop := ps.length = xs.length ∧ ∀ i, i < xs.length → LtAt H (ps.getD i 0) (xs.getD i default)
theorem LsAt.nil {H : Hp} : LsAt H [] [] := ⟨rfl, fun i h => absurd h (Nat.not_lt_zero i)⟩
theorem LsAt.same {H H' : Hp} {ps : List Addr} {xs : List Lt} (h : LsAt H ps xs) (s : Same H H') : LsAt H' ps xs := ⟨h.1, fun i hi => (h.2 i hi).same s⟩
theorem LsAt.upd {H : Hp} {ps : List Addr} {xs : List Lt} {l : Addr} {ys : List V} {o : HO} (h : LsAt H ps xs) (hl : H l = some (.lst ys)) : LsAt (upd H l o) ps xs := ⟨h.1, fun i hi => (h.2 i hi).upd hl⟩
theorem getD_left {α : Type} {d : α} {xs ys : List α} {i : Nat} (h : i < xs.length) : (xs ++ ys).getD i d = xs.getD i d := by
  rw [List.getD_eq_getElem?_getD, List.getD_eq_getElem?_getD, List.getElem?_append_left h]
theorem getD_last {α : Type} {d : α} {xs : List α} {x : α} : (xs ++ [x]).getD xs.length d = x := by
  rw [List.getD_eq_getElem?_getD, List.getElem?_append_right (Nat.le_refl _), Nat.sub_self]
  rfl
theorem LsAt.snoc {H : Hp} {ps : List Addr} {xs : List Lt} {p : Addr} {x : Lt} (h : LsAt H ps xs) (e : LtAt H p x) : LsAt H (ps ++ [p]) (xs ++ [x]) := by
  refine ⟨by rw [List.length_append, List.length_append, h.1]; rfl, fun i hi => ?_⟩
  rw [List.length_append, List.length_singleton] at hi
  rcases Nat.lt_or_ge i xs.length with z | z
  · rw [getD_left (by rw [h.1]; exact z), getD_left z]
    exact h.2 i z
  · have ei : i = xs.length := by omega
    subst ei
    rw [getD_last]
    have : (ps ++ [p]).getD xs.length 0 = p := by rw [← h.1, getD_last]
    rw [this]
    exact e
theorem at_refs {ps : List Addr} {i : Nat} (h : i < ps.length) : (ps.map V.ref)[i]? = some (.ref (ps.getD i 0)) := by
  rw [List.getElem?_map, List.getD_eq_getElem?_getD, List.getElem?_eq_getElem h]
  rfl
def ownOf (xs : List Lt) (who : Int) : List Lt := xs.filter fun x => decide (x.w = who)
theorem take_succ_getD {α : Type} {d : α} {xs : List α} {i : Nat} (h : i < xs.length) : xs.take (i + 1) = xs.take i ++ [xs.getD i d] := by
  rw [List.take_add_one, List.getElem?_eq_getElem h, List.getD_eq_getElem?_getD, List.getElem?_eq_getElem h]
  rfl
theorem own_yes {xs : List Lt} {who : Int} {i : Nat} (h : i < xs.length) (e : (xs.getD i default).w = who) : ownOf (xs.take (i + 1)) who = ownOf (xs.take i) who ++ [xs.getD i default] := by
  unfold ownOf
  rw [take_succ_getD (d := default) h, List.filter_append, List.filter_cons_of_pos (by exact decide_eq_true e)]
  rfl
theorem own_no {xs : List Lt} {who : Int} {i : Nat} (h : i < xs.length) (e : ¬ (xs.getD i default).w = who) : ownOf (xs.take (i + 1)) who = ownOf (xs.take i) who := by
  unfold ownOf
  rw [take_succ_getD (d := default) h, List.filter_append, List.filter_cons_of_neg (by simpa using e), List.filter_nil, List.append_nil]
theorem own_len (xs : List Lt) (who : Int) : (ownOf xs who).length ≤ xs.length := List.length_filter_le _ _
theorem own_mem {xs : List Lt} {who : Int} {x : Lt} (h : x ∈ ownOf xs who) : x ∈ xs ∧ x.w = who := by
  unfold ownOf at h
  rw [List.mem_filter] at h
  exact ⟨h.1, of_decide_eq_true h.2⟩
theorem getD_mem2 {α : Type} {d : α} {xs : List α} {i : Nat} (h : i < xs.length) : xs.getD i d ∈ xs := by
  rw [List.getD_eq_getElem?_getD, List.getElem?_eq_getElem h]
  exact List.getElem_mem h
/-- the first letter before place n with which the one at place a clashes -/
def rowDue (own : List Lt) (a : Nat) : Nat → Option (Lt × Lt)
  | 0 => none
  | n + 1 => match rowDue own a n with
    | some r => some r
    | none => if clashM (own.getD n default).m (own.getD a default).m then some (own.getD n default, own.getD a default) else none
def colDue (own : List Lt) : Nat → Option (Lt × Lt)
  | 0 => none
  | n + 1 => match colDue own n with
    | some r => some r
    | none => rowDue own n n
def due (own : List Lt) : Option (Lt × Lt) := colDue own own.length
theorem row_mono {own : List Lt} {a i : Nat} {r : Lt × Lt} (h : rowDue own a i = some r) : ∀ d, rowDue own a (i + d) = some r
  | 0 => h
  | d + 1 => by
    show rowDue own a (i + d + 1) = some r
    rw [rowDue, row_mono h d]
theorem col_mono {own : List Lt} {i : Nat} {r : Lt × Lt} (h : colDue own i = some r) : ∀ d, colDue own (i + d) = some r
  | 0 => h
  | d + 1 => by
    show colDue own (i + d + 1) = some r
    rw [colDue, col_mono h d]
theorem row_no {own : List Lt} {a n : Nat} (h : rowDue own a n = none) (c : clashM (own.getD n default).m (own.getD a default).m = false) : rowDue own a (n + 1) = none := by
  rw [rowDue, h]
  show (if _ then _ else _) = _
  rw [c]
  rfl
theorem due_at {own : List Lt} {a n : Nat} (ha : a < own.length) (hn : n < a) (hc : colDue own a = none) (h : rowDue own a n = none) (c : clashM (own.getD n default).m (own.getD a default).m = true) :
    due own = some (own.getD n default, own.getD a default) := by
  have h1 : rowDue own a (n + 1) = some (own.getD n default, own.getD a default) := by
    rw [rowDue, h]
    show (if _ then _ else _) = _
    rw [c]
    rfl
  have h2 : rowDue own a a = some (own.getD n default, own.getD a default) := by
    have := row_mono h1 (a - (n + 1))
    rwa [Nat.add_sub_cancel' hn] at this
  have h3 : colDue own (a + 1) = some (own.getD n default, own.getD a default) := by
    rw [colDue, hc]
    exact h2
  have := col_mono h3 (own.length - (a + 1))
  rw [Nat.add_sub_cancel' ha] at this
  exact this
theorem col_no {own : List Lt} {a : Nat} (hc : colDue own a = none) (h : rowDue own a a = none) : colDue own (a + 1) = none := by
  rw [colDue, hc]
  exact h
theorem row_ok {own : List Lt} {a : Nat} (ha : a < own.length) : ∀ n, n ≤ own.length → ∀ f s, rowDue own a n = some (f, s) → f ∈ own ∧ s ∈ own ∧ clashM f.m s.m = true
  | 0, _, f, s, h => nomatch h
  | n + 1, hn, f, s, h => by
    rw [rowDue] at h
    split at h
    · rename_i r e
      cases h
      exact row_ok ha n (Nat.le_of_lt hn) f s e
    · split at h
      · rename_i c
        cases h
        exact ⟨getD_mem2 hn, getD_mem2 ha, c⟩
      · cases h
theorem col_ok {own : List Lt} : ∀ n, n ≤ own.length → ∀ f s, colDue own n = some (f, s) → f ∈ own ∧ s ∈ own ∧ clashM f.m s.m = true
  | 0, _, f, s, h => nomatch h
  | n + 1, hn, f, s, h => by
    rw [colDue] at h
    split at h
    · rename_i r e
      cases h
      exact col_ok n (Nat.le_of_lt hn) f s e
    · exact row_ok hn n (Nat.le_of_lt hn) f s h
theorem due_ok {own : List Lt} {f s : Lt} (h : due own = some (f, s)) : f ∈ own ∧ s ∈ own ∧ clashM f.m s.m = true := col_ok _ (Nat.le_refl _) f s h
def DueAt (H : Hp) (v : V) : Option (Lt × Lt) → Prop
  | none => v = .non
  | some r => ∃ p a b, v = .ref p ∧ H p = some (.tup [.ref a, .ref b]) ∧ LtAt H a r.1 ∧ LtAt H b r.2
def OkL (xs : List Lt) : Prop := ∀ x ∈ xs, OkS x.m.b
def Lt.dat (x : Lt) : PyData := .tuple [.int x.w, .tuple x.m.dat]
theorem dp_lt {K : PySem.W.Frag} {H : Hp} {p : Addr} {x : Lt} (h : LtAt H p x) : Dp K H (.ref p) x.dat := by
  obtain ⟨q, h1, h2⟩ := h
  exact .tup (SqT.of h1) (.cons (.int _) (.cons (dp_sm h2) .nil))
theorem lay_sm (m : Sm) (o : OkS m.b) : PyData.canLay0 (.tuple m.dat) = true := by
  have h := shaped_sm m o
  exact (Bool.and_eq_true_iff.mp h).1
theorem depth_sm (m : Sm) : PyData.depth (.tuple m.dat) = 1 := by
  obtain ⟨mk, mh, mt, mb, ml⟩ := m
  cases mk <;> cases mb <;> cases ml <;> simp [Sm.dat, PyData.depth, PyData.depthAll]
theorem lay_lt {x : Lt} (o : OkS x.m.b) : PyData.canLay0 x.dat = true := by
  simp only [Lt.dat, PyData.canLay0, PyData.canLayAll0, Bool.true_and, Bool.and_true]
  exact lay_sm x.m o
theorem depth_lt (x : Lt) : PyData.depth x.dat = 2 := by
  have h := depth_sm x.m
  simp only [Lt.dat, PyData.depth, PyData.depthAll] at h ⊢
  omega
theorem shaped_lt {x : Lt} (o : OkS x.m.b) : SeqAt.shaped x.dat = true := by
  unfold SeqAt.shaped
  rw [lay_lt o, depth_lt]
  rfl
theorem eqv_lt {x : Lt} (o : OkS x.m.b) : PyData.eqv x.dat x.dat = true := SeqAt.eqv_refl _ (lay_lt o)
theorem LsAt.cons {H : Hp} {p : Addr} {ps : List Addr} {x : Lt} {xs : List Lt} (h : LsAt H (p :: ps) (x :: xs)) : LtAt H p x ∧ LsAt H ps xs :=
  ⟨h.2 0 (Nat.succ_pos _), Nat.succ.inj h.1, fun i hi => h.2 (i + 1) (Nat.succ_lt_succ hi)⟩
theorem dp_lts {K : PySem.W.Frag} {H : Hp} : ∀ {ps : List Addr} {xs : List Lt}, LsAt H ps xs → DpAll K H (ps.map V.ref) (xs.map Lt.dat)
  | [], [], _ => .nil
  | p :: ps, x :: xs, h => .cons (dp_lt h.cons.1) (dp_lts h.cons.2)
  | [], x :: xs, h => nomatch h.1
  | p :: ps, [], h => nomatch h.1
theorem lay_lts : ∀ {xs : List Lt}, OkL xs → PyData.canLayAll0 (xs.map Lt.dat) = true
  | [], _ => by simp [PyData.canLayAll0]
  | x :: xs, o => by
    simp only [List.map_cons, PyData.canLayAll0]
    rw [lay_lt (o x List.mem_cons_self), lay_lts fun y hy => o y (List.mem_cons_of_mem _ hy)]
    rfl
theorem depth_lts : ∀ xs : List Lt, PyData.depthAll (xs.map Lt.dat) ≤ 2
  | [] => by simp [PyData.depthAll]
  | x :: xs => by
    have := depth_lts xs
    have := depth_lt x
    simp only [List.map_cons, PyData.depthAll]
    omega
theorem shaped_lts {xs : List Lt} (o : OkL xs) : SeqAt.shaped (.list (xs.map Lt.dat)) = true := by
  have h := depth_lts xs
  unfold SeqAt.shaped
  have e : PyData.depth (.list (xs.map Lt.dat)) = PyData.depthAll (xs.map Lt.dat) + 1 := by simp only [PyData.depth]
  have l : PyData.canLay0 (.list (xs.map Lt.dat)) = true := by simp only [PyData.canLay0, lay_lts o]
  rw [l, e, decide_eq_true (show PyData.depthAll (xs.map Lt.dat) + 1 ≤ 64 by omega)]
  rfl
theorem eqv_lts {xs : List Lt} (o : OkL xs) : PyData.eqv (.list (xs.map Lt.dat)) (.list (xs.map Lt.dat)) = true := SeqAt.eqv_refl _ (by
  simp only [PyData.canLay0, lay_lts o])

/-! ### an own error over ValueError whose __init__(self, x) says super().__init__(a message) and self.field = x -/
section
open PySem.W (ksEnv ksFn ks_superIn kxs_mw)
/-- the context of such an __init__ -/
def cxSup (CX : CXT) (P : Program) (w : World) (K : PySem.W.Frag) (mg : Str → Option Value) (base : Heap) (N : List Str) (qual : Str) (scope : Scope) (f : Addr) (cd : Value) (cc : Addr) (A : Around) (outer : List Env) (s : Shared) (H : Hp) (E : XK) : Cx where
  prog := P
  w := w
  K := K
  mg := mg
  base := base
  A := A.deeper (ksEnv qual scope s.heap.objs.size f cd cc)
  N := N
  s_0 := s
  H_0 := H
  env := ksEnv qual scope s.heap.objs.size f cd cc
  outer := outer
  stack := ksEnv qual scope s.heap.objs.size f cd cc :: outer
  ex := []
  fn := fun _ => false
  calm := true
  pn := []
  xe := fun e s' => wpAny (model P w) (A.deeper (ksEnv qual scope s.heap.objs.size f cd cc)) (leaving (ksEnv qual scope s.heap.objs.size f cd cc) e) (fun _ s2 => CX outer H s E e s2) (fun e2 s2 => CX outer H s E e2 s2) s'
/-- what the written part says of the class at C and of its __init__ at f -/
structure SupCls (P : Program) (K : PySem.W.Frag) (C : Addr) (qual par fld : Str) (st : Stmt) (f : Addr) (fd : FuncData) : Prop where
  fn : ∃ (oc od : _) (kV doc pm : Value) (an : Option Addr) (cda : Addr) (ct : Value) (osl : Array (Option Value)) (cc : Addr) (cl : Value) (cld : Option Addr) (csl : Array (Option Value)) (ccl : Value) (cdd : Option Addr) (vs : Array Value) (ccs : Array (Option Value)) (file : Str) (tf : Tok),
    fd = ksFn "__init__" qual (defArgs st) (defBody st) (defScope st) .none kV doc pm an (.ref cda) ct cc ∧ K.lookup f = some ⟨oc, od, .func fd, osl⟩ ∧ PySem.W.codeIn K (.ref cda) qual = true ∧
    K.lookup cc = some ⟨cl, cld, .cell (some (.ref C)), csl⟩ ∧ K.lookup cda = some ⟨ccl, cdd, .fields vs, ccs⟩ ∧ vs[2]? = some (.str file tf) ∧ ((P.main.file : Str) == file) = true
  oex : OexC K C
  sup : ks_superIn K C C "__init__" = some (some (.builtin "ValueError.__init__"))
  opq : PySem.W.nsIn K cStatics "thirdparty.any" = some none
  subV : PySem.W.subIn K (.ref C) (.type "ValueError") = some true
  mroC : PySem.W.mroIn K C (.ref C) = some true
  nof : PySem.W.findIn K (.ref C) fld = some none
  topS : (P.main.scope.names.lookup ("super" : Str)).isSome = false
/-- the shape of the text -/
structure SupTxt (par fld : Str) (st : Stmt) (msg : Expr) (p0 p1 p2 p3 p4 p5 p6 p7 p8 : Pos) : Prop where
  body : defBody st = [.Expr (.Call (.Attribute (.Call (.Name "super" p0) [] [] p1) "__init__" p2) [msg] [] p3) p4, .Assign [.Attribute (.Name "self" p5) fld p6] (.Name par p7) p8]
  kind : (defScope st).kind = .function
  co : (defScope st).isCoroutine = false
  gen : (defScope st).isGenerator = false
  s1 : (defScope st).names.lookup ("self" : Str) = some .local
  s2 : (defScope st).names.lookup par = some .local
  s3 : (defScope st).names.lookup ("__class__" : Str) = some .free
  s4 : (defScope st).names.lookup ("super" : Str) = some .globalImplicit
  only : ∀ y ∈ (defScope st).names, y.2 ≠ .cell ∧ (y.2 = .free → y.1 = "__class__")
  ps : ∃ ar, ((defArgs st).posonlyargs ++ (defArgs st).args).head? = some ar ∧ ar.arg = "self"
theorem inv_sup {CX : CXT} {P : Program} {w : World} {K : PySem.W.Frag} {mg : Str → Option Value} {base : Heap} {par qual : Str} {scope : Scope} {f cc : Addr} {cd : Value} {A : Around} {outer : List Env} {s : Shared} {h1 : Heap} {H : Hp} {E : XK} {u0 u1 : Value} {v0 v1 : V} {tk : Nat} {D : Value}
    (kind : scope.kind = .function) (only : ∀ y ∈ scope.names, y.2 ≠ .cell ∧ (y.2 = .free → y.1 = ("__class__" : Str))) (l1 : scope.names.lookup ("self" : Str) = some .local) (l2 : scope.names.lookup par = some .local) (np : ¬ ("self" : Str) = par)
    (hd : A.handled = none) (e0 : Env0 P w K mg base A outer s H) (r0 : RelV v0 u0) (r1 : RelV v1 u1)
    (cell : s.heap.IsCell cc (some D)) (free : H cc = Option.none) (small : cc < s.heap.objs.size)
    (ns : h1.Ns s.heap.objs.size (fun x => [(par, u1), (("self" : Str), u0)].lookup x)) (kp : ∀ b o, s.heap.get? b = some o → h1.get? b = some o) :
    L2.Inv (cxSup CX P w K mg base ["self", par] qual scope f cd cc A outer s H E) [] (start ["self", par] [v0, v1]) H { s with heap := h1, toks := tk } := by
  have one : ∀ (x : Str) (c : Addr), (ksEnv qual scope s.heap.objs.size f cd cc).cells.lookup x = some c → x = "__class__" ∧ c = cc := fun x c e => by
    have e' : [(("__class__" : Str), cc)].lookup x = some c := e
    by_cases z : x = "__class__"
    · subst z
      exact ⟨rfl, (Option.some.inj ((show some cc = some c from by simpa [List.lookup] using e'))).symm⟩
    · have b : (x == ("__class__" : Str)) = false := by simpa using z
      simp [List.lookup, b] at e'
  have noA : ∀ b : Addr, b ∉ (cxSup CX P w K mg base ["self", par] qual scope f cd cc A outer s H E).ex := fun b z => absurd (show b ∈ ([] : List Addr) from z) (by simp)
  have ok : (cxSup CX P w K mg base ["self", par] qual scope f cd cc A outer s H E).Ok := {
    mod := e0.mod
    kind := kind
    glob := rfl
    blt := rfl
    above := Nat.le_refl _
    inj := fun x y c h1 h2 => (one x c h1).1.trans (one y c h2).1.symm
    has := fun x hx => by
      have hx' : scope.names.lookup x = some .cell ∨ scope.names.lookup x = some .free := hx
      rcases hx' with hx' | hx'
      · exact absurd rfl (only _ (PySem.mem_of_lookup hx')).1
      · have e : x = "__class__" := (only _ (PySem.mem_of_lookup hx')).2 rfl
        subst e
        exact ⟨cc, rfl⟩
    cab := fun x c h => Bool.noConfusion h
    hd := fun _ => hd
    frames := Around.frames_deeper e0.frames
    stk := .inr ⟨rfl, rfl⟩
    exf := fun b z => absurd z (noA b)
    bs := e0.bs
    bsz := e0.bsz
    noex := fun b _ _ => noA b
    exfs := fun b z => absurd z (noA b)
    funs := e0.funs
    frf := e0.frf }
  exact {
    ok := ok
    os := rfl
    bare := e0.bare
    base := Un.kept kp
    loc := ⟨_, ns, fun i x v h1 h2 h3 => by
      match i, h1, h2 with
      | 0, h1, h2 =>
        cases h1
        cases h2
        refine ⟨u0, r0, .inl ⟨l1, ?_⟩⟩
        show [(par, u1), (("self" : Str), u0)].lookup ("self" : Str) = some u0
        have b : (("self" : Str) == par) = false := by simpa using np
        simp [List.lookup, b]
      | 1, h1, h2 =>
        cases h1
        cases h2
        refine ⟨u1, r1, .inl ⟨l2, ?_⟩⟩
        show (match par == par with | true => some u1 | false => [(("self" : Str), u0)].lookup par) = some u1
        rw [beq_self_eq_true]
      | i + 2, h1, h2 =>
        have h3 : (["self", par] : List Str)[i + 2]? = some x := h1
        simp at h3⟩
    cell := fun x c e => by
      obtain ⟨_, rfl⟩ := one x c e
      obtain ⟨o, ho, hc⟩ := cell
      exact ⟨_, o, kp _ _ ho, hc⟩
    free := e0.hok.fresh (Nat.le_refl _)
    freeC := fun x c e => by
      obtain ⟨_, rfl⟩ := one x c e
      exact free
    pin := fun p hp => absurd (show p ∈ ([] : List (Addr × Obj)) from hp) (by simp)
    hok := e0.hok.kept kp
    len := rfl }
/-- what such an __init__ promises -/
def spSup (C : Addr) (fld : Str) (good : V → Prop) : Sp := fun vs H Q _ => ∃ (e : Addr) (v : V), vs = [.ref e, v] ∧ H e = some (exo e C Option.none) ∧ good v ∧
  ∀ dx, H dx = Option.none → dx ≠ e → Q .non (upd (upd H dx (exd dx [(fld, v)])) e (exo e C (some dx)))
theorem exo_again {X : Cx} {pins : List (Addr × Obj)} {σ : L2.St} {H : Hp} {a C t1 : Addr} {hp h' : Heap} {g : Array GenState} {d : Drawn} {t t' : Nat} {os : OsState} (I : L2.Inv X pins σ H ⟨hp, g, d, t, os⟩) (e : H a = some (exo a C Option.none))
    (kp : ∀ b o, b ≠ a → hp.get? b = some o → h'.get? b = some o) (hx : h'.get? a = some ({ cls := .ref C, dict := Option.none, data := .fields #[.ref t1, .none, .none, .none, .bool false, .none] } : Obj)) : L2.Inv X pins σ H ⟨h', g, d, t', os⟩ := by
  have same : upd H a (exo a C Option.none) = H := by
    funext b
    unfold upd
    split
    · rename_i z
      rw [z, e]
    · rfl
  have J := I.write (t' := t') (x := a) (e := a) (o := exo a C Option.none) (by rw [e]; exact True.intro) (.inl rfl) kp ⟨_, hx⟩ (exo_ok hx)
  rwa [same] at J
/-- the bound ValueError.__init__, called: the error's arguments are laid anew, nothing of it is told -/
theorem call_mw {X : Cx} {pins : List (Addr × Obj)} {σ : L2.St} {H : Hp} {s : Shared} {e C u : Addr} {rest : List Value} {Q : Value → Shared → Prop} {E : Value → Shared → Prop} (T : OexC X.K C) (I : L2.Inv X pins σ H s) (he : H e = some (exo e C Option.none)) (hu : s.heap.get? u = some (kxs_mw "ValueError.__init__" e))
    (few : rest.length ≤ sizeLine) (fin : ∀ s', L2.Inv X pins σ H s' → Q .none s') : wpAny (model X.prog X.w) X.A (call (.ref u) rest) Q E s := by
  obtain ⟨nm, qn, N, bs, bm, sn, sub, ab, col, dd, k0, k1, k2, k3, k5, hC, hbm⟩ := T.cls
  obtain ⟨t1, ho⟩ := exo_at I.hok he
  have hC' := I.kIn _ _ hC
  obtain ⟨hp, g, d, tk, os⟩ := s
  refine wpAny_call (codeAny_of_tree ?_)
  show wpAny _ X.A.in1 (callAny (.ref u) ⟨rest, []⟩) _ _ _
  unfold callAny
  refine wpAny_bind (wpAny_load hu ?_)
  have b : (Value.type "method-wrapper" == Value.type "method" || Value.type "method-wrapper" == Value.type "builtin_function_or_method" ||
      Value.type "method-wrapper" == Value.type "method-wrapper") = true := by decide
  simp only [b, if_true]
  refine PySem.W.KFB.if_so (by decide) (wpAny_bind ?_)
  refine PySem.W.check_bound_init F.excBase_ValueError.toExcCallFacts hC' ho rfl (wpAny_bind (wpAny_pure (wpAny_pure ⟨plainId_quiet F.excBase_ValueError.init.plain _, ?_⟩)))
  refine codeAny_builtin F.excBase_ValueError.initEntry ?_
  exact PySem.W.exc_init_tree (cls := .ref C) (t0 := t1) (dv := Option.none) (c2 := .none) (c3 := .none) (b4 := .bool false) ho few fun h' kp hx _ => fin _ (exo_again I he kp hx)
/-- THE RULE: such an __init__ keeps its promise -/
theorem ok_sup {CX : CXT} {P : Program} {w : World} {K : PySem.W.Frag} {mg : Str → Option Value} {base : Heap} {C f : Addr} {fd : FuncData} {qual par fld : Str} {st : Stmt} {msg : Expr} {p0 p1 p2 p3 p4 p5 p6 p7 p8 : Pos} {good : V → Prop}
    (S : SupCls P K C qual par fld st f fd) (T : SupTxt par fld st msg p0 p1 p2 p3 p4 p5 p6 p7 p8) (np : ¬ ("self" : Str) = par) (nd : (par == ("__debug__" : Str)) = false) (nc : (par == ("__classdict__" : Str)) = false) (noS : mg "super" = Option.none)
    (hmsg : ∀ (cd : Value) (cc : Addr) (A : Around) (outer : List Env) (s : Shared) (H : Hp) (E : XK) (e : Addr) (v : V), good v →
      ∃ ta, PA (cxSup CX P w K mg base ["self", par] qual (defScope st) f cd cc A outer s H E) [msg] ta ∧ ∀ H1 Q, (∀ x, Q [x] H1) → ta (start ["self", par] [.ref e, v]) H1 Q)
    (star : ∀ env, starEach [msg] env = [(false, eval msg env)]) (inter : ∀ L g cd cc, interactive (ksEnv qual (defScope st) L g cd cc) = false) (swap : ∀ L g cd cc, swapsWith (.Call (.Attribute (.Call (.Name "super" p0) [] [] p1) "__init__" p2) [msg] [] p3) Option.none p4.line (ksEnv qual (defScope st) L g cd cc) = pure false)
    (swap2 : ∀ L g cd cc, swapsWith (.Name par p7) (some (.Attribute (.Name "self" p5) fld p6)) p8.line (ksEnv qual (defScope st) L g cd cc) = pure false)
    (pl : Sem Bool) (he : ∀ (env : Env), eval (.Call (.Attribute (.Call (.Name "super" p0) [] [] p1) "__init__" p2) [msg] [] p3) env = (do
      let ov ← attributeBase (.Call (.Name "super" p0) [] [] p1) "__init__" env (eval (.Call (.Name "super" p0) [] [] p1) env)
      standAt p2.atName
      let (f, first) ← holding [ov] (getMethod ov "__init__" pl)
      callWith p3 f first (backTo p3 (starEach [msg] env)) [])) :
    FnOk P w K mg base CX 1 f fd ["self", par] (spSup C fld good) := by
  obtain ⟨oc, od, kV, doc, pm, an, cda, ct, osl, cc, cl, cld, csl, ccl, cdd, vs, ccs, file, tf, rfl, lk, hcd, hcell, hcode, hvs, hfile⟩ := S.fn
  refine ⟨fun vs H Q E h => ?_, fun A outer s H args us vs0 Q E hr e0 hb rel hsp => ?_⟩
  · obtain ⟨e, v, rfl, _⟩ := h
    rfl
  obtain ⟨e, v, rfl, hexo, hgood, fin⟩ := hsp
  have KX : K.In s.heap := e0.mod.kin.keeps fun b o z => (e0.bs b o z).1
  have lim : s.heap.NoLimit := e0.mod.nolimit.keeps fun b o z => (e0.bs b o z).1
  obtain ⟨u0, u1, rfl, r0, r1⟩ := vals2 rel
  have isCell : s.heap.IsCell cc (some (.ref C)) := ⟨_, KX _ _ hcell, rfl⟩
  have freeC : H cc = Option.none := (e0.bs _ _ (e0.mod.kin _ _ hcell)).2
  refine ks_codeAny_call_defAt (fd := ksFn "__init__" qual (defArgs st) (defBody st) (defScope st) .none kV doc pm an (.ref cda) ct cc) (body := defBody st) (binds := [(("self" : Str), u0), (par, u1)]) hr.depth (KX _ _ lk) rfl lim (PySem.W.codeRec_of KX hcd) rfl hb (fun x hx => (T.only x hx).1) ?_ (fun h1 ns kp => ?_) T.co T.gen T.kind
  · intro y hy
    rcases List.mem_cons.mp hy with rfl | hy
    · exact T.s1
    · rw [List.mem_singleton.mp hy]
      exact T.s2
  have I : L2.Inv (cxSup CX P w K mg base ["self", par] qual (defScope st) f (.ref cda) cc A outer s H E) [] (start ["self", par] [.ref e, v]) H { s with heap := h1, toks := s.toks + 2 } :=
    inv_sup T.kind T.only T.s1 T.s2 np hr.hd e0 r0 r1 isCell freeC (Heap.lt_size (KX _ _ hcell)) ns kp
  show wpAt (model P w) (A.deeper (ksEnv qual (defScope st) s.heap.objs.size f (.ref cda) cc)) (.func (defBody st) (ksEnv qual (defScope st) s.heap.objs.size f (.ref cda) cc)) (execs (defBody st) (ksEnv qual (defScope st) s.heap.objs.size f (.ref cda) cc)) _ _ _
  rw [T.body]
  obtain ⟨hp, g, d, tk, os⟩ := s
  have up : ∀ b o, base.get? b = some o → h1.get? b = some o := fun b o z => kp b o (e0.bs b o z).1
  have K1 : K.In h1 := e0.mod.kin.keeps up
  obtain ⟨mb, hmb, hbb⟩ := e0.mod.blt
  obtain ⟨ar, har, earg⟩ := T.ps
  cases (show u0 = Value.ref e from r0)
  obtain ⟨t1, hx⟩ := exo_at I.hok hexo
  obtain ⟨nm, qn, N, bs, bm, sn, sub, ab, col, dd, k0, k1, k2, k3, k5, hC, hbm⟩ := S.oex.cls
  have hcl : PySem.W.clsIn K C = some { name := nm, bases := bs, mro := .ref C :: bm, ns := N, qualname := qn, hasDict := true, slotNames := sn, subclasses := sub, abstract := ab, collection := col, hasDel := false } := by
    unfold PySem.W.clsIn
    rw [hC]
  refine ks_wpAt_execs_cons (ks_wpAt_Expr_any (ks_wpAt_MethodCall (pl := pl) ?_ (he _)) (inter _ _ _ _) (swap _ _ _ _))
  refine ks_wpAt_super_base (env := ksEnv qual (defScope st) hp.objs.size f (.ref cda) cc) T.s4 T.s3 (by decide) rfl (kp _ _ (KX _ _ lk)) rfl har rfl (K1 _ _ hcode) rfl hvs hfile S.topS ?_
  refine PySem.W.ks_loadName_global T.kind T.s4 (PySem.Calls.loadGlobal_builtin (env := ksEnv qual (defScope st) hp.objs.size f (.ref cda) cc) (e0.mod.glob.keeps up) noS (hmb.keeps up) ((hbb "super" (by decide)).trans (by decide +kernel)) ⟨rfl, ?_⟩)
  refine wpAny_loadName_free T.kind T.s3 rfl ⟨_, K1 _ _ hcell, rfl⟩ ?_
  rw [earg]
  refine wpAny_loadName_local T.kind T.s1 ns (v := .ref e) ?_ ?_
  · show [(par, u1), (("self" : Str), Value.ref e)].lookup ("self" : Str) = some (.ref e)
    have b : (("self" : Str) == par) = false := by simpa using np
    simp [List.lookup, b]
  refine ks_wpAny_isType_cls (K1 _ _ hC) rfl ⟨rfl, ?_⟩
  refine ks_wpAny_call_super (K1 _ _ hC) rfl hx rfl (fun c z => by cases z) (PySem.W.looks_mroIn K1 S.mroC) (fun h2 hso kp2 => ?_)
  have K2 : K.In h2 := K1.keeps kp2
  have hx2 := kp2 _ _ hx
  have inst : PySem.W.InstAt h2 e { cls := .ref C, dict := Option.none, data := .fields #[.ref t1, .none, .none, .none, .bool false, .none] } C Option.none := ⟨hx2, rfl, rfl, trivial⟩
  have hf := S.sup
  unfold ks_superIn at hf
  rw [hcl] at hf
  have neC : e ≠ C := fun z => by
    have q := (e0.bs _ _ (e0.mod.kin _ _ hC)).2
    rw [← z, hexo] at q
    cases q
  refine PySem.W.kxs_getMethod PySem.W.kxs_ValueError hso (PySem.W.looks_opaque K2 S.opq) (l₀ := .ref C :: bm) ((PySem.W.looks_clsIn K2 hcl).andThen .now) rfl K2 hf (inst.type.andThen (PySem.W.looks_subIn K2 S.subV)) neC (by decide) ?_
  have hmw : (h2.push (kxs_mw "ValueError.__init__" e)).get? h2.objs.size = some (kxs_mw "ValueError.__init__" e) := Heap.get?_push_size _ rfl
  have kp3 : ∀ b o, h1.get? b = some o → (h2.push (kxs_mw "ValueError.__init__" e)).get? b = some o := fun b o z => Heap.get?_push_of_some _ (kp2 b o z)
  have Ih := I.kept (h' := h2) (t' := tk + 2) kp2
  have I2 := I.kept (h' := h2.push (kxs_mw "ValueError.__init__" e)) (t' := tk + 2 + 1) kp3
  have I3 : L2.Inv (cxSup CX P w K mg base ["self", par] qual (defScope st) f (.ref cda) cc A outer ⟨hp, g, d, tk, os⟩ H E) [(h2.objs.size, kxs_mw "ValueError.__init__" e)] (start ["self", par] [.ref e, v]) H ⟨h2.push (kxs_mw "ValueError.__init__" e), g, d, tk + 2 + 1, os⟩ := { I2 with
    pin := fun p hp' => by
      cases List.mem_singleton.mp hp'
      refine ⟨hmw, Ih.hok.fresh (Nat.le_refl _), Nat.ne_of_gt Ih.lt, Ih.nofs (Nat.le_refl _), fun c z => by cases z⟩ }
  obtain ⟨ta, pa, rd⟩ := hmsg (.ref cda) cc A outer ⟨hp, g, d, tk, os⟩ H E e v hgood
  have st1 := star (ksEnv qual (defScope st) hp.objs.size f (.ref cda) cc)
  have ran : wpAny (model P w) (A.deeper (ksEnv qual (defScope st) hp.objs.size f (.ref cda) cc)) (spliced (backTo p3 (starEach [msg] (ksEnv qual (defScope st) hp.objs.size f (.ref cda) cc)))) _ _ _ :=
    pa.run p3 _ _ _ _ (fun vs H1 => H1 = H ∧ vs.length = 1) I3 (rd H _ fun x => ⟨rfl, rfl⟩)
  show wpAny _ _ (callWith p3 (.ref h2.objs.size) [] (backTo p3 (starEach [msg] (ksEnv qual (defScope st) hp.objs.size f (.ref cda) cc))) []) _ _ _
  rw [st1] at ran ⊢
  refine PySem.W.kxs_callWith (i := "ValueError.__init__") (x := e) (u := h2.objs.size) rfl (PySem.Calls.evalArgs_plain (thn ran fun us s3 got => ?_))
  obtain ⟨vs1, H1, I4, rel1, rfl, len1⟩ := got
  have hu := (I4.pin _ List.mem_cons_self).1
  refine ⟨hu, call_mw S.oex I4 hexo hu (by show us.length ≤ sizeLine; rw [← Vals.length rel1, len1, sizeLine_eq]; decide) fun s4 I5 => ?_⟩
  have last : PSs (cxSup CX P w K mg base ["self", par] qual (defScope st) f (.ref cda) cc A outer ⟨hp, g, d, tk, os⟩ H1 E) [.Assign [.Attribute (.Name "self" p5) fld p6] (.Name par p7) p8] _ :=
    pss_one (ps_ost (pv 0 rfl (.inl T.s1)) (pv 1 rfl (.inl T.s2) nd nc) (swap2 _ _ _ _))
  refine wpAt_of_wpAny (thn (last.run _ s4 _ H1 { nx := fun _ H2 => Q .non H2, rt := Q } I5 ⟨v, rfl, .ref e, rfl, e, C, rfl, S.oex, S.nof, .inl ⟨hexo, fin⟩⟩) fun fl s5 got => ?_)
  cases fl with
  | next =>
    obtain ⟨σ', H', J, q⟩ := got
    exact ⟨V.non, H', J.os, J.bare, J.base, J.hok, rfl, q⟩
  | ret u =>
    obtain ⟨y, σ', H', J, ry, q⟩ := got
    exact ⟨y, H', J.os, J.bare, J.base, J.hok, ry, q⟩
  | brk =>
    obtain ⟨_, _, _, q⟩ := got
    exact q.elim
  | cont =>
    obtain ⟨_, _, _, q⟩ := got
    exact q.elim
end

/-! ### raising such an error where nothing is handled; a new object whose __init__ may raise; isinstance of a caught error -/
theorem fun_okN {P : Program} {w : World} {K : PySem.W.Frag} {mg : Str → Option Value} {base : Heap} {x qual : Str} {st : Stmt} {f : Addr} {fd : FuncData} {N ps : List Str} {k : Nat} {sp : Sp} (F : Fun K x qual st f fd) (S : FnScope N ps (defScope st))
    (len : ∀ vs H Q E, sp vs H Q E → vs.length = ps.length)
    (body : ∀ (cdv : Value) (A : Around) (outer : List Env) (s : Shared) (H : Hp) (vs : List V) (Q : VK) (E : XK), Room k (A.deeper (PyProof.Rows.envOfC qual (defScope st) s.heap.objs.size f cdv)) → sp vs H Q E →
      ∃ t, PSs (cxOf (L2N.CX P w) P w K mg base N qual (defScope st) f cdv A outer s H E) (defBody st) t ∧ t { nx := fun _ H' => Q .non H', rt := Q } (start N vs) H) : FnOk P w K mg base (L2N.CX P w) (k + 1) f fd ps sp := by
  obtain ⟨oc, od, kV, doc, pm, an, cdv, ct, osl, rfl, lk, hcd⟩ := F.ex
  exact fn_of lk hcd S len fun A outer s H vs Q E hr h => body cdv A outer s H vs Q E hr h
/-- a def that lets nothing out lets nothing out -/
theorem weak_cx {P : Program} {w : World} {K : PySem.W.Frag} {mg : Str → Option Value} {base : Heap} {CX : CXT} {k : Nat} {f : Addr} {fd : FuncData} {ps : List Str} {sp : Sp} (F : FnOk P w K mg base CX0 k f fd ps sp) : FnOk P w K mg base CX k f fd ps sp :=
  ⟨F.len, fun A outer s H args us vs Q E hr e0 hb r h => codeAny_mono (F.run A outer s H args us vs Q E hr e0 hb r h) fun res s' q => by
    cases res with
    | error e => exact False.elim q
    | ok fl => cases fl <;> exact q⟩
def tSup (C : Addr) (fld : Str) (good : V → Prop) (ta : TA) : L2.St → Hp → XK → Prop := fun σ H Q => ta σ H fun vs H1 => ∃ v, vs = [v] ∧ good v ∧ ∀ d, H1 d = Option.none → Q (.ref C) (some d) (upd H1 d (.xd [(fld, v)]))
theorem sup_heap {H : Hp} {a d C : Addr} {fs : List (Str × V)} (ha : H a = Option.none) (ne : d ≠ a) : upd (del (upd (upd (upd H a (exo a C Option.none)) d (exd d fs)) a (exo a C (some d))) a) d (.xd fs) = upd H d (.xd fs) := by
  funext b
  by_cases hd : b = d
  · subst hd
    rw [upd_same, upd_same]
  · rw [upd_ne hd, upd_ne hd]
    by_cases hb : b = a
    · subst hb
      rw [del_same, ha]
    · rw [del_ne hb, upd_ne hb, upd_ne hd, upd_ne hb]
theorem pmk_sup {X : Cx} {x fld par : Str} {e : Expr} {ta : TA} {p pos : Pos} {C fI : Addr} {fd : FuncData} {good : V → Prop} (T : OexC X.K C) (iC : PySem.W.findIn X.K (.ref C) "__init__" = some (some (.ref fI))) (tI : PySem.W.typeIn X.K (.ref fI) = some (.type "function"))
    (F1 : FnOk X.prog X.w X.K X.mg X.base CX0 1 fI fd ["self", par] (spSup C fld good)) (hr : Room 2 X.A) (hb : Binds X.K fd ["self", par] []) (hg : Gl X x) (hm : X.mg x = some (.ref C)) (ha : PA X [e] ta)
    (hdb : (x == ("__debug__" : Str)) = false := by decide) (he : starEach (e :: []) X.env = (false, eval e X.env) :: starEach [] X.env := by rfl) (hpl : (backTo pos (starEach [] X.env)).any (·.1) = false := by rfl) :
    L2N.PMk X (.Call (.Name x p) [e] [] pos) (tSup C fld good ta) := by
  intro pins s σ H Q I hyp
  obtain ⟨nm, qn, N, bs, bm, sn, sub, ab, col, dd, k0, k1, k2, k3, k5, hC, hbm⟩ := T.cls
  refine wpAny_Call_Name_kw (ld_glob I hg hm ?_ hdb)
  refine PySem.W.callWith_K (h₀ := X.base) I.ok.mod.kin T.kC (thn (ha.run pos pins s σ H _ I hyp) fun us s1 got => ?_) he hpl
  obtain ⟨vs, H1, I1, rel, v, rfl, gv, q⟩ := got
  refine ⟨I1.kIn, ?_⟩
  show wpAny _ _ (call (.ref C) us) _ _ _
  obtain ⟨hp, g, dr, tk, os⟩ := s1
  have above : hp.objs.size ≤ hp.objs.size + 1 := Nat.le_succ _
  have free : H1 (hp.objs.size + 1) = Option.none := I1.hok.fresh above
  have grown : ∀ b o, hp.get? b = some o → ((hp.push (PySem.W.kdv_tup us)).push (PySem.HandSPX.excO C hp.objs.size)).get? b = some o := fun b o z => Heap.get?_push_of_some _ (Heap.get?_push_of_some _ z)
  have there : ((hp.push (PySem.W.kdv_tup us)).push (PySem.HandSPX.excO C hp.objs.size)).get? (hp.objs.size + 1) = some (PySem.HandSPX.excO C hp.objs.size) := by heap_get
  have I2 := I1.laid (t' := tk) (a := hp.objs.size + 1) (o := exo (hp.objs.size + 1) C Option.none) (h' := (hp.push (PySem.W.kdv_tup us)).push (PySem.HandSPX.excO C hp.objs.size)) grown above (exo_ok there)
  have rel2 : Vals [V.ref (hp.objs.size + 1), v] (Value.ref (hp.objs.size + 1) :: us) := .cons rfl rel
  have two : (Value.ref (hp.objs.size + 1) :: us).length = 2 := rel2.length.symm
  have bind := hb ⟨(hp.push (PySem.W.kdv_tup us)).push (PySem.HandSPX.excO C hp.objs.size), g, dr, tk, os⟩ (Value.ref (hp.objs.size + 1) :: us) I2.kIn (by rw [List.append_nil]; exact two)
  rw [List.append_nil] at bind
  have few : us.length ≤ sizeLine := by
    rw [← Vals.length rel, sizeLine_eq]
    show 1 ≤ 16777216
    decide
  refine wpAny_call (PySem.HandSPX.call_own F.excBase_ValueError (fun Y => PySem.HandSPX.refsVE_contains Y bm hbm) (I1.kIn _ _ hC) (PySem.W.looks_findIn I1.kIn iC) (fun self => PySem.W.bind_fn I1.kIn self tI) few ?_)
  refine codeAny_mono (F1.run _ X.stack _ _ ⟨Value.ref (hp.objs.size + 1) :: us, []⟩ _ _ (fun y H2 => y = .non ∧ ∃ d, H1 d = Option.none ∧ d ≠ hp.objs.size + 1 ∧ H2 = upd (upd (upd H1 (hp.objs.size + 1) (exo (hp.objs.size + 1) C Option.none)) d (exd d [(fld, v)])) (hp.objs.size + 1) (exo (hp.objs.size + 1) C (some d)))
    (fun _ _ _ => False) ((hr.make (k := 1) C us [])) (I2.env0.make C us []) bind rel2 ⟨_, v, rfl, upd_same, gv, fun d hd nd => ⟨rfl, d, (by rwa [upd_ne nd] at hd), nd, rfl⟩⟩) fun res s2 fin => ?_
  cases res with
  | error z => exact False.elim fin
  | ok fl =>
    cases fl with
    | ret u =>
      obtain ⟨y, H2, os2, bare2, un2, hok2, ry, rfl, d, hd, nd, rfl⟩ := fin
      obtain ⟨h2, g2, d2, t2, os'⟩ := s2
      have ea : upd (upd (upd H1 (hp.objs.size + 1) (exo (hp.objs.size + 1) C Option.none)) d (exd d [(fld, v)])) (hp.objs.size + 1) (exo (hp.objs.size + 1) C (some d)) (hp.objs.size + 1) = some (exo (hp.objs.size + 1) C (some d)) := upd_same
      have ed : upd (upd (upd H1 (hp.objs.size + 1) (exo (hp.objs.size + 1) C Option.none)) d (exd d [(fld, v)])) (hp.objs.size + 1) (exo (hp.objs.size + 1) C (some d)) d = some (exd d [(fld, v)]) := by rw [upd_ne nd, upd_same]
      obtain ⟨t0, G, J, kG, ge, hoe, na⟩ := mk_end0 (d2 := d2) (t2 := t2) I1 above grown un2 hok2 os2 bare2 ea ed hd
      rw [sup_heap free nd] at J na
      refine ⟨ry, hp.objs.size + 1, _, _, ⟨G, g2, d2, t2, os'⟩, _, .ref C, some d, rfl, J, kG, ge, hoe, ⟨rfl, rfl, fun fv z => ?_⟩, rfl, rfl, na, rfl, bare2, raises_own T.exC T.tyC, q d hd⟩
      cases z
      rfl
    | next => exact False.elim fin
    | brk => exact False.elim fin
    | cont => exact False.elim fin
/-- C(e, ..) within a try: what __init__ lets out is wished for at the slots -/
def tMakeS (C : Addr) (sp : Sp) (E : L2.St → XK) (t : TA) : TE := fun σ H Q => t σ H fun vs H1 => ∀ x dx, H1 x = Option.none → H1 dx = Option.none → dx ≠ x → sp (.ref x :: vs) (upd (upd H1 dx (.own x)) x (.ins C dx [])) (fun v H2 => v = .non ∧ Q (.ref x) H2) (E σ)
theorem pe_makeS {X : Cx} {CX : CXT} {k : Nat} {f C : Addr} {fd : FuncData} {ps : List Str} {sp : Sp} {E : L2.St → XK} {x : Str} {p pos : Pos} {e : Expr} {es : List Expr} {t : TA} (M : Mk X.K C f) (F : FnOk X.prog X.w X.K X.mg X.base CX k f fd ps sp) (hr : Room (k + 1) X.A) (hg : Gl X x) (hm : X.mg x = some (.ref C))
    (hb : Binds X.K fd ps []) (hx : ∀ (pins : List (Addr × Obj)) (σ : L2.St) (H : Hp) (s : Shared) (u : Value) (s' : Shared), L2.Inv X pins σ H s → CX X.stack H s (E σ) u s' → X.xe u s')
    (ha : PA X (e :: es) t) (hdb : (x == ("__debug__" : Str)) = false := by decide) (he : starEach (e :: es) X.env = (false, eval e X.env) :: starEach es X.env := by rfl) (hpl : (backTo pos (starEach es X.env)).any (·.1) = false := by rfl) :
    PE X (.Call (.Name x p) (e :: es) [] pos) (tMakeS C sp E t) := by
  constructor
  intro pins s σ H Q I hyp
  refine wpAny_Call_Name_kw (ld_glob I hg hm ?_ hdb)
  refine PySem.W.callWith_K (h₀ := X.base) I.ok.mod.kin M.kp (thn (ha.run pos pins s σ H _ I hyp) fun us s1 got => ?_) he hpl
  obtain ⟨vs, H1, I1, rel, q⟩ := got
  refine ⟨I1.kIn, ?_⟩
  have I2 := Inv.made (C := C) I1
  have prom := q (s1.heap.objs.size + 1) s1.heap.objs.size (I1.hok.fresh (Nat.le_succ _)) (I1.hok.fresh (Nat.le_refl _)) (Nat.ne_of_lt (Nat.lt_succ_self _))
  have rel2 : Vals (V.ref (s1.heap.objs.size + 1) :: vs) (Value.ref (s1.heap.objs.size + 1) :: us) := .cons rfl rel
  have len : (Value.ref (s1.heap.objs.size + 1) :: us ++ []).length = ps.length := by
    rw [List.append_nil, ← F.len _ _ _ _ prom]
    exact rel2.length.symm
  have bind := hb _ (Value.ref (s1.heap.objs.size + 1) :: us) I2.kIn len
  rw [List.append_nil] at bind
  refine wpAny_call (make_map (f := f) I1.kIn M.makes M.init (beq_iff_eq.mp M.fn) (codeAny_mono (F.run _ X.stack _ _ ⟨Value.ref (s1.heap.objs.size + 1) :: us, []⟩ _ _ _ (E σ) (hr.make C us []) (I2.env0.make C us []) bind rel2 prom) fun res s2 fin => ?_))
  cases res with
  | error z => exact hx pins σ _ _ z s2 I2 fin
  | ok fl =>
    cases fl with
    | ret u =>
      obtain ⟨v, H', I3, rv, rfl, q3⟩ := I2.after fin
      exact ⟨rv, V.ref (s1.heap.objs.size + 1), H', I3, rfl, q3⟩
    | next => exact False.elim fin
    | brk => exact False.elim fin
    | cont => exact False.elim fin
/-- isinstance(e, a class), e the caught error of the class at D with its dict -/
structure XcC (K : PySem.W.Frag) (D : Addr) : Prop where
  cl : (PySem.W.clsIn K D).isSome = true
  ga : PySem.W.findIn K (.ref D) "__getattribute__" = some (some (.builtin "BaseException.__getattribute__"))
  gt : PySem.W.findIn K (.ref D) "__getattr__" = some Option.none
  sub : PySem.W.subIn K (.ref D) (.type "BaseException") = some true
  has : PySem.W.hasDictIn K D = true
  cls : PySem.W.findIn K (.ref D) "__class__" = some (some (.builtin "object.__class__"))
  get : PySem.W.specialIn K (.builtin "object.__class__") "__get__" = some (some (.builtin "getset_descriptor.__get__"))
  tk : PySem.W.takesIn K (.builtin "object.__class__") = some true
  obj : PySem.W.mroIn K D (.type "object") = some true
theorem xc_at {X : Cx} {pins : List (Addr × Obj)} {σ : L2.St} {H : Hp} {s : Shared} {a D dd : Addr} {oe : Obj} {pn : List (Addr × Obj)} {fs : List (Str × V)} (I : L2.Inv (X.suite a ((a, oe) :: pn)) pins σ H s) (hz : Zc (.ref D) (some dd) oe) (hf : ∃ vs, oe.data = .fields vs) (hd : H dd = some (.xd fs)) :
    ∃ od, PySem.W.InstAt s.heap a oe D (some od) := by
  obtain ⟨got, _⟩ := I.pin (a, oe) (List.mem_append_left _ List.mem_cons_self)
  obtain ⟨vs, hv⟩ := hf
  have x : ObjOk X.prog X.w H s.heap dd (.xd fs) := I.hok dd _ hd
  obtain ⟨mA, ⟨od, _, _, ho, _⟩, _⟩ := x
  obtain ⟨oc, odd, oda, osl⟩ := oe
  obtain ⟨h1, h2⟩ := hz
  dsimp only at h1 h2 hv
  subst h1 h2 hv
  exact ⟨od, got, rfl, rfl, ho⟩
def rIsX (K : PySem.W.Frag) (a : Addr) (cls : Value) (d : Option Addr) : List V → Hp → VK → Prop := fun xs H Q => ∃ (D dd : Addr) (c : V) (cv : Value) (b : Bool) (fs : List (Str × V)), xs = [.ref a, c] ∧ cls = .ref D ∧ d = some dd ∧ XcC K D ∧ ClsV c cv ∧ H dd = some (.xd fs) ∧
  PySem.W.kitOne K (.ref D) cv = some b ∧ Q (.bl b) H
theorem call_isX {X : Cx} {a : Addr} {cls : Value} {d : Option Addr} {oe : Obj} {pn : List (Addr × Obj)} (hz : Zc cls d oe) (hf : ∃ vs, oe.data = .fields vs) : CallR (X.suite a ((a, oe) :: pn)) (.builtin "isinstance") (rIsX X.K a cls d) := by
  intro pins sh σ H xs us Q I rel hyp
  obtain ⟨D, dd, c, cv, b, fs, rfl, rfl, rfl, C, hcv, hd, e, q⟩ := hyp
  obtain ⟨u1, u2, rfl, r1, r2⟩ := vals2 rel
  have e2 := hcv.eq r2
  subst e2
  cases r1
  obtain ⟨od, J⟩ := xc_at I hz hf hd
  exact PySem.W.kia_one (PySem.W.kitx_exc C.cl C.ga C.gt C.sub C.cls C.get C.tk C.obj) I.kIn J e (fun z => nomatch z) fun tk => ⟨.bl b, H, I.kept (t' := tk) fun _ _ z => z, rfl, q⟩
def rIsXT (K : PySem.W.Frag) (a : Addr) (cls : Value) (d : Option Addr) : List V → Hp → VK → Prop := fun xs H Q => ∃ (D dd tp : Addr) (cs : List V) (cvs : List Value) (b : Bool) (fs : List (Str × V)), xs = [.ref a, .ref tp] ∧ cls = .ref D ∧ d = some dd ∧ XcC K D ∧
  H tp = some (.tup cs) ∧ Paired ClsV cs cvs ∧ H dd = some (.xd fs) ∧ PySem.W.kitAny K (.ref D) cvs = some b ∧ Q (.bl b) H
theorem call_isXT {X : Cx} {a : Addr} {cls : Value} {d : Option Addr} {oe : Obj} {pn : List (Addr × Obj)} (hz : Zc cls d oe) (hf : ∃ vs, oe.data = .fields vs) : CallR (X.suite a ((a, oe) :: pn)) (.builtin "isinstance") (rIsXT X.K a cls d) := by
  intro pins sh σ H xs us Q I rel hyp
  obtain ⟨D, dd, tp, cs, cvs, b, fs, rfl, rfl, rfl, C, ht, hcs, hd, e, q⟩ := hyp
  obtain ⟨u1, u2, rfl, r1, r2⟩ := vals2 rel
  cases r1
  cases (show u2 = Value.ref tp from r2)
  obtain ⟨od, J⟩ := xc_at I hz hf hd
  have x : ObjOk X.prog X.w H sh.heap tp (.tup cs) := I.hok tp _ ht
  obtain ⟨_, its, rv, ⟨oc, odd, oda, osl⟩, h1, h2, n, h3⟩ := x
  have e3 := ClsV.all hcs rv
  subst e3
  simp only at h2 h3
  subst h2 h3
  exact PySem.W.kia_tup (PySem.W.kitx_exc C.cl C.ga C.gt C.sub C.cls C.get C.tk C.obj) I.kIn J h1 e (fun z => nomatch z) fun tk => ⟨.bl b, H, I.kept (t' := tk) fun _ _ z => z, rfl, q⟩
theorem takes0N {X : Cx} : L2N.Takes X (fun _ _ _ _ => False) := fun _ _ x => by
  obtain ⟨_, _, _, _, _, _, _, _, _, _, _, _, _, _, _, _, z⟩ := x
  exact z.elim
theorem hot_of {X : Cx} {a : Addr} {cls : Value} {d : Option Addr} {oe : Obj} {pn : List (Addr × Obj)} (hz : L2N.Zn cls d oe) (hf : ∃ vs, oe.data = .fields vs) : L2H.HotC (X.suite a ((a, oe) :: pn)) := by
  obtain ⟨vs, hv⟩ := hf
  exact ⟨(a, oe), ⟨rfl, vs, hv, hz.2.2 vs hv⟩, List.mem_cons_self⟩
theorem fun_okH {P : Program} {w : World} {K : PySem.W.Frag} {mg : Str → Option Value} {base : Heap} {x qual : Str} {st : Stmt} {f : Addr} {fd : FuncData} {N ps : List Str} {k : Nat} {sp : Sp} (F : Fun K x qual st f fd) (S : FnScope N ps (defScope st))
    (len : ∀ vs H Q E, sp vs H Q E → vs.length = ps.length)
    (body : ∀ (cdv : Value) (A : Around) (outer : List Env) (s : Shared) (H : Hp) (vs : List V) (Q : VK) (E : XK) (p : Addr × Obj), L2H.RoomH k (A.deeper (PyProof.Rows.envOfC qual (defScope st) s.heap.objs.size f cdv)) → sp vs H Q E →
      ∃ t, PSs (L2H.cxH CX0 P w K mg base N qual (defScope st) f cdv A outer s H E p) (defBody st) t ∧ t { nx := fun _ H' => Q .non H', rt := Q } (start N vs) H) : L2H.FnH P w K mg base CX0 (k + 1) f fd ps sp := by
  obtain ⟨oc, od, kV, doc, pm, an, cdv, ct, osl, rfl, lk, hcd⟩ := F.ex
  exact L2H.fn_ofH lk hcd S len fun A outer s H vs Q E p _ hr h => body cdv A outer s H vs Q E p hr h

/-- e.f where the written part is told -/
theorem pe_fldK {X : Cx} {K : PySem.W.Frag} {e : Expr} {f : Str} {ta : TE} {pos : Pos} (hK : X.K = K) (he : PE X e ta) (hb : attributeBase e f X.env (eval e X.env) = eval e X.env) : PE X (.Attribute e f pos) (tFld K ta f) := by
  subst hK
  exact pe_fld he hb
/-- list(xs) where the written part is told -/
def rListOf (K : PySem.W.Frag) : List V → Hp → VK → Prop := fun zs H Q => ∃ (p : Addr) (ys : List V), zs = [V.ref p] ∧ (SqL K H p ys ∨ SqT K H p ys) ∧ (∀ l : Addr, H l = none → Q (.ref l) (upd H l (.lst ys)))
theorem cr_listK {X : Cx} {K : PySem.W.Frag} (hK : X.K = K) : CallR X (.type "list") (rListOf K) := by
  subst hK
  exact call_list_of
/-- len of a list or tuple where the written part is told -/
def rLenOf (K : PySem.W.Frag) : List V → Hp → VK → Prop := fun zs H Q => ∃ (p : Addr) (ys : List V), zs = [V.ref p] ∧ (SqL K H p ys ∨ SqT K H p ys) ∧ Q (.int (ys.length : Int)) H
theorem cr_lenK {X : Cx} {K : PySem.W.Frag} (hK : X.K = K) : CallR X (.builtin "len") (rLenOf K) := by
  subst hK
  exact call_len_seq

/-- o.m(e, ..) within a try: what the method lets out is wished for at the slots -/
def tMethT (C : Addr) (m : Str) (sp : Sp) (E : L2.St → XK) (ta : TE) (t : TA) : TE := fun σ H Q => ta σ H fun x H1 => ∃ (j dx : Addr) (fs : List (Str × V)), x = V.ref j ∧ H1 j = some (HO.ins C dx fs) ∧ fs.lookup m = Option.none ∧ (t σ H1 fun vs H2 => sp (x :: vs) H2 Q (E σ))
theorem pe_methT {X : Cx} {CX : CXT} {k : Nat} {f C : Addr} {fd : FuncData} {ps : List Str} {sp : Sp} {E : L2.St → XK} {m : Str} {apos pos : Pos} {o e : Expr} {es : List Expr} {ta : TE} {t : TA} {pl : Sem Bool} (he : PE X o ta) (c : L2.Cls X.K C) (hm : L2.Meth X.K C m f) (F : FnOk X.prog X.w X.K X.mg X.base CX k f fd ps sp)
    (hr : Room k X.A) (hb : Binds X.K fd ps []) (hx : ∀ σ, PassesAt CX X σ (E σ)) (ha : PA X (e :: es) t) (one : starEach (e :: es) X.env = (false, eval e X.env) :: starEach es X.env := by rfl) (nost : (backTo pos (starEach es X.env)).any (·.1) = false := by rfl)
    (text : eval (.Call (.Attribute o m apos) (e :: es) [] pos) X.env = (do let ov ← eval o X.env; standAt apos.atName; let (f, first) ← holding [ov] (getMethod ov m pl); callWith pos f first (backTo pos (starEach (e :: es) X.env)) (backToKw pos (keywordEach [] X.env))) := by rfl) :
    PE X (.Call (.Attribute o m apos) (e :: es) [] pos) (tMethT C m sp E ta t) := by
  constructor
  intro pins s σ H Q I hyp
  refine PySem.W.methodCall_KW (pl := pl) (thn (he.run pins s σ H _ I hyp) fun u s1 got => ?_) text
  obtain ⟨x, H1, I1, rx, j, dx, fs, ex, ej, nf, q⟩ := got
  subst ex
  have eu : u = Value.ref j := rx
  subst eu
  refine getmeth_ok I1 ej c hm nf (PySem.W.callWith_K (first := [Value.ref j]) (h₀ := X.base) I.ok.mod.kin hm.kp (thn (ha.run pos pins s1 σ H1 _ I1 q) fun us s2 got2 => ?_) one nost)
  obtain ⟨vs, H2, I2, rel, q2⟩ := got2
  exact ⟨I2.kIn, run_fnS (us := Value.ref j :: us) (vs := V.ref j :: vs) F hr hb (hx σ) I2 (.cons rfl rel) q2⟩
/-- str of a text or of an int -/
def rStrA : List V → Hp → VK → Prop := fun vs H Q => (∃ i : Int, vs = [V.int i] ∧ i.natAbs.log2 < 1920 ∧ Q (.str (toString i)) H) ∨ ∃ x : Str, vs = [V.str x] ∧ Q (.str x) H
theorem cr_strA {X : Cx} : CallR X (.type "str") rStrA := by
  intro pins sh σ H vs us Q I rel hyp
  rcases hyp with ⟨i, rfl, small, q⟩ | ⟨x, rfl, q⟩
  · exact call_str_int pins sh σ H _ us Q I rel ⟨i, rfl, small, q⟩
  · exact SkE.call_str_str pins sh σ H _ us Q I rel ⟨x, rfl, q⟩

/-! ### the same where an exception is handled -/
section
open PySem.W (ksEnv ksFn ks_superIn kxs_mw)
/-- the context of such an __init__, called while an exception is handled -/
def cxSupH (CX : CXT) (P : Program) (w : World) (K : PySem.W.Frag) (mg : Str → Option Value) (base : Heap) (N : List Str) (qual : Str) (scope : Scope) (f : Addr) (cd : Value) (cc : Addr) (A : Around) (outer : List Env) (s : Shared) (H : Hp) (E : XK) (p : Addr × Obj) : Cx where
  prog := P
  w := w
  K := K
  mg := mg
  base := base
  A := A.deeper (ksEnv qual scope s.heap.objs.size f cd cc)
  N := N
  s_0 := s
  H_0 := H
  env := ksEnv qual scope s.heap.objs.size f cd cc
  outer := outer
  stack := ksEnv qual scope s.heap.objs.size f cd cc :: outer
  ex := []
  fn := fun _ => false
  calm := false
  pn := [p]
  xe := fun e s' => wpAny (model P w) (A.deeper (ksEnv qual scope s.heap.objs.size f cd cc)) (leaving (ksEnv qual scope s.heap.objs.size f cd cc) e) (fun _ s2 => CX outer H s E e s2) (fun e2 s2 => CX outer H s E e2 s2) s'
theorem inv_supH {CX : CXT} {P : Program} {w : World} {K : PySem.W.Frag} {mg : Str → Option Value} {base : Heap} {par qual : Str} {scope : Scope} {f cc : Addr} {cd : Value} {A : Around} {outer : List Env} {s : Shared} {h1 : Heap} {H : Hp} {E : XK} {u0 u1 : Value} {v0 v1 : V} {tk : Nat} {D : Value}
    (kind : scope.kind = .function) (only : ∀ y ∈ scope.names, y.2 ≠ .cell ∧ (y.2 = .free → y.1 = ("__class__" : Str))) (l1 : scope.names.lookup ("self" : Str) = some .local) (l2 : scope.names.lookup par = some .local) (np : ¬ ("self" : Str) = par)
    {p : Addr × Obj} (hpin : L2H.PinOk outer H s p) (e0 : Env0 P w K mg base A outer s H) (r0 : RelV v0 u0) (r1 : RelV v1 u1)
    (cell : s.heap.IsCell cc (some D)) (free : H cc = Option.none) (small : cc < s.heap.objs.size)
    (ns : h1.Ns s.heap.objs.size (fun x => [(par, u1), (("self" : Str), u0)].lookup x)) (kp : ∀ b o, s.heap.get? b = some o → h1.get? b = some o) :
    L2.Inv (cxSupH CX P w K mg base ["self", par] qual scope f cd cc A outer s H E p) [] (start ["self", par] [v0, v1]) H { s with heap := h1, toks := tk } := by
  have one : ∀ (x : Str) (c : Addr), (ksEnv qual scope s.heap.objs.size f cd cc).cells.lookup x = some c → x = "__class__" ∧ c = cc := fun x c e => by
    have e' : [(("__class__" : Str), cc)].lookup x = some c := e
    by_cases z : x = "__class__"
    · subst z
      exact ⟨rfl, (Option.some.inj ((show some cc = some c from by simpa [List.lookup] using e'))).symm⟩
    · have b : (x == ("__class__" : Str)) = false := by simpa using z
      simp [List.lookup, b] at e'
  have noA : ∀ b : Addr, b ∉ (cxSupH CX P w K mg base ["self", par] qual scope f cd cc A outer s H E p).ex := fun b z => absurd (show b ∈ ([] : List Addr) from z) (by simp)
  have ok : (cxSupH CX P w K mg base ["self", par] qual scope f cd cc A outer s H E p).Ok := {
    mod := e0.mod
    kind := kind
    glob := rfl
    blt := rfl
    above := Nat.le_refl _
    inj := fun x y c h1 h2 => (one x c h1).1.trans (one y c h2).1.symm
    has := fun x hx => by
      have hx' : scope.names.lookup x = some .cell ∨ scope.names.lookup x = some .free := hx
      rcases hx' with hx' | hx'
      · exact absurd rfl (only _ (PySem.mem_of_lookup hx')).1
      · have e : x = "__class__" := (only _ (PySem.mem_of_lookup hx')).2 rfl
        subst e
        exact ⟨cc, rfl⟩
    cab := fun x c h => Bool.noConfusion h
    hd := fun z => Bool.noConfusion (show false = true from z)
    frames := Around.frames_deeper e0.frames
    stk := .inr ⟨rfl, rfl⟩
    exf := fun b z => absurd z (noA b)
    bs := e0.bs
    bsz := e0.bsz
    noex := fun b _ _ => noA b
    exfs := fun b z => absurd z (noA b)
    funs := e0.funs
    frf := e0.frf }
  exact {
    ok := ok
    os := rfl
    bare := e0.bare
    base := Un.kept kp
    loc := ⟨_, ns, fun i x v h1 h2 h3 => by
      match i, h1, h2 with
      | 0, h1, h2 =>
        cases h1
        cases h2
        refine ⟨u0, r0, .inl ⟨l1, ?_⟩⟩
        show [(par, u1), (("self" : Str), u0)].lookup ("self" : Str) = some u0
        have b : (("self" : Str) == par) = false := by simpa using np
        simp [List.lookup, b]
      | 1, h1, h2 =>
        cases h1
        cases h2
        refine ⟨u1, r1, .inl ⟨l2, ?_⟩⟩
        show (match par == par with | true => some u1 | false => [(("self" : Str), u0)].lookup par) = some u1
        rw [beq_self_eq_true]
      | i + 2, h1, h2 =>
        have h3 : (["self", par] : List Str)[i + 2]? = some x := h1
        simp at h3⟩
    cell := fun x c e => by
      obtain ⟨_, rfl⟩ := one x c e
      obtain ⟨o, ho, hc⟩ := cell
      exact ⟨_, o, kp _ _ ho, hc⟩
    free := e0.hok.fresh (Nat.le_refl _)
    freeC := fun x c e => by
      obtain ⟨_, rfl⟩ := one x c e
      exact free
    pin := fun q hq => by
      have eq : q = p := by simpa using (show q ∈ [p] ++ ([] : List (Addr × Obj)) from hq)
      rw [eq]
      exact ⟨kp _ _ hpin.get, hpin.free, Nat.ne_of_lt (Heap.lt_size hpin.get), hpin.nofs, hpin.nocell⟩
    hok := e0.hok.kept kp
    len := rfl }
/-- THE RULE, where an exception is handled: such an __init__ keeps its promise -/
theorem ok_supH {CX : CXT} {P : Program} {w : World} {K : PySem.W.Frag} {mg : Str → Option Value} {base : Heap} {C f : Addr} {fd : FuncData} {qual par fld : Str} {st : Stmt} {msg : Expr} {p0 p1 p2 p3 p4 p5 p6 p7 p8 : Pos} {good : V → Prop}
    (S : SupCls P K C qual par fld st f fd) (T : SupTxt par fld st msg p0 p1 p2 p3 p4 p5 p6 p7 p8) (np : ¬ ("self" : Str) = par) (nd : (par == ("__debug__" : Str)) = false) (nc : (par == ("__classdict__" : Str)) = false) (noS : mg "super" = Option.none)
    (hmsg : ∀ (cd : Value) (cc : Addr) (A : Around) (outer : List Env) (s : Shared) (H : Hp) (E : XK) (p : Addr × Obj) (e : Addr) (v : V), good v →
      ∃ ta, PA (cxSupH CX P w K mg base ["self", par] qual (defScope st) f cd cc A outer s H E p) [msg] ta ∧ ∀ H1 Q, (∀ x, Q [x] H1) → ta (start ["self", par] [.ref e, v]) H1 Q)
    (star : ∀ env, starEach [msg] env = [(false, eval msg env)]) (inter : ∀ L g cd cc, interactive (ksEnv qual (defScope st) L g cd cc) = false) (swap : ∀ L g cd cc, swapsWith (.Call (.Attribute (.Call (.Name "super" p0) [] [] p1) "__init__" p2) [msg] [] p3) Option.none p4.line (ksEnv qual (defScope st) L g cd cc) = pure false)
    (swap2 : ∀ L g cd cc, swapsWith (.Name par p7) (some (.Attribute (.Name "self" p5) fld p6)) p8.line (ksEnv qual (defScope st) L g cd cc) = pure false)
    (pl : Sem Bool) (he : ∀ (env : Env), eval (.Call (.Attribute (.Call (.Name "super" p0) [] [] p1) "__init__" p2) [msg] [] p3) env = (do
      let ov ← attributeBase (.Call (.Name "super" p0) [] [] p1) "__init__" env (eval (.Call (.Name "super" p0) [] [] p1) env)
      standAt p2.atName
      let (f, first) ← holding [ov] (getMethod ov "__init__" pl)
      callWith p3 f first (backTo p3 (starEach [msg] env)) [])) :
    L2H.FnH P w K mg base CX 1 f fd ["self", par] (spSup C fld good) := by
  obtain ⟨oc, od, kV, doc, pm, an, cda, ct, osl, cc, cl, cld, csl, ccl, cdd, vs, ccs, file, tf, rfl, lk, hcd, hcell, hcode, hvs, hfile⟩ := S.fn
  refine ⟨fun vs H Q E h => ?_, fun A outer s H args us vs0 Q E p hr hot hpin e0 hb rel hsp => ?_⟩
  · obtain ⟨e, v, rfl, _⟩ := h
    rfl
  obtain ⟨e, v, rfl, hexo, hgood, fin⟩ := hsp
  have KX : K.In s.heap := e0.mod.kin.keeps fun b o z => (e0.bs b o z).1
  have lim : s.heap.NoLimit := e0.mod.nolimit.keeps fun b o z => (e0.bs b o z).1
  obtain ⟨u0, u1, rfl, r0, r1⟩ := vals2 rel
  have isCell : s.heap.IsCell cc (some (.ref C)) := ⟨_, KX _ _ hcell, rfl⟩
  have freeC : H cc = Option.none := (e0.bs _ _ (e0.mod.kin _ _ hcell)).2
  refine ks_codeAny_call_defAt (fd := ksFn "__init__" qual (defArgs st) (defBody st) (defScope st) .none kV doc pm an (.ref cda) ct cc) (body := defBody st) (binds := [(("self" : Str), u0), (par, u1)]) hr.depth (KX _ _ lk) rfl lim (PySem.W.codeRec_of KX hcd) rfl hb (fun x hx => (T.only x hx).1) ?_ (fun h1 ns kp => ?_) T.co T.gen T.kind
  · intro y hy
    rcases List.mem_cons.mp hy with rfl | hy
    · exact T.s1
    · rw [List.mem_singleton.mp hy]
      exact T.s2
  have I : L2.Inv (cxSupH CX P w K mg base ["self", par] qual (defScope st) f (.ref cda) cc A outer s H E p) [] (start ["self", par] [.ref e, v]) H { s with heap := h1, toks := s.toks + 2 } :=
    inv_supH T.kind T.only T.s1 T.s2 np hpin e0 r0 r1 isCell freeC (Heap.lt_size (KX _ _ hcell)) ns kp
  show wpAt (model P w) (A.deeper (ksEnv qual (defScope st) s.heap.objs.size f (.ref cda) cc)) (.func (defBody st) (ksEnv qual (defScope st) s.heap.objs.size f (.ref cda) cc)) (execs (defBody st) (ksEnv qual (defScope st) s.heap.objs.size f (.ref cda) cc)) _ _ _
  rw [T.body]
  obtain ⟨hp, g, d, tk, os⟩ := s
  have up : ∀ b o, base.get? b = some o → h1.get? b = some o := fun b o z => kp b o (e0.bs b o z).1
  have K1 : K.In h1 := e0.mod.kin.keeps up
  obtain ⟨mb, hmb, hbb⟩ := e0.mod.blt
  obtain ⟨ar, har, earg⟩ := T.ps
  cases (show u0 = Value.ref e from r0)
  obtain ⟨t1, hx⟩ := exo_at I.hok hexo
  obtain ⟨nm, qn, N, bs, bm, sn, sub, ab, col, dd, k0, k1, k2, k3, k5, hC, hbm⟩ := S.oex.cls
  have hcl : PySem.W.clsIn K C = some { name := nm, bases := bs, mro := .ref C :: bm, ns := N, qualname := qn, hasDict := true, slotNames := sn, subclasses := sub, abstract := ab, collection := col, hasDel := false } := by
    unfold PySem.W.clsIn
    rw [hC]
  refine ks_wpAt_execs_cons (ks_wpAt_Expr_any (ks_wpAt_MethodCall (pl := pl) ?_ (he _)) (inter _ _ _ _) (swap _ _ _ _))
  refine ks_wpAt_super_base (env := ksEnv qual (defScope st) hp.objs.size f (.ref cda) cc) T.s4 T.s3 (by decide) rfl (kp _ _ (KX _ _ lk)) rfl har rfl (K1 _ _ hcode) rfl hvs hfile S.topS ?_
  refine PySem.W.ks_loadName_global T.kind T.s4 (PySem.Calls.loadGlobal_builtin (env := ksEnv qual (defScope st) hp.objs.size f (.ref cda) cc) (e0.mod.glob.keeps up) noS (hmb.keeps up) ((hbb "super" (by decide)).trans (by decide +kernel)) ⟨rfl, ?_⟩)
  refine wpAny_loadName_free T.kind T.s3 rfl ⟨_, K1 _ _ hcell, rfl⟩ ?_
  rw [earg]
  refine wpAny_loadName_local T.kind T.s1 ns (v := .ref e) ?_ ?_
  · show [(par, u1), (("self" : Str), Value.ref e)].lookup ("self" : Str) = some (.ref e)
    have b : (("self" : Str) == par) = false := by simpa using np
    simp [List.lookup, b]
  refine ks_wpAny_isType_cls (K1 _ _ hC) rfl ⟨rfl, ?_⟩
  refine ks_wpAny_call_super (K1 _ _ hC) rfl hx rfl (fun c z => by cases z) (PySem.W.looks_mroIn K1 S.mroC) (fun h2 hso kp2 => ?_)
  have K2 : K.In h2 := K1.keeps kp2
  have hx2 := kp2 _ _ hx
  have inst : PySem.W.InstAt h2 e { cls := .ref C, dict := Option.none, data := .fields #[.ref t1, .none, .none, .none, .bool false, .none] } C Option.none := ⟨hx2, rfl, rfl, trivial⟩
  have hf := S.sup
  unfold ks_superIn at hf
  rw [hcl] at hf
  have neC : e ≠ C := fun z => by
    have q := (e0.bs _ _ (e0.mod.kin _ _ hC)).2
    rw [← z, hexo] at q
    cases q
  refine PySem.W.kxs_getMethod PySem.W.kxs_ValueError hso (PySem.W.looks_opaque K2 S.opq) (l₀ := .ref C :: bm) ((PySem.W.looks_clsIn K2 hcl).andThen .now) rfl K2 hf (inst.type.andThen (PySem.W.looks_subIn K2 S.subV)) neC (by decide) ?_
  have hmw : (h2.push (kxs_mw "ValueError.__init__" e)).get? h2.objs.size = some (kxs_mw "ValueError.__init__" e) := Heap.get?_push_size _ rfl
  have kp3 : ∀ b o, h1.get? b = some o → (h2.push (kxs_mw "ValueError.__init__" e)).get? b = some o := fun b o z => Heap.get?_push_of_some _ (kp2 b o z)
  have Ih := I.kept (h' := h2) (t' := tk + 2) kp2
  have I2 := I.kept (h' := h2.push (kxs_mw "ValueError.__init__" e)) (t' := tk + 2 + 1) kp3
  have I3 : L2.Inv (cxSupH CX P w K mg base ["self", par] qual (defScope st) f (.ref cda) cc A outer ⟨hp, g, d, tk, os⟩ H E p) [(h2.objs.size, kxs_mw "ValueError.__init__" e)] (start ["self", par] [.ref e, v]) H ⟨h2.push (kxs_mw "ValueError.__init__" e), g, d, tk + 2 + 1, os⟩ := { I2 with
    pin := fun q hq => by
      rcases List.mem_append.mp (show q ∈ [p] ++ [(h2.objs.size, kxs_mw "ValueError.__init__" e)] from hq) with hq | hq
      · exact I2.pin q (List.mem_append_left _ hq)
      cases List.mem_singleton.mp hq
      refine ⟨hmw, Ih.hok.fresh (Nat.le_refl _), Nat.ne_of_gt Ih.lt, Ih.nofs (Nat.le_refl _), fun c z => by cases z⟩ }
  obtain ⟨ta, pa, rd⟩ := hmsg (.ref cda) cc A outer ⟨hp, g, d, tk, os⟩ H E p e v hgood
  have st1 := star (ksEnv qual (defScope st) hp.objs.size f (.ref cda) cc)
  have ran : wpAny (model P w) (A.deeper (ksEnv qual (defScope st) hp.objs.size f (.ref cda) cc)) (spliced (backTo p3 (starEach [msg] (ksEnv qual (defScope st) hp.objs.size f (.ref cda) cc)))) _ _ _ :=
    pa.run p3 _ _ _ _ (fun vs H1 => H1 = H ∧ vs.length = 1) I3 (rd H _ fun x => ⟨rfl, rfl⟩)
  show wpAny _ _ (callWith p3 (.ref h2.objs.size) [] (backTo p3 (starEach [msg] (ksEnv qual (defScope st) hp.objs.size f (.ref cda) cc))) []) _ _ _
  rw [st1] at ran ⊢
  refine PySem.W.kxs_callWith (i := "ValueError.__init__") (x := e) (u := h2.objs.size) rfl (PySem.Calls.evalArgs_plain (thn ran fun us s3 got => ?_))
  obtain ⟨vs1, H1, I4, rel1, rfl, len1⟩ := got
  have hu := (I4.pin _ (List.mem_append_right [p] List.mem_cons_self)).1
  refine ⟨hu, call_mw S.oex I4 hexo hu (by show us.length ≤ sizeLine; rw [← Vals.length rel1, len1, sizeLine_eq]; decide) fun s4 I5 => ?_⟩
  have last : PSs (cxSupH CX P w K mg base ["self", par] qual (defScope st) f (.ref cda) cc A outer ⟨hp, g, d, tk, os⟩ H1 E p) [.Assign [.Attribute (.Name "self" p5) fld p6] (.Name par p7) p8] _ :=
    pss_one (ps_ost (pv 0 rfl (.inl T.s1)) (pv 1 rfl (.inl T.s2) nd nc) (swap2 _ _ _ _))
  refine wpAt_of_wpAny (thn (last.run _ s4 _ H1 { nx := fun _ H2 => Q .non H2, rt := Q } I5 ⟨v, rfl, .ref e, rfl, e, C, rfl, S.oex, S.nof, .inl ⟨hexo, fin⟩⟩) fun fl s5 got => ?_)
  cases fl with
  | next =>
    obtain ⟨σ', H', J, q⟩ := got
    exact ⟨V.non, H', J.os, J.bare, J.base, J.hok, rfl, q⟩
  | ret u =>
    obtain ⟨y, σ', H', J, ry, q⟩ := got
    exact ⟨y, H', J.os, J.bare, J.base, J.hok, ry, q⟩
  | brk =>
    obtain ⟨_, _, _, q⟩ := got
    exact q.elim
  | cont =>
    obtain ⟨_, _, _, q⟩ := got
    exact q.elim
end
theorem pmk_weak {X : Cx} {e : Expr} {t : L2.St → Hp → XK → Prop} (h : L2N.PMk X e t) : PMk X e t := fun pins s σ H Q I q => thn (h pins s σ H Q I q) fun _ _ ⟨a, oe, vs, sI, H1, cls, d, e1, J, k, e2, e3, z, x⟩ => ⟨a, oe, vs, sI, H1, cls, d, e1, J, k, e2, e3, z.zc, x⟩
theorem sky_imp {B : Heap} {l : List Env} {a L : Addr} {Z Z' : Obj → Prop} {h : Heap} (z : ∀ o, Z o → Z' o) (x : Sky B l a Z L h) : Sky B l a Z' L h := by
  rcases x with ⟨h1, h2, h3, oe, vs, e1, e2, e3⟩ | x | ⟨h1, h2, h3, x⟩
  · exact .inl ⟨h1, h2, h3, oe, vs, e1, z _ e2, e3⟩
  · exact .inr (.inl (L2H.flyingZ_imp z x))
  · exact .inr (.inr ⟨h1, h2, h3, L2H.tracedZ_imp z x⟩)
theorem takesN_of {X : Cx} {W : WX} (tk : Takes X W) : L2N.Takes X W := fun u s' ⟨a, B, sI, pins, σ, H, cls, d, e, I, nb, up, sky, x⟩ => tk u s' ⟨a, B, sI, pins, σ, H, cls, d, e, I, nb, up, sky_imp (fun _ z => z.zc) sky, x⟩
/-- a statement whose reading is kept whole -/
def tWhole (t : TS) : TS := t
theorem ps_whole {X : Cx} {st : Stmt} {t : TS} (h : PS X st t) : PS X st (tWhole t) := h

structure TxtE (P : Program) (K : PySem.W.Frag) (mg : Str → Option Value) (a : Ads) : Prop where
  g_BadLine : mg "BadLine" = some (.ref a.C_BadLine)
  sup_BadLine : ∃ fd, SupCls P K a.C_BadLine "BadLine.__init__" "at" "at" s_BadLine_init a.d_BadLine_init fd ∧ Binds K fd ["self", "at"] []
  iC_BadLine : PySem.W.findIn K (.ref a.C_BadLine) "__init__" = some (some (.ref a.d_BadLine_init))
  tI_BadLine : PySem.W.typeIn K (.ref a.d_BadLine_init) = some (.type "function")
  oex_BadLine : OexC K a.C_BadLine
  xc_BadLine : XcC K a.C_BadLine
  g_BadJournal : mg "BadJournal" = some (.ref a.C_BadJournal)
  sup_BadJournal : ∃ fd, SupCls P K a.C_BadJournal "BadJournal.__init__" "at" "at" s_BadJournal_init a.d_BadJournal_init fd ∧ Binds K fd ["self", "at"] []
  iC_BadJournal : PySem.W.findIn K (.ref a.C_BadJournal) "__init__" = some (some (.ref a.d_BadJournal_init))
  tI_BadJournal : PySem.W.typeIn K (.ref a.d_BadJournal_init) = some (.type "function")
  oex_BadJournal : OexC K a.C_BadJournal
  xc_BadJournal : XcC K a.C_BadJournal
  g_Refused : mg "Refused" = some (.ref a.C_Refused)
  sup_Refused : ∃ fd, SupCls P K a.C_Refused "Refused.__init__" "vote" "vote" s_Refused_init a.d_Refused_init fd ∧ Binds K fd ["self", "vote"] []
  iC_Refused : PySem.W.findIn K (.ref a.C_Refused) "__init__" = some (some (.ref a.d_Refused_init))
  tI_Refused : PySem.W.typeIn K (.ref a.d_Refused_init) = some (.type "function")
  oex_Refused : OexC K a.C_Refused
  xc_Refused : XcC K a.C_Refused
  g_KINDS : mg "KINDS" = some (.ref a.P_KINDS)
  s_KINDS : ∀ H, SqT K H a.P_KINDS [V.str "proposal", V.str "prevote", V.str "precommit"]
  exm_BadLine_BadLine : PySem.W.exmOne K (.ref a.C_BadLine) (.ref a.C_BadLine) = some true
  exm_Refused_Refused : PySem.W.exmOne K (.ref a.C_Refused) (.ref a.C_Refused) = some true
  g_TribunalError : mg "TribunalError" = some (.ref a.C_TribunalError)
  exm_TribunalError_BadJournal : PySem.W.exmOne K (.ref a.C_BadJournal) (.ref a.C_TribunalError) = some true
  kt_BadJournal_BadJournal : PySem.W.kitOne K (.ref a.C_BadJournal) (.ref a.C_BadJournal) = some true

/-! ### journals -/
theorem hu65 {k : Nat} {A : Around} (r : Room k A) : A.units + 65 < cLine := by
  have := r.un
  omega
instance : Inhabited Sm := ⟨⟨.prop, 0, 0, none, none⟩⟩
def SsAt (H : Hp) (ps : List Addr) (ms : List Sm) : Prop := ps.length = ms.length ∧ ∀ i, i < ms.length → SmAt H (ps.getD i 0) (ms.getD i default)
theorem SsAt.nil {H : Hp} : SsAt H [] [] := ⟨rfl, fun i h => absurd h (Nat.not_lt_zero i)⟩
theorem SsAt.same {H H' : Hp} {ps : List Addr} {ms : List Sm} (h : SsAt H ps ms) (s : Same H H') : SsAt H' ps ms := ⟨h.1, fun i hi => s _ _ (h.2 i hi)⟩
theorem ne_ls {H : Hp} {p l : Addr} {m : Sm} {ys : List V} (h : SmAt H p m) (hl : H l = some (.lst ys)) : p ≠ l := fun e => by
  have h : H p = some (.tup m.vals) := h
  rw [e, hl] at h
  cases h
/-- all but the object at l stays -/
def But (l : Addr) (H H' : Hp) : Prop := ∀ b o, b ≠ l → H b = some o → H' b = some o
theorem But.sm {l : Addr} {H H' : Hp} {p : Addr} {m : Sm} {ys : List V} (k : But l H H') (hl : H l = some (.lst ys)) (h : SmAt H p m) : SmAt H' p m := k _ _ (ne_ls h hl) h
theorem But.ss {l : Addr} {H H' : Hp} {ps : List Addr} {ms : List Sm} {ys : List V} (k : But l H H') (hl : H l = some (.lst ys)) (h : SsAt H ps ms) : SsAt H' ps ms := ⟨h.1, fun i hi => k.sm hl (h.2 i hi)⟩
theorem SsAt.snoc {H : Hp} {ps : List Addr} {ms : List Sm} {p : Addr} {m : Sm} (h : SsAt H ps ms) (e : SmAt H p m) : SsAt H (ps ++ [p]) (ms ++ [m]) := by
  refine ⟨by rw [List.length_append, List.length_append, h.1]; rfl, fun i hi => ?_⟩
  rw [List.length_append, List.length_singleton] at hi
  rcases Nat.lt_or_ge i ms.length with z | z
  · rw [getD_left (by rw [h.1]; exact z), getD_left z]
    exact h.2 i z
  · have ei : i = ms.length := by omega
    subst ei
    rw [getD_last]
    have : (ps ++ [p]).getD ms.length 0 = p := by rw [← h.1, getD_last]
    rw [this]
    exact e
theorem SsAt.cons {H : Hp} {p : Addr} {ps : List Addr} {m : Sm} {ms : List Sm} (h : SsAt H (p :: ps) (m :: ms)) : SmAt H p m ∧ SsAt H ps ms :=
  ⟨h.2 0 (Nat.succ_pos _), Nat.succ.inj h.1, fun i hi => h.2 (i + 1) (Nat.succ_lt_succ hi)⟩
def smD (m : Sm) : PyData := .tuple m.dat
theorem dp_sms {K : PySem.W.Frag} {H : Hp} : ∀ {ps : List Addr} {ms : List Sm}, SsAt H ps ms → DpAll K H (ps.map V.ref) (ms.map smD)
  | [], [], _ => .nil
  | p :: ps, m :: ms, h => .cons (dp_sm h.cons.1) (dp_sms h.cons.2)
  | [], m :: ms, h => nomatch h.1
  | p :: ps, [], h => nomatch h.1
def OkM (ms : List Sm) : Prop := ∀ m ∈ ms, OkS m.b
theorem lay_sms : ∀ {ms : List Sm}, OkM ms → PyData.canLayAll0 (ms.map smD) = true
  | [], _ => by simp [PyData.canLayAll0]
  | m :: ms, o => by
    simp only [List.map_cons, PyData.canLayAll0]
    rw [show PyData.canLay0 (smD m) = true from lay_sm m (o m List.mem_cons_self), lay_sms fun y hy => o y (List.mem_cons_of_mem _ hy)]
    rfl
theorem depth_sms : ∀ ms : List Sm, PyData.depthAll (ms.map smD) ≤ 1
  | [] => by simp [PyData.depthAll]
  | m :: ms => by
    have := depth_sms ms
    have h : PyData.depth (smD m) = 1 := depth_sm m
    simp only [List.map_cons, PyData.depthAll, h]
    omega
theorem shaped_sms {ms : List Sm} (o : OkM ms) : SeqAt.shaped (.list (ms.map smD)) = true := by
  have h := depth_sms ms
  unfold SeqAt.shaped
  have e : PyData.depth (.list (ms.map smD)) = PyData.depthAll (ms.map smD) + 1 := by simp only [PyData.depth]
  have l : PyData.canLay0 (.list (ms.map smD)) = true := by simp only [PyData.canLay0, lay_sms o]
  rw [l, e, decide_eq_true (show PyData.depthAll (ms.map smD) + 1 ≤ 64 by omega)]
  rfl
theorem eqv_sms {ms : List Sm} (o : OkM ms) : PyData.eqv (.list (ms.map smD)) (.list (ms.map smD)) = true := SeqAt.eqv_refl _ (by
  simp only [PyData.canLay0, lay_sms o])
/-- m in ms -/
def memS (ms : List Sm) (m : Sm) : Bool := (ms.map smD).any fun z => PyData.eqv z (smD m)
theorem ne_wsg : ¬ (("who" : Str) = "signed") := by decide +kernel
def jfs (who : Int) (L : Addr) : List (Str × V) := putF "signed" (.ref L) (putF "who" (.int who) [])
theorem jfs_w (who : Int) (L : Addr) : (jfs who L).lookup ("who" : Str) = some (.int who) := by
  unfold jfs
  rw [lookup_putF, if_neg ne_wsg, lookup_putF, if_pos rfl]
theorem jfs_s (who : Int) (L : Addr) : (jfs who L).lookup ("signed" : Str) = some (.ref L) := by
  unfold jfs
  rw [lookup_putF, if_pos rfl]
theorem jfs_no (who : Int) (L : Addr) {m : Str} (h1 : ¬ m = "who") (h2 : ¬ m = "signed") : (jfs who L).lookup m = none := by
  unfold jfs
  rw [lookup_putF, if_neg h2, lookup_putF, if_neg h1]
  rfl
def JAt (C : Addr) (H : Hp) (j : Addr) (who : Int) (L : Addr) : Prop := ∃ dx, H j = some (.ins C dx (jfs who L))
/-- the first of the first n that clashes with m -/
def fcl (ms : List Sm) (m : Sm) : Nat → Option Nat
  | 0 => none
  | n + 1 => match fcl ms m n with
    | some k => some k
    | none => if clashM (ms.getD n default) m then some n else none
theorem fcl_none {ms : List Sm} {m : Sm} : ∀ {n : Nat}, fcl ms m n = none → ∀ k, k < n → clashM (ms.getD k default) m = false
  | 0, _, k, hk => absurd hk (Nat.not_lt_zero _)
  | n + 1, h, k, hk => by
    rw [fcl] at h
    split at h
    · cases h
    · rename_i e
      split at h
      · cases h
      · rename_i c
        rcases Nat.lt_or_ge k n with z | z
        · exact fcl_none e k z
        · have : k = n := by omega
          rw [this]
          simpa using c
theorem fcl_keep {ms : List Sm} {m : Sm} {n k : Nat} (h : fcl ms m n = some k) : fcl ms m (n + 1) = some k := by
  rw [fcl, h]
theorem fcl_new {ms : List Sm} {m : Sm} {n : Nat} (h : fcl ms m n = none) (c : clashM (ms.getD n default) m = true) : fcl ms m (n + 1) = some n := by
  rw [fcl, h]
  exact if_pos c
theorem fcl_no {ms : List Sm} {m : Sm} {n : Nat} (h : fcl ms m n = none) (c : clashM (ms.getD n default) m = false) : fcl ms m (n + 1) = none := by
  rw [fcl, h]
  exact if_neg (by rw [c]; exact Bool.false_ne_true)
theorem fcl_mono {ms : List Sm} {m : Sm} {n k : Nat} (h : fcl ms m n = some k) : ∀ d, fcl ms m (n + d) = some k
  | 0 => h
  | d + 1 => fcl_keep (fcl_mono h d)
theorem fcl_lt {ms : List Sm} {m : Sm} : ∀ {n k : Nat}, fcl ms m n = some k → k < n
  | 0, k, h => nomatch h
  | n + 1, k, h => by
    rw [fcl] at h
    split at h
    · rename_i e
      cases h
      have := fcl_lt e
      omega
    · split at h
      · cases h
        exact Nat.lt_succ_self _
      · cases h
/-- what is signed behind m -/
def after (ps : List Addr) (ms : List Sm) (p : Addr) (m : Sm) : List Addr := if memS ms m then ps else ps ++ [p]
def afterM (ms : List Sm) (m : Sm) : List Sm := if memS ms m then ms else ms ++ [m]
theorem shaped_pair {who : Int} {m : Sm} (o : OkS m.b) : SeqAt.shaped (.tuple [.int who, .tuple m.dat]) = true := shaped_lt (x := ⟨who, m⟩) o
theorem eqv_pair {who : Int} {m : Sm} (o : OkS m.b) : PyData.eqv (.tuple [.int who, .tuple m.dat]) (.tuple [.int who, .tuple m.dat]) = true := eqv_lt (x := ⟨who, m⟩) o
def spJI (K : PySem.W.Frag) (C : Addr) : Sp := fun vs H Q _ => ∃ (p dx : Addr) (who : Int), vs = [.ref p, .int who] ∧ H p = some (.ins C dx []) ∧ ∀ (L : Addr) (H' : Hp), H L = none → H' p = some (.ins C dx (jfs who L)) → H' L = some (.lst []) → (∀ b o, b ≠ p → H b = some o → H' b = some o) → Q .non H'
def spSign (K : PySem.W.Frag) (C CR : Addr) : Sp := fun vs H Q E => ∃ (j p L : Addr) (who : Int) (ps : List Addr) (ms : List Sm) (m : Sm), vs = [.ref j, .ref p] ∧ JAt C H j who L ∧ H L = some (.lst (ps.map V.ref)) ∧ SsAt H ps ms ∧ SmAt H p m ∧ ms.length ≤ 900 ∧ OkM ms ∧ OkS m.b ∧
  (∀ k, fcl ms m ms.length = some k → ∀ d H', Same H H' → H' d = some (.xd [(("vote" : Str), .ref (ps.getD k 0))]) → E (.ref CR) (some d) H') ∧
  (fcl ms m ms.length = none → ∀ t H', But L H H' → H' L = some (.lst ((after ps ms p m).map V.ref)) → H' t = some (.tup [.int who, .ref p]) → Q (.ref t) H')
def spLast (K : PySem.W.Frag) (C : Addr) : Sp := fun vs H Q _ => ∃ (j L : Addr) (who h : Int) (ps : List Addr) (ms : List Sm), vs = [.ref j, .int h] ∧ JAt C H j who L ∧ H L = some (.lst (ps.map V.ref)) ∧ SsAt H ps ms ∧ ms.length ≤ 900 ∧ (∀ m ∈ ms, 0 ≤ m.t) ∧
  ∀ (z : Int) H', Same H H' → (z = 0 ∨ z ∈ (ms.filter fun m => decide (m.h = h)).map Sm.t) → 0 ≤ z → (∀ m ∈ ms, m.h = h → m.t ≤ z) → Q (.int z) H'

/-! ### words and lines -/
def wordV : V → Str
  | .non => "-"
  | .int i => toString i
  | .str x => x
  | _ => ""
def lineS (who : Int) (m : Sm) : Str := Txt.join " " ((toString who : Str) :: m.vals.map wordV)
/-- small numbers and names -/
def SmallV (v : V) : Prop := v = .non ∨ (∃ i : Int, v = .int i ∧ 0 ≤ i ∧ i < 1000000000) ∨ ∃ x : Str, v = .str x ∧ x.length ≤ 60 ∧ PyData.strOk x = true
def SmallM (m : Sm) : Prop := ∀ v ∈ m.vals, SmallV v
theorem strOk_of {x : Str} (h : ∀ c ∈ TL.tl x, c < 1114112) : PyData.strOk x = true := by
  unfold PyData.strOk
  rw [← Array.all_toList]
  exact List.all_eq_true.mpr fun c hc => decide_eq_true (h c hc)
theorem tos_nat {i : Int} (h0 : 0 ≤ i) : (toString i : Str) = Str.ofString (toString ((i.toNat : Nat) : Int)) := by
  rw [Int.toNat_of_nonneg h0]
theorem num_ok {i : Int} (h0 : 0 ≤ i) (h1 : i < 1000000000) : (toString i : Str).length ≤ 60 ∧ PyData.strOk (toString i : Str) = true := by
  have e : TL.tl (toString i : Str) = TL.numL i.toNat := by
    rw [tos_nat h0, TL.tl_num]
  refine ⟨?_, strOk_of fun c hc => ?_⟩
  · rw [TL.len_tl, e]
    exact Nat.le_trans (TL.numL_len (k := 9) (by decide) (by omega)) (by decide)
  · rw [e] at hc
    have := TL.numL_digits i.toNat c hc
    omega
theorem log_small {i : Int} (h0 : 0 ≤ i) (h1 : i < 1000000000) : i.natAbs.log2 < 1920 := by
  rcases Nat.eq_zero_or_pos i.natAbs with z | z
  · rw [z]
    decide
  · have : i.natAbs.log2 < 30 := (Nat.log2_lt (Nat.ne_of_gt z)).mpr (by omega)
    omega
theorem word_ok {v : V} (h : SmallV v) : (wordV v).length ≤ 60 ∧ PyData.strOk (wordV v) = true := by
  rcases h with rfl | ⟨i, rfl, h0, h1⟩ | ⟨x, rfl, h⟩
  · exact ⟨by decide +kernel, by decide +kernel⟩
  · exact num_ok h0 h1
  · exact h
theorem vals_len (m : Sm) : m.vals.length ≤ 5 := by
  obtain ⟨mk, mh, mt, mb, ml⟩ := m
  cases mk <;> simp [Sm.vals]
theorem strOk_app {a b : Str} (h1 : PyData.strOk a = true) (h2 : PyData.strOk b = true) : PyData.strOk (a ++ b) = true := by
  unfold PyData.strOk at *
  show (a.cps ++ b.cps).all _ = true
  rw [Array.all_append, h1, h2]
  rfl
theorem strOk_join {y : Str} (hy : PyData.strOk y = true) : ∀ {parts : List Str}, (∀ x ∈ parts, PyData.strOk x = true) → PyData.strOk (Str.join y parts) = true
  | [], _ => (by decide +kernel : PyData.strOk Str.empty = true)
  | [x], h => h x List.mem_cons_self
  | x :: z :: r, h => strOk_app (strOk_app (h x List.mem_cons_self) hy) (strOk_join hy fun w hw => h w (List.mem_cons_of_mem _ hw))
theorem line_ok {who : Int} {m : Sm} (w0 : 0 ≤ who) (w1 : who < 1000000000) (h : SmallM m) : PyData.strOk (lineS who m) = true := by
  unfold lineS
  rw [TL.join_eq]
  refine strOk_join (by decide +kernel) fun x hx => ?_
  rcases List.mem_cons.mp hx with rfl | hx
  · exact (num_ok w0 w1).2
  · obtain ⟨v, hv, rfl⟩ := List.mem_map.mp hx
    exact (word_ok (h v hv)).2
theorem sum_small : ∀ {ys : List Str}, (∀ y ∈ ys, y.length ≤ 60) → (ys.map (·.length)).sum ≤ 60 * ys.length
  | [], _ => by simp
  | y :: ys, h => by
    have h1 := h y List.mem_cons_self
    have h2 := sum_small fun z hz => h z (List.mem_cons_of_mem _ hz)
    simp only [List.map_cons, List.sum_cons, List.length_cons]
    omega
theorem join_fit {who : Int} {m : Sm} (w0 : 0 ≤ who) (w1 : who < 1000000000) (h : SmallM m) : ((((toString who : Str) :: m.vals.map wordV)).map (·.length)).sum + (((toString who : Str) :: m.vals.map wordV)).length * (" " : Str).length ≤ 16777216 := by
  have l := vals_len m
  have s := sum_small (ys := (toString who : Str) :: m.vals.map wordV) fun y hy => by
    rcases List.mem_cons.mp hy with rfl | hy
    · exact (num_ok w0 w1).1
    · obtain ⟨v, hv, rfl⟩ := List.mem_map.mp hy
      exact (word_ok (h v hv)).1
  have e : (" " : Str).length = 1 := by decide +kernel
  simp only [List.length_cons, List.length_map] at s ⊢
  rw [e]
  omega
theorem dp_strs {K : PySem.W.Frag} {H : Hp} : ∀ xs : List Str, DpAll K H (xs.map V.str) (xs.map PyData.str)
  | [] => .nil
  | x :: xs => .cons (.str x) (dp_strs xs)
theorem lay_strs : ∀ {xs : List Str}, (∀ x ∈ xs, PyData.strOk x = true) → PyData.canLayAll0 (xs.map PyData.str) = true
  | [], _ => by simp [PyData.canLayAll0]
  | x :: xs, o => by
    simp only [List.map_cons, PyData.canLayAll0, PyData.canLay0, o x List.mem_cons_self, lay_strs fun y hy => o y (List.mem_cons_of_mem _ hy)]
    rfl
theorem depth_strs : ∀ xs : List Str, PyData.depthAll (xs.map PyData.str) = 0
  | [] => by simp [PyData.depthAll]
  | x :: xs => by
    have := depth_strs xs
    simp only [List.map_cons, PyData.depthAll, PyData.depth, this]
    rfl
theorem shaped_strs {xs : List Str} (o : ∀ x ∈ xs, PyData.strOk x = true) : SeqAt.shaped (.list (xs.map PyData.str)) = true := by
  unfold SeqAt.shaped
  have e : PyData.depth (.list (xs.map PyData.str)) = PyData.depthAll (xs.map PyData.str) + 1 := by simp only [PyData.depth]
  have l : PyData.canLay0 (.list (xs.map PyData.str)) = true := by simp only [PyData.canLay0, lay_strs o]
  rw [l, e, depth_strs]
  rfl
theorem eqv_strs {xs : List Str} (o : ∀ x ∈ xs, PyData.strOk x = true) : PyData.eqv (.list (xs.map PyData.str)) (.list (xs.map PyData.str)) = true := SeqAt.eqv_refl _ (by
  simp only [PyData.canLay0, lay_strs o])
def spWord (K : PySem.W.Frag) : Sp := fun vs H Q _ => ∃ v : V, vs = [v] ∧ SmallV v ∧ Q (.str (wordV v)) H
def spLine (K : PySem.W.Frag) : Sp := fun vs H Q _ => ∃ (t : Addr) (x : Lt), vs = [.ref t] ∧ LtAt H t x ∧ 0 ≤ x.w ∧ x.w < 1000000000 ∧ SmallM x.m ∧ ∀ H', Same H H' → Q (.str (lineS x.w x.m)) H'
def spLines (K : PySem.W.Frag) (C : Addr) : Sp := fun vs H Q _ => ∃ (j L : Addr) (who : Int) (ps : List Addr) (ms : List Sm), vs = [.ref j] ∧ JAt C H j who L ∧ H L = some (.lst (ps.map V.ref)) ∧ SsAt H ps ms ∧ ms.length ≤ 900 ∧ 0 ≤ who ∧ who < 1000000000 ∧ (∀ m ∈ ms, SmallM m) ∧
  ∀ R H', Same H H' → H' R = some (.lst ((ms.map (lineS who)).map V.str)) → Q (.ref R) H'

/-! ### words read back -/
def isD (c : Nat) : Bool := decide (48 ≤ c) && decide (c ≤ 57)
theorem isD_iff {c : Nat} : isD c = true ↔ 48 ≤ c ∧ c ≤ 57 := by
  unfold isD
  rw [Bool.and_eq_true, decide_eq_true_eq, decide_eq_true_eq]
def numB (w : Str) : Bool := (TL.tl w).all isD && (decide (TL.tl w ≠ []) && (decide ((TL.tl w).length ≤ 9) && (decide (w = "0") || decide ((TL.tl w).head? ≠ some 48))))
def numV (w : Str) : Int := ((NumText.digitsVal (TL.tl w) : Nat) : Int)
theorem ascii_digit : ∀ c : _root_.Fin 128, Unicode.isDigit c.val = isD c.val := by decide +kernel
theorem all_digit : ∀ {l : List Nat}, (l.all fun c => decide (c < 128)) = true → l.all Unicode.isDigit = l.all isD
  | [], _ => rfl
  | c :: l, h => by
    rw [List.all_cons, Bool.and_eq_true] at h
    have hc := of_decide_eq_true h.1
    rw [List.all_cons, List.all_cons, ascii_digit ⟨c, hc⟩, all_digit h.2]
theorem digit_ascii : ∀ {l : List Nat}, l.all isD = true → (l.all fun c => decide (c < 128)) = true
  | [], _ => rfl
  | c :: l, h => by
    rw [List.all_cons, Bool.and_eq_true] at h
    have hc := isD_iff.mp h.1
    rw [List.all_cons, digit_ascii h.2, decide_eq_true (show c < 128 by omega)]
    rfl
theorem ascii_all (w : Str) : Txt.isascii w = ((TL.tl w).all fun c => decide (c < 128)) := by
  unfold Txt.isascii TL.tl
  rw [← Array.all_toList]
theorem digit_all (w : Str) : Txt.isdigit w = (decide (TL.tl w ≠ []) && (TL.tl w).all Unicode.isDigit) := by
  unfold Txt.isdigit
  have e : decide (w.length > 0) = decide (TL.tl w ≠ []) := by
    rw [TL.len_tl]
    refine decide_eq_decide.mpr ?_
    exact List.length_pos_iff
  rw [← Array.all_toList]
  show (decide (w.length > 0) && _) = _
  rw [e]
theorem num_parts (w : Str) : (Txt.isascii w && Txt.isdigit w) = ((TL.tl w).all isD && decide (TL.tl w ≠ [])) := by
  rw [ascii_all, digit_all]
  cases h : (TL.tl w).all fun c => decide (c < 128) with
  | false =>
    cases h2 : (TL.tl w).all isD with
    | false => rfl
    | true =>
      rw [digit_ascii h2] at h
      cases h
  | true =>
    rw [all_digit h, Bool.true_and, Bool.and_comm]
theorem numV_nonneg (w : Str) : 0 ≤ numV w := Int.natCast_nonneg _
theorem num_all {w : Str} (h : numB w = true) : (∀ c ∈ TL.tl w, 48 ≤ c ∧ c ≤ 57) ∧ TL.tl w ≠ [] ∧ (TL.tl w).length ≤ 9 := by
  unfold numB at h
  simp only [Bool.and_eq_true, decide_eq_true_eq, List.all_eq_true] at h
  exact ⟨fun c hc => isD_iff.mp (h.1 c hc), h.2.1, h.2.2.1⟩
theorem num_int {w : Str} (h : numB w = true) : PySem.intText? w = some (numV w) ∧ w.length ≤ 9 := by
  obtain ⟨h1, h2, h3⟩ := num_all h
  have h4 : w.length ≤ 9 := by rw [TL.len_tl]; exact h3
  exact ⟨PySem.intText_digits (fun c hc => h1 c hc) h2 (by omega), h4⟩
theorem num_last {w : Str} (h1 : Txt.isascii w = true) (h2 : Txt.isdigit w = true) (h3 : w.length ≤ 9) : numB w = (decide (w = "0") || decide ((TL.tl w).head? ≠ some 48)) := by
  have e := num_parts w
  rw [h1, h2] at e
  have e2 := Bool.and_eq_true_iff.mp e.symm
  rw [TL.len_tl] at h3
  unfold numB
  rw [e2.1, e2.2, decide_eq_true h3]
  rfl
theorem num_not1 {w : Str} (h : Txt.isascii w = false ∨ Txt.isdigit w = false) : numB w = false := by
  have e := num_parts w
  cases z : numB w with
  | false => rfl
  | true =>
    unfold numB at z
    simp only [Bool.and_eq_true] at z
    rw [z.1, z.2.1] at e
    rcases h with h | h <;> rw [h] at e <;> simp at e
theorem num_not2 {w : Str} (h : 9 < w.length) : numB w = false := by
  cases z : numB w with
  | false => rfl
  | true =>
    have := (num_all z).2.2
    rw [← TL.len_tl] at this
    omega
def wordAt (ws : List Str) (k : Nat) : Except Int Str := if k < ws.length then .ok (ws.getD k "") else .error (ws.length : Int)
theorem word_mem {ws : List Str} {k : Nat} {x : Str} (h : wordAt ws k = .ok x) : x ∈ ws := by
  unfold wordAt at h
  split at h
  · cases h
    rename_i h
    rw [List.getD_eq_getElem?_getD, List.getElem?_eq_getElem h]
    exact List.getElem_mem h
  · cases h
def numAt (ws : List Str) (k : Nat) : Except Int Int := match wordAt ws k with
  | .error e => .error e
  | .ok w => if numB w = true then .ok (numV w) else .error (k : Int)
def kdOf (w : Str) : Option Kd := if w = "proposal" then some .prop else if w = "prevote" then some .pre else if w = "precommit" then some .com else none
def kindAt (ws : List Str) (k : Nat) : Except Int Kd := match wordAt ws k with
  | .error e => .error e
  | .ok w => match kdOf w with
    | some d => .ok d
    | none => .error (k : Int)
def isL (c : Nat) : Bool := decide (c ∈ TL.tl "abcdefghijklmnopqrstuvwxyz")
def isA (c : Nat) : Bool := decide (c ∈ TL.tl "abcdefghijklmnopqrstuvwxyz0123456789")
def blkB (w : Str) : Bool := match TL.tl w with
  | [] => false
  | c :: l => decide (l.length + 1 ≤ 60) && (isL c && (c :: l).all isA)
def blockAt (ws : List Str) (k : Nat) (d : Kd) : Except Int (Option Str) := match wordAt ws k with
  | .error e => .error e
  | .ok w => if w = "-" ∧ d ≠ .prop then .ok none else if blkB w = true then .ok (some w) else .error (k : Int)
def leanAt (ws : List Str) (k : Nat) (t : Int) : Except Int (Option Int) := match wordAt ws k with
  | .error e => .error e
  | .ok w => if w = "-" then .ok none else if numB w = true then (if numV w < t then .ok (some (numV w)) else .error (k : Int)) else .error (k : Int)
def endAt (ws : List Str) (k : Nat) : Except Int Unit := if k < ws.length then .error (k : Int) else .ok ()
def bindE {α β : Type} : Except Int α → (α → Except Int β) → Except Int β
  | .error e, _ => .error e
  | .ok x, f => f x
def readEnd (ws : List Str) (w : Int) (k : Kd) (h t : Int) (b : Option Str) : Except Int Lt :=
  if k = .pre then bindE (leanAt ws 5 t) fun l => bindE (endAt ws 6) fun _ => .ok ⟨w, ⟨.pre, h, t, b, l⟩⟩
  else bindE (endAt ws 5) fun _ => .ok ⟨w, ⟨k, h, t, b, none⟩⟩
def readW (ws : List Str) : Except Int Lt :=
  bindE (numAt ws 0) fun w => bindE (kindAt ws 1) fun k => bindE (numAt ws 2) fun h => bindE (numAt ws 3) fun t => bindE (blockAt ws 4 k) fun b => readEnd ws w k h t b
def readL (line : Str) : Except Int Lt := readW (Txt.split line " ")
theorem inV_kinds (w : Str) : inV (.str w) [V.str "proposal", V.str "prevote", V.str "precommit"] = (kdOf w).isSome := by
  unfold kdOf inV
  have e : ∀ x y : Str, eqV (.str x) (.str y) = decide (y = x) := fun x y => by
    show (x == y) = _
    by_cases h : y = x
    · rw [h, decide_eq_true rfl, beq_self_eq_true]
    · rw [decide_eq_false h]
      exact beq_eq_false_iff_ne.mpr fun z => h z.symm
  simp only [List.any_cons, List.any_nil, e, Bool.or_false]
  by_cases h1 : w = "proposal"
  · rw [h1]
    decide +kernel
  · by_cases h2 : w = "prevote"
    · rw [h2]
      decide +kernel
    · by_cases h3 : w = "precommit"
      · rw [h3]
        decide +kernel
      · simp [h1, h2, h3]
theorem s_prop (a : Kd) : a.s = ("proposal" : Str) ↔ a = .prop := by cases a <;> decide +kernel
theorem s_pre (a : Kd) : a.s = ("prevote" : Str) ↔ a = .pre := by cases a <;> decide +kernel
theorem s_com (a : Kd) : a.s = ("precommit" : Str) ↔ a = .com := by cases a <;> decide +kernel
theorem kd_s (k : Kd) : kdOf k.s = some k := by
  cases k <;> decide +kernel
theorem kd_of {w : Str} {k : Kd} (h : kdOf w = some k) : w = k.s := by
  unfold kdOf at h
  split at h
  · cases h
    assumption
  · split at h
    · cases h
      assumption
    · split at h
      · cases h
        assumption
      · cases h
/-- what is raised: the error of the class at C that keeps e as at -/
def ExR (C : Addr) (H : Hp) (E : XK) (e : Int) : Prop := ∀ d H', Same H H' → H' d = some (.xd [(("at" : Str), .int e)]) → E (.ref C) (some d) H'
def spAt (K : PySem.W.Frag) (C : Addr) (R : List Str → Nat → Except Int V) : Sp := fun vs H Q E => ∃ (W : Addr) (ws : List Str) (k : Nat), vs = [.ref W, .int k] ∧ H W = some (.lst (ws.map V.str)) ∧ ws.length ≤ 16777216 ∧ (∀ w ∈ ws, w.length ≤ 16777216) ∧ k ≤ 6 ∧
  (∀ e, R ws k = .error e → ExR C H E e) ∧ (∀ n, R ws k = .ok n → ∀ H', Same H H' → Q n H')
def mapE {α β : Type} (f : α → β) : Except Int α → Except Int β
  | .error e => .error e
  | .ok x => .ok (f x)
def spWordAt (K : PySem.W.Frag) (C : Addr) : Sp := spAt K C fun ws k => mapE V.str (wordAt ws k)
def spNumAt (K : PySem.W.Frag) (C : Addr) : Sp := spAt K C fun ws k => mapE V.int (numAt ws k)
def spKindAt (K : PySem.W.Frag) (C : Addr) : Sp := spAt K C fun ws k => mapE (fun d => V.str d.s) (kindAt ws k)
def spEndAt (K : PySem.W.Frag) (C : Addr) : Sp := spAt K C fun ws k => mapE (fun _ => V.non) (endAt ws k)
def spBlockAt (K : PySem.W.Frag) (C : Addr) : Sp := fun vs H Q E => ∃ (W : Addr) (ws : List Str) (k : Nat) (d : Kd), vs = [.ref W, .int k, .str d.s] ∧ H W = some (.lst (ws.map V.str)) ∧ ws.length ≤ 16777216 ∧ (∀ w ∈ ws, w.length ≤ 16777216) ∧ k ≤ 6 ∧
  (∀ e, blockAt ws k d = .error e → ExR C H E e) ∧ (∀ n, blockAt ws k d = .ok n → ∀ H', Same H H' → Q (oS n) H')
def spLeanAt (K : PySem.W.Frag) (C : Addr) : Sp := fun vs H Q E => ∃ (W : Addr) (ws : List Str) (k : Nat) (t : Int), vs = [.ref W, .int k, .int t] ∧ H W = some (.lst (ws.map V.str)) ∧ ws.length ≤ 16777216 ∧ (∀ w ∈ ws, w.length ≤ 16777216) ∧ k ≤ 6 ∧
  (∀ e, leanAt ws k t = .error e → ExR C H E e) ∧ (∀ n, leanAt ws k t = .ok n → ∀ H', Same H H' → Q (oI n) H')
def spIsNum (K : PySem.W.Frag) : Sp := fun vs H Q _ => ∃ w : Str, vs = [.str w] ∧ w.length ≤ 16777216 ∧ ∀ H', Same H H' → Q (.bl (numB w)) H'
def spIsBlk (K : PySem.W.Frag) : Sp := fun vs H Q _ => ∃ w : Str, vs = [.str w] ∧ w.length ≤ 16777216 ∧ ∀ H', Same H H' → Q (.bl (blkB w)) H'
def spProp (K : PySem.W.Frag) : Sp := fun vs H Q _ => ∃ (h t : Int) (b : Option Str), vs = [.int h, .int t, oS b] ∧ ∀ p H', Same H H' → SmAt H' p ⟨.prop, h, t, b, none⟩ → Q (.ref p) H'
def spPrec (K : PySem.W.Frag) : Sp := fun vs H Q _ => ∃ (h t : Int) (b : Option Str), vs = [.int h, .int t, oS b] ∧ ∀ p H', Same H H' → SmAt H' p ⟨.com, h, t, b, none⟩ → Q (.ref p) H'
def spPrev (K : PySem.W.Frag) : Sp := fun vs H Q _ => ∃ (h t : Int) (b : Option Str) (l : Option Int), vs = [.int h, .int t, oS b, oI l] ∧ ∀ p H', Same H H' → SmAt H' p ⟨.pre, h, t, b, l⟩ → Q (.ref p) H'
def spRead (K : PySem.W.Frag) (C : Addr) : Sp := fun vs H Q E => ∃ line : Str, vs = [.str line] ∧ line.length + 2 ≤ 16777216 ∧
  (∀ e, readL line = .error e → ExR C H E e) ∧ (∀ x, readL line = .ok x → ∀ p H', Same H H' → LtAt H' p x → Q (.ref p) H')
theorem at_err {α β : Type} {C : Addr} {H H1 : Hp} {E : XK} {r : Except Int α} {f : α → Except Int β} (s1 : Same H H1) (h : ∀ e, bindE r f = .error e → ExR C H E e) : ∀ e, r = .error e → ExR C H1 E e := fun e he => by
  rw [he] at h
  exact fun d H' s' hd => h e rfl d H' (s1.trans s') hd
theorem mapE_err {α β : Type} {g : α → β} {r : Except Int α} {e : Int} (h : mapE g r = .error e) : r = .error e := by
  cases r with
  | error e' => cases h; rfl
  | ok x => cases h
theorem mapE_ok {α β : Type} {g : α → β} {r : Except Int α} {y : β} (h : mapE g r = .ok y) : ∃ x, r = .ok x ∧ y = g x := by
  cases r with
  | error e' => cases h
  | ok x => cases h; exact ⟨x, rfl, rfl⟩

/-! ### what is written is read back -/
theorem tl_str {i : Int} (h0 : 0 ≤ i) : TL.tl (toString i : Str) = TL.numL i.toNat := by
  rw [tos_nat h0, TL.tl_num]
theorem numL_head : ∀ (n : Nat), 0 < n → (TL.numL n).head? ≠ some 48
  | n, h => by
    rcases Nat.lt_or_ge n 10 with z | z
    · rw [TL.numL_lt z]
      simp
      omega
    · rw [TL.numL_step z]
      have ih := numL_head (n / 10) (by omega)
      have ne := TL.numL_ne (n / 10)
      cases e : TL.numL (n / 10) with
      | nil => exact absurd e ne
      | cons c l =>
        rw [e] at ih
        exact ih
theorem num_str {i : Int} (h0 : 0 ≤ i) (h1 : i < 1000000000) : numB (toString i : Str) = true ∧ numV (toString i : Str) = i := by
  have e := tl_str h0
  refine ⟨?_, ?_⟩
  · unfold numB
    rw [e]
    have a1 : (TL.numL i.toNat).all isD = true := List.all_eq_true.mpr fun c hc => isD_iff.mpr (TL.numL_digits i.toNat c hc)
    have a3 : (TL.numL i.toNat).length ≤ 9 := TL.numL_len (by decide) (by omega)
    rw [a1, decide_eq_true (TL.numL_ne i.toNat), decide_eq_true a3, Bool.true_and, Bool.true_and, Bool.true_and, Bool.or_eq_true]
    rcases Nat.eq_zero_or_pos i.toNat with z | z
    · refine .inl (decide_eq_true ?_)
      have : i = 0 := by omega
      rw [this]
      decide +kernel
    · exact .inr (decide_eq_true (numL_head _ z))
  · unfold numV
    rw [e, TL.numL_val]
    omega
theorem num_free {i : Int} (h0 : 0 ≤ i) {c : Nat} (hc : c < 48 ∨ 57 < c) : c ∉ TL.tl (toString i : Str) := by
  rw [tl_str h0]
  exact TL.numL_free hc
theorem blk_free {x : Str} (h : blkB x = true) {c : Nat} (hc : isA c = false) : c ∉ TL.tl x := fun hm => by
  unfold blkB at h
  split at h
  · cases h
  · rename_i d l e
    simp only [Bool.and_eq_true, List.all_eq_true] at h
    rw [e] at hm
    have := h.2.2 c hm
    rw [hc] at this
    cases this
/-- a statement that a line may write -/
structure GoodM (m : Sm) : Prop where
  h0 : 0 ≤ m.h
  h1 : m.h < 1000000000
  t0 : 0 ≤ m.t
  t1 : m.t < 1000000000
  b : ∀ x, m.b = some x → blkB x = true
  bp : m.k = .prop → m.b ≠ none
  l : ∀ x, m.l = some x → 0 ≤ x ∧ x < m.t
  lk : m.k ≠ .pre → m.l = none
theorem blk_ok {x : Str} (h : blkB x = true) : x.length ≤ 60 ∧ PyData.strOk x = true := by
  unfold blkB at h
  split at h
  · cases h
  · rename_i d l e
    simp only [Bool.and_eq_true, List.all_eq_true, decide_eq_true_eq] at h
    refine ⟨by rw [TL.len_tl, e]; exact h.1, strOk_of fun c hc => ?_⟩
    rw [e] at hc
    have := of_decide_eq_true (h.2.2 c hc)
    have : ∀ c ∈ TL.tl "abcdefghijklmnopqrstuvwxyz0123456789", c < 1114112 := by decide +kernel
    exact this c (of_decide_eq_true (h.2.2 c hc))
theorem GoodM.small {m : Sm} (g : GoodM m) : SmallM m := by
  have hk : SmallV (.str m.k.s) := .inr (.inr ⟨_, rfl, by cases m.k <;> decide +kernel, ks_ok _⟩)
  have hh : SmallV (.int m.h) := .inr (.inl ⟨_, rfl, g.h0, g.h1⟩)
  have ht : SmallV (.int m.t) := .inr (.inl ⟨_, rfl, g.t0, g.t1⟩)
  have hb : SmallV (oS m.b) := by
    cases e : m.b with
    | none => exact .inl rfl
    | some x => exact .inr (.inr ⟨x, rfl, blk_ok (g.b x e)⟩)
  have hl : SmallV (oI m.l) := by
    cases e : m.l with
    | none => exact .inl rfl
    | some x =>
      have := g.l x e
      have := g.t1
      exact .inr (.inl ⟨x, rfl, by omega, by omega⟩)
  intro v hv
  obtain ⟨mk, mh, mt, mb, ml⟩ := m
  cases mk <;> simp only [Sm.vals, List.mem_cons, List.not_mem_nil, or_false] at hv <;> (rcases hv with rfl | rfl | rfl | rfl | rfl <;> assumption) <;> skip
theorem GoodM.ok {m : Sm} (g : GoodM m) : OkS m.b := fun x e => (blk_ok (g.b x e)).2
theorem dash_blk : blkB "-" = false := by decide +kernel
theorem dash_num : numB "-" = false := by decide +kernel
theorem ks_free (k : Kd) : 32 ∉ TL.tl k.s := by cases k <;> decide +kernel
theorem word_free {m : Sm} (g : GoodM m) : ∀ v ∈ m.vals, 32 ∉ TL.tl (wordV v) := by
  have hd : 32 ∉ TL.tl (wordV V.non) := by decide +kernel
  have hk : 32 ∉ TL.tl (wordV (.str m.k.s)) := ks_free m.k
  have hh : 32 ∉ TL.tl (wordV (.int m.h)) := num_free g.h0 (.inl (by decide))
  have ht : 32 ∉ TL.tl (wordV (.int m.t)) := num_free g.t0 (.inl (by decide))
  have hb : 32 ∉ TL.tl (wordV (oS m.b)) := by
    cases e : m.b with
    | none => exact hd
    | some x => exact blk_free (g.b x e) (by decide +kernel)
  have hl : 32 ∉ TL.tl (wordV (oI m.l)) := by
    cases e : m.l with
    | none => exact hd
    | some x => exact num_free (g.l x e).1 (.inl (by decide))
  intro v hv
  obtain ⟨mk, mh, mt, mb, ml⟩ := m
  cases mk <;> simp only [Sm.vals, List.mem_cons, List.not_mem_nil, or_false] at hv <;> (rcases hv with rfl | rfl | rfl | rfl | rfl <;> assumption) <;> skip
theorem line_words {who : Int} (w0 : 0 ≤ who) {m : Sm} (g : GoodM m) : Txt.split (lineS who m) " " = (toString who : Str) :: m.vals.map wordV := by
  unfold lineS
  refine TL.split_join (y := " ") (s := 32) (S := []) (by decide +kernel) (by decide +kernel) (List.cons_ne_nil _ _) fun p hp => ?_
  rcases List.mem_cons.mp hp with rfl | hp
  · exact num_free w0 (.inl (by decide))
  · obtain ⟨v, hv, rfl⟩ := List.mem_map.mp hp
    exact word_free g v hv
theorem wordAt_cons {x : Str} {ws : List Str} {k : Nat} : wordAt (x :: ws) (k + 1) = mapE id (match wordAt ws k with | .ok y => .ok y | .error e => .error (e + 1)) := by
  unfold wordAt
  by_cases h : k < ws.length
  · rw [if_pos h, if_pos (by simpa using h)]
    rfl
  · rw [if_neg h, if_neg (by simpa using h)]
    simp [mapE]
theorem wordAt_ok {ws : List Str} {k : Nat} {x : Str} (h : ws[k]? = some x) : wordAt ws k = .ok x := by
  have hk := (List.getElem?_eq_some_iff.mp h).1
  unfold wordAt
  rw [if_pos hk, List.getD_eq_getElem?_getD, h]
  rfl
theorem read_line {who : Int} (w0 : 0 ≤ who) (w1 : who < 1000000000) {m : Sm} (g : GoodM m) : readL (lineS who m) = .ok ⟨who, m⟩ := by
  unfold readL
  rw [line_words w0 g]
  have nw := num_str w0 w1
  have nh := num_str g.h0 g.h1
  have nt := num_str g.t0 g.t1
  obtain ⟨mk, mh, mt, mb, ml⟩ := m
  have lk := g.lk
  have bp := g.bp
  have gb := g.b
  have gl := g.l
  have t1 := g.t1
  dsimp only at nh nt lk bp gb gl t1
  have e0 : ∀ rest, numAt ((toString who : Str) :: rest) 0 = .ok who := fun rest => by
    unfold numAt
    rw [wordAt_ok (x := toString who) rfl]
    simp only [nw.1, nw.2, if_true]
  have e2 : ∀ a b rest, numAt (a :: b :: (toString mh : Str) :: rest) 2 = .ok mh := fun a b rest => by
    unfold numAt
    rw [wordAt_ok (x := toString mh) rfl]
    simp only [nh.1, nh.2, if_true]
  have e3 : ∀ a b c rest, numAt (a :: b :: c :: (toString mt : Str) :: rest) 3 = .ok mt := fun a b c rest => by
    unfold numAt
    rw [wordAt_ok (x := toString mt) rfl]
    simp only [nt.1, nt.2, if_true]
  have e1 : ∀ a (k : Kd) rest, kindAt (a :: k.s :: rest) 1 = .ok k := fun a k rest => by
    unfold kindAt
    rw [wordAt_ok (x := k.s) rfl]
    simp only [kd_s]
  have e4 : ∀ a b c d rest, blockAt (a :: b :: c :: d :: wordV (oS mb) :: rest) 4 mk = .ok mb := fun a b c d rest => by
    unfold blockAt
    rw [wordAt_ok (x := wordV (oS mb)) rfl]
    cases mb with
    | none => exact if_pos ⟨rfl, fun z => bp z rfl⟩
    | some x =>
      have hx := gb x rfl
      have nd : ¬ (x = "-" ∧ mk ≠ .prop) := fun z => by
        rw [z.1, dash_blk] at hx
        cases hx
      show (if x = "-" ∧ mk ≠ .prop then _ else if blkB x = true then _ else _) = _
      rw [if_neg nd, if_pos hx]
      rfl
  have e5 : ∀ a b c d e, leanAt [a, b, c, d, e, wordV (oI ml)] 5 mt = .ok ml := fun a b c d e => by
    unfold leanAt
    rw [wordAt_ok (x := wordV (oI ml)) rfl]
    cases ml with
    | none => exact if_pos rfl
    | some x =>
      have hx := gl x rfl
      have nx := num_str hx.1 (by omega)
      have nd : ¬ ((toString x : Str) = "-") := fun z => by
        rw [z, dash_num] at nx
        cases nx.1
      show (if (toString x : Str) = "-" then _ else if numB (toString x) = true then (if numV (toString x) < mt then _ else _) else _) = _
      rw [if_neg nd, if_pos nx.1, nx.2, if_pos hx.2]
      exact congrArg (fun z => Except.ok (some z)) nx.2
  cases mk with
  | pre =>
    have ew : (toString who : Str) :: (Sm.vals ⟨.pre, mh, mt, mb, ml⟩).map wordV = [(toString who : Str), Kd.pre.s, (toString mh : Str), (toString mt : Str), wordV (oS mb), wordV (oI ml)] := rfl
    rw [ew]
    unfold readW readEnd
    rw [e0, e1, e2, e3]
    simp only [bindE, e4]
    rw [if_pos trivial, e5]
    rfl
  | prop =>
    have ew : (toString who : Str) :: (Sm.vals ⟨.prop, mh, mt, mb, ml⟩).map wordV = [(toString who : Str), Kd.prop.s, (toString mh : Str), (toString mt : Str), wordV (oS mb)] := rfl
    rw [ew]
    unfold readW readEnd
    rw [e0, e1, e2, e3]
    simp only [bindE, e4]
    rw [if_neg (by decide), lk (by decide)]
    rfl
  | com =>
    have ew : (toString who : Str) :: (Sm.vals ⟨.com, mh, mt, mb, ml⟩).map wordV = [(toString who : Str), Kd.com.s, (toString mh : Str), (toString mt : Str), wordV (oS mb)] := rfl
    rw [ew]
    unfold readW readEnd
    rw [e0, e1, e2, e3]
    simp only [bindE, e4]
    rw [if_neg (by decide), lk (by decide)]
    rfl
/-! ### a journal restored -/
/-- the journal of the lines, or the index of the first invalid one -/
def resM (who : Int) : List Str → Nat → List Sm → Except Int (List Sm)
  | [], _, ms => .ok ms
  | l :: ls, n, ms => match readL l with
    | .error _ => if ls = [] then .ok ms else .error (n : Int)
    | .ok x => if x.w ≠ who ∨ memS ms x.m = true ∨ fcl ms x.m ms.length ≠ none then .error (n : Int) else resM who ls (n + 1) (ms ++ [x.m])
/-- no two of them clash, none is repeated -/
def Clean (ms : List Sm) : Prop := ∀ j, j < ms.length → memS (ms.take j) (ms.getD j default) = false ∧ fcl (ms.take j) (ms.getD j default) j = none
theorem resM_lines {who : Int} (w0 : 0 ≤ who) (w1 : who < 1000000000) (tail : List Str) : ∀ (ms : List Sm) (n : Nat) (acc : List Sm), (∀ m ∈ ms, GoodM m) → (∀ j, j < ms.length → memS (acc ++ ms.take j) (ms.getD j default) = false ∧ fcl (acc ++ ms.take j) (ms.getD j default) (acc.length + j) = none) →
    resM who (ms.map (lineS who) ++ tail) n acc = resM who tail (n + ms.length) (acc ++ ms)
  | [], n, acc, _, _ => by simp
  | m :: ms, n, acc, g, c => by
    have h0 := c 0 (Nat.succ_pos _)
    have e := read_line w0 w1 (g m List.mem_cons_self)
    have h1 : memS acc m = false := by simpa using h0.1
    have h2 : fcl acc m acc.length = none := by simpa using h0.2
    show resM who (lineS who m :: (ms.map (lineS who) ++ tail)) n acc = _
    rw [resM, e]
    show (if (⟨who, m⟩ : Lt).w ≠ who ∨ memS acc m = true ∨ fcl acc m acc.length ≠ none then _ else _) = _
    rw [if_neg (by simp [h1, h2]), resM_lines w0 w1 tail ms (n + 1) (acc ++ [m]) (fun y hy => g y (List.mem_cons_of_mem _ hy)) fun j hj => ?_]
    · simp [Nat.add_assoc, Nat.add_comm 1]
    · have := c (j + 1) (Nat.succ_lt_succ hj)
      simpa [Nat.add_assoc, Nat.add_comm 1] using this

theorem bindE_ok {α β : Type} {r : Except Int α} {f : α → Except Int β} {y : β} (h : bindE r f = .ok y) : ∃ x, r = .ok x ∧ f x = .ok y := by
  cases r with
  | error e => cases h
  | ok x => exact ⟨x, rfl, h⟩
theorem blockAt_ok {ws : List Str} {k : Nat} {d : Kd} {b : Option Str} (h : blockAt ws k d = .ok b) : (∀ x, b = some x → blkB x = true) ∧ (d = .prop → b ≠ none) := by
  unfold blockAt at h
  split at h
  · cases h
  · split at h
    · rename_i c
      cases h
      exact ⟨fun x z => (nomatch z), fun z => absurd z c.2⟩
    · split at h
      · rename_i c
        cases h
        exact ⟨fun x z => by cases z; exact c, fun _ z => nomatch z⟩
      · cases h
theorem digitsVal_lt : ∀ (l : List Nat) (a : Nat), (∀ c ∈ l, 48 ≤ c ∧ c ≤ 57) → l.foldl (fun acc c => acc * 10 + (c - 48)) a < (a + 1) * 10 ^ l.length
  | [], a, _ => by simp
  | c :: l, a, h => by
    have h1 := h c List.mem_cons_self
    have h2 := digitsVal_lt l (a * 10 + (c - 48)) fun d hd => h d (List.mem_cons_of_mem _ hd)
    rw [List.foldl_cons, List.length_cons, Nat.pow_succ]
    refine Nat.lt_of_lt_of_le h2 ?_
    rw [Nat.mul_comm (10 ^ l.length) 10, ← Nat.mul_assoc]
    exact Nat.mul_le_mul_right _ (by omega)
theorem numV_lt {w : Str} (h : numB w = true) : numV w < 1000000000 := by
  obtain ⟨h1, h2, h3⟩ := num_all h
  have := digitsVal_lt (TL.tl w) 0 h1
  have e : (10 : Nat) ^ (TL.tl w).length ≤ 10 ^ 9 := Nat.pow_le_pow_right (by decide) h3
  have v : numV w = (((TL.tl w).foldl (fun acc c => acc * 10 + (c - 48)) 0 : Nat) : Int) := rfl
  rw [v]
  omega
theorem numAt_ok {ws : List Str} {k : Nat} {n : Int} (h : numAt ws k = .ok n) : 0 ≤ n ∧ n < 1000000000 := by
  unfold numAt at h
  split at h
  · cases h
  · split at h
    · rename_i c
      cases h
      exact ⟨numV_nonneg _, numV_lt c⟩
    · cases h
theorem leanAt_ok {ws : List Str} {k : Nat} {t : Int} {l : Option Int} (h : leanAt ws k t = .ok l) : ∀ x, l = some x → 0 ≤ x ∧ x < t := by
  unfold leanAt at h
  split at h
  · cases h
  · split at h
    · cases h
      exact fun x z => nomatch z
    · split at h
      · split at h
        · rename_i c
          cases h
          exact fun x z => by cases z; exact ⟨numV_nonneg _, c⟩
        · cases h
      · cases h
theorem read_good {line : Str} {x : Lt} (h : readL line = .ok x) : GoodM x.m ∧ 0 ≤ x.w ∧ x.w < 1000000000 := by
  unfold readL readW at h
  obtain ⟨w, h1, h⟩ := bindE_ok h
  obtain ⟨k, h2, h⟩ := bindE_ok h
  obtain ⟨ht, h3, h⟩ := bindE_ok h
  obtain ⟨t, h4, h⟩ := bindE_ok h
  obtain ⟨b, h5, h⟩ := bindE_ok h
  have a3 := numAt_ok h3
  have a4 := numAt_ok h4
  have a5 := blockAt_ok h5
  unfold readEnd at h
  split at h
  · rename_i ek
    obtain ⟨l, h6, h⟩ := bindE_ok h
    obtain ⟨_, h7, h⟩ := bindE_ok h
    cases h
    exact ⟨⟨a3.1, a3.2, a4.1, a4.2, a5.1, fun z => (nomatch z), leanAt_ok h6, fun z => absurd rfl z⟩, numAt_ok h1⟩
  · rename_i ek
    obtain ⟨_, h7, h⟩ := bindE_ok h
    cases h
    exact ⟨⟨a3.1, a3.2, a4.1, a4.2, a5.1, a5.2, fun x z => (nomatch z), fun _ => rfl⟩, numAt_ok h1⟩
def spRestore (K : PySem.W.Frag) (CJ CE : Addr) : Sp := fun vs H Q E => ∃ (W : Addr) (who : Int) (ls : List Str), vs = [.int who, .ref W] ∧ H W = some (.lst (ls.map V.str)) ∧ ls.length ≤ 900 ∧ (∀ l ∈ ls, l.length + 2 ≤ 16777216) ∧
  (∀ e, resM who ls 0 [] = .error e → ExR CE H E e) ∧
  (∀ ms, resM who ls 0 [] = .ok ms → (∀ m ∈ ms, GoodM m) → ∀ (j L : Addr) (ps : List Addr) H', Same H H' → H j = none → H L = none → JAt CJ H' j who L → H' L = some (.lst (ps.map V.ref)) → SsAt H' ps ms → Q (.ref j) H')

/-! ### statements of which no two clash -/
theorem clashM_self (m : Sm) : clashM m m = false := by
  unfold clashM
  simp
theorem memS_self {ms : List Sm} {m : Sm} (h : m ∈ ms) (o : OkS m.b) : memS ms m = true := by
  unfold memS
  exact List.any_eq_true.mpr ⟨smD m, List.mem_map.mpr ⟨m, h, rfl⟩, eqv_sm m o⟩
theorem fcl_all {ms : List Sm} {m : Sm} : ∀ {n : Nat}, (∀ k, k < n → clashM (ms.getD k default) m = false) → fcl ms m n = none
  | 0, _ => rfl
  | n + 1, h => fcl_no (fcl_all fun k hk => h k (Nat.lt_succ_of_lt hk)) (h n (Nat.lt_succ_self n))
theorem fcl_take {ms : List Sm} {m : Sm} {j : Nat} : ∀ {n : Nat}, n ≤ j → n ≤ ms.length → fcl (ms.take j) m n = fcl ms m n
  | 0, _, _ => rfl
  | n + 1, h, hl => by
    have e : (ms.take j).getD n default = ms.getD n default := by
      rw [List.getD_eq_getElem?_getD, List.getD_eq_getElem?_getD, List.getElem?_take_of_lt (by omega)]
    rw [fcl, fcl, fcl_take (Nat.le_of_succ_le h) (Nat.le_of_succ_le hl), e]
theorem Clean.pair {ms : List Sm} (c : Clean ms) {i j : Nat} (hi : i < ms.length) (hj : j < ms.length) : clashM (ms.getD i default) (ms.getD j default) = false := by
  have one : ∀ {i j : Nat}, i < j → j < ms.length → clashM (ms.getD i default) (ms.getD j default) = false := fun {i j} h hj => by
    have e := (c j hj).2
    rw [fcl_take (Nat.le_refl _) (Nat.le_of_lt hj)] at e
    exact fcl_none e i h
  rcases Nat.lt_trichotomy i j with h | h | h
  · exact one h hj
  · rw [h]
    exact clashM_self _
  · rw [clashM_comm]
    exact one h hi
theorem Clean.any {ms : List Sm} (c : Clean ms) {m : Sm} (h : m ∈ ms) : fcl ms m ms.length = none := by
  obtain ⟨j, hj, rfl⟩ := List.getElem_of_mem h
  refine fcl_all fun k hk => ?_
  have := c.pair hk hj
  rwa [List.getD_eq_getElem?_getD (l := ms) (i := j), List.getElem?_eq_getElem hj] at this
theorem Clean.nil : Clean [] := fun j hj => absurd hj (Nat.not_lt_zero j)
theorem Clean.snoc {ms : List Sm} {m : Sm} (c : Clean ms) (h1 : memS ms m = false) (h2 : fcl ms m ms.length = none) : Clean (ms ++ [m]) := fun j hj => by
  rw [List.length_append, List.length_singleton] at hj
  rcases Nat.lt_or_ge j ms.length with z | z
  · rw [getD_left z, List.take_append_of_le_length (Nat.le_of_lt z)]
    exact c j z
  · have e : j = ms.length := by omega
    subst e
    rw [getD_last, List.take_append_of_le_length (Nat.le_refl _), List.take_length]
    exact ⟨h1, h2⟩
theorem join_len (y : Str) : ∀ parts : List Str, (Str.join y parts).length ≤ (parts.map (·.length)).sum + parts.length * y.length
  | [] => by show (Str.empty).length ≤ _; exact Nat.zero_le _
  | [x] => by
    show x.length ≤ _
    simp
  | x :: z :: r => by
    have h := join_len y (z :: r)
    have e : (Str.join y (x :: z :: r)).length = x.length + y.length + (Str.join y (z :: r)).length := by
      show ((x ++ y) ++ Str.join y (z :: r)).length = _
      rw [TL.len_tl, TL.tl_append, List.length_append, TL.tl_append, List.length_append, ← TL.len_tl, ← TL.len_tl, ← TL.len_tl]
    rw [e]
    simp only [List.map_cons, List.sum_cons, List.length_cons, Nat.add_mul, Nat.one_mul] at h ⊢
    omega
theorem line_len {who : Int} {m : Sm} (w0 : 0 ≤ who) (w1 : who < 1000000000) (h : SmallM m) : (lineS who m).length ≤ 1000 := by
  have l := vals_len m
  have s := sum_small (ys := (toString who : Str) :: m.vals.map wordV) fun y hy => by
    rcases List.mem_cons.mp hy with rfl | hy
    · exact (num_ok w0 w1).1
    · obtain ⟨v, hv, rfl⟩ := List.mem_map.mp hy
      exact (word_ok (h v hv)).1
  have e : (" " : Str).length = 1 := by decide +kernel
  unfold lineS
  rw [TL.join_eq]
  refine Nat.le_trans (join_len _ _) ?_
  simp only [List.length_cons, List.length_map] at s ⊢
  rw [e]
  omega
/-- the letters of the statements -/
def lettersOf (who : Int) (ms : List Sm) : List Lt := ms.map fun m => ⟨who, m⟩
theorem own_all (who : Int) (ms : List Sm) : ownOf (lettersOf who ms) who = lettersOf who ms := by
  unfold ownOf lettersOf
  refine List.filter_eq_self.mpr fun x hx => ?_
  obtain ⟨m, _, rfl⟩ := List.mem_map.mp hx
  exact decide_eq_true rfl
theorem clean_due {who : Int} {ms : List Sm} (c : Clean ms) : due (ownOf (lettersOf who ms) who) = none := by
  rw [own_all]
  cases e : due (lettersOf who ms) with
  | none => rfl
  | some r =>
    obtain ⟨f, s⟩ := r
    obtain ⟨h1, h2, h3⟩ := due_ok e
    obtain ⟨m1, a1, rfl⟩ := List.mem_map.mp h1
    obtain ⟨m2, a2, rfl⟩ := List.mem_map.mp h2
    have n := fcl_none (c.any a2)
    obtain ⟨i, hi, rfl⟩ := List.getElem_of_mem a1
    have := n i hi
    rw [List.getD_eq_getElem?_getD, List.getElem?_eq_getElem hi] at this
    have h4 : clashM ms[i] m2 = true := h3
    rw [Option.getD_some, h4] at this
    cases this
theorem letters_at {who : Int} {ms : List Sm} {i : Nat} (h : i < ms.length) : (lettersOf who ms).getD i default = ⟨who, ms.getD i default⟩ := by
  unfold lettersOf
  rw [List.getD_eq_getElem?_getD, List.getElem?_map, List.getD_eq_getElem?_getD, List.getElem?_eq_getElem h]
  rfl
theorem letters_len (who : Int) (ms : List Sm) : (lettersOf who ms).length = ms.length := List.length_map ..
theorem letters_snoc (who : Int) (ms : List Sm) (m : Sm) : lettersOf who (ms ++ [m]) = lettersOf who ms ++ [⟨who, m⟩] := by
  unfold lettersOf
  rw [List.map_append]
  rfl
theorem letters_ok {who : Int} {ms : List Sm} (o : OkM ms) : OkL (lettersOf who ms) := fun x hx => by
  obtain ⟨m, hm, rfl⟩ := List.mem_map.mp hx
  exact o m hm
/-- (who, m) in the letters -/
theorem letters_mem {who : Int} {ms : List Sm} {m : Sm} : ((lettersOf who ms).map Lt.dat).any (fun z => PyData.eqv z (Lt.dat ⟨who, m⟩)) = memS ms m := by
  unfold memS lettersOf
  rw [List.map_map, List.any_map, List.any_map]
  congr 1
  funext x
  show PyData.eqv (.tuple [.int who, .tuple x.dat]) (.tuple [.int who, .tuple m.dat]) = PyData.eqv (.tuple x.dat) (.tuple m.dat)
  simp [PyData.eqv, PyData.eqvAll]

/-! ### a text cut -/
theorem cut_take {z : Str} {i : Int} (h : 0 ≤ i) : TL.tl (cutS z none (some i)) = (TL.tl z).take i.toNat := by
  have n : ¬ i < 0 := by omega
  have e1 : HT.sIx z.length 0 none = 0 := rfl
  have e2 : HT.sIx z.length z.length (some i) = min i.toNat z.length := by
    show (if i < 0 then _ else _) = _
    rw [if_neg n]
  show (z.cps.toList.drop (HT.sIx z.length 0 none)).take (HT.sIx z.length z.length (some i) - HT.sIx z.length 0 none) = _
  rw [e1, e2, List.drop_zero, Nat.sub_zero]
  have e3 : z.length = z.cps.toList.length := TL.len_tl z
  rw [e3]
  rcases Nat.le_total i.toNat z.cps.toList.length with q | q
  · rw [Nat.min_eq_left q]
  · rw [Nat.min_eq_right q, List.take_of_length_le (Nat.le_refl _), List.take_of_length_le q]
theorem cut_ok {z : Str} {i : Int} (h : 0 ≤ i) (o : PyData.strOk z = true) : PyData.strOk (cutS z none (some i)) = true := by
  unfold PyData.strOk at o ⊢
  rw [← Array.all_toList] at o ⊢
  have e : (cutS z none (some i)).cps.toList = z.cps.toList.take i.toNat := cut_take h
  rw [e]
  exact List.all_eq_true.mpr fun c hc => List.all_eq_true.mp o c (List.mem_of_mem_take hc)
theorem sum_mem : ∀ {l : List Nat} {x : Nat}, x ∈ l → x ≤ l.sum
  | y :: l, x, h => by
    rw [List.sum_cons]
    rcases List.mem_cons.mp h with rfl | h
    · omega
    · have := sum_mem h
      omega
theorem wordAt_inv {ws : List Str} {k : Nat} {x : Str} (h : wordAt ws k = .ok x) : k < ws.length ∧ x ∈ ws := by
  refine ⟨?_, word_mem h⟩
  unfold wordAt at h
  split at h
  · assumption
  · cases h
/-- a line that is read has more than nine signs -/
theorem read_long {line : Str} {x : Lt} (h : readL line = .ok x) : 11 ≤ line.length := by
  unfold readL readW at h
  obtain ⟨w, h1, h⟩ := bindE_ok h
  obtain ⟨k, h2, h⟩ := bindE_ok h
  obtain ⟨ht, h3, h⟩ := bindE_ok h
  obtain ⟨t, h4, h⟩ := bindE_ok h
  obtain ⟨b, h5, h⟩ := bindE_ok h
  have a : ∃ y ∈ Txt.split line " ", 7 ≤ y.length := by
    unfold kindAt at h2
    split at h2
    · cases h2
    · rename_i y e
      refine ⟨y, word_mem e, ?_⟩
      split at h2
      · rename_i d e2
        rw [kd_of e2]
        cases d <;> decide +kernel
      · cases h2
  have c : 5 ≤ (Txt.split line " ").length := by
    unfold blockAt at h5
    split at h5
    · cases h5
    · rename_i y e
      exact (wordAt_inv e).1
  obtain ⟨y, hy, ly⟩ := a
  have s := PyProof.Rows.split_weight line " " (by decide +kernel)
  have := sum_mem (List.mem_map.mpr ⟨y, hy, rfl⟩ : y.length ∈ (Txt.split line " ").map (·.length))
  omega

/-! ### a text of lines, cut -/
theorem cutV_take {xs : List V} {i : Int} (h : 0 ≤ i) : cutV xs none (some i) = xs.take i.toNat := by
  have n : ¬ i < 0 := by omega
  have e1 : HT.sIx xs.length 0 none = 0 := rfl
  have e2 : HT.sIx xs.length xs.length (some i) = min i.toNat xs.length := by
    show (if i < 0 then _ else _) = _
    rw [if_neg n]
  unfold cutV
  rw [e1, e2, List.drop_zero, Nat.sub_zero]
  rcases Nat.le_total i.toNat xs.length with q | q
  · rw [Nat.min_eq_left q]
  · rw [Nat.min_eq_right q, List.take_of_length_le (Nat.le_refl _), List.take_of_length_le q]
theorem cutV_drop {xs : List V} {i : Int} (h : 0 ≤ i) : cutV xs (some i) none = xs.drop i.toNat := by
  have n : ¬ i < 0 := by omega
  have e1 : HT.sIx xs.length xs.length none = xs.length := rfl
  have e2 : HT.sIx xs.length 0 (some i) = min i.toNat xs.length := by
    show (if i < 0 then _ else _) = _
    rw [if_neg n]
  unfold cutV
  rw [e1, e2]
  rcases Nat.le_total i.toNat xs.length with q | q
  · rw [Nat.min_eq_left q, List.take_of_length_le (by rw [List.length_drop]; exact Nat.le_refl _)]
  · rw [Nat.min_eq_right q, List.drop_of_length_le (Nat.le_refl _), List.drop_of_length_le q, List.take_nil]
theorem take_joinL {s : Nat} : ∀ (parts : List (List Nat)), parts ≠ [] → ∀ c, c ≤ (TL.joinL [s] parts).length → ∃ n k, n < parts.length ∧ (TL.joinL [s] parts).take c = TL.joinL [s] (parts.take n ++ [(parts.getD n []).take k])
  | [], h, _, _ => absurd rfl h
  | [x], _, c, _ => ⟨0, c, Nat.succ_pos _, rfl⟩
  | x :: z :: r, _, c, hc => by
    have ej : TL.joinL [s] (x :: z :: r) = x ++ ([s] ++ TL.joinL [s] (z :: r)) := rfl
    rcases Nat.lt_or_ge x.length c with q | q
    · have hc2 : c - (x.length + 1) ≤ (TL.joinL [s] (z :: r)).length := by
        rw [ej] at hc
        simp at hc
        omega
      obtain ⟨n, k, hn, e⟩ := take_joinL (z :: r) (by simp) (c - (x.length + 1)) hc2
      refine ⟨n + 1, k, Nat.succ_lt_succ hn, ?_⟩
      have e2 : (x ++ ([s] ++ TL.joinL [s] (z :: r))).take c = x ++ ([s] ++ (TL.joinL [s] (z :: r)).take (c - (x.length + 1))) := by
        rw [List.take_append, List.take_of_length_le (Nat.le_of_lt q), List.take_append, List.take_of_length_le (by simp; omega)]
        rw [List.length_singleton, Nat.sub_sub]
      rw [ej, e2, e]
      show _ = TL.joinL [s] (x :: ((z :: r).take n ++ [((z :: r).getD n []).take k]))
      cases h : (z :: r).take n ++ [((z :: r).getD n []).take k] with
      | nil => simp at h
      | cons a b => rfl
    · refine ⟨0, c, Nat.succ_pos _, ?_⟩
      rw [ej, List.take_append_of_le_length q]
      rfl
theorem getD_map {α β : Type} {f : α → β} {d : α} {e : β} {xs : List α} {n : Nat} (h : n < xs.length) : (xs.map f).getD n e = f (xs.getD n d) := by
  rw [List.getD_eq_getElem?_getD, List.getElem?_map, List.getD_eq_getElem?_getD, List.getElem?_eq_getElem h]
  rfl
theorem left_split {parts : List Str} (ne : parts ≠ []) (hp : ∀ p ∈ parts, 10 ∉ TL.tl p) {c : Int} (c0 : 0 ≤ c) (c1 : c ≤ (Txt.join "\n" parts).length) :
    ∃ (n : Nat) (Pz : Str), n < parts.length ∧ Pz.length ≤ (parts.getD n "").length ∧ Txt.split (cutS (Txt.join "\n" parts) none (some c)) "\n" = parts.take n ++ [Pz] := by
  have et : TL.tl ("\n" : Str) = [10] := by decide +kernel
  have ej : TL.tl (Txt.join "\n" parts) = TL.joinL [10] (parts.map TL.tl) := by rw [TL.join_eq, TL.tl_join, et]
  have hc : c.toNat ≤ (TL.joinL [10] (parts.map TL.tl)).length := by
    rw [← ej, ← TL.len_tl]
    omega
  obtain ⟨n, k, hn, e⟩ := take_joinL (parts.map TL.tl) (by simpa using ne) c.toNat hc
  rw [List.length_map] at hn
  rw [getD_map (f := TL.tl) (xs := parts) (d := "") (e := []) hn] at e
  have mem : parts.getD n "" ∈ parts := getD_mem2 hn
  refine ⟨n, ⟨((TL.tl (parts.getD n "")).take k).toArray⟩, hn, ?_, ?_⟩
  · rw [TL.len_tl, TL.len_tl]
    show ((TL.tl (parts.getD n "")).take k).length ≤ _
    rw [List.length_take]
    omega
  have eq : cutS (Txt.join "\n" parts) none (some c) = Txt.join "\n" (parts.take n ++ [(⟨((TL.tl (parts.getD n "")).take k).toArray⟩ : Str)]) := by
    refine TL.ext_tl ?_
    rw [cut_take c0, ej, e, TL.join_eq, TL.tl_join, et, List.map_append, List.map_take]
    rfl
  rw [eq]
  refine TL.split_join (y := "\n") (s := 10) (S := []) et (by decide +kernel) (by simp) fun p h => ?_
  rcases List.mem_append.mp h with h | h
  · exact hp p (List.mem_of_mem_take h)
  · rw [List.mem_singleton.mp h]
    exact fun z => hp _ mem (List.mem_of_mem_take z)
theorem mem_joinL {S : List Nat} {c : Nat} : ∀ {parts : List (List Nat)}, c ∈ TL.joinL S parts → c ∈ S ∨ ∃ p ∈ parts, c ∈ p
  | [], h => nomatch h
  | [x], h => .inr ⟨x, List.mem_singleton.mpr rfl, h⟩
  | x :: z :: r, h => by
    have h : c ∈ x ++ (S ++ TL.joinL S (z :: r)) := h
    rcases List.mem_append.mp h with h | h
    · exact .inr ⟨x, List.mem_cons_self, h⟩
    · rcases List.mem_append.mp h with h | h
      · exact .inl h
      · rcases mem_joinL h with h | ⟨p, hp, h⟩
        · exact .inl h
        · exact .inr ⟨p, List.mem_cons_of_mem _ hp, h⟩
theorem line_free {who : Int} (w0 : 0 ≤ who) {m : Sm} (g : GoodM m) : 10 ∉ TL.tl (lineS who m) := fun h => by
  have hd : 10 ∉ TL.tl (wordV V.non) := by decide +kernel
  have hk : 10 ∉ TL.tl (wordV (.str m.k.s)) := by
    show 10 ∉ TL.tl m.k.s
    cases m.k <;> decide +kernel
  have hh : 10 ∉ TL.tl (wordV (.int m.h)) := num_free g.h0 (.inl (by decide))
  have ht : 10 ∉ TL.tl (wordV (.int m.t)) := num_free g.t0 (.inl (by decide))
  have hb : 10 ∉ TL.tl (wordV (oS m.b)) := by
    cases e : m.b with
    | none => exact hd
    | some x => exact blk_free (g.b x e) (by decide +kernel)
  have hl : 10 ∉ TL.tl (wordV (oI m.l)) := by
    cases e : m.l with
    | none => exact hd
    | some x => exact num_free (g.l x e).1 (.inl (by decide))
  unfold lineS at h
  rw [TL.join_eq, TL.tl_join] at h
  rcases mem_joinL h with h | ⟨p, hp, h⟩
  · revert h
    decide +kernel
  · obtain ⟨x, hx, rfl⟩ := List.mem_map.mp hp
    rcases List.mem_cons.mp hx with rfl | hx
    · exact num_free w0 (.inl (by decide)) h
    · obtain ⟨v, hv, rfl⟩ := List.mem_map.mp hx
      revert h
      obtain ⟨mk, mh, mt, mb, ml⟩ := m
      cases mk <;> simp only [Sm.vals, List.mem_cons, List.not_mem_nil, or_false] at hv <;> (rcases hv with rfl | rfl | rfl | rfl | rfl <;> assumption) <;> skip
theorem Clean.take {ms : List Sm} (c : Clean ms) (n : Nat) : Clean (ms.take n) := fun j hj => by
  rw [List.length_take] at hj
  have e : (ms.take n).getD j default = ms.getD j default := by
    rw [List.getD_eq_getElem?_getD, List.getD_eq_getElem?_getD, List.getElem?_take_of_lt (by omega)]
  rw [List.take_take, Nat.min_eq_left (by omega), e]
  exact c j (by omega)
/-- what the cut lines give -/
structure Cut (who : Int) (ms : List Sm) (ls : List Str) (n : Nat) (Pz : Str) : Prop where
  eq : ls = (ms.take n).map (lineS who) ++ [Pz]
  le : n ≤ ms.length
  short : Pz.length ≤ 1000
  at_ : ms = [] ∨ n < ms.length
theorem cut_of {who : Int} (w0 : 0 ≤ who) (w1 : who < 1000000000) {ms : List Sm} (g : ∀ m ∈ ms, GoodM m) {c : Int} (c0 : 0 ≤ c) (c1 : c ≤ (Txt.join "\n" (ms.map (lineS who))).length) :
    ∃ n Pz, Cut who ms (Txt.split (cutS (Txt.join "\n" (ms.map (lineS who))) none (some c)) "\n") n Pz := by
  cases em : ms with
  | nil =>
    subst em
    have ez : (Txt.join "\n" ([] : List Str)).length = 0 := by decide +kernel
    have ec : c = 0 := by
      rw [List.map_nil, ez] at c1
      omega
    subst ec
    have e0 : Txt.split (cutS (Txt.join "\n" ([] : List Str)) none (some 0)) "\n" = [("" : Str)] := by decide +kernel
    exact ⟨0, "", e0, Nat.le_refl _, by decide +kernel, .inl rfl⟩
  | cons m r =>
    rw [← em]
    have ne : ms.map (lineS who) ≠ [] := by rw [em]; simp
    obtain ⟨n, Pz, hn, hl, e⟩ := left_split ne (fun p hp => by
      obtain ⟨m, hm, rfl⟩ := List.mem_map.mp hp
      exact line_free w0 (g m hm)) c0 c1
    have hn' : n < ms.length := by simpa using hn
    refine ⟨n, Pz, by rw [e, List.map_take], Nat.le_of_lt hn', ?_, .inr hn'⟩
    rw [getD_map (d := default) hn'] at hl
    exact Nat.le_trans hl (line_len w0 w1 (g _ (getD_mem2 hn')).small)
theorem res_cut {who : Int} (w0 : 0 ≤ who) (w1 : who < 1000000000) {ms : List Sm} (c : Clean ms) (g : ∀ m ∈ ms, GoodM m) {ls : List Str} {n : Nat} {Pz : Str} (k : Cut who ms ls n Pz) :
    resM who ls 0 [] = match readL Pz with | .error _ => .ok (ms.take n) | .ok x => if x.w ≠ who ∨ memS (ms.take n) x.m = true ∨ fcl (ms.take n) x.m (ms.take n).length ≠ none then .error (n : Int) else .ok (ms.take n ++ [x.m]) := by
  have ln : (ms.take n).length = n := by rw [List.length_take, Nat.min_eq_left k.le]
  rw [k.eq, resM_lines w0 w1 [Pz] (ms.take n) 0 [] (fun m hm => g m (List.mem_of_mem_take hm)) (fun j hj => by simpa using (c.take n) j hj), resM]
  rw [Nat.zero_add, List.nil_append, ln]
  cases readL Pz with
  | error e => exact if_pos rfl
  | ok x =>
    have e0 : ∀ q z, resM who [] q z = .ok z := fun _ _ => by rw [resM]
    show (if x.w ≠ who ∨ memS (ms.take n) x.m = true ∨ fcl (ms.take n) x.m n ≠ none then (.error (n : Int) : Except Int (List Sm)) else resM who [] (n + 1) (ms.take n ++ [x.m])) = _
    rw [e0]
theorem line_ok2 {who : Int} (w0 : 0 ≤ who) (w1 : who < 1000000000) {ms : List Sm} (c : Clean ms) (g : ∀ m ∈ ms, GoodM m) {ls : List Str} {n : Nat} {Pz : Str} (k : Cut who ms ls n Pz) (hn : n < ms.length) (e : Pz = lineS who (ms.getD n default)) : resM who ls 0 [] = .ok (ms.take (n + 1)) := by
  rw [res_cut w0 w1 c g k, e, read_line w0 w1 (g _ (getD_mem2 hn))]
  have h := c n hn
  have ln : (ms.take n).length = n := by rw [List.length_take, Nat.min_eq_left k.le]
  show (if who ≠ who ∨ memS (ms.take n) (ms.getD n default) = true ∨ fcl (ms.take n) (ms.getD n default) (ms.take n).length ≠ none then _ else _) = _
  rw [if_neg (by rw [ln, h.1, h.2]; simp), take_succ_getD (d := default) hn]
theorem cut_err {who : Int} (w0 : 0 ≤ who) (w1 : who < 1000000000) {ms : List Sm} (c : Clean ms) (g : ∀ m ∈ ms, GoodM m) {ls : List Str} {n : Nat} {Pz : Str} (k : Cut who ms ls n Pz) {e : Int} (h : resM who ls 0 [] = .error e) :
    e = n ∧ Pz ≠ "" ∧ (n < ms.length → Pz ≠ lineS who (ms.getD n default)) := by
  have h2 := h
  rw [res_cut w0 w1 c g k] at h2
  refine ⟨?_, fun z => ?_, fun hn z => ?_⟩
  · cases q : readL Pz with
    | error y => rw [q] at h2; cases h2
    | ok x =>
      rw [q] at h2
      have h2 : (if x.w ≠ who ∨ memS (ms.take n) x.m = true ∨ fcl (ms.take n) x.m (ms.take n).length ≠ none then (.error (n : Int) : Except Int (List Sm)) else .ok (ms.take n ++ [x.m])) = .error e := h2
      split at h2
      · cases h2
        rfl
      · cases h2
  · have : (match readL "" with | .error _ => true | .ok _ => false) = true := by decide +kernel
    rw [z] at h2
    cases q : readL "" with
    | error y => rw [q] at h2; cases h2
    | ok x => rw [q] at this; cases this
  · rw [line_ok2 w0 w1 c g k hn z] at h
    cases h
theorem cut_fine {who : Int} (w0 : 0 ≤ who) (w1 : who < 1000000000) {ms : List Sm} (c : Clean ms) (g : ∀ m ∈ ms, GoodM m) {ls : List Str} {n : Nat} {Pz : Str} (k : Cut who ms ls n Pz) {ms' : List Sm} (h : resM who ls 0 [] = .ok ms') :
    Clean ms' ∧ ms'.take n = ms.take n ∧ n ≤ ms'.length ∧ ms'.length ≤ n + 1 := by
  rw [res_cut w0 w1 c g k] at h
  have ln : (ms.take n).length = n := by rw [List.length_take, Nat.min_eq_left k.le]
  cases q : readL Pz with
  | error y =>
    rw [q] at h
    cases h
    exact ⟨c.take n, by rw [List.take_take, Nat.min_self], by omega, by omega⟩
  | ok x =>
    rw [q] at h
    have h : (if x.w ≠ who ∨ memS (ms.take n) x.m = true ∨ fcl (ms.take n) x.m (ms.take n).length ≠ none then (.error (n : Int) : Except Int (List Sm)) else .ok (ms.take n ++ [x.m])) = .ok ms' := h
    split at h
    · cases h
    · rename_i z
      cases h
      have z1 : memS (ms.take n) x.m = false := by
        cases y : memS (ms.take n) x.m with
        | false => rfl
        | true => exact absurd (.inr (.inl y)) z
      have z2 : fcl (ms.take n) x.m (ms.take n).length = none := by
        cases y : fcl (ms.take n) x.m (ms.take n).length with
        | none => rfl
        | some _ => exact absurd (.inr (.inr (by rw [y]; exact fun q => nomatch q))) z
      refine ⟨(c.take n).snoc z1 z2, ?_, ?_, ?_⟩
      · rw [List.take_append_of_le_length (by omega), List.take_of_length_le (by omega)]
      · rw [List.length_append]
        omega
      · rw [List.length_append, List.length_singleton]
        omega
theorem SsAt.take {H : Hp} {ps : List Addr} {ms : List Sm} (h : SsAt H ps ms) (n : Nat) : SsAt H (ps.take n) (ms.take n) := by
  have n1 := h.1
  refine ⟨by rw [List.length_take, List.length_take, h.1], fun i hi => ?_⟩
  rw [List.length_take] at hi
  have e1 : (ps.take n).getD i 0 = ps.getD i 0 := by rw [List.getD_eq_getElem?_getD, List.getD_eq_getElem?_getD, List.getElem?_take_of_lt (by omega)]
  have e2 : (ms.take n).getD i default = ms.getD i default := by rw [List.getD_eq_getElem?_getD, List.getD_eq_getElem?_getD, List.getElem?_take_of_lt (by omega)]
  rw [e1, e2]
  exact h.2 i (by omega)
def spSigned (K : PySem.W.Frag) (C : Addr) : Sp := fun vs H Q _ => ∃ (j c L : Addr) (who : Int) (zs : List Int) (ps : List Addr) (ms : List Sm), vs = [.ref j, .ref c] ∧ JAt C H j who L ∧ H L = some (.lst (ps.map V.ref)) ∧ H c = some (.lst (zs.map V.int)) ∧ c ≠ L ∧ SsAt H ps ms ∧ ms.length + zs.length ≤ 800 ∧ Clean ms ∧ (∀ m ∈ ms, GoodM m) ∧
  ∀ (R : Addr) (H' : Hp) (ps2 : List Addr) (ext : List Sm), But L H H' → H R = none → R ≠ L → H' L = some (.lst (ps2.map V.ref)) → H' R = some (.lst (ps2.map V.ref)) → SsAt H' ps2 (ms ++ ext) → ext.length ≤ zs.length → Clean (ms ++ ext) → (∀ m ∈ ms ++ ext, GoodM m) → Q (.ref R) H'
theorem at_lines {f : Sm → Str} {ms : List Sm} {n : Nat} (h : n < ms.length) : ((ms.map f).map V.str)[n]? = some (.str (f (ms.getD n default))) := by
  rw [List.getElem?_map, List.getElem?_map, List.getD_eq_getElem?_getD, List.getElem?_eq_getElem h]
  rfl
theorem take_refs {ps : List Addr} {i : Nat} : cutV (ps.map V.ref) none (some (i : Int)) = (ps.take i).map V.ref := by
  rw [cutV_take (Int.natCast_nonneg i), Int.toNat_natCast, List.map_take]
theorem drop_refs {ps : List Addr} {i : Nat} : cutV (ps.map V.ref) (some (i : Int)) none = (ps.drop i).map V.ref := by
  rw [cutV_drop (Int.natCast_nonneg i), Int.toNat_natCast, List.map_drop]
theorem OkM.take {ms : List Sm} (o : OkM ms) (n : Nat) : OkM (ms.take n) := fun m hm => o m (List.mem_of_mem_take hm)
theorem drop_getD {α : Type} {d : α} {xs : List α} {n i : Nat} : (xs.drop n).getD i d = xs.getD (n + i) d := by
  rw [List.getD_eq_getElem?_getD, List.getD_eq_getElem?_getD, List.getElem?_drop]
theorem take_getD {α : Type} {d : α} {xs : List α} {n i : Nat} (h : i < n) : (xs.take n).getD i d = xs.getD i d := by
  rw [List.getD_eq_getElem?_getD, List.getD_eq_getElem?_getD, List.getElem?_take_of_lt h]

def spStat3 (K : PySem.W.Frag) : Sp := fun vs H Q _ => ∃ (d h : Int), vs = [.int d, .int h] ∧ ∀ p m H', Same H H' → SmAt H' p m → (0 ≤ h → h < 1000000000 → GoodM m) → m.h = h → m.k ≠ .prop → m.t < 4 → Q (.ref p) H'
def spCell (K : PySem.W.Frag) : Sp := fun vs H Q _ => ∃ (a : Addr) (ns : List Int) (k : Int), vs = [.ref a, .int k] ∧ SqL K H a (ns.map V.int) ∧ ns.length ≤ 63 ∧ 0 ≤ k ∧ Q (.int (ns.getD k.toNat 0)) H
def spLaw (K : PySem.W.Frag) : Sp := fun vs H Q _ => ∃ (a : Addr) (ns : List Int), vs = [.ref a] ∧ SqL K H a (ns.map V.int) ∧ ns.length ≤ 63 ∧ ∀ H', Q (.bl true) H'
section
local macro_rules | `(tactic| walk_at "r1") => `(tactic| first
  | refine ⟨_, rfl, ?_⟩
  | refine ⟨_, _, rfl, rfl, (by show (0 : Int) < _; first | decide | omega), ?_⟩
  | refine ⟨_, _, rfl, rfl, (show CDiv _ _ from ⟨by decide, by decide⟩), ?_⟩
  | refine ⟨_, _, rfl, rfl, (show CMul _ _ from .inl ⟨by decide, by decide⟩), ?_⟩
  | refine ⟨_, _, rfl, rfl, (show CMul _ _ from .inr ⟨by decide, by decide⟩), ?_⟩
  | refine ⟨_, _, rfl, rfl, (show CPow _ _ from ⟨by decide, by decide, by decide⟩), ?_⟩
  | refine ⟨_, _, rfl, rfl, ?_⟩
  | refine ⟨_, _, _, _, rfl, rfl, SqT.of (by assumption), by first | exact at0 _ | exact at1 _ | exact at2 _ | exact at3 _ | exact at4 _ (by assumption), ?_⟩
  | refine ⟨scal_oS _ _, ?_⟩
  | refine .inl ⟨_, rfl, ?_⟩
  | refine ⟨rfl, ?_⟩)
local macro_rules | `(tactic| walk_at "rs") => `(tactic| repeat walk_at "r1")

variable {P : Program} {w : World} {K : PySem.W.Frag} {mg : Str → Option Value} {base : Heap} {a : Ads}
theorem getD_mem {zs : List Int} {i : Nat} (h : i < zs.length) : zs.getD i 0 ∈ zs := by
  rw [List.getD_eq_getElem?_getD, List.getElem?_eq_getElem h]
  exact List.getElem_mem h
theorem at_ints {zs : List Int} {i : Nat} (h : i < zs.length) : (zs.map V.int)[i]? = some (.int (zs.getD i 0)) := by
  rw [List.getElem?_map, List.getD_eq_getElem?_getD, List.getElem?_eq_getElem h]
  rfl

theorem ok_is_vote (T : Txt K mg a) : ∃ fd, FnOk P w K mg base CX0 1 a.d_is_vote fd ["statement"] (spVote K) ∧ Binds K fd ["statement"] [] := by
  obtain ⟨fd, F, b⟩ := T.d_is_vote.F
  refine ⟨fd, F.ok sc_is_vote (fun vs H Q E h => ?_) (fun cdv A outer s H vs Q E hr h => ?_), b⟩
  · obtain ⟨p, m, rfl, _⟩ := h
    rfl
  · obtain ⟨p, m, rfl, hp, k⟩ := h
    refine ⟨_, (pss_one (ps_ret (pe_cmpR op_in_seq (pe_ix ix_tup (pv 0) (pe_glob (v := (.int 0)) rfl T.c_KIND.choose_spec ⟨_, rfl⟩) (fun _ _ => rfl)) (pe_tup (pa_cons pe_str (pa_cons pe_str pa_nil))) (by rfl)))), ?_⟩
    refine ⟨_, rfl, p, _, _, _, rfl, rfl, SqT.of hp, at0 m, (by show 2 ≤ sizeLine; decide), fun t ht => ?_⟩
    refine ⟨t, _, rfl, .inr (SqT.of upd_same), rfl, rfl, ?_⟩
    have e : inV (V.str m.k.s) [V.str "prevote", V.str "precommit"] = decide (m.k ≠ .prop) := by
      cases hk : m.k <;> decide +kernel
    show Q (.bl (inV (V.str m.k.s) [V.str "prevote", V.str "precommit"])) _
    rw [e]
    exact k _ (same_new ht)
theorem ok_abandons (T : Txt K mg a) : ∃ fd, FnOk P w K mg base CX0 1 a.d_abandons fd ["one", "other"] (spAband K) ∧ Binds K fd ["one", "other"] [] := by
  obtain ⟨fd, F, b⟩ := T.d_abandons.F
  refine ⟨fd, F.ok sc_abandons (fun vs H Q E h => ?_) (fun cdv A outer s H vs Q E hr h => ?_), b⟩
  · obtain ⟨_, _, _, _, rfl, _⟩ := h
    rfl
  · obtain ⟨p, q, m, n, rfl, hp, hq, k⟩ := h
    have k0 : Q (.bl (abandM m n)) H := k _ (Same.refl H)
    refine ⟨_, (pss_cons (ps_if (PW.pt (pw_or (pt_cmpR op_ne (pe_ix ix_tup (pv 0) (pe_glob (v := (.int 0)) rfl T.c_KIND.choose_spec ⟨_, rfl⟩) (fun _ _ => rfl)) pe_str (nomark _)) (pw_or1 (pt_cmpR op_ne (pe_ix ix_tup (pv 1) (pe_glob (v := (.int 0)) rfl T.c_KIND.choose_spec ⟨_, rfl⟩) (fun _ _ => rfl)) pe_str (nomark _)))))
      (pss_one (ps_ret pe_bl))
      pss_nil)
      (pss_cons (ps_if (PW.pt (pw_or (pt_cmpR op_isN (pe_ix ix_tup (pv 0) (pe_glob (v := (.int 3)) rfl T.c_BLOCK.choose_spec ⟨_, rfl⟩) (fun _ _ => rfl)) pe_non (nomark _)) (pw_or1 (pt_cmpR op_isN (pe_ix ix_tup (pv 1) (pe_glob (v := (.int 3)) rfl T.c_BLOCK.choose_spec ⟨_, rfl⟩) (fun _ _ => rfl)) pe_non (nomark _)))))
      (pss_one (ps_ret pe_bl))
      pss_nil)
      (pss_cons (ps_if (PW.pt (pw_or (pt_cmpR op_eq (pe_ix ix_tup (pv 0) (pe_glob (v := (.int 3)) rfl T.c_BLOCK.choose_spec ⟨_, rfl⟩) (fun _ _ => rfl)) (pe_ix ix_tup (pv 1) (pe_glob (v := (.int 3)) rfl T.c_BLOCK.choose_spec ⟨_, rfl⟩) (fun _ _ => rfl)) (nomark _)) (pw_or1 (pt_cmpR op_ge (pe_ix ix_tup (pv 0) (pe_glob (v := (.int 2)) rfl T.c_TURN.choose_spec ⟨_, rfl⟩) (fun _ _ => rfl)) (pe_ix ix_tup (pv 1) (pe_glob (v := (.int 2)) rfl T.c_TURN.choose_spec ⟨_, rfl⟩) (fun _ _ => rfl)) (nomark _)))))
      (pss_one (ps_ret pe_bl))
      pss_nil)
      (pss_one (ps_ret (pe_or (pe_cmpR op_isN (pe_ix ix_tup (pv 1) (pe_glob (v := (.int 4)) rfl T.c_LEAN.choose_spec ⟨_, rfl⟩) (fun _ _ => rfl)) pe_non (nomark _)) (pe_one (pe_cmpR op_lt (pe_ix ix_tup (pv 1) (pe_glob (v := (.int 4)) rfl T.c_LEAN.choose_spec ⟨_, rfl⟩) (fun _ _ => rfl)) (pe_ix ix_tup (pv 0) (pe_glob (v := (.int 2)) rfl T.c_TURN.choose_spec ⟨_, rfl⟩) (fun _ _ => rfl)) (nomark _))))))))), ?_⟩
    walk_at "rs"
    refine ite2 (fun c1 => ?_) (fun c1 => ?_) <;> simp only [kcom, Bool.not_eq_true', decide_eq_false_iff_not, decide_eq_true_iff, Decidable.not_not] at c1
    · rw [show abandM m n = false from if_neg (fun z => c1 z.1)] at k0
      exact k0
    walk_at "rs"
    refine ite2 (fun c2 => ?_) (fun c2 => ?_) <;> simp only [kpre, Bool.not_eq_true', decide_eq_false_iff_not, decide_eq_true_iff, Decidable.not_not] at c2
    · rw [show abandM m n = false from if_neg (fun z => c2 z.2.1)] at k0
      exact k0
    walk_at "rs"
    refine ite2 (fun c3 => ?_) (fun c3 => ?_) <;> simp only [koSn, decide_eq_true_iff] at c3
    · rw [show abandM m n = false from if_neg (fun z => z.2.2.1 c3)] at k0
      exact k0
    walk_at "rs"
    refine ite2 (fun c4 => ?_) (fun c4 => ?_) <;> simp only [koSn, decide_eq_true_iff] at c4
    · rw [show abandM m n = false from if_neg (fun z => z.2.2.2.1 c4)] at k0
      exact k0
    walk_at "rs"
    refine ite2 (fun c5 => ?_) (fun c5 => ?_) <;> simp only [koS, decide_eq_true_iff] at c5
    · rw [show abandM m n = false from if_neg (fun z => z.2.2.2.2.1 c5)] at k0
      exact k0
    walk_at "rs"
    refine ite2 (fun c6 => ?_) (fun c6 => ?_) <;> simp only [decide_eq_true_iff] at c6
    · rw [show abandM m n = false from if_neg (fun z => by have := z.2.2.2.2.2; omega)] at k0
      exact k0
    have e : abandM m n = (match n.l with | none => true | some l => decide (l < m.t)) := if_pos ⟨c1, c2, c3, c4, c5, by omega⟩
    rw [e] at k0
    clear e
    walk_at "rs"
    refine ite2 (fun c7 => ?_) (fun c7 => ?_) <;> simp only [koIn, decide_eq_true_iff] at c7
    · rw [c7] at k0
      exact k0
    · cases hnl : n.l with
      | none => exact absurd hnl c7
      | some l =>
        rw [hnl] at k0
        refine ⟨_, rfl, _, _, _, _, rfl, rfl, SqT.of hq, (at4 n c2).trans (by rw [hnl]), ?_⟩
        walk_at "rs"
        exact k0
theorem ok_clash (T : Txt K mg a) : ∃ fd, FnOk P w K mg base CX0 2 a.d_clash fd ["one", "other"] (spClash K) ∧ Binds K fd ["one", "other"] [] := by
  obtain ⟨fd, F, b⟩ := T.d_clash.F
  obtain ⟨fd_abandons, G_abandons, b_abandons⟩ := ok_abandons (P := P) (w := w) (base := base) T
  obtain ⟨fd_is_vote, G_is_vote, b_is_vote⟩ := ok_is_vote (P := P) (w := w) (base := base) T
  refine ⟨fd, F.ok sc_clash (fun vs H Q E h => ?_) (fun cdv A outer s H vs Q E hr h => ?_), b⟩
  · obtain ⟨_, _, _, _, rfl, _⟩ := h
    rfl
  · obtain ⟨p, q, m, n, rfl, hp, hq, k⟩ := h
    refine ⟨_, (pss_cons (ps_if (pt_cmpR op_ne (pe_ix ix_tup (pv 0) (pe_glob (v := (.int 1)) rfl T.c_HEIGHT.choose_spec ⟨_, rfl⟩) (fun _ _ => rfl)) (pe_ix ix_tup (pv 1) (pe_glob (v := (.int 1)) rfl T.c_HEIGHT.choose_spec ⟨_, rfl⟩) (fun _ _ => rfl)) (nomark _))
      (pss_one (ps_ret pe_bl))
      pss_nil)
      (pss_cons (ps_if (pt_cmpR op_eq (pe_ix ix_tup (pv 0) (pe_glob (v := (.int 0)) rfl T.c_KIND.choose_spec ⟨_, rfl⟩) (fun _ _ => rfl)) (pe_ix ix_tup (pv 1) (pe_glob (v := (.int 0)) rfl T.c_KIND.choose_spec ⟨_, rfl⟩) (fun _ _ => rfl)) (nomark _))
      (pss_one (ps_ret (pe_and (pe_call G_is_vote (hr.mono (by decide)) rfl T.d_is_vote.g T.d_is_vote.kp b_is_vote .nil pass0 (pa_cons (pv 0) pa_nil)) (pe_and (pe_cmpR op_eq (pe_ix ix_tup (pv 0) (pe_glob (v := (.int 2)) rfl T.c_TURN.choose_spec ⟨_, rfl⟩) (fun _ _ => rfl)) (pe_ix ix_tup (pv 1) (pe_glob (v := (.int 2)) rfl T.c_TURN.choose_spec ⟨_, rfl⟩) (fun _ _ => rfl)) (nomark _)) (pe_one (pe_cmpR op_ne (pe_ix ix_tup (pv 0) (pe_glob (v := (.int 3)) rfl T.c_BLOCK.choose_spec ⟨_, rfl⟩) (fun _ _ => rfl)) (pe_ix ix_tup (pv 1) (pe_glob (v := (.int 3)) rfl T.c_BLOCK.choose_spec ⟨_, rfl⟩) (fun _ _ => rfl)) (nomark _)))))))
      pss_nil)
      (pss_one (ps_ret (pe_or (pe_call G_abandons (hr.mono (by decide)) rfl T.d_abandons.g T.d_abandons.kp b_abandons .nil pass0 (pa_cons (pv 0) (pa_cons (pv 1) pa_nil))) (pe_one (pe_call G_abandons (hr.mono (by decide)) rfl T.d_abandons.g T.d_abandons.kp b_abandons .nil pass0 (pa_cons (pv 1) (pa_cons (pv 0) pa_nil))))))))), ?_⟩
    unfold clashM at k
    walk_at "rs"
    refine ite2 (fun c1 => ?_) (fun c1 => ?_) <;> simp only [dec_int, Bool.not_eq_true', beq_eq_false_iff_ne, Bool.not_eq_false', Bool.not_eq_true, beq_iff_eq, ne_eq, Decidable.not_not] at c1
    · rw [if_pos c1] at k
      exact k _ (Same.refl H)
    rw [if_neg (fun z => z c1)] at k
    walk_at "rs"
    refine ite2 (fun c2 => ?_) (fun c2 => ?_) <;> simp only [dec_kd, decide_eq_true_iff] at c2
    · rw [if_pos c2] at k
      walk_at "rs"
      refine ⟨p, m, rfl, hp, fun H' s1 => ?_⟩
      have hp' : SmAt H' p m := s1 _ _ hp
      have hq' : SmAt H' q n := s1 _ _ hq
      walk_at "rs"
      refine ite2 (fun c3 => ?_) (fun c3 => ?_)
      · rw [c3, Bool.true_and] at k
        walk_at "rs"
        refine ite2 (fun c4 => ?_) (fun c4 => ?_) <;> simp only [dec_int, beq_iff_eq] at c4
        · rw [decide_eq_true c4, Bool.true_and] at k
          walk_at "rs"
          have k' := k H' s1
          rw [show decide (m.b ≠ n.b) = (!decide (oS m.b = oS n.b)) by rw [dec_oS, decide_not]] at k'
          exact k'
        · rw [decide_eq_false c4, Bool.false_and] at k
          exact k H' s1
      · rw [Bool.eq_false_iff.mpr c3, Bool.false_and] at k
        exact k H' s1
    · rw [if_neg c2] at k
      walk_at "rs"
      refine ⟨p, q, m, n, rfl, hp, hq, fun H' s1 => ?_⟩
      have hp' : SmAt H' p m := s1 _ _ hp
      have hq' : SmAt H' q n := s1 _ _ hq
      walk_at "rs"
      refine ite2 (fun c3 => ?_) (fun c3 => ?_)
      · rw [c3, Bool.true_or] at k
        exact k H' s1
      · rw [Bool.eq_false_iff.mpr c3, Bool.false_or] at k
        walk_at "rs"
        exact ⟨q, p, n, m, rfl, hq', hp', fun H2 s2 => k H2 (s1.trans s2)⟩

theorem ok_word (T : Txt K mg a) : ∃ fd, FnOk P w K mg base CX0 1 a.d_word fd ["part"] (spWord K) ∧ Binds K fd ["part"] [] := by
  obtain ⟨fd, F, b⟩ := T.d_word.F
  refine ⟨fd, F.ok sc_word (fun vs H Q E h => ?_) (fun cdv A outer s H vs Q E hr h => ?_), b⟩
  · obtain ⟨_, rfl, _⟩ := h
    rfl
  · obtain ⟨v, rfl, hv, k⟩ := h
    refine ⟨_, (pss_cons (ps_if (pt_cmpR op_isN (pv 0) pe_non (nomark _))
      (pss_one (ps_ret (pe_glob (v := (.str "-")) rfl T.c_NONE.choose_spec ⟨_, rfl⟩)))
      pss_nil)
      (pss_one (ps_ret (pe_callTy cr_strA (by rfl) T.n_str (by decide +kernel) (pa_cons (pv 0) pa_nil))))), ?_⟩
    rcases hv with rfl | ⟨i, rfl, h0, h1⟩ | ⟨x, rfl, hx⟩
    · walk_at "rs"
      exact k
    · walk_at "rs"
      exact ⟨log_small (by omega) (by omega), k⟩
    · walk_at "rs"
      exact .inr ⟨x, rfl, k⟩
theorem ok_letter_line (T : Txt K mg a) : ∃ fd, FnOk P w K mg base CX0 2 a.d_letter_line fd ["letter"] (spLine K) ∧ Binds K fd ["letter"] [] := by
  obtain ⟨fd, F, b⟩ := T.d_letter_line.F
  obtain ⟨fd_word, G_word, b_word⟩ := ok_word (P := P) (w := w) (base := base) T
  refine ⟨fd, F.ok sc_letter_line (fun vs H Q E h => ?_) (fun cdv A outer s H vs Q E hr h => ?_), b⟩
  · obtain ⟨_, _, rfl, _⟩ := h
    rfl
  · obtain ⟨t, x, rfl, hx, w0, w1, hs, k⟩ := h
    obtain ⟨q, hp, hq⟩ := id hx
    have hq' : H q = some (.tup x.m.vals) := hq
    have l5 := vals_len x.m
    refine ⟨_, (pss_cons (ps_asg (pv 0) (pg_tup rfl (pgs_cons (pg_name (i := 1) sc_letter_line.nd rfl (Or.inl rfl)) (pgs_cons (pg_name (i := 2) sc_letter_line.nd rfl (Or.inl rfl)) pgs_nil))))
      (pss_one (ps_ret (pe_join pe_str (pe_op op_cat (pe_lst (pa_cons (pe_callTy cr_strA (by rfl) T.n_str (by decide +kernel) (pa_cons (pv 1) pa_nil)) pa_nil)) (pe_lc (own := [("part", 3)]) (g := (gName 3)) (tt := tYes) rfl sc_letter_line.nd (pi_tup (pv 2)) (blkOk_by (own := [("part", 3)]) (N := sc_letter_line_N) (sc := defScope s_letter_line) (by decide +kernel)) (fun _ _ _ _ _ => (pg_name (i := 3) sc_letter_line.nd rfl (Or.inl rfl))) (fun _ _ _ _ _ => pts_nil) (fun _ _ _ _ _ => (pe_call G_word (hr.mono (by decide)) rfl T.d_word.g T.d_word.kp b_word .nil pass0 (pa_cons (pv 3) pa_nil))))))))), ?_⟩
    walk_at "rs"
    refine ⟨_, _, rfl, SqT.of hp, rfl, _, _, rfl, _, _, rfl, rfl, ?_⟩
    walk_at "rs"
    refine ⟨⟨_, rfl⟩, ?_⟩
    walk_at "rs"
    refine ⟨log_small (by omega) (by omega), ?_⟩
    refine ⟨(by show 1 ≤ sizeLine; decide), fun l1 hl1 => ?_⟩
    have s1 := same_new (o := .lst [V.str (toString x.w)]) hl1
    have h1 := (upd_same : (upd H l1 (.lst [V.str (toString x.w)])) l1 = _)
    generalize upd H l1 (.lst [V.str (toString x.w)]) = H1 at s1 h1 ⊢
    walk_at "rs"
    refine ⟨⟨_, SqT.of (s1 _ _ hq')⟩, fun D hD => ?_⟩
    refine lc_tup (K := K) (a := q) (xs := x.m.vals) (fun i H2 => Same H1 H2 ∧ H2 D = some (.lst (((x.m.vals.take i).map wordV).map V.str))) ⟨same_new hD, by rw [upd_same]; simp⟩ (fun i H2 _ ⟨s2, _⟩ => SqT.of (s2 _ _ (s1 _ _ hq'))) ?_ ?_
    · rintro i y H2 hy ⟨s2, hd⟩
      have hi : i < x.m.vals.length := (List.getElem?_eq_some_iff.mp hy).1
      have et : x.m.vals.take (i + 1) = x.m.vals.take i ++ [y] := by rw [List.take_add_one, hy]; rfl
      have hsy := hs y (List.mem_of_getElem? hy)
      refine ⟨rfl, ?_⟩
      walk_at "rs"
      refine ⟨hsy, ?_⟩
      refine ⟨_, hd, by rw [List.length_map, List.length_map, List.length_take]; exact small1000 (by omega), same_upd s2 hD, ?_⟩
      rw [upd_same, et]
      simp
    · rintro H2 ⟨s2, hd⟩
      rw [List.take_length] at hd
      have fit := join_fit (who := x.w) w0 w1 hs
      refine ⟨l1, D, _, _, rfl, rfl, s2 _ _ h1, hd, by rw [List.length_map, List.length_map, sizeLine_eq]; simp; omega, fun l3 hl3 => ?_⟩
      have s3 := same_new (o := .lst ([V.str (toString x.w)] ++ (x.m.vals.map wordV).map V.str)) hl3
      refine ⟨_, l3, (toString x.w : Str) :: x.m.vals.map wordV, rfl, rfl, .inl (SqL.of upd_same), fit, ?_⟩
      exact k _ ((s1.trans s2).trans s3)

theorem ok_Journal_init (T : Txt K mg a) : ∃ fd, FnOk P w K mg base CX0 1 a.d_Journal_init fd ["self", "who"] (spJI K a.C_Journal) ∧ Binds K fd ["self", "who"] [] := by
  obtain ⟨fd, F, b⟩ := T.d_Journal_init.F
  refine ⟨fd, F.ok sc_Journal_init (fun vs H Q E h => ?_) (fun cdv A outer s H vs Q E hr h => ?_), b⟩
  · obtain ⟨_, _, _, rfl, _⟩ := h
    rfl
  · obtain ⟨p, dx, who, rfl, hp, k⟩ := h
    refine ⟨_, (pss_cons (ps_fld (pv 0) (pv 1) rfl)
      (pss_one (ps_fld (pv 0) (pe_lst pa_nil) rfl))), ?_⟩
    walk_at "rs"
    refine ⟨p, _, dx, [], rfl, hp, T.cl_Journal, T.a_Journal_who, (by show 0 < 1000; decide), ?_⟩
    walk_at "rs"
    refine ⟨(by show 0 ≤ sizeLine; decide), fun L hL => ?_⟩
    have nL : p ≠ L := fun e => by rw [e, upd_same] at hL; cases hL
    walk_at "rs"
    refine ⟨p, _, dx, _, rfl, by rw [upd_ne nL, upd_same], T.cl_Journal, T.a_Journal_signed, (by show 1 < 1000; decide), ?_⟩
    have hL0 : H L = none := by rwa [upd_ne nL.symm] at hL
    refine k L _ hL0 upd_same (by rw [upd_ne nL.symm, upd_same]) fun b o hb e => ?_
    rw [upd_ne hb, upd_ne (ne_of_none e hL0), upd_ne hb]
    exact e
theorem ok_Refused_init (TE : TxtE P K mg a) (T : Txt K mg a) : ∃ fd, FnOk P w K mg base CX0 1 a.d_Refused_init fd ["self", "vote"] (spSup a.C_Refused "vote" fun _ => True) ∧ Binds K fd ["self", "vote"] [] := by
  obtain ⟨fd, S, b⟩ := TE.sup_Refused
  have T0 : SupTxt "vote" "vote" s_Refused_init _ _ _ _ _ _ _ _ _ _ := ⟨rfl, rfl, rfl, rfl, rfl, rfl, rfl, rfl, by decide +kernel, ⟨_, rfl, rfl⟩⟩
  refine ⟨fd, ok_sup S T0 (by decide +kernel) (by decide) (by decide) T.n_super ?_ (fun _ => rfl) (fun _ _ _ _ => rfl) (fun _ _ _ _ => rfl) (fun _ _ _ _ => rfl) _ (fun _ => rfl), b⟩
  rintro cd cc A outer s H E e v _
  exact ⟨_, pa_cons pe_str pa_nil, fun H1 Q q => q _⟩
theorem ok_Journal_sign (TE : TxtE P K mg a) (T : Txt K mg a) : ∃ fd, FnOk P w K mg base (L2N.CX P w) 3 a.d_Journal_sign fd ["self", "statement"] (spSign K a.C_Journal a.C_Refused) ∧ Binds K fd ["self", "statement"] [] := by
  obtain ⟨fd, F, b⟩ := T.d_Journal_sign.F
  obtain ⟨fd_clash, G_clash, b_clash⟩ := ok_clash (P := P) (w := w) (base := base) T
  obtain ⟨fd_Refused_init, G_Refused_init, b_Refused_init⟩ := ok_Refused_init (P := P) (w := w) (base := base) TE T
  refine ⟨fd, fun_okN F sc_Journal_sign (fun vs H Q E h => ?_) (fun cdv A outer s H vs Q E hr h => ?_), b⟩
  · obtain ⟨_, _, _, _, _, _, _, rfl, _⟩ := h
    rfl
  · obtain ⟨j, p, L, who, ps, ms, m, rfl, ⟨dx, hj⟩, hL, hs, hm, few, okm, ok, kr, kq⟩ := h
    have n1 := hs.1
    refine ⟨_, (pss_cons (ps_for (passes_of rfl) rfl (pi_list (pe_fld (pv 0) rfl)) (pg_name (i := 2) sc_Journal_sign.nd rfl (Or.inl rfl))
      (pss_one (ps_if (pt_val (pe_call G_clash (hr.mono (by decide)) rfl T.d_clash.g T.d_clash.kp b_clash .nil pass0 (pa_cons (pv 2) (pa_cons (pv 1) pa_nil))))
        (pss_one (L2N.ps_raise rfl (L2N.takes_of rfl rfl rfl rfl) (pmk_sup TE.oex_Refused TE.iC_Refused TE.tI_Refused G_Refused_init (hr.mono (by decide)) b_Refused_init rfl TE.g_Refused (pa_cons (pv 2) pa_nil))))
        pss_nil)))
      (pss_cons (ps_if (pt_cmpR (op_notInD (hu65 hr)) (pv 1) (pe_fld (pv 0) rfl) (by rfl))
      (pss_one (ps_expr (pe_bm PySem.F.plainAttrs_list PySem.F.slot_list_append PySem.F.type_list_append mt_append (pe_fld (pv 0) rfl) (pa_cons (pv 1) pa_nil))))
      pss_nil)
      (pss_one (ps_ret (pe_tup (pa_cons (pe_fld (pv 0) rfl) (pa_cons (pv 1) pa_nil))))))), ?_⟩
    walk_at "rs"
    refine ⟨j, _, dx, _, .ref L, rfl, hj, T.cl_Journal, T.a_Journal_signed, jfs_s _ _, ?_⟩
    walk_at "rs"
    refine ⟨⟨_, SqL.of hL⟩, for_list (K := K) (a := L) (xs := ps.map V.ref) (fun i σ H2 => ∃ v2 : Option V, σ = [some (.ref j), some (.ref p), v2] ∧ Same H H2 ∧ fcl ms m i = none) ⟨_, rfl, Same.refl H, rfl⟩ (fun i σ H2 _ ⟨_, _, s2, _⟩ => SqL.of (s2 _ _ hL)) ?_ ?_⟩
    · rintro i y σ H2 hy ⟨v2, rfl, s2, hno⟩
      have hi : i < ps.length := by
        have e := (List.getElem?_eq_some_iff.mp hy).1
        rwa [List.length_map] at e
      rw [at_refs hi] at hy
      cases hy
      walk_at "rs"
      refine ⟨_, p, _, m, rfl, s2 _ _ (hs.2 i (by omega)), s2 _ _ hm, fun H3 s3 => ?_⟩
      walk_at "rs"
      refine ite2 (fun c1 => ?_) (fun c1 => ?_)
      · walk_at "rs"
        have e := fcl_mono (fcl_new hno c1) (ms.length - (i + 1))
        rw [Nat.add_sub_cancel' (by omega)] at e
        refine ⟨trivial, fun d hd => ?_⟩
        exact kr i e d _ ((s2.trans s3).trans (same_new hd)) upd_same
      · exact ⟨_, rfl, s2.trans s3, fcl_no hno (by simpa using c1)⟩
    · rintro σ H2 ⟨v2, rfl, s2, hno⟩
      rw [List.length_map, n1] at hno
      have k1 := kq hno
      walk_at "rs"
      refine ⟨j, _, dx, _, .ref L, rfl, s2 _ _ hj, T.cl_Journal, T.a_Journal_signed, jfs_s _ _, ?_⟩
      refine ⟨smD m, _, dp_sm (s2 _ _ hm), .lst (SqL.of (s2 _ _ hL)) (dp_sms (hs.same s2)), shaped_sm m ok, shaped_sms okm, ?_⟩
      have k2 : ∀ t H', But L H H' → H' L = some (.lst ((if ((ms.map smD).any fun z => PyData.eqv z (smD m)) = true then ps else ps ++ [p]).map V.ref)) → H' t = some (.tup [.int who, .ref p]) → Q (.ref t) H' := k1
      have fin : ∀ (H3 : Hp), But L H H3 → H3 j = some (.ins a.C_Journal dx (jfs who L)) → H3 L = some (.lst ((if ((ms.map smD).any fun z => PyData.eqv z (smD m)) = true then ps else ps ++ [p]).map V.ref)) → ∀ t, H3 t = none → Q (.ref t) (upd H3 t (.tup [.int who, .ref p])) := fun H3 k3 _ k4 t ht => by
        have s4 := same_new (o := .tup [.int who, .ref p]) ht
        exact k2 t _ (fun b o nb e => s4 _ _ (k3 b o nb e)) (s4 _ _ k4) upd_same
      clear k1 k2 kq kr
      cases q : ((ms.map smD).any fun z => PyData.eqv z (smD m)) with
      | true =>
        rw [q] at fin
        walk_at "rs"
        refine ⟨j, _, dx, _, .int who, rfl, s2 _ _ hj, T.cl_Journal, T.a_Journal_who, jfs_w _ _, ?_⟩
        walk_at "rs"
        refine ⟨(by show 2 ≤ sizeLine; decide), fun t ht => ?_⟩
        exact fin H2 (fun b o _ e => s2 b o e) (s2 _ _ hj) (s2 _ _ hL) t ht
      | false =>
        rw [q] at fin
        walk_at "rs"
        refine ⟨j, _, dx, _, .ref L, rfl, s2 _ _ hj, T.cl_Journal, T.a_Journal_signed, jfs_s _ _, ?_⟩
        refine ⟨.inl ⟨rfl, _, SqL.of (s2 _ _ hL)⟩, ?_⟩
        walk_at "rs"
        refine ⟨L, _, _, rfl, rfl, s2 _ _ hL, by rw [List.length_map]; exact small1000 (by omega), ?_⟩
        have nj : j ≠ L := fun e => by rw [e, hL] at hj; cases hj
        walk_at "rs"
        refine ⟨j, _, dx, _, .int who, rfl, by rw [upd_ne nj]; exact s2 _ _ hj, T.cl_Journal, T.a_Journal_who, jfs_w _ _, ?_⟩
        walk_at "rs"
        refine ⟨(by show 2 ≤ sizeLine; decide), fun t ht => ?_⟩
        refine fin _ (fun b o nb e => by rw [upd_ne nb]; exact s2 b o e) (by rw [upd_ne nj]; exact s2 _ _ hj) ?_ t ht
        rw [upd_same]
        simp
theorem ok_Journal_lines (T : Txt K mg a) : ∃ fd, FnOk P w K mg base CX0 3 a.d_Journal_lines fd ["self"] (spLines K a.C_Journal) ∧ Binds K fd ["self"] [] := by
  obtain ⟨fd, F, b⟩ := T.d_Journal_lines.F
  obtain ⟨fd_letter_line, G_letter_line, b_letter_line⟩ := ok_letter_line (P := P) (w := w) (base := base) T
  refine ⟨fd, F.ok sc_Journal_lines (fun vs H Q E h => ?_) (fun cdv A outer s H vs Q E hr h => ?_), b⟩
  · obtain ⟨_, _, _, _, _, rfl, _⟩ := h
    rfl
  · obtain ⟨j, L, who, ps, ms, rfl, ⟨dx, hj⟩, hL, hs, few, w0, w1, sm, k⟩ := h
    have n1 := hs.1
    refine ⟨_, (pss_one (ps_ret (pe_lc (own := [("statement", 1)]) (g := (gName 1)) (tt := tYes) rfl sc_Journal_lines.nd (pi_list (pe_fld (pv 0) rfl)) (blkOk_by (own := [("statement", 1)]) (N := sc_Journal_lines_N) (sc := defScope s_Journal_lines) (by decide +kernel)) (fun _ _ _ _ _ => (pg_name (i := 1) sc_Journal_lines.nd rfl (Or.inl rfl))) (fun _ _ _ _ _ => pts_nil) (fun _ _ _ _ _ => (pe_call G_letter_line (hr.mono (by decide)) rfl T.d_letter_line.g T.d_letter_line.kp b_letter_line .nil pass0 (pa_cons (pe_tup (pa_cons (pe_fldK (K := K) rfl (pv 0) rfl) (pa_cons (pv 1) pa_nil))) pa_nil)))))), ?_⟩
    walk_at "rs"
    refine ⟨j, _, dx, _, .ref L, rfl, hj, T.cl_Journal, T.a_Journal_signed, jfs_s _ _, ?_⟩
    walk_at "rs"
    refine ⟨⟨_, SqL.of hL⟩, fun D hD => ?_⟩
    refine lc_list (K := K) (a := L) (xs := ps.map V.ref) (fun i H2 => Same H H2 ∧ H2 D = some (.lst (((ms.take i).map (lineS who)).map V.str))) ⟨same_new hD, by rw [upd_same]; simp⟩ (fun i H2 _ ⟨s2, _⟩ => SqL.of (s2 _ _ hL)) ?_ ?_
    · rintro i y H2 hy ⟨s2, hd⟩
      have hi : i < ps.length := by
        have e := (List.getElem?_eq_some_iff.mp hy).1
        rwa [List.length_map] at e
      have hi' : i < ms.length := by omega
      rw [at_refs hi] at hy
      cases hy
      have et := take_succ_getD (d := default) hi'
      have hsy := sm _ (getD_mem2 (d := default) hi')
      have hm := s2 _ _ (hs.2 i hi')
      generalize ms.getD i default = m at et hsy hm
      refine ⟨rfl, ?_⟩
      walk_at "rs"
      refine ⟨j, _, dx, _, .int who, rfl, s2 _ _ hj, T.cl_Journal, T.a_Journal_who, jfs_w _ _, ?_⟩
      walk_at "rs"
      refine ⟨(by show 2 ≤ sizeLine; decide), fun t ht => ?_⟩
      have s3 := same_new (o := .tup [V.int who, V.ref (ps.getD i 0)]) ht
      refine ⟨t, ⟨who, m⟩, rfl, ⟨_, upd_same, s3 _ _ hm⟩, w0, w1, hsy, fun H4 s4 => ?_⟩
      refine ⟨_, s4 _ _ (s3 _ _ hd), by rw [List.length_map, List.length_map, List.length_take]; exact small1000 (by omega), same_upd (s2.trans (s3.trans s4)) hD, ?_⟩
      rw [upd_same, et]
      simp
    · rintro H2 ⟨s2, hd⟩
      rw [List.length_map, n1, List.take_length] at hd
      exact k D H2 s2 hd

theorem at_strs {ws : List Str} {k : Nat} (h : k < ws.length) : atI (ws.map V.str) (k : Int) = some (.str (ws.getD k "")) := atI_nat (by
  rw [List.getElem?_map, List.getD_eq_getElem?_getD, List.getElem?_eq_getElem h]
  rfl)
theorem msgL (i : Int) (h0 : 0 ≤ i) (h1 : i < 1000000000) : (((Str.empty ++ ("no right word at index " : Str)) ++ (toString i : Str)) : Str).length ≤ 1000 := by
  have a := (num_ok h0 h1).1
  have e : (((Str.empty ++ ("no right word at index " : Str)) ++ (toString i : Str)) : Str).length = (Str.empty ++ ("no right word at index " : Str)).length + (toString i : Str).length := by
    rw [TL.len_tl, TL.tl_append, List.length_append, ← TL.len_tl, ← TL.len_tl]
  rw [e]
  have c : (Str.empty ++ ("no right word at index " : Str)).length = 23 := by decide +kernel
  omega
theorem ok_BadLine_init (TE : TxtE P K mg a) (T : Txt K mg a) : ∃ fd, FnOk P w K mg base CX0 1 a.d_BadLine_init fd ["self", "at"] (spSup a.C_BadLine "at" fun v => ∃ i : Int, v = .int i ∧ 0 ≤ i ∧ i < 1000000000) ∧ Binds K fd ["self", "at"] [] := by
  obtain ⟨fd, S, b⟩ := TE.sup_BadLine
  have T0 : SupTxt "at" "at" s_BadLine_init _ _ _ _ _ _ _ _ _ _ := ⟨rfl, rfl, rfl, rfl, rfl, rfl, rfl, rfl, by decide +kernel, ⟨_, rfl, rfl⟩⟩
  refine ⟨fd, ok_sup S T0 (by decide +kernel) (by decide) (by decide) T.n_super ?_ (fun _ => rfl) (fun _ _ _ _ => rfl) (fun _ _ _ _ => rfl) (fun _ _ _ _ => rfl) _ (fun _ => rfl), b⟩
  rintro cd cc A outer s H E e v ⟨i, rfl, i0, i1⟩
  refine ⟨_, pa_cons (pe_joined (.cons pe_str (.cons (pe_fmt (pv 1)) .nil))) pa_nil, fun H1 Q q => ?_⟩
  have len := msgL i i0 i1
  refine ⟨_, rfl, by rw [sizeLine_eq]; decide +kernel, _, rfl, .inr ⟨i, rfl, log_small i0 i1, _, rfl, ?_, q _⟩⟩
  rw [sizeLine_eq]
  exact Nat.le_trans len (by decide)
theorem ok_proposal (T : Txt K mg a) : ∃ fd, FnOk P w K mg base CX0 1 a.d_proposal fd ["height", "turn", "block"] (spProp K) ∧ Binds K fd ["height", "turn", "block"] [] := by
  obtain ⟨fd, F, b⟩ := T.d_proposal.F
  refine ⟨fd, F.ok sc_proposal (fun vs H Q E h => ?_) (fun cdv A outer s H vs Q E hr h => ?_), b⟩
  · obtain ⟨_, _, _, rfl, _⟩ := h
    rfl
  · obtain ⟨h, t, b, rfl, k⟩ := h
    refine ⟨_, (pss_one (ps_ret (pe_tup (pa_cons pe_str (pa_cons (pv 0) (pa_cons (pv 1) (pa_cons (pv 2) pa_nil))))))), ?_⟩
    walk_at "rs"
    exact ⟨(by show 4 ≤ sizeLine; decide), fun p hp => k p _ (same_new hp) upd_same⟩
theorem ok_precommit (T : Txt K mg a) : ∃ fd, FnOk P w K mg base CX0 1 a.d_precommit fd ["height", "turn", "block"] (spPrec K) ∧ Binds K fd ["height", "turn", "block"] [] := by
  obtain ⟨fd, F, b⟩ := T.d_precommit.F
  refine ⟨fd, F.ok sc_precommit (fun vs H Q E h => ?_) (fun cdv A outer s H vs Q E hr h => ?_), b⟩
  · obtain ⟨_, _, _, rfl, _⟩ := h
    rfl
  · obtain ⟨h, t, b, rfl, k⟩ := h
    refine ⟨_, (pss_one (ps_ret (pe_tup (pa_cons pe_str (pa_cons (pv 0) (pa_cons (pv 1) (pa_cons (pv 2) pa_nil))))))), ?_⟩
    walk_at "rs"
    exact ⟨(by show 4 ≤ sizeLine; decide), fun p hp => k p _ (same_new hp) upd_same⟩
theorem ok_prevote (T : Txt K mg a) : ∃ fd, FnOk P w K mg base CX0 1 a.d_prevote fd ["height", "turn", "block", "lean"] (spPrev K) ∧ Binds K fd ["height", "turn", "block", "lean"] [] := by
  obtain ⟨fd, F, b⟩ := T.d_prevote.F
  refine ⟨fd, F.ok sc_prevote (fun vs H Q E h => ?_) (fun cdv A outer s H vs Q E hr h => ?_), b⟩
  · obtain ⟨_, _, _, _, rfl, _⟩ := h
    rfl
  · obtain ⟨h, t, b, l, rfl, k⟩ := h
    refine ⟨_, (pss_one (ps_ret (pe_tup (pa_cons pe_str (pa_cons (pv 0) (pa_cons (pv 1) (pa_cons (pv 2) (pa_cons (pv 3) pa_nil)))))))), ?_⟩
    walk_at "rs"
    exact ⟨(by show 5 ≤ sizeLine; decide), fun p hp => k p _ (same_new hp) upd_same⟩
theorem ok_is_number (T : Txt K mg a) : ∃ fd, FnOk P w K mg base CX0 1 a.d_is_number fd ["word"] (spIsNum K) ∧ Binds K fd ["word"] [] := by
  obtain ⟨fd, F, b⟩ := T.d_is_number.F
  refine ⟨fd, F.ok sc_is_number (fun vs H Q E h => ?_) (fun cdv A outer s H vs Q E hr h => ?_), b⟩
  · obtain ⟨_, rfl, _⟩ := h
    rfl
  · obtain ⟨x, rfl, lx, k⟩ := h
    have k0 := k _ (Same.refl H)
    refine ⟨_, (pss_cons (ps_if (PW.pt (pw_or (pt_not (pt_val (pe_bm0 PySem.F.plainAttrs_str PySem.F.slot_str_isascii PySem.F.type_str_isascii mt_isascii (pv 0)))) (pw_or (pt_not (pt_val (pe_bm0 PySem.F.plainAttrs_str PySem.F.slot_str_isdigit PySem.F.type_str_isdigit mt_isdigit (pv 0)))) (pw_or1 (pt_cmpR op_gt (pe_callB call_len_str (by rfl) T.n_len PySem.boot_len (pa_cons (pv 0) pa_nil)) (pe_glob (v := (.int 9)) rfl T.c_MOST_DIGITS.choose_spec ⟨_, rfl⟩) (nomark _))))))
      (pss_one (ps_ret pe_bl))
      pss_nil)
      (pss_one (ps_ret (pe_or (pe_cmpR op_eq (pv 0) pe_str (nomark _)) (pe_one (pe_cmpR op_ne (pe_ix ix_str (pv 0) pe_int (fun _ _ => rfl)) pe_str (nomark _))))))), ?_⟩
    walk_at "rs"
    refine ⟨trivial, ?_⟩
    walk_at "rs"
    refine ite2 (fun c1 => ?_) (fun c1 => ?_)
    · rw [num_not1 (.inl (by simpa using c1))] at k0
      walk_at "rs"
      exact k0
    walk_at "rs"
    refine ⟨trivial, ?_⟩
    walk_at "rs"
    refine ite2 (fun c2 => ?_) (fun c2 => ?_)
    · rw [num_not1 (.inr (by simpa using c2))] at k0
      walk_at "rs"
      exact k0
    walk_at "rs"
    refine ⟨lx, ?_⟩
    walk_at "rs"
    refine ite2 (fun c3 => ?_) (fun c3 => ?_)
    · rw [num_not2 (by simp at c3; omega)] at k0
      walk_at "rs"
      exact k0
    have a1 : Txt.isascii x = true := by simpa using c1
    have a2 : Txt.isdigit x = true := by simpa using c2
    rw [num_last a1 a2 (by simp at c3; omega)] at k0
    obtain ⟨c, l, ec⟩ : ∃ c l, TL.tl x = c :: l := by
      have := num_parts x
      rw [a1, a2] at this
      have := of_decide_eq_true (Bool.and_eq_true_iff.mp this.symm).2
      cases e : TL.tl x with
      | nil => exact absurd e this
      | cons c l => exact ⟨c, l, rfl⟩
    walk_at "rs"
    refine ite2 (fun c4 => ?_) (fun c4 => ?_)
    · have e0 : x = "0" := by simpa using c4
      rw [decide_eq_true e0] at k0
      exact k0
    · have e0 : ¬ x = "0" := by simpa using c4
      rw [decide_eq_false e0, ec] at k0
      walk_at "rs"
      refine ⟨_, _, c, rfl, rfl, lx, atI_nat (j := 0) (by rw [show x.cps.toList = c :: l from ec]; rfl), ?_⟩
      walk_at "rs"
      have e3 : (!decide (V.str ⟨#[c]⟩ = V.str "0")) = (false || decide ((c :: l).head? ≠ some 48)) := by
        have : (("0" : Str)) = ⟨#[48]⟩ := by decide +kernel
        rw [this]
        simp
      rw [e3]
      exact k0
theorem ok_is_block (T : Txt K mg a) : ∃ fd, FnOk P w K mg base CX0 1 a.d_is_block fd ["word"] (spIsBlk K) ∧ Binds K fd ["word"] [] := by
  obtain ⟨fd, F, b⟩ := T.d_is_block.F
  refine ⟨fd, F.ok sc_is_block (fun vs H Q E h => ?_) (fun cdv A outer s H vs Q E hr h => ?_), b⟩
  · obtain ⟨_, rfl, _⟩ := h
    rfl
  · obtain ⟨x, rfl, lx, k⟩ := h
    have k2 := k
    have k0 := k _ (Same.refl H)
    refine ⟨_, (pss_cons (ps_if (PW.pt (pw_or (pt_cmpR op_lt (pe_callB call_len_str (by rfl) T.n_len PySem.boot_len (pa_cons (pv 0) pa_nil)) pe_int (nomark _)) (pw_or (pt_cmpR op_gt (pe_callB call_len_str (by rfl) T.n_len PySem.boot_len (pa_cons (pv 0) pa_nil)) (pe_glob (v := (.int 60)) rfl T.c_MOST_SIGNS.choose_spec ⟨_, rfl⟩) (nomark _)) (pw_or1 (pt_cmpR op_notIn_sign (pe_ix ix_str (pv 0) pe_int (fun _ _ => rfl)) (pe_glob (v := (.str "abcdefghijklmnopqrstuvwxyz")) rfl T.c_LETTERS.choose_spec ⟨_, rfl⟩) (by rfl))))))
      (pss_one (ps_ret pe_bl))
      pss_nil)
      (pss_one (ps_ret (pe_callB (cr_all rfl) (by rfl) T.n_all (by decide +kernel) (pa_cons (pe_lc (own := [("sign", 1)]) (g := (gName 1)) (tt := tYes) rfl sc_is_block.nd (pi_str (pv 0)) (blkOk_by (own := [("sign", 1)]) (N := sc_is_block_N) (sc := defScope s_is_block) (by decide +kernel)) (fun _ _ _ _ _ => (pg_name (i := 1) sc_is_block.nd rfl (Or.inl rfl))) (fun _ _ _ _ _ => pts_nil) (fun _ _ _ _ _ => (pe_cmpR op_in_sign (pv 1) (pe_glob (v := (.str "abcdefghijklmnopqrstuvwxyz0123456789")) rfl T.c_BLOCK_SIGNS.choose_spec ⟨_, rfl⟩) (by rfl)))) pa_nil))))), ?_⟩
    walk_at "rs"
    refine ⟨lx, ?_⟩
    walk_at "rs"
    refine ite2 (fun c1 => ?_) (fun c1 => ?_)
    · have e : TL.tl x = [] := by
        have := of_decide_eq_true c1
        have : x.length = 0 := by omega
        rw [TL.len_tl] at this
        exact List.eq_nil_of_length_eq_zero (by omega)
      have : blkB x = false := by unfold blkB; rw [e]
      rw [this] at k0
      walk_at "rs"
      refine ite2 (fun _ => ?_) (fun z => absurd rfl z)
      walk_at "rs"
      exact k0
    obtain ⟨c, l, ec⟩ : ∃ c l, TL.tl x = c :: l := by
      have : ¬ ((x.length : Int) < 1) := fun z => c1 (decide_eq_true z)
      have : ¬ x.length = 0 := by omega
      rw [TL.len_tl] at this
      cases e : TL.tl x with
      | nil => rw [e] at this; exact absurd rfl this
      | cons c l => exact ⟨c, l, rfl⟩
    have eb : blkB x = (decide (l.length + 1 ≤ 60) && (isL c && (c :: l).all isA)) := by unfold blkB; rw [ec]
    rw [eb] at k0
    walk_at "rs"
    refine ⟨lx, ?_⟩
    walk_at "rs"
    have el : x.length = l.length + 1 := by rw [TL.len_tl, ec]; rfl
    refine ite2 (fun c2 => ?_) (fun c2 => ?_)
    · have : ¬ (l.length + 1 ≤ 60) := by simp at c2; omega
      rw [decide_eq_false this] at k0
      walk_at "rs"
      refine ite2 (fun _ => ?_) (fun z => absurd rfl z)
      walk_at "rs"
      exact k0
    have : l.length + 1 ≤ 60 := by simp at c2; omega
    rw [decide_eq_true this, Bool.true_and] at k0
    walk_at "rs"
    refine ⟨_, _, c, rfl, rfl, lx, atI_nat (j := 0) (by rw [show x.cps.toList = c :: l from ec]; rfl), ?_⟩
    walk_at "rs"
    refine ite2 (fun c3 => ?_) (fun c3 => ?_)
    · have : isL c = false := by
        unfold isL
        have c3' : (!decide (c ∈ TL.tl "abcdefghijklmnopqrstuvwxyz")) = true := c3
        simpa using c3'
      rw [this] at k0
      walk_at "rs"
      exact k0
    have : isL c = true := by
      unfold isL
      have c3' : ¬ (!decide (c ∈ TL.tl "abcdefghijklmnopqrstuvwxyz")) = true := c3
      simpa using c3'
    rw [eb, decide_eq_true (show l.length + 1 ≤ 60 by assumption), this, Bool.true_and, Bool.true_and] at k2
    walk_at "rs"
    intro D hD
    have es : x.cps.toList = c :: l := ec
    have esz : x.cps.size = (c :: l).length := by rw [← es, Array.length_toList]
    refine lc_it walk_str (fun i H2 => Same H H2 ∧ H2 D = some (.lst ((((c :: l).take i).map isA).map V.bl))) ⟨same_new hD, by rw [upd_same]; rfl⟩ (fun _ _ _ _ => trivial) ?_ ?_
    · rintro i y H2 _ hi ⟨s2, hd⟩ ⟨rfl, d, hd0, rfl⟩
      have hd1 : (c :: l)[i]? = some d := by rw [← es, Array.getElem?_toList]; exact hd0
      have et : (c :: l).take (i + 1) = (c :: l).take i ++ [d] := by rw [List.take_add_one, hd1]; rfl
      refine ⟨rfl, ?_⟩
      walk_at "rs"
      refine ⟨_, hd, by rw [List.length_map, List.length_map, List.length_take]; exact small1000 (by rw [List.length_cons]; omega), same_upd s2 hD, ?_⟩
      rw [upd_same, et]
      simp only [List.map_append, List.map_cons, List.map_nil]
      rfl
    · rintro H2 ⟨s2, hd⟩
      rw [esz, List.take_length] at hd
      walk_at "rs"
      refine ⟨D, _, rfl, SqL.of hd, ?_⟩
      rw [List.all_map]
      exact k2 _ s2
theorem ok_word_at (TE : TxtE P K mg a) (T : Txt K mg a) : ∃ fd, FnOk P w K mg base (L2N.CX P w) 3 a.d_word_at fd ["words", "at"] (spWordAt K a.C_BadLine) ∧ Binds K fd ["words", "at"] [] := by
  obtain ⟨fd, F, b⟩ := T.d_word_at.F
  obtain ⟨fd_BadLine_init, G_BadLine_init, b_BadLine_init⟩ := ok_BadLine_init (P := P) (w := w) (base := base) TE T
  refine ⟨fd, fun_okN F sc_word_at (fun vs H Q E h => ?_) (fun cdv A outer s H vs Q E hr h => ?_), b⟩
  · obtain ⟨_, _, _, rfl, _⟩ := h
    rfl
  · obtain ⟨W, ws, k, rfl, hW, lw, sw, k6, kr, kq⟩ := h
    refine ⟨_, (pss_cons (ps_if (pt_cmpR op_ge (pv 1) (pe_callB call_len_seq (by rfl) T.n_len PySem.boot_len (pa_cons (pv 0) pa_nil)) (nomark _))
      (pss_one (L2N.ps_raise rfl (L2N.takes_of rfl rfl rfl rfl) (pmk_sup TE.oex_BadLine TE.iC_BadLine TE.tI_BadLine G_BadLine_init (hr.mono (by decide)) b_BadLine_init rfl TE.g_BadLine (pa_cons (pe_callB call_len_seq (by rfl) T.n_len PySem.boot_len (pa_cons (pv 0) pa_nil)) pa_nil))))
      pss_nil)
      (pss_one (ps_ret (pe_ix ix_list (pv 0) (pv 1) (fun _ _ => rfl))))), ?_⟩
    walk_at "rs"
    refine ⟨W, _, rfl, .inl (SqL.of hW), ?_⟩
    walk_at "rs"
    refine ite2 (fun c1 => ?_) (fun c1 => ?_)
    · have c1 : ws.length ≤ k := by simpa using c1
      have er : wordAt ws k = .error (ws.length : Int) := if_neg (by omega)
      walk_at "rs"
      refine ⟨W, _, rfl, .inl (SqL.of hW), ?_⟩
      walk_at "rs"
      rw [List.length_map]
      refine ⟨⟨_, rfl, Int.natCast_nonneg _, by omega⟩, fun d hd => ?_⟩
      exact kr _ (by show mapE V.str (wordAt ws k) = _; rw [er]; rfl) d _ (same_new hd) upd_same
    · have c1 : k < ws.length := by simpa using c1
      have er : wordAt ws k = .ok (ws.getD k "") := if_pos c1
      walk_at "rs"
      refine ⟨W, _, _, _, rfl, rfl, SqL.of hW, at_strs c1, ?_⟩
      exact kq _ (by show mapE V.str (wordAt ws k) = _; rw [er]; rfl) _ (Same.refl H)
theorem ok_number_at (TE : TxtE P K mg a) (T : Txt K mg a) : ∃ fd, FnOk P w K mg base (L2N.CX P w) 4 a.d_number_at fd ["words", "at"] (spNumAt K a.C_BadLine) ∧ Binds K fd ["words", "at"] [] := by
  obtain ⟨fd, F, b⟩ := T.d_number_at.F
  obtain ⟨fd_word_at, G_word_at, b_word_at⟩ := ok_word_at (P := P) (w := w) (base := base) TE T
  obtain ⟨fd_is_number, G_is_number, b_is_number⟩ := ok_is_number (P := P) (w := w) (base := base) T
  obtain ⟨fd_BadLine_init, G_BadLine_init, b_BadLine_init⟩ := ok_BadLine_init (P := P) (w := w) (base := base) TE T
  refine ⟨fd, fun_okN F sc_number_at (fun vs H Q E h => ?_) (fun cdv A outer s H vs Q E hr h => ?_), b⟩
  · obtain ⟨_, _, _, rfl, _⟩ := h
    rfl
  · obtain ⟨W, ws, k, rfl, hW, lw, sw, k6, kr, kq⟩ := h
    have kr' : ∀ e, numAt ws k = .error e → ExR a.C_BadLine H E e := fun e h => kr e (by show mapE _ _ = _; rw [h]; rfl)
    have kq' : ∀ n, numAt ws k = .ok n → ∀ H', Same H H' → Q (.int n) H' := fun n h => kq _ (by show mapE _ _ = _; rw [h]; rfl)
    clear kr kq
    refine ⟨_, (pss_cons (ps_set (i := 2) sc_number_at.nd rfl (Or.inl rfl) (pe_call G_word_at (hr.mono (by decide)) rfl T.d_word_at.g T.d_word_at.kp b_word_at .nil (L2N.passes_call (W := fun c d _ H => E c d H) (E := E) (L2N.takes_of rfl rfl rfl rfl) (fun _ _ _ _ h => h)) (pa_cons (pv 0) (pa_cons (pv 1) pa_nil))))
      (pss_cons (ps_if (pt_not (pt_val (pe_call G_is_number (hr.mono (by decide)) rfl T.d_is_number.g T.d_is_number.kp b_is_number .nil pass0 (pa_cons (pv 2) pa_nil))))
      (pss_one (L2N.ps_raise rfl (L2N.takes_of rfl rfl rfl rfl) (pmk_sup TE.oex_BadLine TE.iC_BadLine TE.tI_BadLine G_BadLine_init (hr.mono (by decide)) b_BadLine_init rfl TE.g_BadLine (pa_cons (pv 1) pa_nil))))
      pss_nil)
      (pss_one (ps_ret (pe_callTy call_int_str (by rfl) T.n_int (by decide +kernel) (pa_cons (pv 2) pa_nil)))))), ?_⟩
    walk_at "rs"
    refine ⟨W, ws, k, rfl, hW, lw, sw, k6, fun e he => ?_, fun n hn H1 s1 => ?_⟩
    · cases q : wordAt ws k with
      | ok x => simp only [q, mapE] at he; cases he
      | error e' =>
        simp only [q, mapE] at he
        cases he
        exact kr' e (by unfold numAt; rw [q])
    · cases q : wordAt ws k with
      | error e' => simp only [q, mapE] at hn; cases hn
      | ok x =>
        simp only [q, mapE] at hn
        cases hn
        have hx := word_mem q
        walk_at "rs"
        refine ⟨sw x hx, fun H2 s2 => ?_⟩
        walk_at "rs"
        refine ite2 (fun c1 => ?_) (fun c1 => ?_)
        · have c2 : numB x = false := by simpa using c1
          walk_at "rs"
          refine ⟨⟨_, rfl, Int.natCast_nonneg _, by omega⟩, fun d hd => ?_⟩
          exact kr' _ (by unfold numAt; rw [q]; exact if_neg (by rw [c2]; exact Bool.false_ne_true)) d _ ((s1.trans s2).trans (same_new hd)) upd_same
        · have c2 : numB x = true := by simpa using c1
          walk_at "rs"
          have nv := num_int c2
          refine ⟨x, _, rfl, nv.1, Nat.le_trans nv.2 (by decide), ?_⟩
          exact kq' _ (by unfold numAt; rw [q]; exact if_pos c2) _ (s1.trans s2)
theorem ok_kind_at (TE : TxtE P K mg a) (T : Txt K mg a) : ∃ fd, FnOk P w K mg base (L2N.CX P w) 4 a.d_kind_at fd ["words", "at"] (spKindAt K a.C_BadLine) ∧ Binds K fd ["words", "at"] [] := by
  obtain ⟨fd, F, b⟩ := T.d_kind_at.F
  obtain ⟨fd_word_at, G_word_at, b_word_at⟩ := ok_word_at (P := P) (w := w) (base := base) TE T
  obtain ⟨fd_BadLine_init, G_BadLine_init, b_BadLine_init⟩ := ok_BadLine_init (P := P) (w := w) (base := base) TE T
  refine ⟨fd, fun_okN F sc_kind_at (fun vs H Q E h => ?_) (fun cdv A outer s H vs Q E hr h => ?_), b⟩
  · obtain ⟨_, _, _, rfl, _⟩ := h
    rfl
  · obtain ⟨W, ws, k, rfl, hW, lw, sw, k6, kr, kq⟩ := h
    have kr' : ∀ e, kindAt ws k = .error e → ExR a.C_BadLine H E e := fun e h => kr e (by show mapE _ _ = _; rw [h]; rfl)
    have kq' : ∀ n, kindAt ws k = .ok n → ∀ H', Same H H' → Q (.str n.s) H' := fun n h => kq _ (by show mapE _ _ = _; rw [h]; rfl)
    clear kr kq
    refine ⟨_, (pss_cons (ps_set (i := 2) sc_kind_at.nd rfl (Or.inl rfl) (pe_call G_word_at (hr.mono (by decide)) rfl T.d_word_at.g T.d_word_at.kp b_word_at .nil (L2N.passes_call (W := fun c d _ H => E c d H) (E := E) (L2N.takes_of rfl rfl rfl rfl) (fun _ _ _ _ h => h)) (pa_cons (pv 0) (pa_cons (pv 1) pa_nil))))
      (pss_cons (ps_if (pt_cmpR op_notIn_seq (pv 2) (pe_glob (v := .ref a.P_KINDS) rfl TE.g_KINDS rfl) (by rfl))
      (pss_one (L2N.ps_raise rfl (L2N.takes_of rfl rfl rfl rfl) (pmk_sup TE.oex_BadLine TE.iC_BadLine TE.tI_BadLine G_BadLine_init (hr.mono (by decide)) b_BadLine_init rfl TE.g_BadLine (pa_cons (pv 1) pa_nil))))
      pss_nil)
      (pss_one (ps_ret (pv 2))))), ?_⟩
    walk_at "rs"
    refine ⟨W, ws, k, rfl, hW, lw, sw, k6, fun e he => ?_, fun n hn H1 s1 => ?_⟩
    · cases q : wordAt ws k with
      | ok x => simp only [q, mapE] at he; cases he
      | error e' =>
        simp only [q, mapE] at he
        cases he
        exact kr' e (by unfold kindAt; rw [q])
    · cases q : wordAt ws k with
      | error e' => simp only [q, mapE] at hn; cases hn
      | ok x =>
        simp only [q, mapE] at hn
        cases hn
        walk_at "rs"
        refine ⟨_, _, rfl, .inr (TE.s_KINDS _), rfl, rfl, ?_⟩
        rw [if_pos rfl, inV_kinds]
        walk_at "rs"
        refine ite2 (fun c1 => ?_) (fun c1 => ?_)
        · have c2 : kdOf x = none := by simpa using c1
          walk_at "rs"
          refine ⟨⟨_, rfl, Int.natCast_nonneg _, by omega⟩, fun d hd => ?_⟩
          exact kr' _ (by unfold kindAt; rw [q]; simp only [c2]) d _ (s1.trans (same_new hd)) upd_same
        · obtain ⟨d, c2⟩ : ∃ d, kdOf x = some d := Option.ne_none_iff_exists'.mp (by simpa using c1)
          walk_at "rs"
          rw [kd_of c2]
          exact kq' _ (by unfold kindAt; rw [q]; simp only [c2]) _ s1
theorem ok_end_at (TE : TxtE P K mg a) (T : Txt K mg a) : ∃ fd, FnOk P w K mg base (L2N.CX P w) 3 a.d_end_at fd ["words", "at"] (spEndAt K a.C_BadLine) ∧ Binds K fd ["words", "at"] [] := by
  obtain ⟨fd, F, b⟩ := T.d_end_at.F
  obtain ⟨fd_BadLine_init, G_BadLine_init, b_BadLine_init⟩ := ok_BadLine_init (P := P) (w := w) (base := base) TE T
  refine ⟨fd, fun_okN F sc_end_at (fun vs H Q E h => ?_) (fun cdv A outer s H vs Q E hr h => ?_), b⟩
  · obtain ⟨_, _, _, rfl, _⟩ := h
    rfl
  · obtain ⟨W, ws, k, rfl, hW, lw, sw, k6, kr, kq⟩ := h
    have kr' : ∀ e, endAt ws k = .error e → ExR a.C_BadLine H E e := fun e h => kr e (by show mapE _ _ = _; rw [h]; rfl)
    have kq' : ∀ n, endAt ws k = .ok n → ∀ H', Same H H' → Q .non H' := fun n h => kq _ (by show mapE _ _ = _; rw [h]; rfl)
    clear kr kq
    refine ⟨_, (pss_one (ps_if (pt_cmpR op_gt (pe_callB call_len_seq (by rfl) T.n_len PySem.boot_len (pa_cons (pv 0) pa_nil)) (pv 1) (nomark _))
      (pss_one (L2N.ps_raise rfl (L2N.takes_of rfl rfl rfl rfl) (pmk_sup TE.oex_BadLine TE.iC_BadLine TE.tI_BadLine G_BadLine_init (hr.mono (by decide)) b_BadLine_init rfl TE.g_BadLine (pa_cons (pv 1) pa_nil))))
      pss_nil)), ?_⟩
    walk_at "rs"
    refine ⟨W, _, rfl, .inl (SqL.of hW), ?_⟩
    walk_at "rs"
    refine ite2 (fun c1 => ?_) (fun c1 => ?_)
    · have c2 : k < ws.length := by simpa using c1
      walk_at "rs"
      refine ⟨⟨_, rfl, Int.natCast_nonneg _, by omega⟩, fun d hd => ?_⟩
      exact kr' _ (if_pos c2) d _ (same_new hd) upd_same
    · have c2 : ¬ k < ws.length := by simpa using c1
      exact kq' () (if_neg c2) _ (Same.refl H)
theorem ok_block_at (TE : TxtE P K mg a) (T : Txt K mg a) : ∃ fd, FnOk P w K mg base (L2N.CX P w) 4 a.d_block_at fd ["words", "at", "kind"] (spBlockAt K a.C_BadLine) ∧ Binds K fd ["words", "at", "kind"] [] := by
  obtain ⟨fd, F, b⟩ := T.d_block_at.F
  obtain ⟨fd_word_at, G_word_at, b_word_at⟩ := ok_word_at (P := P) (w := w) (base := base) TE T
  obtain ⟨fd_is_block, G_is_block, b_is_block⟩ := ok_is_block (P := P) (w := w) (base := base) T
  obtain ⟨fd_BadLine_init, G_BadLine_init, b_BadLine_init⟩ := ok_BadLine_init (P := P) (w := w) (base := base) TE T
  refine ⟨fd, fun_okN F sc_block_at (fun vs H Q E h => ?_) (fun cdv A outer s H vs Q E hr h => ?_), b⟩
  · obtain ⟨_, _, _, _, rfl, _⟩ := h
    rfl
  · obtain ⟨W, ws, k, kd, rfl, hW, lw, sw, k6, kr, kq⟩ := h
    refine ⟨_, (pss_cons (ps_set (i := 3) sc_block_at.nd rfl (Or.inl rfl) (pe_call G_word_at (hr.mono (by decide)) rfl T.d_word_at.g T.d_word_at.kp b_word_at .nil (L2N.passes_call (W := fun c d _ H => E c d H) (E := E) (L2N.takes_of rfl rfl rfl rfl) (fun _ _ _ _ h => h)) (pa_cons (pv 0) (pa_cons (pv 1) pa_nil))))
      (pss_cons (ps_if (PW.pt (pw_and (pt_cmpR op_eq (pv 3) (pe_glob (v := (.str "-")) rfl T.c_NONE.choose_spec ⟨_, rfl⟩) (nomark _)) (pw_and1 (pt_cmpR op_ne (pv 2) pe_str (nomark _)))))
      (pss_one (ps_ret pe_non))
      pss_nil)
      (pss_cons (ps_if (pt_not (pt_val (pe_call G_is_block (hr.mono (by decide)) rfl T.d_is_block.g T.d_is_block.kp b_is_block .nil pass0 (pa_cons (pv 3) pa_nil))))
      (pss_one (L2N.ps_raise rfl (L2N.takes_of rfl rfl rfl rfl) (pmk_sup TE.oex_BadLine TE.iC_BadLine TE.tI_BadLine G_BadLine_init (hr.mono (by decide)) b_BadLine_init rfl TE.g_BadLine (pa_cons (pv 1) pa_nil))))
      pss_nil)
      (pss_one (ps_ret (pv 3)))))), ?_⟩
    walk_at "rs"
    refine ⟨W, ws, k, rfl, hW, lw, sw, k6, fun e he => ?_, fun n hn H1 s1 => ?_⟩
    · cases q : wordAt ws k with
      | ok x => simp only [q, mapE] at he; cases he
      | error e' =>
        simp only [q, mapE] at he
        cases he
        exact kr e (by unfold blockAt; rw [q])
    · cases q : wordAt ws k with
      | error e' => simp only [q, mapE] at hn; cases hn
      | ok x =>
        simp only [q, mapE] at hn
        cases hn
        have hx := word_mem q
        have fin1 : ∀ y, Q y H1 → Q y H1 := fun _ h => h
        walk_at "rs"
        have rest : ¬ (x = "-" ∧ kd ≠ .prop) → blockAt ws k kd = if blkB x = true then .ok (some x) else .error (k : Int) := fun h => by
          unfold blockAt
          rw [q]
          exact if_neg h
        refine ite2 (fun c1 => ?_) (fun c1 => ?_)
        · have e1 : x = "-" := by simpa using c1
          walk_at "rs"
          refine ite2 (fun c2 => ?_) (fun c2 => ?_)
          · have e2 : kd ≠ .prop := by simpa [s_prop] using c2
            walk_at "rs"
            exact kq none (by unfold blockAt; rw [q]; exact if_pos ⟨e1, e2⟩) _ s1
          · have e2 : kd = .prop := by simpa [s_prop] using c2
            have e3 := rest fun z => z.2 e2
            walk_at "rs"
            refine ⟨sw x hx, fun H2 s2 => ?_⟩
            walk_at "rs"
            refine ite2 (fun c3 => ?_) (fun c3 => ?_)
            · have e4 : blkB x = false := by simpa using c3
              walk_at "rs"
              refine ⟨⟨_, rfl, Int.natCast_nonneg _, by omega⟩, fun d hd => ?_⟩
              exact kr _ (by rw [e3, e4]; rfl) d _ ((s1.trans s2).trans (same_new hd)) upd_same
            · have e4 : blkB x = true := by simpa using c3
              walk_at "rs"
              exact kq (some x) (by rw [e3, e4]; rfl) _ (s1.trans s2)
        · have e1 : ¬ x = "-" := by simpa using c1
          have e3 := rest fun z => e1 z.1
          walk_at "rs"
          refine ⟨sw x hx, fun H2 s2 => ?_⟩
          walk_at "rs"
          refine ite2 (fun c3 => ?_) (fun c3 => ?_)
          · have e4 : blkB x = false := by simpa using c3
            walk_at "rs"
            refine ⟨⟨_, rfl, Int.natCast_nonneg _, by omega⟩, fun d hd => ?_⟩
            exact kr _ (by rw [e3, e4]; rfl) d _ ((s1.trans s2).trans (same_new hd)) upd_same
          · have e4 : blkB x = true := by simpa using c3
            walk_at "rs"
            exact kq (some x) (by rw [e3, e4]; rfl) _ (s1.trans s2)
theorem ok_lean_at (TE : TxtE P K mg a) (T : Txt K mg a) : ∃ fd, FnOk P w K mg base (L2N.CX P w) 5 a.d_lean_at fd ["words", "at", "turn"] (spLeanAt K a.C_BadLine) ∧ Binds K fd ["words", "at", "turn"] [] := by
  obtain ⟨fd, F, b⟩ := T.d_lean_at.F
  obtain ⟨fd_word_at, G_word_at, b_word_at⟩ := ok_word_at (P := P) (w := w) (base := base) TE T
  obtain ⟨fd_number_at, G_number_at, b_number_at⟩ := ok_number_at (P := P) (w := w) (base := base) TE T
  obtain ⟨fd_BadLine_init, G_BadLine_init, b_BadLine_init⟩ := ok_BadLine_init (P := P) (w := w) (base := base) TE T
  refine ⟨fd, fun_okN F sc_lean_at (fun vs H Q E h => ?_) (fun cdv A outer s H vs Q E hr h => ?_), b⟩
  · obtain ⟨_, _, _, _, rfl, _⟩ := h
    rfl
  · obtain ⟨W, ws, k, t, rfl, hW, lw, sw, k6, kr, kq⟩ := h
    refine ⟨_, (pss_cons (ps_set (i := 3) sc_lean_at.nd rfl (Or.inl rfl) (pe_call G_word_at (hr.mono (by decide)) rfl T.d_word_at.g T.d_word_at.kp b_word_at .nil (L2N.passes_call (W := fun c d _ H => E c d H) (E := E) (L2N.takes_of rfl rfl rfl rfl) (fun _ _ _ _ h => h)) (pa_cons (pv 0) (pa_cons (pv 1) pa_nil))))
      (pss_cons (ps_if (pt_cmpR op_eq (pv 3) (pe_glob (v := (.str "-")) rfl T.c_NONE.choose_spec ⟨_, rfl⟩) (nomark _))
      (pss_one (ps_ret pe_non))
      pss_nil)
      (pss_cons (ps_set (i := 4) sc_lean_at.nd rfl (Or.inl rfl) (pe_call G_number_at (hr.mono (by decide)) rfl T.d_number_at.g T.d_number_at.kp b_number_at .nil (L2N.passes_call (W := fun c d _ H => E c d H) (E := E) (L2N.takes_of rfl rfl rfl rfl) (fun _ _ _ _ h => h)) (pa_cons (pv 0) (pa_cons (pv 1) pa_nil))))
      (pss_cons (ps_if (pt_cmpR op_ge (pv 4) (pv 2) (nomark _))
      (pss_one (L2N.ps_raise rfl (L2N.takes_of rfl rfl rfl rfl) (pmk_sup TE.oex_BadLine TE.iC_BadLine TE.tI_BadLine G_BadLine_init (hr.mono (by decide)) b_BadLine_init rfl TE.g_BadLine (pa_cons (pv 1) pa_nil))))
      pss_nil)
      (pss_one (ps_ret (pv 4))))))), ?_⟩
    walk_at "rs"
    refine ⟨W, ws, k, rfl, hW, lw, sw, k6, fun e he => ?_, fun n hn H1 s1 => ?_⟩
    · cases q : wordAt ws k with
      | ok x => simp only [q, mapE] at he; cases he
      | error e' =>
        simp only [q, mapE] at he
        cases he
        exact kr e (by unfold leanAt; rw [q])
    · cases q : wordAt ws k with
      | error e' => simp only [q, mapE] at hn; cases hn
      | ok x =>
        simp only [q, mapE] at hn
        cases hn
        have hx := word_mem q
        walk_at "rs"
        refine ite2 (fun c1 => ?_) (fun c1 => ?_)
        · have e1 : x = "-" := by simpa using c1
          walk_at "rs"
          exact kq none (by unfold leanAt; rw [q]; exact if_pos e1) _ s1
        · have e1 : ¬ x = "-" := by simpa using c1
          have e3 : leanAt ws k t = if numB x = true then (if numV x < t then .ok (some (numV x)) else .error (k : Int)) else .error (k : Int) := by
            unfold leanAt
            rw [q]
            exact if_neg e1
          have e5 : numAt ws k = if numB x = true then .ok (numV x) else .error (k : Int) := by
            unfold numAt
            rw [q]
          walk_at "rs"
          refine ⟨W, ws, k, rfl, s1 _ _ hW, lw, sw, k6, fun e he => ?_, fun n hn H2 s2 => ?_⟩
          · cases e4 : numB x with
            | true => simp only [e5, e4, if_true, mapE] at he; cases he
            | false =>
              rw [e4] at e3
              simp only [e5, e4, mapE] at he
              cases he
              exact fun d H' s' hd => kr _ e3 d H' (s1.trans s') hd
          · cases e4 : numB x with
            | false => simp only [e5, e4, mapE] at hn; cases hn
            | true =>
              rw [e4, if_pos rfl] at e3
              simp only [e5, e4, if_true, mapE] at hn
              cases hn
              walk_at "rs"
              refine ite2 (fun c3 => ?_) (fun c3 => ?_)
              · have e6 : ¬ numV x < t := by have := of_decide_eq_true c3; omega
                walk_at "rs"
                refine ⟨⟨_, rfl, Int.natCast_nonneg _, by omega⟩, fun d hd => ?_⟩
                exact kr _ (by rw [e3, if_neg e6]) d _ ((s1.trans s2).trans (same_new hd)) upd_same
              · have e6 : numV x < t := by
                  have : ¬ t ≤ numV x := fun z => c3 (decide_eq_true z)
                  omega
                walk_at "rs"
                exact kq _ (by rw [e3, if_pos e6]) _ (s1.trans s2)
theorem ok_read_letter (TE : TxtE P K mg a) (T : Txt K mg a) : ∃ fd, FnOk P w K mg base (L2N.CX P w) 6 a.d_read_letter fd ["line"] (spRead K a.C_BadLine) ∧ Binds K fd ["line"] [] := by
  obtain ⟨fd, F, b⟩ := T.d_read_letter.F
  obtain ⟨fd_number_at, G_number_at, b_number_at⟩ := ok_number_at (P := P) (w := w) (base := base) TE T
  obtain ⟨fd_kind_at, G_kind_at, b_kind_at⟩ := ok_kind_at (P := P) (w := w) (base := base) TE T
  obtain ⟨fd_block_at, G_block_at, b_block_at⟩ := ok_block_at (P := P) (w := w) (base := base) TE T
  obtain ⟨fd_end_at, G_end_at, b_end_at⟩ := ok_end_at (P := P) (w := w) (base := base) TE T
  obtain ⟨fd_lean_at, G_lean_at, b_lean_at⟩ := ok_lean_at (P := P) (w := w) (base := base) TE T
  obtain ⟨fd_proposal, G_proposal, b_proposal⟩ := ok_proposal (P := P) (w := w) (base := base) T
  obtain ⟨fd_prevote, G_prevote, b_prevote⟩ := ok_prevote (P := P) (w := w) (base := base) T
  obtain ⟨fd_precommit, G_precommit, b_precommit⟩ := ok_precommit (P := P) (w := w) (base := base) T
  refine ⟨fd, fun_okN F sc_read_letter (fun vs H Q E h => ?_) (fun cdv A outer s H vs Q E hr h => ?_), b⟩
  · obtain ⟨_, rfl, _⟩ := h
    rfl
  · obtain ⟨line, rfl, ll, kr, kq⟩ := h
    refine ⟨_, (pss_cons (ps_set (i := 1) sc_read_letter.nd rfl (Or.inl rfl) (pe_split (pv 0) pe_str))
      (pss_cons (ps_set (i := 2) sc_read_letter.nd rfl (Or.inl rfl) (pe_call G_number_at (hr.mono (by decide)) rfl T.d_number_at.g T.d_number_at.kp b_number_at .nil (L2N.passes_call (W := fun c d _ H => E c d H) (E := E) (L2N.takes_of rfl rfl rfl rfl) (fun _ _ _ _ h => h)) (pa_cons (pv 1) (pa_cons pe_int pa_nil))))
      (pss_cons (ps_set (i := 3) sc_read_letter.nd rfl (Or.inl rfl) (pe_call G_kind_at (hr.mono (by decide)) rfl T.d_kind_at.g T.d_kind_at.kp b_kind_at .nil (L2N.passes_call (W := fun c d _ H => E c d H) (E := E) (L2N.takes_of rfl rfl rfl rfl) (fun _ _ _ _ h => h)) (pa_cons (pv 1) (pa_cons pe_int pa_nil))))
      (pss_cons (ps_set (i := 4) sc_read_letter.nd rfl (Or.inl rfl) (pe_call G_number_at (hr.mono (by decide)) rfl T.d_number_at.g T.d_number_at.kp b_number_at .nil (L2N.passes_call (W := fun c d _ H => E c d H) (E := E) (L2N.takes_of rfl rfl rfl rfl) (fun _ _ _ _ h => h)) (pa_cons (pv 1) (pa_cons pe_int pa_nil))))
      (pss_cons (ps_set (i := 5) sc_read_letter.nd rfl (Or.inl rfl) (pe_call G_number_at (hr.mono (by decide)) rfl T.d_number_at.g T.d_number_at.kp b_number_at .nil (L2N.passes_call (W := fun c d _ H => E c d H) (E := E) (L2N.takes_of rfl rfl rfl rfl) (fun _ _ _ _ h => h)) (pa_cons (pv 1) (pa_cons pe_int pa_nil))))
      (pss_cons (ps_set (i := 6) sc_read_letter.nd rfl (Or.inl rfl) (pe_call G_block_at (hr.mono (by decide)) rfl T.d_block_at.g T.d_block_at.kp b_block_at .nil (L2N.passes_call (W := fun c d _ H => E c d H) (E := E) (L2N.takes_of rfl rfl rfl rfl) (fun _ _ _ _ h => h)) (pa_cons (pv 1) (pa_cons pe_int (pa_cons (pv 3) pa_nil)))))
      (pss_cons (ps_if (pt_cmpR op_eq (pv 3) pe_str (nomark _))
      (pss_cons (ps_set (i := 7) sc_read_letter.nd rfl (Or.inl rfl) (pe_call G_lean_at (hr.mono (by decide)) rfl T.d_lean_at.g T.d_lean_at.kp b_lean_at .nil (L2N.passes_call (W := fun c d _ H => E c d H) (E := E) (L2N.takes_of rfl rfl rfl rfl) (fun _ _ _ _ h => h)) (pa_cons (pv 1) (pa_cons pe_int (pa_cons (pv 5) pa_nil)))))
        (pss_cons (ps_expr (pe_call G_end_at (hr.mono (by decide)) rfl T.d_end_at.g T.d_end_at.kp b_end_at .nil (L2N.passes_call (W := fun c d _ H => E c d H) (E := E) (L2N.takes_of rfl rfl rfl rfl) (fun _ _ _ _ h => h)) (pa_cons (pv 1) (pa_cons pe_int pa_nil))))
        (pss_one (ps_ret (pe_tup (pa_cons (pv 2) (pa_cons (pe_call G_prevote (hr.mono (by decide)) rfl T.d_prevote.g T.d_prevote.kp b_prevote .nil pass0 (pa_cons (pv 4) (pa_cons (pv 5) (pa_cons (pv 6) (pa_cons (pv 7) pa_nil))))) pa_nil)))))))
      pss_nil)
      (pss_cons (ps_expr (pe_call G_end_at (hr.mono (by decide)) rfl T.d_end_at.g T.d_end_at.kp b_end_at .nil (L2N.passes_call (W := fun c d _ H => E c d H) (E := E) (L2N.takes_of rfl rfl rfl rfl) (fun _ _ _ _ h => h)) (pa_cons (pv 1) (pa_cons pe_int pa_nil))))
      (pss_cons (ps_if (pt_cmpR op_eq (pv 3) pe_str (nomark _))
      (pss_one (ps_ret (pe_tup (pa_cons (pv 2) (pa_cons (pe_call G_precommit (hr.mono (by decide)) rfl T.d_precommit.g T.d_precommit.kp b_precommit .nil pass0 (pa_cons (pv 4) (pa_cons (pv 5) (pa_cons (pv 6) pa_nil)))) pa_nil)))))
      pss_nil)
      (pss_one (ps_ret (pe_tup (pa_cons (pv 2) (pa_cons (pe_call G_proposal (hr.mono (by decide)) rfl T.d_proposal.g T.d_proposal.kp b_proposal .nil pass0 (pa_cons (pv 4) (pa_cons (pv 5) (pa_cons (pv 6) pa_nil)))) pa_nil)))))))))))))), ?_⟩
    walk_at "rs"
    refine ⟨⟨_, rfl⟩, _, _, rfl, rfl, by decide +kernel, ll, fun W hW0 => ?_⟩
    have s0 := same_new (o := .lst ((Txt.split line " ").map V.str)) hW0
    have hW := (upd_same : upd H W (.lst ((Txt.split line " ").map V.str)) W = _)
    have lw : (Txt.split line " ").length ≤ 16777216 := Nat.le_trans (PyProof.Rows.split_le line " ") ll
    have sw : ∀ w ∈ Txt.split line " ", w.length ≤ 16777216 := fun w hw => by
      have := PyProof.Rows.part_short hw
      omega
    unfold readL readW at kr kq
    generalize upd H W (.lst ((Txt.split line " ").map V.str)) = H0 at s0 hW ⊢
    generalize Txt.split line " " = ws at hW lw sw kr kq
    clear ll
    walk_at "rs"
    refine ⟨W, ws, 0, rfl, hW, lw, sw, by decide, fun e he => at_err s0 kr e (mapE_err he), fun n hn H1 s1 => ?_⟩
    obtain ⟨w0, e0, rfl⟩ := mapE_ok hn
    simp only [bindE, e0] at kr kq
    have t1 := s0.trans s1
    have hW1 := s1 _ _ hW
    clear hn s0 s1 hW
    walk_at "rs"
    refine ⟨W, ws, 1, rfl, hW1, lw, sw, by decide, fun e he => at_err t1 kr e (mapE_err he), fun n hn H2 s2 => ?_⟩
    obtain ⟨kd, e1, rfl⟩ := mapE_ok hn
    simp only [bindE, e1] at kr kq
    have t2 := t1.trans s2
    have hW2 := s2 _ _ hW1
    clear hn t1 s2 hW1
    walk_at "rs"
    refine ⟨W, ws, 2, rfl, hW2, lw, sw, by decide, fun e he => at_err t2 kr e (mapE_err he), fun n hn H3 s3 => ?_⟩
    obtain ⟨h0, e2, rfl⟩ := mapE_ok hn
    simp only [bindE, e2] at kr kq
    have t3 := t2.trans s3
    have hW3 := s3 _ _ hW2
    clear hn t2 s3 hW2
    walk_at "rs"
    refine ⟨W, ws, 3, rfl, hW3, lw, sw, by decide, fun e he => at_err t3 kr e (mapE_err he), fun n hn H4 s4 => ?_⟩
    obtain ⟨tu, e3, rfl⟩ := mapE_ok hn
    simp only [bindE, e3] at kr kq
    have t4 := t3.trans s4
    have hW4 := s4 _ _ hW3
    clear hn t3 s4 hW3
    walk_at "rs"
    refine ⟨W, ws, 4, kd, rfl, hW4, lw, sw, by decide, fun e he => at_err t4 kr e he, fun bl e4 H5 s5 => ?_⟩
    simp only [bindE, e4] at kr kq
    have t5 := t4.trans s5
    have hW5 := s5 _ _ hW4
    clear t4 s5 hW4
    walk_at "rs"
    unfold readEnd at kr kq
    refine ite2 (fun c1 => ?_) (fun c1 => ?_)
    · have ek : kd = .pre := by simpa [s_pre] using c1
      rw [if_pos ek] at kr kq
      walk_at "rs"
      refine ⟨W, ws, 5, tu, rfl, hW5, lw, sw, by decide, fun e he => at_err t5 kr e he, fun ln e6 H6 s6 => ?_⟩
      simp only [bindE, e6] at kr kq
      have t6 := t5.trans s6
      have hW6 := s6 _ _ hW5
      walk_at "rs"
      refine ⟨W, ws, 6, rfl, hW6, lw, sw, by decide, fun e he => at_err t6 kr e (mapE_err he), fun n hn H7 s7 => ?_⟩
      obtain ⟨_, e7, rfl⟩ := mapE_ok hn
      simp only [bindE, e7] at kr kq
      walk_at "rs"
      refine ⟨h0, tu, bl, ln, rfl, fun p H8 s8 hp => ?_⟩
      refine ⟨(by show 2 ≤ sizeLine; decide), fun q hq => ?_⟩
      have s9 := same_new (o := .tup [V.int w0, V.ref p]) hq
      exact kq _ rfl q _ (((t6.trans s7).trans s8).trans s9) ⟨p, upd_same, s9 _ _ hp⟩
    · have ek : ¬ kd = .pre := by simpa [s_pre] using c1
      rw [if_neg ek] at kr kq
      walk_at "rs"
      refine ⟨W, ws, 5, rfl, hW5, lw, sw, by decide, fun e he => at_err t5 kr e (mapE_err he), fun n hn H6 s6 => ?_⟩
      obtain ⟨_, e6, rfl⟩ := mapE_ok hn
      simp only [bindE, e6] at kr kq
      have t6 := t5.trans s6
      walk_at "rs"
      refine ite2 (fun c2 => ?_) (fun c2 => ?_)
      · have ek2 : kd = .com := by simpa [s_com] using c2
        subst ek2
        walk_at "rs"
        refine ⟨h0, tu, bl, rfl, fun p H8 s8 hp => ?_⟩
        refine ⟨(by show 2 ≤ sizeLine; decide), fun q hq => ?_⟩
        have s9 := same_new (o := .tup [V.int w0, V.ref p]) hq
        exact kq _ rfl q _ ((t6.trans s8).trans s9) ⟨p, upd_same, s9 _ _ hp⟩
      · have ek2 : ¬ kd = .com := by simpa [s_com] using c2
        have ek3 : kd = .prop := by
          cases kd with
          | prop => rfl
          | pre => exact absurd rfl ek
          | com => exact absurd rfl ek2
        subst ek3
        walk_at "rs"
        refine ⟨h0, tu, bl, rfl, fun p H8 s8 hp => ?_⟩
        refine ⟨(by show 2 ≤ sizeLine; decide), fun q hq => ?_⟩
        have s9 := same_new (o := .tup [V.int w0, V.ref p]) hq
        exact kq _ rfl q _ ((t6.trans s8).trans s9) ⟨p, upd_same, s9 _ _ hp⟩

theorem msgJ (i : Int) (h0 : 0 ≤ i) (h1 : i < 1000000000) : (((Str.empty ++ ("no right line of a journal at index " : Str)) ++ (toString i : Str)) : Str).length ≤ 1000 := by
  have a := (num_ok h0 h1).1
  have e : (((Str.empty ++ ("no right line of a journal at index " : Str)) ++ (toString i : Str)) : Str).length = (Str.empty ++ ("no right line of a journal at index " : Str)).length + (toString i : Str).length := by
    rw [TL.len_tl, TL.tl_append, List.length_append, ← TL.len_tl, ← TL.len_tl]
  rw [e]
  have c : (Str.empty ++ ("no right line of a journal at index " : Str)).length = 36 := by decide +kernel
  omega
theorem ok_BadJournal_init (TE : TxtE P K mg a) (T : Txt K mg a) : ∃ fd, FnOk P w K mg base CX0 1 a.d_BadJournal_init fd ["self", "at"] (spSup a.C_BadJournal "at" fun v => ∃ i : Int, v = .int i ∧ 0 ≤ i ∧ i < 1000000000) ∧ Binds K fd ["self", "at"] [] := by
  obtain ⟨fd, S, b⟩ := TE.sup_BadJournal
  have T0 : SupTxt "at" "at" s_BadJournal_init _ _ _ _ _ _ _ _ _ _ := ⟨rfl, rfl, rfl, rfl, rfl, rfl, rfl, rfl, by decide +kernel, ⟨_, rfl, rfl⟩⟩
  refine ⟨fd, ok_sup S T0 (by decide +kernel) (by decide) (by decide) T.n_super ?_ (fun _ => rfl) (fun _ _ _ _ => rfl) (fun _ _ _ _ => rfl) (fun _ _ _ _ => rfl) _ (fun _ => rfl), b⟩
  rintro cd cc A outer s H E e v ⟨i, rfl, i0, i1⟩
  refine ⟨_, pa_cons (pe_joined (.cons pe_str (.cons (pe_fmt (pv 1)) .nil))) pa_nil, fun H1 Q q => ?_⟩
  have len := msgJ i i0 i1
  refine ⟨_, rfl, by rw [sizeLine_eq]; decide +kernel, _, rfl, .inr ⟨i, rfl, log_small i0 i1, _, rfl, ?_, q _⟩⟩
  rw [sizeLine_eq]
  exact Nat.le_trans len (by decide)
theorem okh_BadJournal_init (TE : TxtE P K mg a) (T : Txt K mg a) : ∃ fd, L2H.FnH P w K mg base CX0 1 a.d_BadJournal_init fd ["self", "at"] (spSup a.C_BadJournal "at" fun v => ∃ i : Int, v = .int i ∧ 0 ≤ i ∧ i < 1000000000) ∧ Binds K fd ["self", "at"] [] := by
  obtain ⟨fd, S, b⟩ := TE.sup_BadJournal
  have T0 : SupTxt "at" "at" s_BadJournal_init _ _ _ _ _ _ _ _ _ _ := ⟨rfl, rfl, rfl, rfl, rfl, rfl, rfl, rfl, by decide +kernel, ⟨_, rfl, rfl⟩⟩
  refine ⟨fd, ok_supH S T0 (by decide +kernel) (by decide) (by decide) T.n_super ?_ (fun _ => rfl) (fun _ _ _ _ => rfl) (fun _ _ _ _ => rfl) (fun _ _ _ _ => rfl) _ (fun _ => rfl), b⟩
  rintro cd cc A outer s H E p e v ⟨i, rfl, i0, i1⟩
  refine ⟨_, pa_cons (pe_joined (.cons pe_str (.cons (pe_fmt (pv 1)) .nil))) pa_nil, fun H1 Q q => ?_⟩
  have len := msgJ i i0 i1
  refine ⟨_, rfl, by rw [sizeLine_eq]; decide +kernel, _, rfl, .inr ⟨i, rfl, log_small i0 i1, _, rfl, ?_, q _⟩⟩
  rw [sizeLine_eq]
  exact Nat.le_trans len (by decide)
theorem ok_restore (TE : TxtE P K mg a) (T : Txt K mg a) : ∃ fd, FnOk P w K mg base (L2.CX P w) 7 a.d_restore fd ["who", "lines"] (spRestore K a.C_Journal a.C_BadJournal) ∧ Binds K fd ["who", "lines"] [] := by
  obtain ⟨fd, F, b⟩ := T.d_restore.F
  obtain ⟨fd_Journal_init, G_Journal_init, b_Journal_init⟩ := ok_Journal_init (P := P) (w := w) (base := base) T
  obtain ⟨fd_read_letter, G_read_letter, b_read_letter⟩ := ok_read_letter (P := P) (w := w) (base := base) TE T
  obtain ⟨fd_BadJournal_init, G_BadJournal_init, b_BadJournal_init⟩ := ok_BadJournal_init (P := P) (w := w) (base := base) TE T
  obtain ⟨fd_Journal_sign, G_Journal_sign, b_Journal_sign⟩ := ok_Journal_sign (P := P) (w := w) (base := base) TE T
  obtain ⟨fdH, GH_BadJournal_init, bH⟩ := okh_BadJournal_init (P := P) (w := w) (base := base) TE T
  refine ⟨fd, F.okX sc_restore (fun vs H Q E h => ?_) (fun cdv A outer s H vs Q E hr h => ?_), b⟩
  · obtain ⟨_, _, _, rfl, _⟩ := h
    rfl
  · obtain ⟨W, who, ls, rfl, hW, few, ll, kr, kq⟩ := h
    refine ⟨_, (pss_cons (ps_set (i := 2) sc_restore.nd rfl (Or.inl rfl) (pe_make T.m_Journal G_Journal_init (hr.mono (by decide)) (by rfl) T.g_Journal b_Journal_init .nil pass0 (pa_cons (pv 0) pa_nil)))
      (pss_cons (ps_for (passes_of rfl) rfl (pi_enum (by rfl) T.n_enumerate (pa_cons (pv 1) pa_nil)) (pg_tup rfl (pgs_cons (pg_name (i := 3) sc_restore.nd rfl (Or.inl rfl)) (pgs_cons (pg_name (i := 4) sc_restore.nd rfl (Or.inl rfl)) pgs_nil)))
      (pss_cons (L2H.ps_try_onlyX rfl rfl ⟨rfl, by decide, .inl TE.g_BadLine⟩ (fun hd => L2H.passesAt_of rfl hd) (takes_of rfl rfl rfl rfl) (fun W pn xe tk tk2 po => (pss_one (ps_asg (g := gTup K 2 (gCons (gName 5) (gCons (gName 6) gNil))) (pe_callS G_read_letter (hr.mono (by decide)) rfl T.d_read_letter.g T.d_read_letter.kp b_read_letter (fun σ => L2N.passAt tk σ) (pa_cons (pv 4) pa_nil)) (pg_tup rfl (pgs_cons (pg_name (i := 5) sc_restore.nd rfl (Or.inl rfl) (Or.inr rfl)) (pgs_cons (pg_name (i := 6) sc_restore.nd rfl (Or.inl rfl) (Or.inr rfl)) pgs_nil)))))) (fun ae oe cls d pn hz hf tkS hot => (pss_cons (ps_if (pt_cmpR op_eq (pv 3) (pe_op op_sub (pe_callB (id := "len") (r := rLenOf K) (cr_lenK rfl) (by rfl) T.n_len PySem.boot_len (pa_cons (pv 1) pa_nil)) pe_int) (nomark _)) (pss_one (ps_ret (pv 2))) pss_nil) (pss_one (L2H.ps_raiseHN hot tkS (L2H.pmk5_oexH TE.oex_BadJournal TE.iC_BadJournal TE.tI_BadJournal GH_BadJournal_init ((L2H.roomH_mark hr _).mono (by decide)) hot bH pass0 rfl TE.g_BadJournal (pa_cons (pv 3) pa_nil)))))))
        (pss_cons (ps_if (PW.pt (pw_or (pt_cmpR op_ne (pv 5) (pv 0) (nomark _)) (pw_or1 (pt_cmpR (op_inD (hu65 hr)) (pv 6) (pe_fld (pv 2) rfl) (by rfl)))))
        (pss_one (ps_raise rfl (takes_of rfl rfl rfl rfl) (pmk_weak (pmk_sup TE.oex_BadJournal TE.iC_BadJournal TE.tI_BadJournal G_BadJournal_init (hr.mono (by decide)) b_BadJournal_init rfl TE.g_BadJournal (pa_cons (pv 3) pa_nil)))))
        pss_nil)
        (pss_one (L2H.ps_try_onlyX rfl rfl ⟨rfl, by decide, .inl TE.g_Refused⟩ (fun hd => L2H.passesAt_of rfl hd) (takes_of rfl rfl rfl rfl) (fun W pn xe tk tk2 po => (pss_one (ps_expr (pe_methT (pv 2) T.cl_Journal T.me_Journal_sign G_Journal_sign (hr.mono (by decide)) b_Journal_sign (E := fun σ cls d H => W cls d σ H) (fun σ pins H s u s_ I c => tk u s_ (L2N.XE.of_call I (fun _ _ _ h => h) c)) (pa_cons (pv 6) pa_nil))))) (fun ae oe cls d pn hz hf tkS hot => (pss_one (L2H.ps_raiseHN hot tkS (L2H.pmk5_oexH TE.oex_BadJournal TE.iC_BadJournal TE.tI_BadJournal GH_BadJournal_init ((L2H.roomH_mark hr _).mono (by decide)) hot bH pass0 rfl TE.g_BadJournal (pa_cons (pv 3) pa_nil))))))))))
      (pss_one (ps_ret (pv 2))))), ?_⟩
    walk_at "rs"
    intro j dx hj0 hdx ndx
    refine ⟨j, dx, who, rfl, upd_same, fun L H1 hL hj hLL keep => ?_⟩
    have jL : j ≠ L := fun z => by rw [← z, upd_same] at hL; cases hL
    have dL : dx ≠ L := fun z => by rw [← z, upd_ne ndx, upd_same] at hL; cases hL
    have hL0 : H L = none := by rwa [upd_ne jL.symm, upd_ne dL.symm] at hL
    have s1 : Same H H1 := fun b o e => keep b o (fun z => by rw [z, hj0] at e; cases e) (by rw [upd_ne (fun z => by rw [z, hj0] at e; cases e), upd_ne (fun z => by rw [z, hdx] at e; cases e)]; exact e)
    refine ⟨rfl, ?_⟩
    clear keep hL
    walk_at "rs"
    refine ⟨W, _, rfl, SqL.of (s1 _ _ hW), ?_⟩
    refine for_enumL (K := K) (a := W) (ys := ls.map V.str) (fun i σ H2 => ∃ (v3 v4 v5 v6 : Option V) (ps : List Addr) (ms : List Sm), σ = [some (.int who), some (.ref W), some (.ref j), v3, v4, v5, v6] ∧ Same H H2 ∧ JAt a.C_Journal H2 j who L ∧ H2 L = some (.lst (ps.map V.ref)) ∧ SsAt H2 ps ms ∧ ms.length ≤ i ∧ (∀ m ∈ ms, GoodM m) ∧ resM who ls 0 [] = resM who (ls.drop i) i ms)
      ⟨_, _, _, _, [], [], rfl, s1, ⟨dx, hj⟩, hLL, SsAt.nil, Nat.le_refl _, fun m hm => (nomatch hm), rfl⟩ (fun i σ H2 _ ⟨_, _, _, _, _, _, _, s2, _⟩ => SqL.of (s2 _ _ hW)) ?_ ?_
    · rintro i y σ H2 q hy ⟨v3, v4, v5, v6, ps, ms, rfl, s2, ⟨dx2, hj2⟩, hL2, hs2, lms, good, er⟩ hq
      have hi : i < ls.length := by
        have e := (List.getElem?_eq_some_iff.mp hy).1
        rwa [List.length_map] at e
      obtain ⟨l, hl, rfl⟩ : ∃ l, ls[i]? = some l ∧ y = V.str l := by
        rw [List.getElem?_map] at hy
        cases e : ls[i]? with
        | none => rw [e] at hy; cases hy
        | some l => rw [e] at hy; cases hy; exact ⟨l, rfl, rfl⟩
      have ed : ls.drop i = l :: ls.drop (i + 1) := by
        rw [List.drop_eq_getElem_cons hi]
        have := List.getElem?_eq_getElem hi
        rw [hl] at this
        cases this
        rfl
      rw [ed, resM] at er
      have n1 := hs2.1
      have okm : OkM ms := fun m hm => (good m hm).ok
      walk_at "rs"
      refine ⟨q, _, rfl, SqT.of upd_same, rfl, ?_⟩
      refine ⟨_, _, rfl, _, _, rfl, rfl, ?_⟩
      have s3 := same_new (o := .tup [V.int ↑i, V.str l]) hq
      generalize upd H2 q (.tup [V.int ↑i, V.str l]) = H3 at s3 ⊢
      walk_at "rs"
      refine ⟨ll l (List.mem_of_getElem? hl), fun e he => ?_, fun x hx p H4 s4 hp => ?_⟩
      · intro d H4 s4 hd
        refine ⟨true, TE.exm_BadLine_BadLine, fun _ ex hex => ?_, fun z => nomatch z⟩
        have s24 := s3.trans s4
        rw [he] at er
        walk_at "rs"
        refine ⟨W, _, rfl, .inl (SqL.of (s24 _ _ (s2 _ _ hW))), ?_⟩
        walk_at "rs"
        refine ite2 (fun c1 => ?_) (fun c1 => ?_)
        · have e1 : (i : Int) = ((ls.map V.str).length : Int) - 1 := by simpa using c1
          rw [List.length_map] at e1
          have e2 : ls.drop (i + 1) = [] := List.drop_of_length_le (by omega)
          walk_at "rs"
          exact kq ms (er.trans (if_pos e2)) good j L ps H4 (s2.trans s24) hj0 hL0 ⟨dx2, s24 _ _ hj2⟩ (s24 _ _ hL2) (hs2.same s24)
        · have e1 : ¬ (i : Int) = ((ls.map V.str).length : Int) - 1 := by simpa using c1
          rw [List.length_map] at e1
          have e2 : ¬ ls.drop (i + 1) = [] := fun z => by
            have := List.drop_eq_nil_iff.mp z
            omega
          have kr' := kr _ (er.trans (if_neg e2))
          walk_at "rs"
          refine ⟨by show 1 ≤ 1000; decide, fun b hb => ⟨b, _, rfl, upd_same, ⟨i, rfl, Int.natCast_nonneg _, by omega⟩, fun dx3 hdx3 ndx3 => ?_⟩⟩
          have fd : H4 dx3 = none := by rwa [upd_ne ndx3] at hdx3
          refine ⟨rfl, dx3, _, upd_same, by rw [upd_ne ndx3, upd_same], fd, ?_⟩
          rw [sup_heap hb ndx3]
          exact kr' _ _ ((s2.trans s24).trans (same_new fd)) upd_same
      · obtain ⟨pp, hp1, hp2⟩ := id hp
        have s24 := s3.trans s4
        rw [hx] at er
        have er' : resM who ls 0 [] = if x.w ≠ who ∨ memS ms x.m = true ∨ fcl ms x.m ms.length ≠ none then .error (i : Int) else resM who (ls.drop (i + 1)) (i + 1) (ms ++ [x.m]) := er
        have gx := read_good hx
        have okx : OkS x.m.b := gx.1.ok
        refine ⟨p, _, rfl, SqT.of hp1, rfl, ?_⟩
        refine ⟨_, _, rfl, _, _, rfl, rfl, ?_⟩
        have hj4 := s24 _ _ hj2
        have hL4 := s24 _ _ hL2
        have hs4 := hs2.same s24
        walk_at "rs"
        refine ite2 (fun c1 => ?_) (fun c1 => ?_)
        · have e1 : x.w ≠ who := by simpa using c1
          walk_at "rs"
          refine ⟨⟨_, rfl, Int.natCast_nonneg _, by omega⟩, fun d hd => ?_⟩
          exact kr _ (er'.trans (if_pos (.inl e1))) d _ ((s2.trans s24).trans (same_new hd)) upd_same
        have e1 : x.w = who := by simpa using c1
        walk_at "rs"
        refine ⟨j, _, dx2, _, .ref L, rfl, hj4, T.cl_Journal, T.a_Journal_signed, jfs_s _ _, ?_⟩
        refine ⟨smD x.m, _, dp_sm hp2, .lst (SqL.of hL4) (dp_sms hs4), shaped_sm x.m okx, shaped_sms okm, ?_⟩
        refine ⟨_, rfl, ?_⟩
        refine ite2 (fun c2 => ?_) (fun c2 => ?_)
        · have e2 : memS ms x.m = true := c2
          walk_at "rs"
          refine ⟨⟨_, rfl, Int.natCast_nonneg _, by omega⟩, fun d hd => ?_⟩
          exact kr _ (er'.trans (if_pos (.inr (.inl e2)))) d _ ((s2.trans s24).trans (same_new hd)) upd_same
        have e2 : memS ms x.m = false := by
          have : ¬ memS ms x.m = true := c2
          simpa using this
        walk_at "rs"
        refine ⟨j, dx2, _, rfl, hj4, jfs_no _ _ (by decide +kernel) (by decide +kernel), ?_⟩
        walk_at "rs"
        refine ⟨j, pp, L, who, ps, ms, x.m, rfl, ⟨dx2, hj4⟩, hL4, hs4, hp2, by omega, okm, okx, fun k e d H5 s5 hd => ?_, fun e t H5 k5 hL5 ht5 => ?_⟩
        · refine ⟨true, TE.exm_Refused_Refused, fun _ ex hex => ?_, fun z => nomatch z⟩
          have kr' := kr _ (er'.trans (if_pos (.inr (.inr (by rw [e]; exact fun z => nomatch z)))))
          walk_at "rs"
          refine ⟨by show 1 ≤ 1000; decide, fun b hb => ⟨b, _, rfl, upd_same, ⟨i, rfl, Int.natCast_nonneg _, by omega⟩, fun dx3 hdx3 ndx3 => ?_⟩⟩
          have fd : H5 dx3 = none := by rwa [upd_ne ndx3] at hdx3
          refine ⟨rfl, dx3, _, upd_same, by rw [upd_ne ndx3, upd_same], fd, ?_⟩
          rw [sup_heap hb ndx3]
          exact kr' _ _ (((s2.trans s24).trans s5).trans (same_new fd)) upd_same
        · have er2 := er'.trans (if_neg (by simp [e1, e2, e]))
          have ea : after ps ms pp x.m = ps ++ [pp] := by unfold after; rw [e2]; rfl
          rw [ea] at hL5
          refine ⟨_, _, _, _, ps ++ [pp], ms ++ [x.m], rfl, fun b o z => k5 b o (fun y => by rw [y, hL0] at z; cases z) (s24 _ _ (s2 _ _ z)), ⟨dx2, k5 _ _ jL hj4⟩, hL5, (k5.ss hL4 hs4).snoc (k5.sm hL4 hp2), by rw [List.length_append, List.length_singleton]; omega, fun m hm => ?_, er2⟩
          rcases List.mem_append.mp hm with hm | hm
          · exact good m hm
          · rw [List.mem_singleton.mp hm]
            exact gx.1
    · rintro σ H2 ⟨v3, v4, v5, v6, ps, ms, rfl, s2, ⟨dx2, hj2⟩, hL2, hs2, lms, good, er⟩
      rw [List.length_map, List.drop_length] at er
      walk_at "rs"
      exact kq ms (er.trans (by rw [resM])) good j L ps H2 s2 hj0 hL0 ⟨dx2, hj2⟩ hL2 hs2

theorem ok_law_cell (T : Txt K mg a) : ∃ fd, FnOk P w K mg base CX0 1 a.d_law_cell fd ["script", "k"] (spCell K) ∧ Binds K fd ["script", "k"] [] := by
  obtain ⟨fd, F, b⟩ := T.d_law_cell.F
  refine ⟨fd, F.ok sc_law_cell (fun vs H Q E h => ?_) (fun cdv A outer s H vs Q E hr h => ?_), b⟩
  · obtain ⟨a, ns, k, rfl, _⟩ := h
    rfl
  · obtain ⟨l, ns, k, rfl, hS, hl, hk, q⟩ := h
    refine ⟨_, (pss_cons (ps_if (pt_cmpR op_lt (pv 1) (pe_callB call_len_seq (by rfl) T.n_len PySem.boot_len (pa_cons (pv 0) pa_nil)) (nomark _))
      (pss_one (ps_ret (pe_ix ix_list (pv 0) (pv 1) (fun _ _ => rfl))))
      pss_nil)
      (pss_one (ps_ret pe_int))), ?_⟩
    refine ⟨_, rfl, _, rfl, l, _, rfl, .inl hS, _, _, rfl, rfl, _, rfl, ?_⟩
    refine ite2 (fun hlt => ?_) (fun hge => ?_)
    · have hlt : k < ((ns.map V.int).length : Int) := of_decide_eq_true hlt
      rw [List.length_map] at hlt
      have hj : k.toNat < ns.length := by omega
      have e : ns.getD k.toNat 0 = ns[k.toNat] := by rw [List.getD_eq_getElem?_getD, List.getElem?_eq_getElem hj]; rfl
      rw [e] at q
      refine ⟨_, rfl, _, rfl, l, _, k, .int ns[k.toNat], rfl, rfl, hS, at_of (j := k.toNat) (by omega) (by rw [List.getElem?_map, List.getElem?_eq_getElem hj]; rfl), q⟩
    · have hge : ¬ k < ((ns.map V.int).length : Int) := fun e => hge (decide_eq_true e)
      rw [List.length_map] at hge
      have e : ns.getD k.toNat 0 = 0 := by rw [List.getD_eq_getElem?_getD, List.getElem?_eq_none (by omega)]; rfl
      rw [e] at q
      exact q

theorem ok_law_clash (T : Txt K mg a) : ∃ fd, FnOk P w K mg base CX0 1 a.d_law_clash fd ["one", "other"] (spClash K) ∧ Binds K fd ["one", "other"] [] := by
  obtain ⟨fd, F, b⟩ := T.d_law_clash.F
  refine ⟨fd, F.ok sc_law_clash (fun vs H Q E h => ?_) (fun cdv A outer s H vs Q E hr h => ?_), b⟩
  · obtain ⟨_, _, _, _, rfl, _⟩ := h
    rfl
  · obtain ⟨p, q, m, n, rfl, hp, hq, k⟩ := h
    have k0 : Q (.bl (clashM m n)) H := k _ (Same.refl H)
    clear k
    refine ⟨_, (pss_cons (ps_if (PW.pt (pw_or (pt_cmpR op_ne (pe_ix ix_tup (pv 0) pe_int (fun _ _ => rfl)) (pe_ix ix_tup (pv 1) pe_int (fun _ _ => rfl)) (nomark _)) (pw_or (pt_cmpR op_eq (pe_ix ix_tup (pv 0) pe_int (fun _ _ => rfl)) pe_str (nomark _)) (pw_or1 (pt_cmpR op_eq (pe_ix ix_tup (pv 1) pe_int (fun _ _ => rfl)) pe_str (nomark _))))))
      (pss_one (ps_ret pe_bl))
      pss_nil)
      (pss_cons (ps_if (pt_cmpR op_eq (pe_ix ix_tup (pv 0) pe_int (fun _ _ => rfl)) (pe_ix ix_tup (pv 1) pe_int (fun _ _ => rfl)) (nomark _))
      (pss_one (ps_ret (pe_and (pe_cmpR op_eq (pe_ix ix_tup (pv 0) pe_int (fun _ _ => rfl)) (pe_ix ix_tup (pv 1) pe_int (fun _ _ => rfl)) (nomark _)) (pe_one (pe_cmpR op_ne (pe_ix ix_tup (pv 0) pe_int (fun _ _ => rfl)) (pe_ix ix_tup (pv 1) pe_int (fun _ _ => rfl)) (nomark _))))))
      pss_nil)
      (pss_cons (ps_set (i := 2) sc_law_clash.nd rfl (Or.inl rfl) (pv 0))
      (pss_cons (ps_set (i := 3) sc_law_clash.nd rfl (Or.inl rfl) (pv 1))
      (pss_cons (ps_if (pt_cmpR op_eq (pe_ix ix_tup (pv 0) pe_int (fun _ _ => rfl)) pe_str (nomark _))
      (pss_cons (ps_set (i := 2) sc_law_clash.nd rfl (Or.inl rfl) (pv 1))
        (pss_one (ps_set (i := 3) sc_law_clash.nd rfl (Or.inl rfl) (pv 0))))
      pss_nil)
      (pss_cons (ps_if (PW.pt (pw_or (pt_cmpR op_isN (pe_ix ix_tup (pv 2) pe_int (fun _ _ => rfl)) pe_non (nomark _)) (pw_or (pt_cmpR op_isN (pe_ix ix_tup (pv 3) pe_int (fun _ _ => rfl)) pe_non (nomark _)) (pw_or (pt_cmpR op_eq (pe_ix ix_tup (pv 2) pe_int (fun _ _ => rfl)) (pe_ix ix_tup (pv 3) pe_int (fun _ _ => rfl)) (nomark _)) (pw_or1 (pt_cmpR op_le (pe_ix ix_tup (pv 3) pe_int (fun _ _ => rfl)) (pe_ix ix_tup (pv 2) pe_int (fun _ _ => rfl)) (nomark _)))))))
      (pss_one (ps_ret pe_bl))
      pss_nil)
      (pss_one (ps_ret (pe_or (pe_cmpR op_isN (pe_ix ix_tup (pv 3) pe_int (fun _ _ => rfl)) pe_non (nomark _)) (pe_one (pe_cmpR op_lt (pe_ix ix_tup (pv 3) pe_int (fun _ _ => rfl)) (pe_ix ix_tup (pv 2) pe_int (fun _ _ => rfl)) (nomark _)))))))))))), ?_⟩
    walk_at "rs"
    refine ite2 (fun c1 => ?_) (fun c1 => ?_) <;> simp only [dec_int, Bool.not_eq_true', beq_eq_false_iff_ne, Bool.not_eq_false', Bool.not_eq_true, beq_iff_eq, ne_eq, Decidable.not_not] at c1
    · rw [show clashM m n = false from if_pos c1] at k0
      exact k0
    walk_at "rs"
    refine ite2 (fun c2 => ?_) (fun c2 => ?_) <;> simp only [kprop, decide_eq_true_iff] at c2
    · rw [show clashM m n = false by
        unfold clashM abandM
        rw [if_neg (fun z => z c1)]
        by_cases e : m.k = n.k
        · rw [if_pos e, c2]
          rfl
        · rw [if_neg e, c2]
          simp] at k0
      exact k0
    walk_at "rs"
    refine ite2 (fun c3 => ?_) (fun c3 => ?_) <;> simp only [kprop, decide_eq_true_iff] at c3
    · rw [show clashM m n = false by
        unfold clashM abandM
        rw [if_neg (fun z => z c1)]
        by_cases e : m.k = n.k
        · rw [if_pos e, e, c3]
          rfl
        · rw [if_neg e, c3]
          simp] at k0
      exact k0
    walk_at "rs"
    refine ite2 (fun c4 => ?_) (fun c4 => ?_) <;> simp only [dec_kd, decide_eq_true_iff] at c4
    · unfold clashM at k0
      rw [if_neg (fun z => z c1), if_pos c4, decide_eq_true c2, Bool.true_and] at k0
      walk_at "rs"
      refine ite2 (fun c5 => ?_) (fun c5 => ?_) <;> simp only [dec_int, beq_iff_eq] at c5
      · rw [decide_eq_true c5, Bool.true_and] at k0
        walk_at "rs"
        rw [show decide (m.b ≠ n.b) = (!decide (oS m.b = oS n.b)) by rw [dec_oS, decide_not]] at k0
        exact k0
      · rw [decide_eq_false c5, Bool.false_and] at k0
        exact k0
    · unfold clashM at k0
      rw [if_neg (fun z => z c1), if_neg c4] at k0
      walk_at "rs"
      refine ite2 (fun c5 => ?_) (fun c5 => ?_) <;> simp only [kpre, decide_eq_true_iff] at c5
      · have cn : n.k = .com := by
          cases e : n.k with
          | prop => exact absurd e c3
          | pre => exact absurd (c5.trans e.symm) c4
          | com => rfl
        rw [show abandM m n = false from if_neg (fun z => by rw [c5] at z; cases z.1), Bool.false_or] at k0
        walk_at "rs"
        refine ite2 (fun d1 => ?_) (fun d1 => ?_) <;> simp only [koSn, decide_eq_true_iff] at d1
        · rw [show abandM n m = false from if_neg (fun z => z.2.2.1 d1)] at k0
          exact k0
        walk_at "rs"
        refine ite2 (fun d2 => ?_) (fun d2 => ?_) <;> simp only [koSn, decide_eq_true_iff] at d2
        · rw [show abandM n m = false from if_neg (fun z => z.2.2.2.1 d2)] at k0
          exact k0
        walk_at "rs"
        refine ite2 (fun d3 => ?_) (fun d3 => ?_) <;> simp only [koS, decide_eq_true_iff] at d3
        · rw [show abandM n m = false from if_neg (fun z => z.2.2.2.2.1 d3)] at k0
          exact k0
        walk_at "rs"
        refine ite2 (fun d4 => ?_) (fun d4 => ?_) <;> simp only [decide_eq_true_iff] at d4
        · rw [show abandM n m = false from if_neg (fun z => by have := z.2.2.2.2.2; omega)] at k0
          exact k0
        rw [show abandM n m = (match m.l with | none => true | some l => decide (l < n.t)) from if_pos ⟨by assumption, by assumption, d1, d2, d3, by omega⟩] at k0
        walk_at "rs"
        refine ite2 (fun d5 => ?_) (fun d5 => ?_) <;> simp only [koIn, decide_eq_true_iff] at d5
        · rw [d5] at k0
          exact k0
        · cases hnl : m.l with
          | none => exact absurd hnl d5
          | some l =>
            rw [hnl] at k0
            refine ⟨_, rfl, _, _, _, _, rfl, rfl, SqT.of (by assumption), (at4 m (by assumption)).trans (by rw [hnl]), ?_⟩
            walk_at "rs"
            exact k0
      · have cm : m.k = .com := by
          cases e : m.k with
          | prop => exact absurd e c2
          | pre => exact absurd e c5
          | com => rfl
        have cn : n.k = .pre := by
          cases e : n.k with
          | prop => exact absurd e c3
          | pre => rfl
          | com => exact absurd (cm.trans e.symm) c4
        rw [show abandM n m = false from if_neg (fun z => by rw [cn] at z; cases z.1), Bool.or_false] at k0
        walk_at "rs"
        refine ite2 (fun d1 => ?_) (fun d1 => ?_) <;> simp only [koSn, decide_eq_true_iff] at d1
        · rw [show abandM m n = false from if_neg (fun z => z.2.2.1 d1)] at k0
          exact k0
        walk_at "rs"
        refine ite2 (fun d2 => ?_) (fun d2 => ?_) <;> simp only [koSn, decide_eq_true_iff] at d2
        · rw [show abandM m n = false from if_neg (fun z => z.2.2.2.1 d2)] at k0
          exact k0
        walk_at "rs"
        refine ite2 (fun d3 => ?_) (fun d3 => ?_) <;> simp only [koS, decide_eq_true_iff] at d3
        · rw [show abandM m n = false from if_neg (fun z => z.2.2.2.2.1 d3)] at k0
          exact k0
        walk_at "rs"
        refine ite2 (fun d4 => ?_) (fun d4 => ?_) <;> simp only [decide_eq_true_iff] at d4
        · rw [show abandM m n = false from if_neg (fun z => by have := z.2.2.2.2.2; omega)] at k0
          exact k0
        rw [show abandM m n = (match n.l with | none => true | some l => decide (l < m.t)) from if_pos ⟨by assumption, by assumption, d1, d2, d3, by omega⟩] at k0
        walk_at "rs"
        refine ite2 (fun d5 => ?_) (fun d5 => ?_) <;> simp only [koIn, decide_eq_true_iff] at d5
        · rw [d5] at k0
          exact k0
        · cases hnl : n.l with
          | none => exact absurd hnl d5
          | some l =>
            rw [hnl] at k0
            refine ⟨_, rfl, _, _, _, _, rfl, rfl, SqT.of (by assumption), (at4 n (by assumption)).trans (by rw [hnl]), ?_⟩
            walk_at "rs"
            exact k0

theorem pick5c {i : Int} (h0 : 0 ≤ i) (h5 : i < 5) : ∃ b : Option Str, atI [V.str "a", V.str "b", V.str "a", V.str "b", V.non] i = some (oS b) ∧ ∀ x, b = some x → blkB x = true := by
  have ha : ∀ x : Str, some ("a" : Str) = some x → blkB x = true := fun x e => by cases e; decide +kernel
  have hb : ∀ x : Str, some ("b" : Str) = some x → blkB x = true := fun x e => by cases e; decide +kernel
  have h : i = 0 ∨ i = 1 ∨ i = 2 ∨ i = 3 ∨ i = 4 := by omega
  rcases h with rfl | rfl | rfl | rfl | rfl
  · exact ⟨some "a", rfl, ha⟩
  · exact ⟨some "b", rfl, hb⟩
  · exact ⟨some "a", rfl, ha⟩
  · exact ⟨some "b", rfl, hb⟩
  · exact ⟨none, rfl, fun x e => nomatch e⟩
theorem ok_law_statement (T : Txt K mg a) : ∃ fd, FnOk P w K mg base CX0 1 a.d_law_statement fd ["digit", "height"] (spStat3 K) ∧ Binds K fd ["digit", "height"] [] := by
  obtain ⟨fd, F, b⟩ := T.d_law_statement.F
  refine ⟨fd, F.ok sc_law_statement (fun vs H Q E h => ?_) (fun cdv A outer s H vs Q E hr h => ?_), b⟩
  · obtain ⟨_, _, rfl, _⟩ := h
    rfl
  · obtain ⟨d, ht, rfl, k⟩ := h
    refine ⟨_, (pss_cons (ps_set (i := 2) sc_law_statement.nd rfl (Or.inl rfl) (pe_ix ix_tup (pe_tup (pa_cons pe_str (pa_cons pe_str (pa_cons pe_str (pa_cons pe_str (pa_cons pe_non pa_nil)))))) (pe_op op_mod (pe_callTy call_int1 (by rfl) T.n_int (by decide +kernel) (pa_cons (pv 0) pa_nil)) pe_int) (fun _ _ => rfl)))
      (pss_cons (ps_set (i := 3) sc_law_statement.nd rfl (Or.inl rfl) (pe_op op_mod (pe_op op_fdiv (pv 0) pe_int) pe_int))
      (pss_cons (ps_if (pt_cmpR op_eq (pe_op op_mod (pe_op op_fdiv (pv 0) pe_int) pe_int) pe_int (nomark _))
      (pss_one (ps_ret (pe_tup (pa_cons pe_str (pa_cons (pv 1) (pa_cons (pv 3) (pa_cons (pv 2) pa_nil)))))))
      pss_nil)
      (pss_cons (ps_set (i := 4) sc_law_statement.nd rfl (Or.inl rfl) pe_non)
      (pss_cons (ps_if (PW.pt (pw_and (pt_cmpR op_notN (pv 2) pe_non (nomark _)) (pw_and (pt_cmpR op_gt (pv 3) pe_int (nomark _)) (pw_and1 (pt_cmpR op_eq (pe_op op_mod (pe_op op_fdiv (pv 0) pe_int) pe_int) pe_int (nomark _))))))
      (pss_one (ps_set (i := 4) sc_law_statement.nd rfl (Or.inl rfl) (pe_op op_mod (pe_op op_fdiv (pv 0) pe_int) (pv 3))))
      pss_nil)
      (pss_one (ps_ret (pe_tup (pa_cons pe_str (pa_cons (pv 1) (pa_cons (pv 3) (pa_cons (pv 2) (pa_cons (pv 4) pa_nil))))))))))))), ?_⟩
    walk_at "rs"
    refine ⟨(by show 5 ≤ sizeLine; decide), fun p1 hp1 => ?_⟩
    obtain ⟨b1, hb1, lb1⟩ := pick5c (i := d % 5) (Int.emod_nonneg _ (by decide)) (Int.emod_lt_of_pos _ (by decide))
    have s1 : Same H (upd H p1 (.tup [V.str "a", V.str "b", V.str "a", V.str "b", V.non])) := same_new hp1
    have t0 : 0 ≤ d / 5 % 4 := Int.emod_nonneg _ (by decide)
    have t4 : d / 5 % 4 < 4 := Int.emod_lt_of_pos _ (by decide)
    walk_at "rs"
    refine ⟨p1, _, _, _, rfl, rfl, SqT.of upd_same, hb1, ?_⟩
    walk_at "rs"
    refine ite2 (fun c1 => ?_) (fun c1 => ?_)
    · walk_at "rs"
      refine ⟨(by show 4 ≤ sizeLine; decide), fun q hq => ?_⟩
      exact k q ⟨.com, _, _, b1, none⟩ _ (s1.trans (same_new hq)) upd_same (fun h0 h1 => ⟨h0, h1, t0, Int.lt_trans t4 (by decide), lb1, fun z => (nomatch z), fun x e => (nomatch e), fun _ => rfl⟩) rfl (fun z => nomatch z) t4
    walk_at "rs"
    refine ite2 (fun c2 => ?_) (fun c2 => ?_)
    · walk_at "rs"
      refine ite2 (fun c3 => ?_) (fun c3 => ?_)
      · have c3' := of_decide_eq_true c3
        walk_at "rs"
        refine ite2 (fun c4 => ?_) (fun c4 => ?_)
        · walk_at "rs"
          refine ⟨(by show 5 ≤ sizeLine; decide), fun q hq => ?_⟩
          refine k q ⟨.pre, _, _, b1, some _⟩ _ (s1.trans (same_new hq)) upd_same (fun h0 h1 => ⟨h0, h1, t0, Int.lt_trans t4 (by decide), lb1, fun z => (nomatch z), fun l e => ?_, fun z => absurd rfl z⟩) rfl (fun z => nomatch z) t4
          have e : d / 80 % (d / 5 % 4) = l := by injection e
          rw [← e]
          have g0 : 0 ≤ d / 80 % (d / 5 % 4) := Int.emod_nonneg _ (by omega)
          have g1 : d / 80 % (d / 5 % 4) < d / 5 % 4 := Int.emod_lt_of_pos _ (by omega)
          exact ⟨g0, g1⟩
        · walk_at "rs"
          refine ⟨(by show 5 ≤ sizeLine; decide), fun q hq => ?_⟩
          exact k q ⟨.pre, _, _, b1, none⟩ _ (s1.trans (same_new hq)) upd_same (fun h0 h1 => ⟨h0, h1, t0, Int.lt_trans t4 (by decide), lb1, fun z => (nomatch z), fun x e => (nomatch e), fun _ => rfl⟩) rfl (fun z => nomatch z) t4
      · walk_at "rs"
        refine ⟨(by show 5 ≤ sizeLine; decide), fun q hq => ?_⟩
        exact k q ⟨.pre, _, _, b1, none⟩ _ (s1.trans (same_new hq)) upd_same (fun h0 h1 => ⟨h0, h1, t0, Int.lt_trans t4 (by decide), lb1, fun z => (nomatch z), fun x e => (nomatch e), fun _ => rfl⟩) rfl (fun z => nomatch z) t4
    · walk_at "rs"
      refine ⟨(by show 5 ≤ sizeLine; decide), fun q hq => ?_⟩
      exact k q ⟨.pre, _, _, b1, none⟩ _ (s1.trans (same_new hq)) upd_same (fun h0 h1 => ⟨h0, h1, t0, Int.lt_trans t4 (by decide), lb1, fun z => (nomatch z), fun x e => (nomatch e), fun _ => rfl⟩) rfl (fun z => nomatch z) t4

theorem ok_law_signed (TE : TxtE P K mg a) (T : Txt K mg a) : ∃ fd, FnOk P w K mg base CX0 4 a.d_law_signed fd ["journal", "cells"] (spSigned K a.C_Journal) ∧ Binds K fd ["journal", "cells"] [] := by
  obtain ⟨fd, F, b⟩ := T.d_law_signed.F
  obtain ⟨fd_Journal_sign, G_Journal_sign, b_Journal_sign⟩ := ok_Journal_sign (P := P) (w := w) (base := base) TE T
  obtain ⟨fd_law_statement, G_law_statement, b_law_statement⟩ := ok_law_statement (P := P) (w := w) (base := base) T
  refine ⟨fd, F.ok sc_law_signed (fun vs H Q E h => ?_) (fun cdv A outer s H vs Q E hr h => ?_), b⟩
  · obtain ⟨_, _, _, _, _, _, _, rfl, _⟩ := h
    rfl
  · obtain ⟨j, c, L, who, zs, ps, ms, rfl, ⟨dx, hj⟩, hL, hc, ncL, hs, few, cl, good, k⟩ := h
    have jL : j ≠ L := fun z => by rw [z, hL] at hj; cases hj
    refine ⟨_, (pss_cons (ps_for PassesOwn.never rfl (pi_list (pv 1)) (pg_name (i := 2) sc_law_signed.nd rfl (Or.inl rfl))
      (pss_one (ps_whole (ps_try_only rfl rfl ⟨rfl, by decide, .inl TE.g_Refused⟩ takes0 (fun W pn xe tk po => (pss_one (ps_expr (pe_methT (pv 0) T.cl_Journal T.me_Journal_sign G_Journal_sign (hr.mono (by decide)) b_Journal_sign (E := fun σ cls d H => W cls d σ H) (fun σ pins H s u s_ I c => takesN_of tk u s_ (L2N.XE.of_call I (fun _ _ _ h => h) c)) (pa_cons (pe_call G_law_statement (hr.mono (by decide)) rfl T.d_law_statement.g T.d_law_statement.kp b_law_statement .nil pass0 (pa_cons (pv 2) (pa_cons (pe_op op_fdiv (pe_op op_mod (pe_callTy call_int1 (by rfl) T.n_int (by decide +kernel) (pa_cons (pv 2) pa_nil)) pe_int) pe_int) pa_nil))) pa_nil))))) (fun ae oe cls d pn hz hf => (pss_one ps_continue))))))
      (pss_one (ps_ret (pe_callTy call_list_of (by rfl) T.n_list (by decide +kernel) (pa_cons (pe_fld (pv 0) rfl) pa_nil))))), ?_⟩
    walk_at "rs"
    refine ⟨⟨_, SqL.of hc⟩, for_list (K := K) (a := c) (xs := zs.map V.int) (fun i σ H2 => ∃ (v2 : Option V) (ps2 : List Addr) (ext : List Sm), σ = [some (.ref j), some (.ref c), v2] ∧ But L H H2 ∧ H2 L = some (.lst (ps2.map V.ref)) ∧ SsAt H2 ps2 (ms ++ ext) ∧ ext.length ≤ i ∧ Clean (ms ++ ext) ∧ ∀ m ∈ ms ++ ext, GoodM m)
      ⟨_, ps, [], rfl, fun b o _ e => e, hL, by rw [List.append_nil]; exact hs, Nat.le_refl _, by rw [List.append_nil]; exact cl, by rw [List.append_nil]; exact good⟩ (fun i σ H2 _ ⟨_, _, _, _, k2, _⟩ => SqL.of (k2 _ _ ncL hc)) ?_ ?_⟩
    · rintro i y σ H2 hy ⟨v2, ps2, ext, rfl, k2, hL2, hs2, le, cl2, good2⟩
      have hi : i < zs.length := by
        have e := (List.getElem?_eq_some_iff.mp hy).1
        rwa [List.length_map] at e
      rw [at_ints hi] at hy
      cases hy
      have n1 := hs2.1
      have l2 : (ms ++ ext).length ≤ 900 := by rw [List.length_append]; omega
      have okm : OkM (ms ++ ext) := fun m hm => (good2 m hm).ok
      have hj2 := k2 _ _ jL hj
      walk_at "rs"
      refine ⟨j, dx, _, rfl, hj2, jfs_no _ _ (by decide +kernel) (by decide +kernel), ?_⟩
      have h0 : 0 ≤ zs.getD i 0 % 7 / 6 := Int.ediv_nonneg (Int.emod_nonneg _ (by decide)) (by decide)
      have h1 : zs.getD i 0 % 7 / 6 < 1000000000 := by
        have := Int.emod_lt_of_pos (zs.getD i 0) (show (0 : Int) < 7 by decide)
        omega
      walk_at "rs"
      refine ⟨_, _, rfl, fun p m H3 s3 hm gm _ _ _ => ?_⟩
      have gm := gm h0 h1
      refine ⟨j, p, L, who, ps2, ms ++ ext, m, rfl, ⟨dx, s3 _ _ hj2⟩, s3 _ _ hL2, hs2.same s3, hm, l2, okm, gm.ok, fun k e d H4 s4 hd => ?_, fun e t H4 k4 hL4 ht4 => ?_⟩
      · refine ⟨true, TE.exm_Refused_Refused, fun _ ex hex => ?_, fun z => nomatch z⟩
        exact ⟨_, ps2, ext, rfl, fun b o nb z => s4 _ _ (s3 _ _ (k2 _ _ nb z)), s4 _ _ (s3 _ _ hL2), (hs2.same s3).same s4, by omega, cl2, good2⟩
      · have kk : But L H H4 := fun b o nb z => k4 _ _ nb (s3 _ _ (k2 _ _ nb z))
        have hs4 := k4.ss (s3 _ _ hL2) (hs2.same s3)
        cases q : memS (ms ++ ext) m with
        | true =>
          have ea : after ps2 (ms ++ ext) p m = ps2 := by unfold after; rw [q]; rfl
          rw [ea] at hL4
          exact ⟨_, ps2, ext, rfl, kk, hL4, hs4, by omega, cl2, good2⟩
        | false =>
          have ea : after ps2 (ms ++ ext) p m = ps2 ++ [p] := by unfold after; rw [q]; rfl
          rw [ea] at hL4
          refine ⟨_, ps2 ++ [p], ext ++ [m], rfl, kk, hL4, by rw [← List.append_assoc]; exact hs4.snoc (k4.sm (s3 _ _ hL2) hm), by rw [List.length_append, List.length_singleton]; omega, by rw [← List.append_assoc]; exact cl2.snoc q e, fun x hx => ?_⟩
          rw [← List.append_assoc] at hx
          rcases List.mem_append.mp hx with hx | hx
          · exact good2 x hx
          · rw [List.mem_singleton.mp hx]
            exact gm
    · rintro σ H2 ⟨v2, ps2, ext, rfl, k2, hL2, hs2, le, cl2, good2⟩
      rw [List.length_map] at le
      walk_at "rs"
      refine ⟨j, _, dx, _, .ref L, rfl, k2 _ _ jL hj, T.cl_Journal, T.a_Journal_signed, jfs_s _ _, ?_⟩
      walk_at "rs"
      refine ⟨L, _, rfl, .inl (SqL.of hL2), fun R hR => ?_⟩
      have sR := same_new (o := .lst (ps2.map V.ref)) hR
      have nRL : R ≠ L := fun z => by rw [z, hL2] at hR; cases hR
      refine k R _ ps2 ext (fun b o nb z => sR _ _ (k2 _ _ nb z)) ?_ nRL (sR _ _ hL2) upd_same (hs2.same sR) le cl2 good2
      cases e : H R with
      | none => rfl
      | some o => rw [k2 _ _ nRL e] at hR; cases hR
theorem ok_law {f : Addr} {fd : FuncData} (F : Fun K "law" "law" s_law f fd) (TE : TxtE P K mg a) (T : Txt K mg a) : FnOk P w K mg base CX0 8 f fd ["script"] (spLaw K) := by
  obtain ⟨fd_Journal_init, G_Journal_init, b_Journal_init⟩ := ok_Journal_init (P := P) (w := w) (base := base) T
  obtain ⟨fd_law_signed, G_law_signed, b_law_signed⟩ := ok_law_signed (P := P) (w := w) (base := base) TE T
  obtain ⟨fd_Journal_lines, G_Journal_lines, b_Journal_lines⟩ := ok_Journal_lines (P := P) (w := w) (base := base) T
  obtain ⟨fd_restore, G_restore, b_restore⟩ := ok_restore (P := P) (w := w) (base := base) TE T
  obtain ⟨fd_law_cell, G_law_cell, b_law_cell⟩ := ok_law_cell (P := P) (w := w) (base := base) T
  obtain ⟨fd_law_clash, G_law_clash, b_law_clash⟩ := ok_law_clash (P := P) (w := w) (base := base) T
  obtain ⟨fdS, SupS, bS⟩ := TE.sup_BadJournal
  have nof := SupS.nof
  refine F.ok sc_law (fun vs H Q E h => ?_) (fun cdv A outer s H vs Q E hr h => ?_)
  · obtain ⟨_, _, rfl, _⟩ := h
    rfl
  · obtain ⟨l, ns, rfl, hS, hl, k⟩ := h
    refine ⟨_, (pss_cons (ps_set (i := 1) sc_law.nd rfl (Or.inl rfl) (pe_op op_mod (pe_callTy call_int1 (by rfl) T.n_int (by decide +kernel) (pa_cons (pe_call G_law_cell (hr.mono (by decide)) rfl T.d_law_cell.g T.d_law_cell.kp b_law_cell .nil pass0 (pa_cons (pv 0) (pa_cons pe_int pa_nil))) pa_nil)) pe_int))
      (pss_cons (ps_set (i := 2) sc_law.nd rfl (Or.inl rfl) (pe_op op_fdiv (pe_op op_add (pe_callB call_len_seq (by rfl) T.n_len PySem.boot_len (pa_cons (pv 0) pa_nil)) pe_int) pe_int))
      (pss_cons (ps_set (i := 3) sc_law.nd rfl (Or.inl rfl) (pe_make T.m_Journal G_Journal_init (hr.mono (by decide)) (by rfl) T.g_Journal b_Journal_init .nil pass0 (pa_cons (pv 1) pa_nil)))
      (pss_cons (ps_set (i := 4) sc_law.nd rfl (Or.inl rfl) (pe_call G_law_signed (hr.mono (by decide)) rfl T.d_law_signed.g T.d_law_signed.kp b_law_signed .nil pass0 (pa_cons (pv 3) (pa_cons (pe_slice sl_list (pv 0) po_none (po_some (pv 2))) pa_nil))))
      (pss_cons (ps_set (i := 5) sc_law.nd rfl (Or.inl rfl) (pe_meth0 (pv 3) T.cl_Journal T.me_Journal_lines G_Journal_lines (hr.mono (by decide)) b_Journal_lines .nil pass0))
      (pss_cons (ps_set (i := 6) sc_law.nd rfl (Or.inl rfl) (pe_join pe_str (pv 5)))
      (pss_cons (ps_set (i := 7) sc_law.nd rfl (Or.inl rfl) (pe_op op_mod (pe_callTy call_int1 (by rfl) T.n_int (by decide +kernel) (pa_cons (pe_call G_law_cell (hr.mono (by decide)) rfl T.d_law_cell.g T.d_law_cell.kp b_law_cell .nil pass0 (pa_cons (pv 0) (pa_cons pe_int pa_nil))) pa_nil)) (pe_op op_add (pe_callB call_len_str (by rfl) T.n_len PySem.boot_len (pa_cons (pv 6) pa_nil)) pe_int)))
      (pss_cons (ps_set (i := 8) sc_law.nd rfl (Or.inl rfl) (pe_split (pe_slice sl_str (pv 6) po_none (po_some (pv 7))) pe_str))
      (pss_cons (ps_set (i := 9) sc_law.nd rfl (Or.inl rfl) (pe_op op_sub (pe_callB call_len_seq (by rfl) T.n_len PySem.boot_len (pa_cons (pv 8) pa_nil)) pe_int))
      (C8.pss_cut (ps_if (PW.pt (pw_and (pt_cmpR op_gt (pe_callB call_len_seq (by rfl) T.n_len PySem.boot_len (pa_cons (pv 5) pa_nil)) pe_int (nomark _)) (pw_and1 (pt_cmpR op_eq (pe_ix ix_list (pv 8) (pe_un un_neg pe_int) (fun _ _ => rfl)) (pe_ix ix_list (pv 5) (pv 9) (fun _ _ => rfl)) (nomark _)))))
      (pss_one (ps_set (i := 9) sc_law.nd rfl (Or.inl rfl) (pe_op op_add (pv 9) pe_int)))
      pss_nil)
      (pss_cons (ps_try_as (i := 11) rfl rfl sc_law.nd rfl rfl ⟨rfl, by decide, .inl TE.g_TribunalError⟩ takes0 (fun W pn xe tk _ => (pss_one (ps_set (i := 10) sc_law.nd rfl (Or.inl rfl) (pe_callS G_restore (hr.mono (by decide)) rfl T.d_restore.g T.d_restore.kp b_restore (fun σ => passAt tk σ) (pa_cons (pv 1) (pa_cons (pe_callTy (T := "list") (r := rListOf K) (cr_listK rfl) (by rfl) T.n_list (by decide +kernel) (pa_cons (pv 8) pa_nil)) pa_nil)))))) (fun ae oe cls d pn hz hf => (pss_one (ps_ret (pe_and (pe_callB (call_isX hz hf) (by rfl) T.n_isinstance (by decide +kernel) (pa_cons (pv 11) (pa_cons (pe_glob (v := .ref a.C_BadJournal) rfl TE.g_BadJournal rfl) pa_nil))) (pe_and (pe_cmpR op_eq (pe_xf ⟨TE.xc_BadJournal.ga, TE.xc_BadJournal.gt, TE.xc_BadJournal.sub, TE.xc_BadJournal.has⟩ nof hz hf (pv 11)) (pe_op op_sub (pe_callB (id := "len") (r := rLenOf K) (cr_lenK rfl) (by rfl) T.n_len PySem.boot_len (pa_cons (pv 8) pa_nil)) pe_int) (nomark _)) (pe_and (pe_cmpR op_eq (pv 9) (pe_op op_sub (pe_callB (id := "len") (r := rLenOf K) (cr_lenK rfl) (by rfl) T.n_len PySem.boot_len (pa_cons (pv 8) pa_nil)) pe_int) (nomark _)) (pe_one (pe_cmpR op_ne (pe_ix (r := rIxL K) ix_list (pv 8) (pe_un un_neg pe_int) (fun _ _ => rfl)) pe_str (nomark _))))))))))
      (pss_cons (ps_if (PW.pt (pw_or (pt_cmpR (op_neD hr.units) (pe_slice sl_list (pe_fld (pv 10) rfl) po_none (po_some (pv 9))) (pe_slice sl_list (pv 4) po_none (po_some (pv 9))) (nomark _)) (pw_or1 (pt_cmpR op_gt (pe_callB call_len_seq (by rfl) T.n_len PySem.boot_len (pa_cons (pe_fld (pv 10) rfl) pa_nil)) (pe_op op_add (pv 9) pe_int) (nomark _)))))
      (pss_one (ps_ret pe_bl))
      pss_nil)
      (C8.pss_cut (ps_if (PW.pt (pw_and (pt_cmpR op_gt (pe_callB call_len_seq (by rfl) T.n_len PySem.boot_len (pa_cons (pe_fld (pv 10) rfl) pa_nil)) (pv 9) (nomark _)) (pw_and1 (pt_cmpR op_eq (pv 9) (pe_callB call_len_seq (by rfl) T.n_len PySem.boot_len (pa_cons (pv 8) pa_nil)) (nomark _)))))
      (pss_one (ps_ret pe_bl))
      pss_nil)
      (pss_cons (ps_set (i := 12) sc_law.nd rfl (Or.inl rfl) (pe_call G_law_signed (hr.mono (by decide)) rfl T.d_law_signed.g T.d_law_signed.kp b_law_signed .nil pass0 (pa_cons (pv 10) (pa_cons (pe_slice sl_list (pv 0) (po_some (pv 2)) po_none) pa_nil))))
      (pss_cons (ps_for PassesOwn.never rfl (pi_list (pe_slice sl_list (pv 12) (po_some (pe_callB call_len_seq (by rfl) T.n_len PySem.boot_len (pa_cons (pe_slice sl_list (pe_fld (pv 10) rfl) po_none (po_some (pv 9))) pa_nil))) po_none)) (pg_name (i := 13) sc_law.nd rfl (Or.inl rfl))
      (pss_one (ps_for PassesOwn.never rfl (pi_list (pe_slice sl_list (pv 4) po_none (po_some (pv 9)))) (pg_name (i := 14) sc_law.nd rfl (Or.inl rfl))
        (pss_one (ps_if (pt_val (pe_call G_law_clash (hr.mono (by decide)) rfl T.d_law_clash.g T.d_law_clash.kp b_law_clash .nil pass0 (pa_cons (pv 14) (pa_cons (pv 13) pa_nil))))
          (pss_one (ps_ret pe_bl))
          pss_nil)))))
      (pss_one (ps_ret (pe_cmpR (op_eqD hr.units) (pe_slice sl_list (pv 12) po_none (po_some (pv 9))) (pe_slice sl_list (pv 4) po_none (po_some (pv 9))) (nomark _))))))))))))))))))), ?_⟩
    walk_at "rs"
    refine ⟨l, ns, 0, rfl, hS, hl, by decide, ?_⟩
    have w0 : 0 ≤ (ns.getD (Int.toNat 0) 0 % 16) := Int.emod_nonneg _ (by decide)
    have w1 : (ns.getD (Int.toNat 0) 0 % 16) < 1000000000 := Int.lt_trans (Int.emod_lt_of_pos _ (by decide)) (by decide)
    walk_at "rs"
    refine ⟨l, _, rfl, .inl hS, ?_⟩
    have hh0 : 0 ≤ ((((ns.map V.int).length : Int) + 1) / 2) := Int.ediv_nonneg (by omega) (by decide)
    walk_at "rs"
    intro j dx hj0 hdx ndx
    refine ⟨j, dx, (ns.getD (Int.toNat 0) 0 % 16), rfl, upd_same, fun L H1 hL hj hLL keep => ?_⟩
    have jL : j ≠ L := fun z => by rw [← z, upd_same] at hL; cases hL
    have dL : dx ≠ L := fun z => by rw [← z, upd_ne ndx, upd_same] at hL; cases hL
    have hL0 : H L = none := by rwa [upd_ne jL.symm, upd_ne dL.symm] at hL
    have s1 : Same H H1 := fun b o e => keep b o (fun z => by rw [z, hj0] at e; cases e) (by rw [upd_ne (fun z => by rw [z, hj0] at e; cases e), upd_ne (fun z => by rw [z, hdx] at e; cases e)]; exact e)
    refine ⟨rfl, ?_⟩
    clear keep hL
    walk_at "rs"
    refine ⟨_, _, rfl, s1.seq hS, fun c1 hc1 => ?_⟩
    rw [cutV_take hh0, ← List.map_take]
    have sc := same_new (o := .lst ((ns.take ((((ns.map V.int).length : Int) + 1) / 2).toNat).map V.int)) hc1
    have hc := (upd_same : (upd H1 c1 (.lst ((ns.take ((((ns.map V.int).length : Int) + 1) / 2).toNat).map V.int))) c1 = _)
    have nc1 : c1 ≠ L := fun z => by rw [z, hLL] at hc1; cases hc1
    have lz : (ns.take ((((ns.map V.int).length : Int) + 1) / 2).toNat).length ≤ 63 := by rw [List.length_take]; omega
    generalize upd H1 c1 (.lst ((ns.take ((((ns.map V.int).length : Int) + 1) / 2).toNat).map V.int)) = H2 at sc hc ⊢
    have s2 := s1.trans sc
    refine ⟨j, c1, L, (ns.getD (Int.toNat 0) 0 % 16), ns.take ((((ns.map V.int).length : Int) + 1) / 2).toNat, [], [], rfl, ⟨dx, sc _ _ hj⟩, sc _ _ hLL, hc, nc1, SsAt.nil, by simp; omega, Clean.nil, fun m hm => (nomatch hm), fun R H3 ps ms k3 fR nRL hL3 hR3 hs3 le3 cl good => ?_⟩
    rw [List.nil_append] at hs3 cl good
    have lms : ms.length ≤ 63 := by omega
    have s3 : Same H H3 := fun b o z => k3 _ _ (fun y => by rw [y, hL0] at z; cases z) (s2 _ _ z)
    have hj3 := k3 _ _ jL (sc _ _ hj)
    have sm : ∀ m ∈ ms, SmallM m := fun m hm => (good m hm).small
    have okm : OkM ms := fun m hm => (good m hm).ok
    have n1 := hs3.1
    clear s1 s2 sc hc1 hc k3 hL0 hj hLL le3
    walk_at "rs"
    refine ⟨j, dx, _, rfl, hj3, jfs_no _ _ (by decide +kernel) (by decide +kernel), ?_⟩
    walk_at "rs"
    refine ⟨j, L, (ns.getD (Int.toNat 0) 0 % 16), ps, ms, rfl, ⟨dx, hj3⟩, hL3, hs3, by omega, w0, w1, sm, fun Ls H4 s4 hLs => ?_⟩
    have hR4 := s4 _ _ hR3
    have hs4 := hs3.same s4
    have s34 := s3.trans s4
    clear hj3 hL3 hR3 hs3 s3 s4
    have ltx : ((ms.map (lineS (ns.getD (Int.toNat 0) 0 % 16))).map (·.length)).sum + (ms.map (lineS (ns.getD (Int.toNat 0) 0 % 16))).length * ("\n" : Str).length ≤ 100000 := by
      have e1 : ("\n" : Str).length = 1 := by decide +kernel
      have : ∀ (xs : List Sm), (∀ m ∈ xs, GoodM m) → ((xs.map (lineS (ns.getD (Int.toNat 0) 0 % 16))).map (·.length)).sum ≤ 1000 * xs.length := by
        intro xs
        induction xs with
        | nil => intro _; simp
        | cons x xs ih =>
          intro g
          have a1 := line_len w0 w1 (g x List.mem_cons_self).small
          have a2 := ih fun m hm => g m (List.mem_cons_of_mem _ hm)
          simp only [List.map_cons, List.sum_cons, List.length_cons]
          omega
      have := this ms good
      rw [e1, List.length_map]
      omega
    have ltl : (Txt.join "\n" (ms.map (lineS (ns.getD (Int.toNat 0) 0 % 16)))).length ≤ 100000 := by
      rw [TL.join_eq]
      exact Nat.le_trans (join_len _ _) ltx
    walk_at "rs"
    refine ⟨⟨_, rfl⟩, ?_⟩
    walk_at "rs"
    refine ⟨_, Ls, _, rfl, rfl, .inl (SqL.of hLs), Nat.le_trans ltx (by decide), ?_⟩
    walk_at "rs"
    refine ⟨l, ns, 1, rfl, s34.seq hS, hl, by decide, ?_⟩
    have c0 : 0 ≤ (ns.getD (Int.toNat 1) 0 % (((Txt.join "\n" (ms.map (lineS (ns.getD (Int.toNat 0) 0 % 16)))).length : Int) + 1)) := Int.emod_nonneg _ (by omega)
    have c1 : (ns.getD (Int.toNat 1) 0 % (((Txt.join "\n" (ms.map (lineS (ns.getD (Int.toNat 0) 0 % 16)))).length : Int) + 1)) ≤ ((Txt.join "\n" (ms.map (lineS (ns.getD (Int.toNat 0) 0 % 16)))).length : Int) := by
      have := Int.emod_lt_of_pos (ns.getD (Int.toNat 1) 0) (show (0 : Int) < ((Txt.join "\n" (ms.map (lineS (ns.getD (Int.toNat 0) 0 % 16)))).length : Int) + 1 by omega)
      omega
    obtain ⟨n, Pz, kc⟩ := cut_of w0 w1 good c0 c1
    have lcut := cutS_length (Txt.join "\n" (ms.map (lineS (ns.getD (Int.toNat 0) 0 % 16)))) none (some (ns.getD (Int.toNat 1) 0 % (((Txt.join "\n" (ms.map (lineS (ns.getD (Int.toNat 0) 0 % 16)))).length : Int) + 1)))
    walk_at "rs"
    refine ⟨by show (Txt.join "\n" (ms.map (lineS (ns.getD (Int.toNat 0) 0 % 16)))).length ≤ 16777216; omega, ?_⟩
    walk_at "rs"
    refine ⟨by show (Txt.join "\n" (ms.map (lineS (ns.getD (Int.toNat 0) 0 % 16)))).length ≤ 16777216; omega, ?_⟩
    walk_at "rs"
    refine ⟨⟨_, rfl⟩, _, _, rfl, rfl, by decide +kernel, by show (cutS (Txt.join "\n" (ms.map (lineS (ns.getD (Int.toNat 0) 0 % 16)))) none (some (ns.getD (Int.toNat 1) 0 % (((Txt.join "\n" (ms.map (lineS (ns.getD (Int.toNat 0) 0 % 16)))).length : Int) + 1)))).length + 2 ≤ 16777216; omega, fun Lf hLf => ?_⟩
    have s5 := same_new (o := .lst ((Txt.split (cutS (Txt.join "\n" (ms.map (lineS (ns.getD (Int.toNat 0) 0 % 16)))) none (some (ns.getD (Int.toNat 1) 0 % (((Txt.join "\n" (ms.map (lineS (ns.getD (Int.toNat 0) 0 % 16)))).length : Int) + 1)))) "\n").map V.str)) hLf
    have hLf5 := (upd_same : (upd H4 Lf (.lst ((Txt.split (cutS (Txt.join "\n" (ms.map (lineS (ns.getD (Int.toNat 0) 0 % 16)))) none (some (ns.getD (Int.toNat 1) 0 % (((Txt.join "\n" (ms.map (lineS (ns.getD (Int.toNat 0) 0 % 16)))).length : Int) + 1)))) "\n").map V.str))) Lf = _)
    generalize upd H4 Lf (.lst ((Txt.split (cutS (Txt.join "\n" (ms.map (lineS (ns.getD (Int.toNat 0) 0 % 16)))) none (some (ns.getD (Int.toNat 1) 0 % (((Txt.join "\n" (ms.map (lineS (ns.getD (Int.toNat 0) 0 % 16)))).length : Int) + 1)))) "\n").map V.str)) = H5 at s5 hLf5 ⊢
    generalize Txt.split (cutS (Txt.join "\n" (ms.map (lineS (ns.getD (Int.toNat 0) 0 % 16)))) none (some (ns.getD (Int.toNat 1) 0 % (((Txt.join "\n" (ms.map (lineS (ns.getD (Int.toNat 0) 0 % 16)))).length : Int) + 1)))) "\n" = ls at kc hLf5
    have lls : ls.length = n + 1 := by rw [kc.eq, List.length_append, List.length_map, List.length_take, Nat.min_eq_left kc.le]; rfl
    have hLs5 := s5 _ _ hLs
    have hR5 := s5 _ _ hR4
    have hs5 := hs4.same s5
    have s35 := s34.trans s5
    clear s5 hLs hR4 hs4 s34
    walk_at "rs"
    refine ⟨Lf, _, rfl, .inl (SqL.of hLf5), ?_⟩
    have lls' : (ls.map V.str).length = n + 1 := by rw [List.length_map, lls]
    rw [lls']
    walk_at "rs"
    refine ⟨fun σ H6 => ∃ wh : Nat, σ = [some (.ref l), some (.int (ns.getD (Int.toNat 0) 0 % 16)), some (.int ((((ns.map V.int).length : Int) + 1) / 2)), some (.ref j), some (.ref R), some (.ref Ls), some (.str (Txt.join "\n" (ms.map (lineS (ns.getD (Int.toNat 0) 0 % 16))))), some (.int (ns.getD (Int.toNat 1) 0 % (((Txt.join "\n" (ms.map (lineS (ns.getD (Int.toNat 0) 0 % 16)))).length : Int) + 1))), some (.ref Lf), some (.int (wh : Int)), none, none, none, none, none] ∧ H5 = H6 ∧ (wh = n ∨ (wh = n + 1 ∧ n < ms.length ∧ Pz = lineS (ns.getD (Int.toNat 0) 0 % 16) (ms.getD n default))), ?_, ?_⟩
    · have en : (((n + 1 : Nat) : Int) - 1) = (n : Int) := by omega
      walk_at "rs"
      refine ⟨Ls, _, rfl, .inl (SqL.of hLs5), ?_⟩
      walk_at "rs"
      refine ite2 (fun c1 => ?_) (fun c1 => ?_)
      · have hn : n < ms.length := by
          rcases kc.at_ with z | z
          · rw [z] at c1
            cases c1
          · exact z
        walk_at "rs"
        refine ⟨Lf, _, _, .str Pz, rfl, rfl, SqL.of hLf5, (by rw [kc.eq, List.map_append]; exact atI_last _ _), ?_⟩
        walk_at "rs"
        refine ⟨Ls, _, _, .str (lineS (ns.getD (Int.toNat 0) 0 % 16) (ms.getD n default)), rfl, rfl, SqL.of hLs5, (by
          rw [en]
          exact atI_nat (at_lines hn)), ?_⟩
        walk_at "rs"
        refine ite2 (fun c2 => ?_) (fun c2 => ?_)
        · have ez : Pz = lineS (ns.getD (Int.toNat 0) 0 % 16) (ms.getD n default) := by simpa using c2
          walk_at "rs"
          exact ⟨n + 1, by rw [en]; rfl, rfl, .inr ⟨rfl, hn, ez⟩⟩
        · exact ⟨n, by rw [← en]; rfl, rfl, .inl rfl⟩
      · exact ⟨n, by rw [← en]; rfl, rfl, .inl rfl⟩
    rintro σ _ ⟨wh, rfl, rfl, hwh⟩
    walk_at "rs"
    refine ⟨Lf, _, rfl, .inl (SqL.of hLf5), fun Lg hLg => ?_⟩
    have s6 := same_new (o := .lst (ls.map V.str)) hLg
    have hLg6 := (upd_same : (upd H5 Lg (.lst (ls.map V.str))) Lg = _)
    generalize upd H5 Lg (.lst (ls.map V.str)) = H6 at s6 hLg6 ⊢
    have hLf6 := s6 _ _ hLf5
    have hR6 := s6 _ _ hR5
    have hs6 := hs5.same s6
    have s36 := s35.trans s6
    clear s6 hLf5 hR5 hs5 s35 hLs5
    walk_at "rs"
    refine ⟨Lg, (ns.getD (Int.toNat 0) 0 % 16), ls, rfl, hLg6, by have := kc.le; omega, fun x hx => ?_, fun e he d H7 s7 hd => ?_, fun ms' he good' j2 L2 ps' H7 s7 fj fL hj hL hs' => ?_⟩
    · rw [kc.eq] at hx
      rcases List.mem_append.mp hx with hx | hx
      · obtain ⟨m, hm, rfl⟩ := List.mem_map.mp hx
        have := line_len w0 w1 (sm m (List.mem_of_mem_take hm))
        omega
      · rw [List.mem_singleton.mp hx]
        have := kc.short
        omega
    · obtain ⟨e1, e2, e3⟩ := cut_err w0 w1 cl good kc he
      subst e1
      have ew : wh = n := by
        rcases hwh with z | ⟨z1, z2, z3⟩
        · exact z
        · exact absurd z3 (e3 z2)
      subst ew
      have hLf7 := s7 _ _ hLf6
      have en : (((wh + 1 : Nat) : Int) - 1) = (wh : Int) := by omega
      refine ⟨true, TE.exm_TribunalError_BadJournal, fun _ ex hex => ?_, fun z => nomatch z⟩
      walk_at "rs"
      refine ⟨a.C_BadJournal, d, .ref a.C_BadJournal, .ref a.C_BadJournal, true, _, rfl, rfl, rfl, TE.xc_BadJournal, .own _, hd, TE.kt_BadJournal_BadJournal, ?_⟩
      walk_at "rs"
      refine ⟨d, _, _, rfl, hd, (by rfl : List.lookup ("at" : Str) [(("at" : Str), V.int (wh : Int))] = some (.int (wh : Int))), ?_⟩
      walk_at "rs"
      refine ⟨Lf, _, rfl, .inl (SqL.of hLf7), ?_⟩
      rw [lls']
      walk_at "rs"
      refine ite2 (fun _ => ?_) (fun c => ?_)
      rotate_left
      · exact absurd (decide_eq_true (by show V.int (wh : Int) = V.int (((wh + 1 : Nat) : Int) - 1); rw [en])) c
      walk_at "rs"
      refine ⟨Lf, _, rfl, .inl (SqL.of hLf7), ?_⟩
      rw [lls']
      walk_at "rs"
      refine ite2 (fun _ => ?_) (fun c => ?_)
      rotate_left
      · exact absurd (decide_eq_true (by show V.int (wh : Int) = V.int (((wh + 1 : Nat) : Int) - 1); rw [en])) c
      walk_at "rs"
      refine ⟨Lf, _, _, .str Pz, rfl, rfl, SqL.of hLf7, (by rw [kc.eq, List.map_append]; exact atI_last _ _), ?_⟩
      walk_at "rs"
      have ez : (!decide (V.str Pz = V.str "")) = true := by simpa using e2
      rw [ez]
      exact k _
    · obtain ⟨cl', tk, le1, le2⟩ := cut_fine w0 w1 cl good kc he
      have facts : ms'.take wh = ms.take wh ∧ wh ≤ ms'.length ∧ ms'.length ≤ wh + 1 ∧ wh ≤ ms.length ∧ (wh = n + 1 → ms'.length = wh) := by
        rcases hwh with z | ⟨z1, z2, z3⟩
        · rw [z]
          exact ⟨tk, le1, le2, kc.le, fun q => by omega⟩
        · have := line_ok2 w0 w1 cl good kc z2 z3
          rw [this] at he
          cases he
          have l0 : (ms.take (n + 1)).length = n + 1 := by rw [List.length_take]; omega
          rw [z1]
          exact ⟨by rw [List.take_take, Nat.min_self], by omega, by omega, z2, fun _ => l0⟩
      obtain ⟨f1, f2, f3, f4, f5⟩ := facts
      have hR7 := s7 _ _ hR6
      have hs7 := hs6.same s7
      have hLf7 := s7 _ _ hLf6
      have s37 := s36.trans s7
      have nRL2 : R ≠ L2 := fun z => by rw [z] at hR6; rw [hR6] at fL; cases fL
      have fL0 : H L2 = none := s36.free fL
      obtain ⟨dx2, hj⟩ := hj
      have jL2 : j2 ≠ L2 := fun z => by rw [z, hL] at hj; cases hj
      clear s7 hR6 hs6 hLf6 s36
      walk_at "rs"
      refine ⟨j2, _, dx2, _, .ref L2, rfl, hj, T.cl_Journal, T.a_Journal_signed, jfs_s _ _, ?_⟩
      have ps1 := hs'.1
      have ok' : OkM ms' := fun m hm => (good' m hm).ok
      walk_at "rs"
      refine ⟨L2, _, rfl, SqL.of hL, fun a1 ha1 => ?_⟩
      rw [take_refs]
      have sa1 := same_new (o := .lst ((ps'.take wh).map V.ref)) ha1
      have fa1 := (upd_same : (upd H7 a1 (.lst ((ps'.take wh).map V.ref))) a1 = _)
      generalize upd H7 a1 (.lst ((ps'.take wh).map V.ref)) = H8 at sa1 fa1 ⊢
      walk_at "rs"
      refine ⟨R, _, rfl, SqL.of (sa1 _ _ hR7), fun a2 ha2 => ?_⟩
      rw [take_refs]
      have sa2 := same_new (o := .lst ((ps.take wh).map V.ref)) ha2
      have fa2 := (upd_same : (upd H8 a2 (.lst ((ps.take wh).map V.ref))) a2 = _)
      generalize upd H8 a2 (.lst ((ps.take wh).map V.ref)) = H9 at sa2 fa2 ⊢
      have s79 := sa1.trans sa2
      have hs9' := (hs'.same s79).take wh
      have hs9 := (hs7.same s79).take wh
      rw [f1] at hs9'
      refine ⟨_, _, .lst (SqL.of (sa2 _ _ fa1)) (dp_sms hs9'), .lst (SqL.of fa2) (dp_sms hs9), shaped_sms (okm.take wh), shaped_sms (okm.take wh), ?_⟩
      rw [eqv_sms (okm.take wh)]
      have hj9 := s79 _ _ hj
      have hL9 := s79 _ _ hL
      have hR9 := s79 _ _ hR7
      have hLf9 := s79 _ _ hLf7
      have h9' := hs'.same s79
      have h9 := hs7.same s79
      have s39 := s37.trans s79
      have lp : (ps'.map V.ref).length = ms'.length := by rw [List.length_map, hs'.1]
      clear sa1 sa2 s79 hj hL hR7 hLf7 hs7 s37 fa1 fa2 ha1 ha2 hs9 hs9'
      walk_at "rs"
      refine ⟨j2, _, dx2, _, .ref L2, rfl, hj9, T.cl_Journal, T.a_Journal_signed, jfs_s _ _, ?_⟩
      refine ⟨L2, _, rfl, .inl (SqL.of hL9), ?_⟩
      rw [lp]
      walk_at "rs"
      refine ite2 (fun c => ?_) (fun _ => ?_)
      · exfalso
        have := of_decide_eq_true c
        omega
      walk_at "rs"
      refine ⟨fun σ H10 => σ = [some (.ref l), some (.int (ns.getD (Int.toNat 0) 0 % 16)), some (.int ((((ns.map V.int).length : Int) + 1) / 2)), some (.ref j), some (.ref R), some (.ref Ls), some (.str (Txt.join "\n" (ms.map (lineS (ns.getD (Int.toNat 0) 0 % 16))))), some (.int (ns.getD (Int.toNat 1) 0 % (((Txt.join "\n" (ms.map (lineS (ns.getD (Int.toNat 0) 0 % 16)))).length : Int) + 1))), some (.ref Lf), some (.int (wh : Int)), some (.ref j2), none, none, none, none] ∧ H9 = H10, ?_, ?_⟩
      · walk_at "rs"
        refine ⟨j2, _, dx2, _, .ref L2, rfl, hj9, T.cl_Journal, T.a_Journal_signed, jfs_s _ _, ?_⟩
        refine ⟨L2, _, rfl, .inl (SqL.of hL9), ?_⟩
        rw [lp]
        walk_at "rs"
        refine ite2 (fun c1 => ?_) (fun _ => ?_)
        · walk_at "rs"
          refine ⟨Lf, _, rfl, .inl (SqL.of hLf9), ?_⟩
          rw [lls']
          walk_at "rs"
          refine ite2 (fun c2 => ?_) (fun _ => ?_)
          · exfalso
            have e1 := of_decide_eq_true c1
            have e2 : (wh : Int) = ((n + 1 : Nat) : Int) := by simpa using c2
            have := f5 (by omega)
            omega
          · exact ⟨rfl, rfl⟩
        · exact ⟨rfl, rfl⟩
      rintro σ _ ⟨rfl, rfl⟩
      walk_at "rs"
      refine ⟨_, _, rfl, s39.seq hS, fun c2 hc2 => ?_⟩
      rw [cutV_drop hh0, ← List.map_drop]
      have sc := same_new (o := .lst ((ns.drop ((((ns.map V.int).length : Int) + 1) / 2).toNat).map V.int)) hc2
      have hc := (upd_same : (upd H9 c2 (.lst ((ns.drop ((((ns.map V.int).length : Int) + 1) / 2).toNat).map V.int))) c2 = _)
      have nc2 : c2 ≠ L2 := fun z => by rw [z, hL9] at hc2; cases hc2
      have lz : (ns.drop ((((ns.map V.int).length : Int) + 1) / 2).toNat).length ≤ 63 := by rw [List.length_drop]; omega
      generalize upd H9 c2 (.lst ((ns.drop ((((ns.map V.int).length : Int) + 1) / 2).toNat).map V.int)) = H10 at sc hc ⊢
      refine ⟨j2, c2, L2, (ns.getD (Int.toNat 0) 0 % 16), ns.drop ((((ns.map V.int).length : Int) + 1) / 2).toNat, ps', ms', rfl, ⟨dx2, sc _ _ hj9⟩, sc _ _ hL9, hc, nc2, h9'.same sc, by omega, cl', good', fun R2 H11 ps2 ext k11 fR2 nR2 hL11 hR11 hs11 le11 cl11 good11 => ?_⟩
      have hR11s : H11 R = some (.lst (ps.map V.ref)) := k11 _ _ nRL2 (sc _ _ hR9)
      have hs11s : SsAt H11 ps ms := k11.ss (sc _ _ hL9) (h9.same sc)
      have hj11 := k11 _ _ jL2 (sc _ _ hj9)
      have eN : ∀ i, i < wh → (ms' ++ ext).getD i default = ms.getD i default := fun i hi => by
        rw [getD_left (by omega), ← take_getD (xs := ms') hi, f1, take_getD hi]
      have n2 := hs11.1
      have n3 := hs11s.1
      have lms2 : wh ≤ (ms' ++ ext).length := by rw [List.length_append]; omega
      have okm2 : OkM (ms' ++ ext) := fun m hm => (good11 m hm).ok
      have ftk : (ms' ++ ext).take wh = ms.take wh := by rw [List.take_append_of_le_length f2, f1]
      clear hj9 hL9 hR9 hLf9 h9' h9 k11 sc hc s39
      walk_at "rs"
      refine ⟨j2, _, dx2, _, .ref L2, rfl, hj11, T.cl_Journal, T.a_Journal_signed, jfs_s _ _, ?_⟩
      walk_at "rs"
      refine ⟨L2, _, rfl, SqL.of hL11, fun a3 ha3 => ?_⟩
      rw [take_refs]
      have s3 := same_new (o := .lst ((ps2.take wh).map V.ref)) ha3
      have l3 : ((ps2.take wh).map V.ref).length = wh := by rw [List.length_map, List.length_take]; omega
      refine ⟨a3, _, rfl, .inl (SqL.of upd_same), ?_⟩
      rw [l3]
      generalize upd H11 a3 (.lst ((ps2.take wh).map V.ref)) = H12 at s3 ⊢
      walk_at "rs"
      refine ⟨R2, _, rfl, SqL.of (s3 _ _ hR11), fun a4 ha4 => ?_⟩
      rw [drop_refs]
      have s4 := s3.trans (same_new (o := .lst ((ps2.drop wh).map V.ref)) ha4)
      have f4' := (upd_same : (upd H12 a4 (.lst ((ps2.drop wh).map V.ref))) a4 = _)
      generalize upd H12 a4 (.lst ((ps2.drop wh).map V.ref)) = H13 at s4 f4' ⊢
      walk_at "rs"
      refine ⟨⟨_, SqL.of f4'⟩, for_list (K := K) (a := a4) (xs := (ps2.drop wh).map V.ref) (fun i σ H14 => ∃ v13 v14 : Option V, σ = [some (.ref l), some (.int (ns.getD (Int.toNat 0) 0 % 16)), some (.int ((((ns.map V.int).length : Int) + 1) / 2)), some (.ref j), some (.ref R), some (.ref Ls), some (.str (Txt.join "\n" (ms.map (lineS (ns.getD (Int.toNat 0) 0 % 16))))), some (.int (ns.getD (Int.toNat 1) 0 % (((Txt.join "\n" (ms.map (lineS (ns.getD (Int.toNat 0) 0 % 16)))).length : Int) + 1))), some (.ref Lf), some (.int (wh : Int)), some (.ref j2), none, some (.ref R2), v13, v14] ∧ Same H13 H14) ⟨_, _, rfl, Same.refl _⟩ (fun i σ H14 _ ⟨_, _, _, s⟩ => SqL.of (s _ _ f4')) ?_ ?_⟩
      · rintro i y σ H14 hy ⟨v13, v14, rfl, s14⟩
        have hi : i < (ps2.drop wh).length := by
          have e := (List.getElem?_eq_some_iff.mp hy).1
          rwa [List.length_map] at e
        rw [at_refs hi, drop_getD] at hy
        cases hy
        rw [List.length_drop] at hi
        walk_at "rs"
        refine ⟨R, _, rfl, SqL.of (s14 _ _ (s4 _ _ hR11s)), fun a5 ha5 => ?_⟩
        rw [take_refs]
        have s5 := (s4.trans s14).trans (same_new (o := .lst ((ps.take wh).map V.ref)) ha5)
        have s5' := s14.trans (same_new (o := .lst ((ps.take wh).map V.ref)) ha5)
        have f5' := (upd_same : (upd H14 a5 (.lst ((ps.take wh).map V.ref))) a5 = _)
        generalize upd H14 a5 (.lst ((ps.take wh).map V.ref)) = H15 at s5 s5' f5' ⊢
        walk_at "rs"
        refine ⟨⟨_, SqL.of f5'⟩, for_list (K := K) (a := a5) (xs := (ps.take wh).map V.ref) (fun _ σ H16 => ∃ v14 : Option V, σ = [some (.ref l), some (.int (ns.getD (Int.toNat 0) 0 % 16)), some (.int ((((ns.map V.int).length : Int) + 1) / 2)), some (.ref j), some (.ref R), some (.ref Ls), some (.str (Txt.join "\n" (ms.map (lineS (ns.getD (Int.toNat 0) 0 % 16))))), some (.int (ns.getD (Int.toNat 1) 0 % (((Txt.join "\n" (ms.map (lineS (ns.getD (Int.toNat 0) 0 % 16)))).length : Int) + 1))), some (.ref Lf), some (.int (wh : Int)), some (.ref j2), none, some (.ref R2), some (.ref (ps2.getD (wh + i) 0)), v14] ∧ Same H15 H16) ⟨_, rfl, Same.refl _⟩ (fun _ σ H16 _ ⟨_, _, s⟩ => SqL.of (s _ _ f5')) ?_ ?_⟩
        · rintro q y σ H16 hy ⟨v14, rfl, s16⟩
          have hq : q < (ps.take wh).length := by
            have e := (List.getElem?_eq_some_iff.mp hy).1
            rwa [List.length_map] at e
          rw [at_refs hq] at hy
          cases hy
          rw [List.length_take] at hq
          have q1 := (hs11s.same (s5.trans s16)).2 q (by omega)
          have q2 := (hs11.same (s5.trans s16)).2 (wh + i) (by omega)
          have e1 : (ps.take wh).getD q 0 = ps.getD q 0 := take_getD (by omega)
          rw [e1]
          walk_at "rs"
          refine ⟨_, _, _, _, rfl, q1, q2, fun H17 s17 => ?_⟩
          have ec := cl11.pair (i := q) (j := wh + i) (by omega) (by omega)
          rw [eN q (by omega)] at ec
          rw [ec]
          walk_at "rs"
          exact s16.trans s17
        · rintro σ H16 ⟨v14, rfl, s16⟩
          exact ⟨_, _, rfl, s5'.trans s16⟩
      · rintro σ H14 ⟨v13, v14, rfl, s14⟩
        have s41 := s4.trans s14
        walk_at "rs"
        refine ⟨R2, _, rfl, SqL.of (s41 _ _ hR11), fun a6 ha6 => ?_⟩
        rw [take_refs]
        have s6 := same_new (o := .lst ((ps2.take wh).map V.ref)) ha6
        have f6 := (upd_same : (upd H14 a6 (.lst ((ps2.take wh).map V.ref))) a6 = _)
        generalize upd H14 a6 (.lst ((ps2.take wh).map V.ref)) = H15 at s6 f6 ⊢
        walk_at "rs"
        refine ⟨R, _, rfl, SqL.of (s6 _ _ (s41 _ _ hR11s)), fun a7 ha7 => ?_⟩
        rw [take_refs]
        have s7 := same_new (o := .lst ((ps.take wh).map V.ref)) ha7
        have g1 := ((hs11.same s41).same (s6.trans s7)).take wh
        have g2 := ((hs11s.same s41).same (s6.trans s7)).take wh
        rw [ftk] at g1
        refine ⟨_, _, .lst (SqL.of (s7 _ _ f6)) (dp_sms g1), .lst (SqL.of upd_same) (dp_sms g2), shaped_sms (okm.take wh), shaped_sms (okm.take wh), ?_⟩
        rw [eqv_sms (okm.take wh)]
        exact k _

end

theorem all_mk {l : PySem.W.OpenLaw} {w : World} {K : PySem.W.Frag} {h : Heap} {mg : Str → Option Value} {fa : Addr} (X : K.In h) (G : h.Ns mainGlobals mg) (hfa : mg "law" = some (.ref fa))
    {t_KIND : Tok} {t_HEIGHT : Tok} {t_TURN : Tok} {t_BLOCK : Tok} {t_LEAN : Tok} {t_NONE : Tok} {t_LETTERS : Tok} {t_BLOCK_SIGNS : Tok} {t_MOST_DIGITS : Tok} {t_MOST_SIGNS : Tok} {C_Journal : Addr} {f_proposal : Addr} {od_proposal an_proposal : Option Addr} {sl_proposal : Array (Option Value)} {oc_proposal kV_proposal dc_proposal pm_proposal cd_proposal ct_proposal : Value} {f_prevote : Addr} {od_prevote an_prevote : Option Addr} {sl_prevote : Array (Option Value)} {oc_prevote kV_prevote dc_prevote pm_prevote cd_prevote ct_prevote : Value} {f_precommit : Addr} {od_precommit an_precommit : Option Addr} {sl_precommit : Array (Option Value)} {oc_precommit kV_precommit dc_precommit pm_precommit cd_precommit ct_precommit : Value} {f_is_number : Addr} {od_is_number an_is_number : Option Addr} {sl_is_number : Array (Option Value)} {oc_is_number kV_is_number dc_is_number pm_is_number cd_is_number ct_is_number : Value} {f_is_block : Addr} {od_is_block an_is_block : Option Addr} {sl_is_block : Array (Option Value)} {oc_is_block kV_is_block dc_is_block pm_is_block cd_is_block ct_is_block : Value} {f_word_at : Addr} {od_word_at an_word_at : Option Addr} {sl_word_at : Array (Option Value)} {oc_word_at kV_word_at dc_word_at pm_word_at cd_word_at ct_word_at : Value} {f_number_at : Addr} {od_number_at an_number_at : Option Addr} {sl_number_at : Array (Option Value)} {oc_number_at kV_number_at dc_number_at pm_number_at cd_number_at ct_number_at : Value} {f_kind_at : Addr} {od_kind_at an_kind_at : Option Addr} {sl_kind_at : Array (Option Value)} {oc_kind_at kV_kind_at dc_kind_at pm_kind_at cd_kind_at ct_kind_at : Value} {f_block_at : Addr} {od_block_at an_block_at : Option Addr} {sl_block_at : Array (Option Value)} {oc_block_at kV_block_at dc_block_at pm_block_at cd_block_at ct_block_at : Value} {f_lean_at : Addr} {od_lean_at an_lean_at : Option Addr} {sl_lean_at : Array (Option Value)} {oc_lean_at kV_lean_at dc_lean_at pm_lean_at cd_lean_at ct_lean_at : Value} {f_end_at : Addr} {od_end_at an_end_at : Option Addr} {sl_end_at : Array (Option Value)} {oc_end_at kV_end_at dc_end_at pm_end_at cd_end_at ct_end_at : Value} {f_read_letter : Addr} {od_read_letter an_read_letter : Option Addr} {sl_read_letter : Array (Option Value)} {oc_read_letter kV_read_letter dc_read_letter pm_read_letter cd_read_letter ct_read_letter : Value} {f_word : Addr} {od_word an_word : Option Addr} {sl_word : Array (Option Value)} {oc_word kV_word dc_word pm_word cd_word ct_word : Value} {f_letter_line : Addr} {od_letter_line an_letter_line : Option Addr} {sl_letter_line : Array (Option Value)} {oc_letter_line kV_letter_line dc_letter_line pm_letter_line cd_letter_line ct_letter_line : Value} {f_is_vote : Addr} {od_is_vote an_is_vote : Option Addr} {sl_is_vote : Array (Option Value)} {oc_is_vote kV_is_vote dc_is_vote pm_is_vote cd_is_vote ct_is_vote : Value} {f_clash : Addr} {od_clash an_clash : Option Addr} {sl_clash : Array (Option Value)} {oc_clash kV_clash dc_clash pm_clash cd_clash ct_clash : Value} {f_abandons : Addr} {od_abandons an_abandons : Option Addr} {sl_abandons : Array (Option Value)} {oc_abandons kV_abandons dc_abandons pm_abandons cd_abandons ct_abandons : Value} {f_Journal_init : Addr} {od_Journal_init an_Journal_init : Option Addr} {sl_Journal_init : Array (Option Value)} {oc_Journal_init kV_Journal_init dc_Journal_init pm_Journal_init cd_Journal_init ct_Journal_init : Value} {f_Journal_sign : Addr} {od_Journal_sign an_Journal_sign : Option Addr} {sl_Journal_sign : Array (Option Value)} {oc_Journal_sign kV_Journal_sign dc_Journal_sign pm_Journal_sign cd_Journal_sign ct_Journal_sign : Value} {f_Journal_lines : Addr} {od_Journal_lines an_Journal_lines : Option Addr} {sl_Journal_lines : Array (Option Value)} {oc_Journal_lines kV_Journal_lines dc_Journal_lines pm_Journal_lines cd_Journal_lines ct_Journal_lines : Value} {f_restore : Addr} {od_restore an_restore : Option Addr} {sl_restore : Array (Option Value)} {oc_restore kV_restore dc_restore pm_restore cd_restore ct_restore : Value} {f_law_cell : Addr} {od_law_cell an_law_cell : Option Addr} {sl_law_cell : Array (Option Value)} {oc_law_cell kV_law_cell dc_law_cell pm_law_cell cd_law_cell ct_law_cell : Value} {f_law_clash : Addr} {od_law_clash an_law_clash : Option Addr} {sl_law_clash : Array (Option Value)} {oc_law_clash kV_law_clash dc_law_clash pm_law_clash cd_law_clash ct_law_clash : Value} {f_law_statement : Addr} {od_law_statement an_law_statement : Option Addr} {sl_law_statement : Array (Option Value)} {oc_law_statement kV_law_statement dc_law_statement pm_law_statement cd_law_statement ct_law_statement : Value} {f_law_signed : Addr} {od_law_signed an_law_signed : Option Addr} {sl_law_signed : Array (Option Value)} {oc_law_signed kV_law_signed dc_law_signed pm_law_signed cd_law_signed ct_law_signed : Value} {f_law : Addr} {od_law an_law : Option Addr} {sl_law : Array (Option Value)} {oc_law kV_law dc_law pm_law cd_law ct_law : Value} {C_BadLine f_BadLine_init : Addr} {nm_BadLine q_BadLine : Str} {N_BadLine : Addr} {bs_BadLine bm_BadLine : List Value} {sn_BadLine : List Str} {sub_BadLine : List Value} {ab_BadLine : Bool} {col_BadLine : Option Bool} {dd_BadLine : Option Addr} {k0_BadLine k1_BadLine k2_BadLine k3_BadLine k5_BadLine : Option Value} {od_BadLine_init an_BadLine_init : Option Addr} {sl_BadLine_init : Array (Option Value)} {oc_BadLine_init kV_BadLine_init dc_BadLine_init pm_BadLine_init ct_BadLine_init : Value} {cda_BadLine_init cc_BadLine_init : Addr} {cl_BadLine_init ccl_BadLine_init : Value} {cld_BadLine_init cdd_BadLine_init : Option Addr} {csl_BadLine_init ccs_BadLine_init : Array (Option Value)} {vs_BadLine_init : Array Value} {file_BadLine_init : Str} {tf_BadLine_init : Tok} {C_BadJournal f_BadJournal_init : Addr} {nm_BadJournal q_BadJournal : Str} {N_BadJournal : Addr} {bs_BadJournal bm_BadJournal : List Value} {sn_BadJournal : List Str} {sub_BadJournal : List Value} {ab_BadJournal : Bool} {col_BadJournal : Option Bool} {dd_BadJournal : Option Addr} {k0_BadJournal k1_BadJournal k2_BadJournal k3_BadJournal k5_BadJournal : Option Value} {od_BadJournal_init an_BadJournal_init : Option Addr} {sl_BadJournal_init : Array (Option Value)} {oc_BadJournal_init kV_BadJournal_init dc_BadJournal_init pm_BadJournal_init ct_BadJournal_init : Value} {cda_BadJournal_init cc_BadJournal_init : Addr} {cl_BadJournal_init ccl_BadJournal_init : Value} {cld_BadJournal_init cdd_BadJournal_init : Option Addr} {csl_BadJournal_init ccs_BadJournal_init : Array (Option Value)} {vs_BadJournal_init : Array Value} {file_BadJournal_init : Str} {tf_BadJournal_init : Tok} {C_Refused f_Refused_init : Addr} {nm_Refused q_Refused : Str} {N_Refused : Addr} {bs_Refused bm_Refused : List Value} {sn_Refused : List Str} {sub_Refused : List Value} {ab_Refused : Bool} {col_Refused : Option Bool} {dd_Refused : Option Addr} {k0_Refused k1_Refused k2_Refused k3_Refused k5_Refused : Option Value} {od_Refused_init an_Refused_init : Option Addr} {sl_Refused_init : Array (Option Value)} {oc_Refused_init kV_Refused_init dc_Refused_init pm_Refused_init ct_Refused_init : Value} {cda_Refused_init cc_Refused_init : Addr} {cl_Refused_init ccl_Refused_init : Value} {cld_Refused_init cdd_Refused_init : Option Addr} {csl_Refused_init ccs_Refused_init : Array (Option Value)} {vs_Refused_init : Array Value} {file_Refused_init : Str} {tf_Refused_init : Tok} {P_KINDS : Addr} {od_KINDS : Option Addr} {sl_KINDS : Array (Option Value)} {n_KINDS : Nat} {t0_KINDS : Tok} {t1_KINDS : Tok} {t2_KINDS : Tok} {C_TribunalError : Addr}
    (c_KIND : PySem.W.nsIn K mainGlobals "KIND" = some (some (.int 0 t_KIND)))
    (c_HEIGHT : PySem.W.nsIn K mainGlobals "HEIGHT" = some (some (.int 1 t_HEIGHT)))
    (c_TURN : PySem.W.nsIn K mainGlobals "TURN" = some (some (.int 2 t_TURN)))
    (c_BLOCK : PySem.W.nsIn K mainGlobals "BLOCK" = some (some (.int 3 t_BLOCK)))
    (c_LEAN : PySem.W.nsIn K mainGlobals "LEAN" = some (some (.int 4 t_LEAN)))
    (c_NONE : PySem.W.nsIn K mainGlobals "NONE" = some (some (.str "-" t_NONE)))
    (c_LETTERS : PySem.W.nsIn K mainGlobals "LETTERS" = some (some (.str "abcdefghijklmnopqrstuvwxyz" t_LETTERS)))
    (c_BLOCK_SIGNS : PySem.W.nsIn K mainGlobals "BLOCK_SIGNS" = some (some (.str "abcdefghijklmnopqrstuvwxyz0123456789" t_BLOCK_SIGNS)))
    (c_MOST_DIGITS : PySem.W.nsIn K mainGlobals "MOST_DIGITS" = some (some (.int 9 t_MOST_DIGITS)))
    (c_MOST_SIGNS : PySem.W.nsIn K mainGlobals "MOST_SIGNS" = some (some (.int 60 t_MOST_SIGNS)))
    (n_len : PySem.W.nsIn K mainGlobals "len" = some none)
    (n_range : PySem.W.nsIn K mainGlobals "range" = some none)
    (n_isinstance : PySem.W.nsIn K mainGlobals "isinstance" = some none)
    (n_int : PySem.W.nsIn K mainGlobals "int" = some none)
    (n_bool : PySem.W.nsIn K mainGlobals "bool" = some none)
    (n_list : PySem.W.nsIn K mainGlobals "list" = some none)
    (n_tuple : PySem.W.nsIn K mainGlobals "tuple" = some none)
    (n_str : PySem.W.nsIn K mainGlobals "str" = some none)
    (n_super : PySem.W.nsIn K mainGlobals "super" = some none)
    (n_ValueError : PySem.W.nsIn K mainGlobals "ValueError" = some none)
    (n_all : PySem.W.nsIn K mainGlobals "all" = some none)
    (n_abs : PySem.W.nsIn K mainGlobals "abs" = some none)
    (n_max : PySem.W.nsIn K mainGlobals "max" = some none)
    (n_enumerate : PySem.W.nsIn K mainGlobals "enumerate" = some none)
    (g_Journal : PySem.W.nsIn K mainGlobals "Journal" = some (some (.ref C_Journal)))
    (a_proposal : PySem.W.nsIn K mainGlobals "proposal" = some (some (.ref f_proposal)))
    (l_proposal : K.lookup f_proposal = some ⟨oc_proposal, od_proposal, .func (PySem.W.fnOf "proposal" "proposal" (defArgs s_proposal) (defBody s_proposal) (defScope s_proposal) .none kV_proposal dc_proposal pm_proposal an_proposal cd_proposal ct_proposal), sl_proposal⟩)
    (q_proposal : PySem.W.codeIn K cd_proposal "proposal" = true)
    (k_proposal : PySem.W.keepIn K (.ref f_proposal) = true)
    (a_prevote : PySem.W.nsIn K mainGlobals "prevote" = some (some (.ref f_prevote)))
    (l_prevote : K.lookup f_prevote = some ⟨oc_prevote, od_prevote, .func (PySem.W.fnOf "prevote" "prevote" (defArgs s_prevote) (defBody s_prevote) (defScope s_prevote) .none kV_prevote dc_prevote pm_prevote an_prevote cd_prevote ct_prevote), sl_prevote⟩)
    (q_prevote : PySem.W.codeIn K cd_prevote "prevote" = true)
    (k_prevote : PySem.W.keepIn K (.ref f_prevote) = true)
    (a_precommit : PySem.W.nsIn K mainGlobals "precommit" = some (some (.ref f_precommit)))
    (l_precommit : K.lookup f_precommit = some ⟨oc_precommit, od_precommit, .func (PySem.W.fnOf "precommit" "precommit" (defArgs s_precommit) (defBody s_precommit) (defScope s_precommit) .none kV_precommit dc_precommit pm_precommit an_precommit cd_precommit ct_precommit), sl_precommit⟩)
    (q_precommit : PySem.W.codeIn K cd_precommit "precommit" = true)
    (k_precommit : PySem.W.keepIn K (.ref f_precommit) = true)
    (a_is_number : PySem.W.nsIn K mainGlobals "is_number" = some (some (.ref f_is_number)))
    (l_is_number : K.lookup f_is_number = some ⟨oc_is_number, od_is_number, .func (PySem.W.fnOf "is_number" "is_number" (defArgs s_is_number) (defBody s_is_number) (defScope s_is_number) .none kV_is_number dc_is_number pm_is_number an_is_number cd_is_number ct_is_number), sl_is_number⟩)
    (q_is_number : PySem.W.codeIn K cd_is_number "is_number" = true)
    (k_is_number : PySem.W.keepIn K (.ref f_is_number) = true)
    (a_is_block : PySem.W.nsIn K mainGlobals "is_block" = some (some (.ref f_is_block)))
    (l_is_block : K.lookup f_is_block = some ⟨oc_is_block, od_is_block, .func (PySem.W.fnOf "is_block" "is_block" (defArgs s_is_block) (defBody s_is_block) (defScope s_is_block) .none kV_is_block dc_is_block pm_is_block an_is_block cd_is_block ct_is_block), sl_is_block⟩)
    (q_is_block : PySem.W.codeIn K cd_is_block "is_block" = true)
    (k_is_block : PySem.W.keepIn K (.ref f_is_block) = true)
    (a_word_at : PySem.W.nsIn K mainGlobals "_word_at" = some (some (.ref f_word_at)))
    (l_word_at : K.lookup f_word_at = some ⟨oc_word_at, od_word_at, .func (PySem.W.fnOf "_word_at" "_word_at" (defArgs s_word_at) (defBody s_word_at) (defScope s_word_at) .none kV_word_at dc_word_at pm_word_at an_word_at cd_word_at ct_word_at), sl_word_at⟩)
    (q_word_at : PySem.W.codeIn K cd_word_at "_word_at" = true)
    (k_word_at : PySem.W.keepIn K (.ref f_word_at) = true)
    (a_number_at : PySem.W.nsIn K mainGlobals "_number_at" = some (some (.ref f_number_at)))
    (l_number_at : K.lookup f_number_at = some ⟨oc_number_at, od_number_at, .func (PySem.W.fnOf "_number_at" "_number_at" (defArgs s_number_at) (defBody s_number_at) (defScope s_number_at) .none kV_number_at dc_number_at pm_number_at an_number_at cd_number_at ct_number_at), sl_number_at⟩)
    (q_number_at : PySem.W.codeIn K cd_number_at "_number_at" = true)
    (k_number_at : PySem.W.keepIn K (.ref f_number_at) = true)
    (a_kind_at : PySem.W.nsIn K mainGlobals "_kind_at" = some (some (.ref f_kind_at)))
    (l_kind_at : K.lookup f_kind_at = some ⟨oc_kind_at, od_kind_at, .func (PySem.W.fnOf "_kind_at" "_kind_at" (defArgs s_kind_at) (defBody s_kind_at) (defScope s_kind_at) .none kV_kind_at dc_kind_at pm_kind_at an_kind_at cd_kind_at ct_kind_at), sl_kind_at⟩)
    (q_kind_at : PySem.W.codeIn K cd_kind_at "_kind_at" = true)
    (k_kind_at : PySem.W.keepIn K (.ref f_kind_at) = true)
    (a_block_at : PySem.W.nsIn K mainGlobals "_block_at" = some (some (.ref f_block_at)))
    (l_block_at : K.lookup f_block_at = some ⟨oc_block_at, od_block_at, .func (PySem.W.fnOf "_block_at" "_block_at" (defArgs s_block_at) (defBody s_block_at) (defScope s_block_at) .none kV_block_at dc_block_at pm_block_at an_block_at cd_block_at ct_block_at), sl_block_at⟩)
    (q_block_at : PySem.W.codeIn K cd_block_at "_block_at" = true)
    (k_block_at : PySem.W.keepIn K (.ref f_block_at) = true)
    (a_lean_at : PySem.W.nsIn K mainGlobals "_lean_at" = some (some (.ref f_lean_at)))
    (l_lean_at : K.lookup f_lean_at = some ⟨oc_lean_at, od_lean_at, .func (PySem.W.fnOf "_lean_at" "_lean_at" (defArgs s_lean_at) (defBody s_lean_at) (defScope s_lean_at) .none kV_lean_at dc_lean_at pm_lean_at an_lean_at cd_lean_at ct_lean_at), sl_lean_at⟩)
    (q_lean_at : PySem.W.codeIn K cd_lean_at "_lean_at" = true)
    (k_lean_at : PySem.W.keepIn K (.ref f_lean_at) = true)
    (a_end_at : PySem.W.nsIn K mainGlobals "_end_at" = some (some (.ref f_end_at)))
    (l_end_at : K.lookup f_end_at = some ⟨oc_end_at, od_end_at, .func (PySem.W.fnOf "_end_at" "_end_at" (defArgs s_end_at) (defBody s_end_at) (defScope s_end_at) .none kV_end_at dc_end_at pm_end_at an_end_at cd_end_at ct_end_at), sl_end_at⟩)
    (q_end_at : PySem.W.codeIn K cd_end_at "_end_at" = true)
    (k_end_at : PySem.W.keepIn K (.ref f_end_at) = true)
    (a_read_letter : PySem.W.nsIn K mainGlobals "read_letter" = some (some (.ref f_read_letter)))
    (l_read_letter : K.lookup f_read_letter = some ⟨oc_read_letter, od_read_letter, .func (PySem.W.fnOf "read_letter" "read_letter" (defArgs s_read_letter) (defBody s_read_letter) (defScope s_read_letter) .none kV_read_letter dc_read_letter pm_read_letter an_read_letter cd_read_letter ct_read_letter), sl_read_letter⟩)
    (q_read_letter : PySem.W.codeIn K cd_read_letter "read_letter" = true)
    (k_read_letter : PySem.W.keepIn K (.ref f_read_letter) = true)
    (a_word : PySem.W.nsIn K mainGlobals "_word" = some (some (.ref f_word)))
    (l_word : K.lookup f_word = some ⟨oc_word, od_word, .func (PySem.W.fnOf "_word" "_word" (defArgs s_word) (defBody s_word) (defScope s_word) .none kV_word dc_word pm_word an_word cd_word ct_word), sl_word⟩)
    (q_word : PySem.W.codeIn K cd_word "_word" = true)
    (k_word : PySem.W.keepIn K (.ref f_word) = true)
    (a_letter_line : PySem.W.nsIn K mainGlobals "letter_line" = some (some (.ref f_letter_line)))
    (l_letter_line : K.lookup f_letter_line = some ⟨oc_letter_line, od_letter_line, .func (PySem.W.fnOf "letter_line" "letter_line" (defArgs s_letter_line) (defBody s_letter_line) (defScope s_letter_line) .none kV_letter_line dc_letter_line pm_letter_line an_letter_line cd_letter_line ct_letter_line), sl_letter_line⟩)
    (q_letter_line : PySem.W.codeIn K cd_letter_line "letter_line" = true)
    (k_letter_line : PySem.W.keepIn K (.ref f_letter_line) = true)
    (a_is_vote : PySem.W.nsIn K mainGlobals "is_vote" = some (some (.ref f_is_vote)))
    (l_is_vote : K.lookup f_is_vote = some ⟨oc_is_vote, od_is_vote, .func (PySem.W.fnOf "is_vote" "is_vote" (defArgs s_is_vote) (defBody s_is_vote) (defScope s_is_vote) .none kV_is_vote dc_is_vote pm_is_vote an_is_vote cd_is_vote ct_is_vote), sl_is_vote⟩)
    (q_is_vote : PySem.W.codeIn K cd_is_vote "is_vote" = true)
    (k_is_vote : PySem.W.keepIn K (.ref f_is_vote) = true)
    (a_clash : PySem.W.nsIn K mainGlobals "clash" = some (some (.ref f_clash)))
    (l_clash : K.lookup f_clash = some ⟨oc_clash, od_clash, .func (PySem.W.fnOf "clash" "clash" (defArgs s_clash) (defBody s_clash) (defScope s_clash) .none kV_clash dc_clash pm_clash an_clash cd_clash ct_clash), sl_clash⟩)
    (q_clash : PySem.W.codeIn K cd_clash "clash" = true)
    (k_clash : PySem.W.keepIn K (.ref f_clash) = true)
    (a_abandons : PySem.W.nsIn K mainGlobals "_abandons" = some (some (.ref f_abandons)))
    (l_abandons : K.lookup f_abandons = some ⟨oc_abandons, od_abandons, .func (PySem.W.fnOf "_abandons" "_abandons" (defArgs s_abandons) (defBody s_abandons) (defScope s_abandons) .none kV_abandons dc_abandons pm_abandons an_abandons cd_abandons ct_abandons), sl_abandons⟩)
    (q_abandons : PySem.W.codeIn K cd_abandons "_abandons" = true)
    (k_abandons : PySem.W.keepIn K (.ref f_abandons) = true)
    (a_Journal_init : PySem.W.findIn K (.ref C_Journal) "__init__" = some (some (.ref f_Journal_init)))
    (i_Journal_init : PySem.W.isFn K (.ref f_Journal_init) = true)
    (l_Journal_init : K.lookup f_Journal_init = some ⟨oc_Journal_init, od_Journal_init, .func (PySem.W.fnOf "__init__" "Journal.__init__" (defArgs s_Journal_init) (defBody s_Journal_init) (defScope s_Journal_init) .none kV_Journal_init dc_Journal_init pm_Journal_init an_Journal_init cd_Journal_init ct_Journal_init), sl_Journal_init⟩)
    (q_Journal_init : PySem.W.codeIn K cd_Journal_init "Journal.__init__" = true)
    (k_Journal_init : PySem.W.keepIn K (.ref f_Journal_init) = true)
    (a_Journal_sign : PySem.W.findIn K (.ref C_Journal) "sign" = some (some (.ref f_Journal_sign)))
    (i_Journal_sign : PySem.W.isFn K (.ref f_Journal_sign) = true)
    (l_Journal_sign : K.lookup f_Journal_sign = some ⟨oc_Journal_sign, od_Journal_sign, .func (PySem.W.fnOf "sign" "Journal.sign" (defArgs s_Journal_sign) (defBody s_Journal_sign) (defScope s_Journal_sign) .none kV_Journal_sign dc_Journal_sign pm_Journal_sign an_Journal_sign cd_Journal_sign ct_Journal_sign), sl_Journal_sign⟩)
    (q_Journal_sign : PySem.W.codeIn K cd_Journal_sign "Journal.sign" = true)
    (k_Journal_sign : PySem.W.keepIn K (.ref f_Journal_sign) = true)
    (a_Journal_lines : PySem.W.findIn K (.ref C_Journal) "lines" = some (some (.ref f_Journal_lines)))
    (i_Journal_lines : PySem.W.isFn K (.ref f_Journal_lines) = true)
    (l_Journal_lines : K.lookup f_Journal_lines = some ⟨oc_Journal_lines, od_Journal_lines, .func (PySem.W.fnOf "lines" "Journal.lines" (defArgs s_Journal_lines) (defBody s_Journal_lines) (defScope s_Journal_lines) .none kV_Journal_lines dc_Journal_lines pm_Journal_lines an_Journal_lines cd_Journal_lines ct_Journal_lines), sl_Journal_lines⟩)
    (q_Journal_lines : PySem.W.codeIn K cd_Journal_lines "Journal.lines" = true)
    (k_Journal_lines : PySem.W.keepIn K (.ref f_Journal_lines) = true)
    (a_restore : PySem.W.nsIn K mainGlobals "restore" = some (some (.ref f_restore)))
    (l_restore : K.lookup f_restore = some ⟨oc_restore, od_restore, .func (PySem.W.fnOf "restore" "restore" (defArgs s_restore) (defBody s_restore) (defScope s_restore) .none kV_restore dc_restore pm_restore an_restore cd_restore ct_restore), sl_restore⟩)
    (q_restore : PySem.W.codeIn K cd_restore "restore" = true)
    (k_restore : PySem.W.keepIn K (.ref f_restore) = true)
    (a_law_cell : PySem.W.nsIn K mainGlobals "_law_cell" = some (some (.ref f_law_cell)))
    (l_law_cell : K.lookup f_law_cell = some ⟨oc_law_cell, od_law_cell, .func (PySem.W.fnOf "_law_cell" "_law_cell" (defArgs s_law_cell) (defBody s_law_cell) (defScope s_law_cell) .none kV_law_cell dc_law_cell pm_law_cell an_law_cell cd_law_cell ct_law_cell), sl_law_cell⟩)
    (q_law_cell : PySem.W.codeIn K cd_law_cell "_law_cell" = true)
    (k_law_cell : PySem.W.keepIn K (.ref f_law_cell) = true)
    (a_law_clash : PySem.W.nsIn K mainGlobals "_law_clash" = some (some (.ref f_law_clash)))
    (l_law_clash : K.lookup f_law_clash = some ⟨oc_law_clash, od_law_clash, .func (PySem.W.fnOf "_law_clash" "_law_clash" (defArgs s_law_clash) (defBody s_law_clash) (defScope s_law_clash) .none kV_law_clash dc_law_clash pm_law_clash an_law_clash cd_law_clash ct_law_clash), sl_law_clash⟩)
    (q_law_clash : PySem.W.codeIn K cd_law_clash "_law_clash" = true)
    (k_law_clash : PySem.W.keepIn K (.ref f_law_clash) = true)
    (a_law_statement : PySem.W.nsIn K mainGlobals "_law_statement" = some (some (.ref f_law_statement)))
    (l_law_statement : K.lookup f_law_statement = some ⟨oc_law_statement, od_law_statement, .func (PySem.W.fnOf "_law_statement" "_law_statement" (defArgs s_law_statement) (defBody s_law_statement) (defScope s_law_statement) .none kV_law_statement dc_law_statement pm_law_statement an_law_statement cd_law_statement ct_law_statement), sl_law_statement⟩)
    (q_law_statement : PySem.W.codeIn K cd_law_statement "_law_statement" = true)
    (k_law_statement : PySem.W.keepIn K (.ref f_law_statement) = true)
    (a_law_signed : PySem.W.nsIn K mainGlobals "_law_signed" = some (some (.ref f_law_signed)))
    (l_law_signed : K.lookup f_law_signed = some ⟨oc_law_signed, od_law_signed, .func (PySem.W.fnOf "_law_signed" "_law_signed" (defArgs s_law_signed) (defBody s_law_signed) (defScope s_law_signed) .none kV_law_signed dc_law_signed pm_law_signed an_law_signed cd_law_signed ct_law_signed), sl_law_signed⟩)
    (q_law_signed : PySem.W.codeIn K cd_law_signed "_law_signed" = true)
    (k_law_signed : PySem.W.keepIn K (.ref f_law_signed) = true)
    (a_law : PySem.W.nsIn K mainGlobals "law" = some (some (.ref f_law)))
    (l_law : K.lookup f_law = some ⟨oc_law, od_law, .func (PySem.W.fnOf "law" "law" (defArgs s_law) (defBody s_law) (defScope s_law) .none kV_law dc_law pm_law an_law cd_law ct_law), sl_law⟩)
    (q_law : PySem.W.codeIn K cd_law "law" = true)
    (k_law : PySem.W.keepIn K (.ref f_law) = true)
    (pg_Journal : PySem.W.plainGet K C_Journal Str.empty = true)
    (hd_Journal : PySem.W.hasDictIn K C_Journal = true)
    (po_Journal : PySem.W.plainOver K C_Journal = true)
    (sa_Journal : PySem.W.findIn K (.ref C_Journal) "__setattr__" = some (some (.builtin "object.__setattr__")))
    (mk_Journal : PySem.W.makesIn K C_Journal = true)
    (kc_Journal : PySem.W.keepIn K (.ref C_Journal) = true)
    (no_Journal_who : PySem.W.findIn K (.ref C_Journal) "who" = some none)
    (no_Journal_signed : PySem.W.findIn K (.ref C_Journal) "signed" = some none)
    (g_BadLine : PySem.W.nsIn K mainGlobals "BadLine" = some (some (.ref C_BadLine)))
    (lc_BadLine : K.lookup C_BadLine = some (excClassObj nm_BadLine q_BadLine C_BadLine N_BadLine bs_BadLine bm_BadLine true sn_BadLine sub_BadLine ab_BadLine col_BadLine dd_BadLine k0_BadLine k1_BadLine k2_BadLine k3_BadLine k5_BadLine "ValueError.__new__"))
    (rb_BadLine : PySem.HandSPX.refsVE bm_BadLine = true)
    (sa_BadLine : PySem.W.findIn K (.ref C_BadLine) "__setattr__" = some (some (.builtin "object.__setattr__")))
    (eb_BadLine : PySem.W.subIn K (.ref C_BadLine) (.type "BaseException") = some true)
    (ty_BadLine : PySem.W.typeIn K (.ref C_BadLine) = some (.type "type"))
    (kc_BadLine : PySem.W.keepIn K (.ref C_BadLine) = true)
    (a_BadLine_init : PySem.W.findIn K (.ref C_BadLine) "__init__" = some (some (.ref f_BadLine_init)))
    (tI_BadLine_init : PySem.W.typeIn K (.ref f_BadLine_init) = some (.type "function"))
    (l_BadLine_init : K.lookup f_BadLine_init = some ⟨oc_BadLine_init, od_BadLine_init, .func (PySem.W.ksFn "__init__" "BadLine.__init__" (defArgs s_BadLine_init) (defBody s_BadLine_init) (defScope s_BadLine_init) .none kV_BadLine_init dc_BadLine_init pm_BadLine_init an_BadLine_init (.ref cda_BadLine_init) ct_BadLine_init cc_BadLine_init), sl_BadLine_init⟩)
    (q_BadLine_init : PySem.W.codeIn K (.ref cda_BadLine_init) "BadLine.__init__" = true)
    (ce_BadLine_init : K.lookup cc_BadLine_init = some ⟨cl_BadLine_init, cld_BadLine_init, .cell (some (.ref C_BadLine)), csl_BadLine_init⟩)
    (co_BadLine_init : K.lookup cda_BadLine_init = some ⟨ccl_BadLine_init, cdd_BadLine_init, .fields vs_BadLine_init, ccs_BadLine_init⟩)
    (v2_BadLine_init : vs_BadLine_init[2]? = some (.str file_BadLine_init tf_BadLine_init))
    (fi_BadLine_init : ((l.prog.main.file : Str) == file_BadLine_init) = true)
    (su_BadLine : PySem.W.ks_superIn K C_BadLine C_BadLine "__init__" = some (some (.builtin "ValueError.__init__")))
    (op_BadLine : PySem.W.nsIn K cStatics "thirdparty.any" = some none)
    (sv_BadLine : PySem.W.subIn K (.ref C_BadLine) (.type "ValueError") = some true)
    (mc_BadLine : PySem.W.mroIn K C_BadLine (.ref C_BadLine) = some true)
    (nf_BadLine : PySem.W.findIn K (.ref C_BadLine) "at" = some none)
    (ts_BadLine : (l.prog.main.scope.names.lookup ("super" : Str)).isSome = false)
    (xga_BadLine : PySem.W.findIn K (.ref C_BadLine) "__getattribute__" = some (some (.builtin "BaseException.__getattribute__")))
    (xgt_BadLine : PySem.W.findIn K (.ref C_BadLine) "__getattr__" = some none)
    (xhd_BadLine : PySem.W.hasDictIn K C_BadLine = true)
    (xcc_BadLine : PySem.W.findIn K (.ref C_BadLine) "__class__" = some (some (.builtin "object.__class__")))
    (xsp_BadLine : PySem.W.specialIn K (.builtin "object.__class__") "__get__" = some (some (.builtin "getset_descriptor.__get__")))
    (xtk_BadLine : PySem.W.takesIn K (.builtin "object.__class__") = some true)
    (xmo_BadLine : PySem.W.mroIn K C_BadLine (.type "object") = some true)
    (g_BadJournal : PySem.W.nsIn K mainGlobals "BadJournal" = some (some (.ref C_BadJournal)))
    (lc_BadJournal : K.lookup C_BadJournal = some (excClassObj nm_BadJournal q_BadJournal C_BadJournal N_BadJournal bs_BadJournal bm_BadJournal true sn_BadJournal sub_BadJournal ab_BadJournal col_BadJournal dd_BadJournal k0_BadJournal k1_BadJournal k2_BadJournal k3_BadJournal k5_BadJournal "ValueError.__new__"))
    (rb_BadJournal : PySem.HandSPX.refsVE bm_BadJournal = true)
    (sa_BadJournal : PySem.W.findIn K (.ref C_BadJournal) "__setattr__" = some (some (.builtin "object.__setattr__")))
    (eb_BadJournal : PySem.W.subIn K (.ref C_BadJournal) (.type "BaseException") = some true)
    (ty_BadJournal : PySem.W.typeIn K (.ref C_BadJournal) = some (.type "type"))
    (kc_BadJournal : PySem.W.keepIn K (.ref C_BadJournal) = true)
    (a_BadJournal_init : PySem.W.findIn K (.ref C_BadJournal) "__init__" = some (some (.ref f_BadJournal_init)))
    (tI_BadJournal_init : PySem.W.typeIn K (.ref f_BadJournal_init) = some (.type "function"))
    (l_BadJournal_init : K.lookup f_BadJournal_init = some ⟨oc_BadJournal_init, od_BadJournal_init, .func (PySem.W.ksFn "__init__" "BadJournal.__init__" (defArgs s_BadJournal_init) (defBody s_BadJournal_init) (defScope s_BadJournal_init) .none kV_BadJournal_init dc_BadJournal_init pm_BadJournal_init an_BadJournal_init (.ref cda_BadJournal_init) ct_BadJournal_init cc_BadJournal_init), sl_BadJournal_init⟩)
    (q_BadJournal_init : PySem.W.codeIn K (.ref cda_BadJournal_init) "BadJournal.__init__" = true)
    (ce_BadJournal_init : K.lookup cc_BadJournal_init = some ⟨cl_BadJournal_init, cld_BadJournal_init, .cell (some (.ref C_BadJournal)), csl_BadJournal_init⟩)
    (co_BadJournal_init : K.lookup cda_BadJournal_init = some ⟨ccl_BadJournal_init, cdd_BadJournal_init, .fields vs_BadJournal_init, ccs_BadJournal_init⟩)
    (v2_BadJournal_init : vs_BadJournal_init[2]? = some (.str file_BadJournal_init tf_BadJournal_init))
    (fi_BadJournal_init : ((l.prog.main.file : Str) == file_BadJournal_init) = true)
    (su_BadJournal : PySem.W.ks_superIn K C_BadJournal C_BadJournal "__init__" = some (some (.builtin "ValueError.__init__")))
    (op_BadJournal : PySem.W.nsIn K cStatics "thirdparty.any" = some none)
    (sv_BadJournal : PySem.W.subIn K (.ref C_BadJournal) (.type "ValueError") = some true)
    (mc_BadJournal : PySem.W.mroIn K C_BadJournal (.ref C_BadJournal) = some true)
    (nf_BadJournal : PySem.W.findIn K (.ref C_BadJournal) "at" = some none)
    (ts_BadJournal : (l.prog.main.scope.names.lookup ("super" : Str)).isSome = false)
    (xga_BadJournal : PySem.W.findIn K (.ref C_BadJournal) "__getattribute__" = some (some (.builtin "BaseException.__getattribute__")))
    (xgt_BadJournal : PySem.W.findIn K (.ref C_BadJournal) "__getattr__" = some none)
    (xhd_BadJournal : PySem.W.hasDictIn K C_BadJournal = true)
    (xcc_BadJournal : PySem.W.findIn K (.ref C_BadJournal) "__class__" = some (some (.builtin "object.__class__")))
    (xsp_BadJournal : PySem.W.specialIn K (.builtin "object.__class__") "__get__" = some (some (.builtin "getset_descriptor.__get__")))
    (xtk_BadJournal : PySem.W.takesIn K (.builtin "object.__class__") = some true)
    (xmo_BadJournal : PySem.W.mroIn K C_BadJournal (.type "object") = some true)
    (g_Refused : PySem.W.nsIn K mainGlobals "Refused" = some (some (.ref C_Refused)))
    (lc_Refused : K.lookup C_Refused = some (excClassObj nm_Refused q_Refused C_Refused N_Refused bs_Refused bm_Refused true sn_Refused sub_Refused ab_Refused col_Refused dd_Refused k0_Refused k1_Refused k2_Refused k3_Refused k5_Refused "ValueError.__new__"))
    (rb_Refused : PySem.HandSPX.refsVE bm_Refused = true)
    (sa_Refused : PySem.W.findIn K (.ref C_Refused) "__setattr__" = some (some (.builtin "object.__setattr__")))
    (eb_Refused : PySem.W.subIn K (.ref C_Refused) (.type "BaseException") = some true)
    (ty_Refused : PySem.W.typeIn K (.ref C_Refused) = some (.type "type"))
    (kc_Refused : PySem.W.keepIn K (.ref C_Refused) = true)
    (a_Refused_init : PySem.W.findIn K (.ref C_Refused) "__init__" = some (some (.ref f_Refused_init)))
    (tI_Refused_init : PySem.W.typeIn K (.ref f_Refused_init) = some (.type "function"))
    (l_Refused_init : K.lookup f_Refused_init = some ⟨oc_Refused_init, od_Refused_init, .func (PySem.W.ksFn "__init__" "Refused.__init__" (defArgs s_Refused_init) (defBody s_Refused_init) (defScope s_Refused_init) .none kV_Refused_init dc_Refused_init pm_Refused_init an_Refused_init (.ref cda_Refused_init) ct_Refused_init cc_Refused_init), sl_Refused_init⟩)
    (q_Refused_init : PySem.W.codeIn K (.ref cda_Refused_init) "Refused.__init__" = true)
    (ce_Refused_init : K.lookup cc_Refused_init = some ⟨cl_Refused_init, cld_Refused_init, .cell (some (.ref C_Refused)), csl_Refused_init⟩)
    (co_Refused_init : K.lookup cda_Refused_init = some ⟨ccl_Refused_init, cdd_Refused_init, .fields vs_Refused_init, ccs_Refused_init⟩)
    (v2_Refused_init : vs_Refused_init[2]? = some (.str file_Refused_init tf_Refused_init))
    (fi_Refused_init : ((l.prog.main.file : Str) == file_Refused_init) = true)
    (su_Refused : PySem.W.ks_superIn K C_Refused C_Refused "__init__" = some (some (.builtin "ValueError.__init__")))
    (op_Refused : PySem.W.nsIn K cStatics "thirdparty.any" = some none)
    (sv_Refused : PySem.W.subIn K (.ref C_Refused) (.type "ValueError") = some true)
    (mc_Refused : PySem.W.mroIn K C_Refused (.ref C_Refused) = some true)
    (nf_Refused : PySem.W.findIn K (.ref C_Refused) "vote" = some none)
    (ts_Refused : (l.prog.main.scope.names.lookup ("super" : Str)).isSome = false)
    (xga_Refused : PySem.W.findIn K (.ref C_Refused) "__getattribute__" = some (some (.builtin "BaseException.__getattribute__")))
    (xgt_Refused : PySem.W.findIn K (.ref C_Refused) "__getattr__" = some none)
    (xhd_Refused : PySem.W.hasDictIn K C_Refused = true)
    (xcc_Refused : PySem.W.findIn K (.ref C_Refused) "__class__" = some (some (.builtin "object.__class__")))
    (xsp_Refused : PySem.W.specialIn K (.builtin "object.__class__") "__get__" = some (some (.builtin "getset_descriptor.__get__")))
    (xtk_Refused : PySem.W.takesIn K (.builtin "object.__class__") = some true)
    (xmo_Refused : PySem.W.mroIn K C_Refused (.type "object") = some true)
    (g_KINDS : PySem.W.nsIn K mainGlobals "KINDS" = some (some (.ref P_KINDS)))
    (l_KINDS : K.lookup P_KINDS = some ⟨.type "tuple", od_KINDS, .seq #[.str "proposal" t0_KINDS, .str "prevote" t1_KINDS, .str "precommit" t2_KINDS] n_KINDS, sl_KINDS⟩)
    (te1_BadLine : PySem.W.subIn K (.ref C_BadLine) (.type "BaseException") = some true)
    (te2_BadLine : PySem.W.hasDictIn K C_BadLine = true)
    (te3_BadLine : PySem.W.typeIn K (.ref C_BadLine) = some (.type "type"))
    (te4_BadLine_BadLine : PySem.W.subIn K (.ref C_BadLine) (.ref C_BadLine) = some true)
    (te1_Refused : PySem.W.subIn K (.ref C_Refused) (.type "BaseException") = some true)
    (te2_Refused : PySem.W.hasDictIn K C_Refused = true)
    (te3_Refused : PySem.W.typeIn K (.ref C_Refused) = some (.type "type"))
    (te4_Refused_Refused : PySem.W.subIn K (.ref C_Refused) (.ref C_Refused) = some true)
    (g_TribunalError : PySem.W.nsIn K mainGlobals "TribunalError" = some (some (.ref C_TribunalError)))
    (te1_TribunalError : PySem.W.subIn K (.ref C_TribunalError) (.type "BaseException") = some true)
    (te2_TribunalError : PySem.W.hasDictIn K C_TribunalError = true)
    (te3_TribunalError : PySem.W.typeIn K (.ref C_TribunalError) = some (.type "type"))
    (te4_TribunalError_BadJournal : PySem.W.subIn K (.ref C_BadJournal) (.ref C_TribunalError) = some true)
    (kt_BadJournal_BadJournal : PySem.W.kitOne K (.ref C_BadJournal) (.ref C_BadJournal) = some true) :
    ∃ fd : FuncData, (∀ (s : Shared) (v : Value), BindsTo s fd ⟨[v], []⟩ [("script", v)]) ∧ ∀ base : Heap, K.In base → base.Ns mainGlobals mg → FnOk l.prog w K mg base CX0 8 fa fd ["script"] (spLaw K) := by
  have e := hfa.symm.trans (PySem.W.mg_of X G a_law)
  cases e
  have T : Txt K mg ⟨C_Journal, f_proposal, f_prevote, f_precommit, f_is_number, f_is_block, f_word_at, f_number_at, f_kind_at, f_block_at, f_lean_at, f_end_at, f_read_letter, f_word, f_letter_line, f_is_vote, f_clash, f_abandons, f_Journal_init, f_Journal_sign, f_Journal_lines, f_restore, f_law_cell, f_law_clash, f_law_statement, f_law_signed, C_TribunalError, C_BadLine, f_BadLine_init, C_BadJournal, f_BadJournal_init, C_Refused, f_Refused_init, P_KINDS⟩ := {
    n_len := mg_no X G n_len
    n_range := mg_no X G n_range
    n_isinstance := mg_no X G n_isinstance
    n_int := mg_no X G n_int
    n_bool := mg_no X G n_bool
    n_list := mg_no X G n_list
    n_tuple := mg_no X G n_tuple
    n_str := mg_no X G n_str
    n_super := mg_no X G n_super
    n_ValueError := mg_no X G n_ValueError
    n_all := mg_no X G n_all
    n_abs := mg_no X G n_abs
    n_max := mg_no X G n_max
    n_enumerate := mg_no X G n_enumerate
    c_KIND := ⟨_, PySem.W.mg_of X G c_KIND⟩
    c_HEIGHT := ⟨_, PySem.W.mg_of X G c_HEIGHT⟩
    c_TURN := ⟨_, PySem.W.mg_of X G c_TURN⟩
    c_BLOCK := ⟨_, PySem.W.mg_of X G c_BLOCK⟩
    c_LEAN := ⟨_, PySem.W.mg_of X G c_LEAN⟩
    c_NONE := ⟨_, PySem.W.mg_of X G c_NONE⟩
    c_LETTERS := ⟨_, PySem.W.mg_of X G c_LETTERS⟩
    c_BLOCK_SIGNS := ⟨_, PySem.W.mg_of X G c_BLOCK_SIGNS⟩
    c_MOST_DIGITS := ⟨_, PySem.W.mg_of X G c_MOST_DIGITS⟩
    c_MOST_SIGNS := ⟨_, PySem.W.mg_of X G c_MOST_SIGNS⟩
    g_Journal := PySem.W.mg_of X G g_Journal
    cl_Journal := ⟨pg_Journal, hd_Journal, po_Journal, sa_Journal⟩
    kc_Journal := kc_Journal
    mk_Journal := mk_Journal
    a_Journal_who := no_Journal_who
    a_Journal_signed := no_Journal_signed
    d_proposal := ⟨def_mk l_proposal q_proposal k_proposal (fun _ _ _ _ _ _ us hl => match us, hl with | [_, _, _], _ => rfl), PySem.W.mg_of X G a_proposal, k_proposal⟩
    d_prevote := ⟨def_mk l_prevote q_prevote k_prevote (fun _ _ _ _ _ _ us hl => match us, hl with | [_, _, _, _], _ => rfl), PySem.W.mg_of X G a_prevote, k_prevote⟩
    d_precommit := ⟨def_mk l_precommit q_precommit k_precommit (fun _ _ _ _ _ _ us hl => match us, hl with | [_, _, _], _ => rfl), PySem.W.mg_of X G a_precommit, k_precommit⟩
    d_is_number := ⟨def_mk l_is_number q_is_number k_is_number (fun _ _ _ _ _ _ us hl => match us, hl with | [_], _ => rfl), PySem.W.mg_of X G a_is_number, k_is_number⟩
    d_is_block := ⟨def_mk l_is_block q_is_block k_is_block (fun _ _ _ _ _ _ us hl => match us, hl with | [_], _ => rfl), PySem.W.mg_of X G a_is_block, k_is_block⟩
    d_word_at := ⟨def_mk l_word_at q_word_at k_word_at (fun _ _ _ _ _ _ us hl => match us, hl with | [_, _], _ => rfl), PySem.W.mg_of X G a_word_at, k_word_at⟩
    d_number_at := ⟨def_mk l_number_at q_number_at k_number_at (fun _ _ _ _ _ _ us hl => match us, hl with | [_, _], _ => rfl), PySem.W.mg_of X G a_number_at, k_number_at⟩
    d_kind_at := ⟨def_mk l_kind_at q_kind_at k_kind_at (fun _ _ _ _ _ _ us hl => match us, hl with | [_, _], _ => rfl), PySem.W.mg_of X G a_kind_at, k_kind_at⟩
    d_block_at := ⟨def_mk l_block_at q_block_at k_block_at (fun _ _ _ _ _ _ us hl => match us, hl with | [_, _, _], _ => rfl), PySem.W.mg_of X G a_block_at, k_block_at⟩
    d_lean_at := ⟨def_mk l_lean_at q_lean_at k_lean_at (fun _ _ _ _ _ _ us hl => match us, hl with | [_, _, _], _ => rfl), PySem.W.mg_of X G a_lean_at, k_lean_at⟩
    d_end_at := ⟨def_mk l_end_at q_end_at k_end_at (fun _ _ _ _ _ _ us hl => match us, hl with | [_, _], _ => rfl), PySem.W.mg_of X G a_end_at, k_end_at⟩
    d_read_letter := ⟨def_mk l_read_letter q_read_letter k_read_letter (fun _ _ _ _ _ _ us hl => match us, hl with | [_], _ => rfl), PySem.W.mg_of X G a_read_letter, k_read_letter⟩
    d_word := ⟨def_mk l_word q_word k_word (fun _ _ _ _ _ _ us hl => match us, hl with | [_], _ => rfl), PySem.W.mg_of X G a_word, k_word⟩
    d_letter_line := ⟨def_mk l_letter_line q_letter_line k_letter_line (fun _ _ _ _ _ _ us hl => match us, hl with | [_], _ => rfl), PySem.W.mg_of X G a_letter_line, k_letter_line⟩
    d_is_vote := ⟨def_mk l_is_vote q_is_vote k_is_vote (fun _ _ _ _ _ _ us hl => match us, hl with | [_], _ => rfl), PySem.W.mg_of X G a_is_vote, k_is_vote⟩
    d_clash := ⟨def_mk l_clash q_clash k_clash (fun _ _ _ _ _ _ us hl => match us, hl with | [_, _], _ => rfl), PySem.W.mg_of X G a_clash, k_clash⟩
    d_abandons := ⟨def_mk l_abandons q_abandons k_abandons (fun _ _ _ _ _ _ us hl => match us, hl with | [_, _], _ => rfl), PySem.W.mg_of X G a_abandons, k_abandons⟩
    d_Journal_init := ⟨def_mk l_Journal_init q_Journal_init k_Journal_init (fun _ _ _ _ _ _ us hl => match us, hl with | [_, _], _ => rfl), a_Journal_init, i_Journal_init, k_Journal_init⟩
    d_Journal_sign := ⟨def_mk l_Journal_sign q_Journal_sign k_Journal_sign (fun _ _ _ _ _ _ us hl => match us, hl with | [_, _], _ => rfl), a_Journal_sign, i_Journal_sign, k_Journal_sign⟩
    d_Journal_lines := ⟨def_mk l_Journal_lines q_Journal_lines k_Journal_lines (fun _ _ _ _ _ _ us hl => match us, hl with | [_], _ => rfl), a_Journal_lines, i_Journal_lines, k_Journal_lines⟩
    d_restore := ⟨def_mk l_restore q_restore k_restore (fun _ _ _ _ _ _ us hl => match us, hl with | [_, _], _ => rfl), PySem.W.mg_of X G a_restore, k_restore⟩
    d_law_cell := ⟨def_mk l_law_cell q_law_cell k_law_cell (fun _ _ _ _ _ _ us hl => match us, hl with | [_, _], _ => rfl), PySem.W.mg_of X G a_law_cell, k_law_cell⟩
    d_law_clash := ⟨def_mk l_law_clash q_law_clash k_law_clash (fun _ _ _ _ _ _ us hl => match us, hl with | [_, _], _ => rfl), PySem.W.mg_of X G a_law_clash, k_law_clash⟩
    d_law_statement := ⟨def_mk l_law_statement q_law_statement k_law_statement (fun _ _ _ _ _ _ us hl => match us, hl with | [_, _], _ => rfl), PySem.W.mg_of X G a_law_statement, k_law_statement⟩
    d_law_signed := ⟨def_mk l_law_signed q_law_signed k_law_signed (fun _ _ _ _ _ _ us hl => match us, hl with | [_, _], _ => rfl), PySem.W.mg_of X G a_law_signed, k_law_signed⟩ }
  have TE : TxtE l.prog K mg ⟨C_Journal, f_proposal, f_prevote, f_precommit, f_is_number, f_is_block, f_word_at, f_number_at, f_kind_at, f_block_at, f_lean_at, f_end_at, f_read_letter, f_word, f_letter_line, f_is_vote, f_clash, f_abandons, f_Journal_init, f_Journal_sign, f_Journal_lines, f_restore, f_law_cell, f_law_clash, f_law_statement, f_law_signed, C_TribunalError, C_BadLine, f_BadLine_init, C_BadJournal, f_BadJournal_init, C_Refused, f_Refused_init, P_KINDS⟩ := {
    g_BadLine := PySem.W.mg_of X G g_BadLine
    sup_BadLine := ⟨_, { fn := ⟨_, _, _, _, _, _, _, _, _, _, _, _, _, _, _, _, _, _, _, rfl, l_BadLine_init, q_BadLine_init, ce_BadLine_init, co_BadLine_init, v2_BadLine_init, fi_BadLine_init⟩, oex := ⟨⟨_, _, _, _, _, _, _, _, _, _, _, _, _, _, _, lc_BadLine, rb_BadLine⟩, sa_BadLine, eb_BadLine, ty_BadLine, kc_BadLine⟩, sup := su_BadLine, opq := op_BadLine, subV := sv_BadLine, mroC := mc_BadLine, nof := nf_BadLine, topS := ts_BadLine }, .all fun us hl => match us, hl with | [_, _], _ => rfl⟩
    iC_BadLine := a_BadLine_init
    tI_BadLine := tI_BadLine_init
    oex_BadLine := ⟨⟨_, _, _, _, _, _, _, _, _, _, _, _, _, _, _, lc_BadLine, rb_BadLine⟩, sa_BadLine, eb_BadLine, ty_BadLine, kc_BadLine⟩
    xc_BadLine := ⟨by unfold PySem.W.clsIn; rw [lc_BadLine]; rfl, xga_BadLine, xgt_BadLine, eb_BadLine, xhd_BadLine, xcc_BadLine, xsp_BadLine, xtk_BadLine, xmo_BadLine⟩
    g_BadJournal := PySem.W.mg_of X G g_BadJournal
    sup_BadJournal := ⟨_, { fn := ⟨_, _, _, _, _, _, _, _, _, _, _, _, _, _, _, _, _, _, _, rfl, l_BadJournal_init, q_BadJournal_init, ce_BadJournal_init, co_BadJournal_init, v2_BadJournal_init, fi_BadJournal_init⟩, oex := ⟨⟨_, _, _, _, _, _, _, _, _, _, _, _, _, _, _, lc_BadJournal, rb_BadJournal⟩, sa_BadJournal, eb_BadJournal, ty_BadJournal, kc_BadJournal⟩, sup := su_BadJournal, opq := op_BadJournal, subV := sv_BadJournal, mroC := mc_BadJournal, nof := nf_BadJournal, topS := ts_BadJournal }, .all fun us hl => match us, hl with | [_, _], _ => rfl⟩
    iC_BadJournal := a_BadJournal_init
    tI_BadJournal := tI_BadJournal_init
    oex_BadJournal := ⟨⟨_, _, _, _, _, _, _, _, _, _, _, _, _, _, _, lc_BadJournal, rb_BadJournal⟩, sa_BadJournal, eb_BadJournal, ty_BadJournal, kc_BadJournal⟩
    xc_BadJournal := ⟨by unfold PySem.W.clsIn; rw [lc_BadJournal]; rfl, xga_BadJournal, xgt_BadJournal, eb_BadJournal, xhd_BadJournal, xcc_BadJournal, xsp_BadJournal, xtk_BadJournal, xmo_BadJournal⟩
    g_Refused := PySem.W.mg_of X G g_Refused
    sup_Refused := ⟨_, { fn := ⟨_, _, _, _, _, _, _, _, _, _, _, _, _, _, _, _, _, _, _, rfl, l_Refused_init, q_Refused_init, ce_Refused_init, co_Refused_init, v2_Refused_init, fi_Refused_init⟩, oex := ⟨⟨_, _, _, _, _, _, _, _, _, _, _, _, _, _, _, lc_Refused, rb_Refused⟩, sa_Refused, eb_Refused, ty_Refused, kc_Refused⟩, sup := su_Refused, opq := op_Refused, subV := sv_Refused, mroC := mc_Refused, nof := nf_Refused, topS := ts_Refused }, .all fun us hl => match us, hl with | [_, _], _ => rfl⟩
    iC_Refused := a_Refused_init
    tI_Refused := tI_Refused_init
    oex_Refused := ⟨⟨_, _, _, _, _, _, _, _, _, _, _, _, _, _, _, lc_Refused, rb_Refused⟩, sa_Refused, eb_Refused, ty_Refused, kc_Refused⟩
    xc_Refused := ⟨by unfold PySem.W.clsIn; rw [lc_Refused]; rfl, xga_Refused, xgt_Refused, eb_Refused, xhd_Refused, xcc_Refused, xsp_Refused, xtk_Refused, xmo_Refused⟩
    g_KINDS := PySem.W.mg_of X G g_KINDS
    s_KINDS := fun H => .inr ⟨_, _, _, l_KINDS, rfl, rfl, (by show 3 ≤ sizeLine; decide), (.cons ⟨_, rfl⟩ (.cons ⟨_, rfl⟩ (.cons ⟨_, rfl⟩ .nil)))⟩
    exm_BadLine_BadLine := PySem.W.exm_ref te1_BadLine te2_BadLine te3_BadLine te4_BadLine_BadLine
    exm_Refused_Refused := PySem.W.exm_ref te1_Refused te2_Refused te3_Refused te4_Refused_Refused
    g_TribunalError := PySem.W.mg_of X G g_TribunalError
    exm_TribunalError_BadJournal := PySem.W.exm_ref te1_TribunalError te2_TribunalError te3_TribunalError te4_TribunalError_BadJournal
    kt_BadJournal_BadJournal := kt_BadJournal_BadJournal }
  have F5 := fun_mk (st := s_law) l_law q_law k_law
  exact ⟨PySem.W.fnOf "law" "law" (defArgs s_law) (defBody s_law) (defScope s_law) .none kV_law dc_law pm_law an_law cd_law ct_law, fun s v => .of_eq rfl, fun base _ _ => ok_law F5 TE T⟩
theorem walk {l : PySem.W.OpenLaw} {q : Program} {loose : List Str} {XP : (Str → Option Value) → Heap → Prop} {YP : World → Heap → Prop} {d : DefRec} {K : Params → PySem.W.Frag} (hn : l.most = some 63) (hdf : d.params.defaults = [])
    (hY : ∀ (w : World) (h : Heap), YP w h → (K w.params).In h)
    (F : ∀ (w : World) (mg : Str → Option Value) (fa : Addr) (h : Heap), (K w.params).In h → h.Ns mainGlobals mg → mg d.name = some (.ref fa) →
      ∃ fd : FuncData, (∀ (s : Shared) (u : Value), BindsTo s fd ⟨[u], []⟩ [("script", u)]) ∧ ∀ base : Heap, (K w.params).In base → base.Ns mainGlobals mg → FnOk l.prog w (K w.params) mg base CX0 8 fa fd ["script"] (spLaw (K w.params))) :
    PySem.W.WalkO q loose XP YP l.row.toRowW d [] (fun f vs => PySem.call f vs) :=
  L2.walk_of (n := 63) (k := 8) (x := "script") (CX := fun _ => CX0) (sp := fun w => spLaw (K w.params)) hn (by decide) hdf ⟨rfl, by decide, by decide⟩ hY F (fun _ _ a ns hl _ hS => ⟨a, ns, rfl, hS, hl, fun _ => rfl⟩) fun _ _ _ _ _ z => z
end Toy
open PySem PySem.W PyProof.Rows
set_option maxRecDepth 100000 in
set_option maxHeartbeats 0 in
theorem PySem.Challenge.cw_tribunal_k37_whole_journals_cut_anywhere_holds : PySem.Challenge.rw_tribunal_k37_whole_journals_cut_anywhere.Holds := by
  w_on; o_law; k_head; (case hw => w_witness2)
  k_fill
  refine Toy.walk (l := PySem.Challenge.rw_tribunal_k37_whole_journals_cut_anywhere) rfl rfl (fun w h Y => PySem.W.kIn_of Y) ?F
  case F =>
    intro w mg fa h KX G hmg
    refine' Toy.all_mk KX G hmg ?c_KIND ?c_HEIGHT ?c_TURN ?c_BLOCK ?c_LEAN ?c_NONE ?c_LETTERS ?c_BLOCK_SIGNS ?c_MOST_DIGITS ?c_MOST_SIGNS ?n_len ?n_range ?n_isinstance ?n_int ?n_bool ?n_list ?n_tuple ?n_str ?n_super ?n_ValueError ?n_all ?n_abs ?n_max ?n_enumerate ?g_Journal ?a_proposal ?l_proposal ?q_proposal ?k_proposal ?a_prevote ?l_prevote ?q_prevote ?k_prevote ?a_precommit ?l_precommit ?q_precommit ?k_precommit ?a_is_number ?l_is_number ?q_is_number ?k_is_number ?a_is_block ?l_is_block ?q_is_block ?k_is_block ?a_word_at ?l_word_at ?q_word_at ?k_word_at ?a_number_at ?l_number_at ?q_number_at ?k_number_at ?a_kind_at ?l_kind_at ?q_kind_at ?k_kind_at ?a_block_at ?l_block_at ?q_block_at ?k_block_at ?a_lean_at ?l_lean_at ?q_lean_at ?k_lean_at ?a_end_at ?l_end_at ?q_end_at ?k_end_at ?a_read_letter ?l_read_letter ?q_read_letter ?k_read_letter ?a_word ?l_word ?q_word ?k_word ?a_letter_line ?l_letter_line ?q_letter_line ?k_letter_line ?a_is_vote ?l_is_vote ?q_is_vote ?k_is_vote ?a_clash ?l_clash ?q_clash ?k_clash ?a_abandons ?l_abandons ?q_abandons ?k_abandons ?a_Journal_init ?i_Journal_init ?l_Journal_init ?q_Journal_init ?k_Journal_init ?a_Journal_sign ?i_Journal_sign ?l_Journal_sign ?q_Journal_sign ?k_Journal_sign ?a_Journal_lines ?i_Journal_lines ?l_Journal_lines ?q_Journal_lines ?k_Journal_lines ?a_restore ?l_restore ?q_restore ?k_restore ?a_law_cell ?l_law_cell ?q_law_cell ?k_law_cell ?a_law_clash ?l_law_clash ?q_law_clash ?k_law_clash ?a_law_statement ?l_law_statement ?q_law_statement ?k_law_statement ?a_law_signed ?l_law_signed ?q_law_signed ?k_law_signed ?a_law ?l_law ?q_law ?k_law ?pg_Journal ?hd_Journal ?po_Journal ?sa_Journal ?mk_Journal ?kc_Journal ?no_Journal_who ?no_Journal_signed ?g_BadLine ?lc_BadLine ?rb_BadLine ?sa_BadLine ?eb_BadLine ?ty_BadLine ?kc_BadLine ?a_BadLine_init ?tI_BadLine_init ?l_BadLine_init ?q_BadLine_init ?ce_BadLine_init ?co_BadLine_init ?v2_BadLine_init ?fi_BadLine_init ?su_BadLine ?op_BadLine ?sv_BadLine ?mc_BadLine ?nf_BadLine ?ts_BadLine ?xga_BadLine ?xgt_BadLine ?xhd_BadLine ?xcc_BadLine ?xsp_BadLine ?xtk_BadLine ?xmo_BadLine ?g_BadJournal ?lc_BadJournal ?rb_BadJournal ?sa_BadJournal ?eb_BadJournal ?ty_BadJournal ?kc_BadJournal ?a_BadJournal_init ?tI_BadJournal_init ?l_BadJournal_init ?q_BadJournal_init ?ce_BadJournal_init ?co_BadJournal_init ?v2_BadJournal_init ?fi_BadJournal_init ?su_BadJournal ?op_BadJournal ?sv_BadJournal ?mc_BadJournal ?nf_BadJournal ?ts_BadJournal ?xga_BadJournal ?xgt_BadJournal ?xhd_BadJournal ?xcc_BadJournal ?xsp_BadJournal ?xtk_BadJournal ?xmo_BadJournal ?g_Refused ?lc_Refused ?rb_Refused ?sa_Refused ?eb_Refused ?ty_Refused ?kc_Refused ?a_Refused_init ?tI_Refused_init ?l_Refused_init ?q_Refused_init ?ce_Refused_init ?co_Refused_init ?v2_Refused_init ?fi_Refused_init ?su_Refused ?op_Refused ?sv_Refused ?mc_Refused ?nf_Refused ?ts_Refused ?xga_Refused ?xgt_Refused ?xhd_Refused ?xcc_Refused ?xsp_Refused ?xtk_Refused ?xmo_Refused ?g_KINDS ?l_KINDS ?te1_BadLine ?te2_BadLine ?te3_BadLine ?te4_BadLine_BadLine ?te1_Refused ?te2_Refused ?te3_Refused ?te4_Refused_Refused ?g_TribunalError ?te1_TribunalError ?te2_TribunalError ?te3_TribunalError ?te4_TribunalError_BadJournal ?kt_BadJournal_BadJournal
    (case c_KIND => k_is)
    (case c_HEIGHT => k_is)
    (case c_TURN => k_is)
    (case c_BLOCK => k_is)
    (case c_LEAN => k_is)
    (case c_NONE => k_is)
    (case c_LETTERS => k_is)
    (case c_BLOCK_SIGNS => k_is)
    (case c_MOST_DIGITS => k_is)
    (case c_MOST_SIGNS => k_is)
    (case n_len => k_is)
    (case n_range => k_is)
    (case n_isinstance => k_is)
    (case n_int => k_is)
    (case n_bool => k_is)
    (case n_list => k_is)
    (case n_tuple => k_is)
    (case n_str => k_is)
    (case n_super => k_is)
    (case n_ValueError => k_is)
    (case n_all => k_is)
    (case n_abs => k_is)
    (case n_max => k_is)
    (case n_enumerate => k_is)
    (case g_Journal => k_is)
    (case a_proposal => k_is)
    (case l_proposal => k_is)
    (case q_proposal => k_is)
    (case k_proposal => k_is)
    (case a_prevote => k_is)
    (case l_prevote => k_is)
    (case q_prevote => k_is)
    (case k_prevote => k_is)
    (case a_precommit => k_is)
    (case l_precommit => k_is)
    (case q_precommit => k_is)
    (case k_precommit => k_is)
    (case a_is_number => k_is)
    (case l_is_number => k_is)
    (case q_is_number => k_is)
    (case k_is_number => k_is)
    (case a_is_block => k_is)
    (case l_is_block => k_is)
    (case q_is_block => k_is)
    (case k_is_block => k_is)
    (case a_word_at => k_is)
    (case l_word_at => k_is)
    (case q_word_at => k_is)
    (case k_word_at => k_is)
    (case a_number_at => k_is)
    (case l_number_at => k_is)
    (case q_number_at => k_is)
    (case k_number_at => k_is)
    (case a_kind_at => k_is)
    (case l_kind_at => k_is)
    (case q_kind_at => k_is)
    (case k_kind_at => k_is)
    (case a_block_at => k_is)
    (case l_block_at => k_is)
    (case q_block_at => k_is)
    (case k_block_at => k_is)
    (case a_lean_at => k_is)
    (case l_lean_at => k_is)
    (case q_lean_at => k_is)
    (case k_lean_at => k_is)
    (case a_end_at => k_is)
    (case l_end_at => k_is)
    (case q_end_at => k_is)
    (case k_end_at => k_is)
    (case a_read_letter => k_is)
    (case l_read_letter => k_is)
    (case q_read_letter => k_is)
    (case k_read_letter => k_is)
    (case a_word => k_is)
    (case l_word => k_is)
    (case q_word => k_is)
    (case k_word => k_is)
    (case a_letter_line => k_is)
    (case l_letter_line => k_is)
    (case q_letter_line => k_is)
    (case k_letter_line => k_is)
    (case a_is_vote => k_is)
    (case l_is_vote => k_is)
    (case q_is_vote => k_is)
    (case k_is_vote => k_is)
    (case a_clash => k_is)
    (case l_clash => k_is)
    (case q_clash => k_is)
    (case k_clash => k_is)
    (case a_abandons => k_is)
    (case l_abandons => k_is)
    (case q_abandons => k_is)
    (case k_abandons => k_is)
    (case a_Journal_init => k_is)
    (case i_Journal_init => k_is)
    (case l_Journal_init => k_is)
    (case q_Journal_init => k_is)
    (case k_Journal_init => k_is)
    (case a_Journal_sign => k_is)
    (case i_Journal_sign => k_is)
    (case l_Journal_sign => k_is)
    (case q_Journal_sign => k_is)
    (case k_Journal_sign => k_is)
    (case a_Journal_lines => k_is)
    (case i_Journal_lines => k_is)
    (case l_Journal_lines => k_is)
    (case q_Journal_lines => k_is)
    (case k_Journal_lines => k_is)
    (case a_restore => k_is)
    (case l_restore => k_is)
    (case q_restore => k_is)
    (case k_restore => k_is)
    (case a_law_cell => k_is)
    (case l_law_cell => k_is)
    (case q_law_cell => k_is)
    (case k_law_cell => k_is)
    (case a_law_clash => k_is)
    (case l_law_clash => k_is)
    (case q_law_clash => k_is)
    (case k_law_clash => k_is)
    (case a_law_statement => k_is)
    (case l_law_statement => k_is)
    (case q_law_statement => k_is)
    (case k_law_statement => k_is)
    (case a_law_signed => k_is)
    (case l_law_signed => k_is)
    (case q_law_signed => k_is)
    (case k_law_signed => k_is)
    (case a_law => k_is)
    (case l_law => k_is)
    (case q_law => k_is)
    (case k_law => k_is)
    (case pg_Journal => k_is)
    (case hd_Journal => k_is)
    (case po_Journal => k_is)
    (case sa_Journal => k_is)
    (case mk_Journal => k_is)
    (case kc_Journal => k_is)
    (case no_Journal_who => k_is)
    (case no_Journal_signed => k_is)
    (case g_BadLine => k_is)
    (case lc_BadLine => k_is)
    (case rb_BadLine => decide +kernel)
    (case sa_BadLine => k_is)
    (case eb_BadLine => k_is)
    (case ty_BadLine => k_is)
    (case kc_BadLine => k_is)
    (case a_BadLine_init => k_is)
    (case tI_BadLine_init => k_is)
    (case l_BadLine_init => k_is)
    (case q_BadLine_init => k_is)
    (case ce_BadLine_init => k_is)
    (case co_BadLine_init => k_is)
    (case v2_BadLine_init => rfl)
    (case fi_BadLine_init => decide +kernel)
    (case su_BadLine => ks_is)
    (case op_BadLine => k_is)
    (case sv_BadLine => k_is)
    (case mc_BadLine => k_is)
    (case nf_BadLine => k_is)
    (case ts_BadLine => decide +kernel)
    (case xga_BadLine => k_is)
    (case xgt_BadLine => k_is)
    (case xhd_BadLine => k_is)
    (case xcc_BadLine => k_is)
    (case xsp_BadLine => k_is)
    (case xtk_BadLine => k_is)
    (case xmo_BadLine => k_is)
    (case g_BadJournal => k_is)
    (case lc_BadJournal => k_is)
    (case rb_BadJournal => decide +kernel)
    (case sa_BadJournal => k_is)
    (case eb_BadJournal => k_is)
    (case ty_BadJournal => k_is)
    (case kc_BadJournal => k_is)
    (case a_BadJournal_init => k_is)
    (case tI_BadJournal_init => k_is)
    (case l_BadJournal_init => k_is)
    (case q_BadJournal_init => k_is)
    (case ce_BadJournal_init => k_is)
    (case co_BadJournal_init => k_is)
    (case v2_BadJournal_init => rfl)
    (case fi_BadJournal_init => decide +kernel)
    (case su_BadJournal => ks_is)
    (case op_BadJournal => k_is)
    (case sv_BadJournal => k_is)
    (case mc_BadJournal => k_is)
    (case nf_BadJournal => k_is)
    (case ts_BadJournal => decide +kernel)
    (case xga_BadJournal => k_is)
    (case xgt_BadJournal => k_is)
    (case xhd_BadJournal => k_is)
    (case xcc_BadJournal => k_is)
    (case xsp_BadJournal => k_is)
    (case xtk_BadJournal => k_is)
    (case xmo_BadJournal => k_is)
    (case g_Refused => k_is)
    (case lc_Refused => k_is)
    (case rb_Refused => decide +kernel)
    (case sa_Refused => k_is)
    (case eb_Refused => k_is)
    (case ty_Refused => k_is)
    (case kc_Refused => k_is)
    (case a_Refused_init => k_is)
    (case tI_Refused_init => k_is)
    (case l_Refused_init => k_is)
    (case q_Refused_init => k_is)
    (case ce_Refused_init => k_is)
    (case co_Refused_init => k_is)
    (case v2_Refused_init => rfl)
    (case fi_Refused_init => decide +kernel)
    (case su_Refused => ks_is)
    (case op_Refused => k_is)
    (case sv_Refused => k_is)
    (case mc_Refused => k_is)
    (case nf_Refused => k_is)
    (case ts_Refused => decide +kernel)
    (case xga_Refused => k_is)
    (case xgt_Refused => k_is)
    (case xhd_Refused => k_is)
    (case xcc_Refused => k_is)
    (case xsp_Refused => k_is)
    (case xtk_Refused => k_is)
    (case xmo_Refused => k_is)
    (case g_KINDS => k_is)
    (case l_KINDS => k_is)
    (case te1_BadLine => k_is)
    (case te2_BadLine => k_is)
    (case te3_BadLine => k_is)
    (case te4_BadLine_BadLine => k_is)
    (case te1_Refused => k_is)
    (case te2_Refused => k_is)
    (case te3_Refused => k_is)
    (case te4_Refused_Refused => k_is)
    (case g_TribunalError => k_is)
    (case te1_TribunalError => k_is)
    (case te2_TribunalError => k_is)
    (case te3_TribunalError => k_is)
    (case te4_TribunalError_BadJournal => k_is)
    (case kt_BadJournal_BadJournal => kit_is)
