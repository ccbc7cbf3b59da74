import PyProof.Rows.All
import Wide.All
import OpenK.AllK
import Wide.FinOn
import HandS.ForMost
import HandS.IsInst
import HandS.TupLe
import HandS.Codes
import HandS.More
import HandS.Exc
import HandS.ExcInit
import HandS.ExcSuper
import HandS.FStr
import HandS.ExcCtx
import HandS.HotCalls
import HandS.ExcInitHot
import HandS.ExcIs
import HandS.ExcField
import HandS.ExcOwn
import HandS.RaiseMore
import HandS.Deep
import HandS.SortKw
import KE.KMinBuiltin
import KE.KExcIs
import KE.GoesMore
import KE.GoesEnum
import KE.KTupSum
import KE.KExcSuper
import PySem.Challenge.RW_tribunal_k06_journals_refuse_clashes
set_option Elab.async false
set_option linter.all false
set_option maxRecDepth 100000
set_option maxHeartbeats 4000000
namespace Toy
open PySem L2
def top (i : Nat) : Stmt := PySem.Challenge.pw_tribunal_k06_journals_refuse_clashes.main.body.getD i (.Pass ⟨0, 0, 0, 0⟩)
abbrev s_is_vote : Stmt := (top 11)
abbrev s_clash : Stmt := (top 12)
abbrev s_abandons : Stmt := (top 13)
abbrev s_Journal_init : Stmt := (inClass (top 19) 0)
abbrev s_Journal_sign : Stmt := (inClass (top 19) 1)
abbrev s_word : Stmt := (top 17)
abbrev s_letter_line : Stmt := (top 16)
abbrev s_Journal_lines : Stmt := (inClass (top 19) 3)
abbrev s_Journal_last_turn : Stmt := (inClass (top 19) 2)
abbrev s_law_cell : Stmt := (top 21)
abbrev s_law_is_integer : Stmt := (top 22)
abbrev s_law_clash : Stmt := (top 24)
abbrev s_law_statement : Stmt := (top 25)
abbrev s_law_drawn : Stmt := (top 28)
abbrev s_law_line : Stmt := (top 29)
abbrev s_law_signs : Stmt := (top 30)
abbrev s_law : Stmt := (top 31)
abbrev s_Refused_init : Stmt := (inClass (top 4) 0)
abbrev sc_is_vote_N : List Str := ["statement"]
theorem sc_is_vote : FnScope sc_is_vote_N ["statement"] (defScope s_is_vote) := ⟨rfl, rfl, rfl, by decide +kernel, rfl, by decide +kernel, by decide +kernel⟩
abbrev sc_clash_N : List Str := ["one", "other"]
theorem sc_clash : FnScope sc_clash_N ["one", "other"] (defScope s_clash) := ⟨rfl, rfl, rfl, by decide +kernel, rfl, by decide +kernel, by decide +kernel⟩
abbrev sc_abandons_N : List Str := ["one", "other"]
theorem sc_abandons : FnScope sc_abandons_N ["one", "other"] (defScope s_abandons) := ⟨rfl, rfl, rfl, by decide +kernel, rfl, by decide +kernel, by decide +kernel⟩
abbrev sc_Journal_init_N : List Str := ["self", "who"]
theorem sc_Journal_init : FnScope sc_Journal_init_N ["self", "who"] (defScope s_Journal_init) := ⟨rfl, rfl, rfl, by decide +kernel, rfl, by decide +kernel, by decide +kernel⟩
abbrev sc_Journal_sign_N : List Str := ["self", "statement", "earlier"]
theorem sc_Journal_sign : FnScope sc_Journal_sign_N ["self", "statement"] (defScope s_Journal_sign) := ⟨rfl, rfl, rfl, by decide +kernel, rfl, by decide +kernel, by decide +kernel⟩
abbrev sc_word_N : List Str := ["part"]
theorem sc_word : FnScope sc_word_N ["part"] (defScope s_word) := ⟨rfl, rfl, rfl, by decide +kernel, rfl, by decide +kernel, by decide +kernel⟩
abbrev sc_letter_line_N : List Str := ["letter", "sender", "statement", "part"]
theorem sc_letter_line : FnScope sc_letter_line_N ["letter"] (defScope s_letter_line) := ⟨rfl, rfl, rfl, by decide +kernel, rfl, by decide +kernel, by decide +kernel⟩
abbrev sc_Journal_lines_N : List Str := ["self", "statement"]
theorem sc_Journal_lines : FnScope sc_Journal_lines_N ["self"] (defScope s_Journal_lines) := ⟨rfl, rfl, rfl, by decide +kernel, rfl, by decide +kernel, by decide +kernel⟩
abbrev sc_Journal_last_turn_N : List Str := ["self", "height", "turns", "statement"]
theorem sc_Journal_last_turn : FnScope sc_Journal_last_turn_N ["self", "height"] (defScope s_Journal_last_turn) := ⟨rfl, rfl, rfl, by decide +kernel, rfl, by decide +kernel, by decide +kernel⟩
abbrev sc_law_cell_N : List Str := ["script", "k"]
theorem sc_law_cell : FnScope sc_law_cell_N ["script", "k"] (defScope s_law_cell) := ⟨rfl, rfl, rfl, by decide +kernel, rfl, by decide +kernel, by decide +kernel⟩
abbrev sc_law_is_integer_N : List Str := ["actual"]
theorem sc_law_is_integer : FnScope sc_law_is_integer_N ["actual"] (defScope s_law_is_integer) := ⟨rfl, rfl, rfl, by decide +kernel, rfl, by decide +kernel, by decide +kernel⟩
abbrev sc_law_clash_N : List Str := ["one", "other", "first", "second"]
theorem sc_law_clash : FnScope sc_law_clash_N ["one", "other"] (defScope s_law_clash) := ⟨rfl, rfl, rfl, by decide +kernel, rfl, by decide +kernel, by decide +kernel⟩
abbrev sc_law_statement_N : List Str := ["digit", "height", "block", "turn", "lean"]
theorem sc_law_statement : FnScope sc_law_statement_N ["digit", "height"] (defScope s_law_statement) := ⟨rfl, rfl, rfl, by decide +kernel, rfl, by decide +kernel, by decide +kernel⟩
abbrev sc_law_drawn_N : List Str := ["cell"]
theorem sc_law_drawn : FnScope sc_law_drawn_N ["cell"] (defScope s_law_drawn) := ⟨rfl, rfl, rfl, by decide +kernel, rfl, by decide +kernel, by decide +kernel⟩
abbrev sc_law_line_N : List Str := ["who", "statement", "words", "part"]
theorem sc_law_line : FnScope sc_law_line_N ["who", "statement"] (defScope s_law_line) := ⟨rfl, rfl, rfl, by decide +kernel, rfl, by decide +kernel, by decide +kernel⟩
abbrev sc_law_signs_N : List Str := ["journal", "who", "signed", "statement", "clashing", "letter", "e", "earlier"]
theorem sc_law_signs : FnScope sc_law_signs_N ["journal", "who", "signed", "statement"] (defScope s_law_signs) := ⟨rfl, rfl, rfl, by decide +kernel, rfl, by decide +kernel, by decide +kernel⟩
abbrev sc_law_N : List Str := ["script", "who", "journal", "signed", "cell", "statement", "height", "turns", "earlier"]
theorem sc_law : FnScope sc_law_N ["script"] (defScope s_law) := ⟨rfl, rfl, rfl, by decide +kernel, rfl, by decide +kernel, by decide +kernel⟩
/-! ### what stands where -/
structure DefAt (K : PySem.W.Frag) (mg : Str → Option Value) (x : Str) (st : Stmt) (ps : List Str) (f : Addr) : Prop where
  F : ∃ fd, Fun K x x st f fd ∧ Binds K fd ps []
  g : mg x = some (.ref f)
  kp : PySem.W.keepIn K (.ref f) = true
structure MethAt (K : PySem.W.Frag) (C : Addr) (x qual : Str) (st : Stmt) (ps : List Str) (f : Addr) : Prop where
  F : ∃ fd, Fun K x qual st f fd ∧ Binds K fd ps []
  fi : PySem.W.findIn K (.ref C) x = some (some (.ref f))
  isf : PySem.W.isFn K (.ref f) = true
  kp : PySem.W.keepIn K (.ref f) = true
theorem def_mk {K : PySem.W.Frag} {x qual : Str} {st : Stmt} {f : Addr} {ps : List Str} {oc : Value} {od an : Option Addr} {osl : Array (Option Value)} {kV doc pm cdv ct : Value}
    (l : K.lookup f = some ⟨oc, od, .func (PySem.W.fnOf x qual (defArgs st) (defBody st) (defScope st) .none kV doc pm an cdv ct), osl⟩)
    (c : PySem.W.codeIn K cdv qual = true) (k : PySem.W.keepIn K (.ref f) = true)
    (h : ∀ (kV doc pm : Value) (an : Option Addr) (cdv ct : Value) (us : List Value), us.length = ps.length → bindArgs (PySem.W.fnOf x qual (defArgs st) (defBody st) (defScope st) .none kV doc pm an cdv ct) ⟨us, []⟩ = pure (ps.zip us)) :
    ∃ fd, Fun K x qual st f fd ∧ Binds K fd ps [] := by
  have F := fun_mk (st := st) l c k
  exact ⟨_, F, F.binds h⟩
theorem mg_no {K : PySem.W.Frag} {h : Heap} {mg : Str → Option Value} {n : Str} (X : K.In h) (G : h.Ns mainGlobals mg) (e : PySem.W.nsIn K mainGlobals n = some none) : mg n = none := PySem.W.mg_none_of X G e
theorem same_new {H : Hp} {p : Addr} {o : HO} (n : H p = Option.none) : Same H (upd H p o) := fun b u e => by
  rw [upd_ne (ne_of_none e n)]
  exact e
theorem same_upd {H H2 : Hp} {p : Addr} {o : HO} (s : Same H H2) (n : H p = Option.none) : Same H (upd H2 p o) := fun b u e => by
  rw [upd_ne (ne_of_none e n)]
  exact s b u e
structure Ads where
  C_Journal : Addr
  d_is_vote : Addr
  d_clash : Addr
  d_abandons : Addr
  d_Journal_init : Addr
  d_Journal_sign : Addr
  d_word : Addr
  d_letter_line : Addr
  d_Journal_lines : Addr
  d_Journal_last_turn : Addr
  d_law_cell : Addr
  d_law_is_integer : Addr
  d_law_clash : Addr
  d_law_statement : Addr
  d_law_drawn : Addr
  d_law_line : Addr
  d_law_signs : Addr
  C_Refused : Addr
  d_Refused_init : Addr
  C_TribunalError : Addr
  C_BadJournal : Addr
  C_BadLine : Addr
structure Txt (K : PySem.W.Frag) (mg : Str → Option Value) (a : Ads) : Prop where
  n_len : mg "len" = none
  n_range : mg "range" = none
  n_isinstance : mg "isinstance" = none
  n_int : mg "int" = none
  n_bool : mg "bool" = none
  n_list : mg "list" = none
  n_tuple : mg "tuple" = none
  n_sum : mg "sum" = none
  n_max : mg "max" = none
  n_str : mg "str" = none
  n_super : mg "super" = none
  n_ValueError : mg "ValueError" = none
  c_KIND : ∃ t, mg "KIND" = some (.int 0 t)
  c_HEIGHT : ∃ t, mg "HEIGHT" = some (.int 1 t)
  c_TURN : ∃ t, mg "TURN" = some (.int 2 t)
  c_BLOCK : ∃ t, mg "BLOCK" = some (.int 3 t)
  c_LEAN : ∃ t, mg "LEAN" = some (.int 4 t)
  c_NONE : ∃ t, mg "NONE" = some (.str "-" t)
  g_Journal : mg "Journal" = some (.ref a.C_Journal)
  cl_Journal : Cls K a.C_Journal
  kc_Journal : PySem.W.keepIn K (.ref a.C_Journal) = true
  mk_Journal : PySem.W.makesIn K a.C_Journal = true
  a_Journal_who : NoAttr K a.C_Journal "who"
  a_Journal_signed : NoAttr K a.C_Journal "signed"
  d_is_vote : DefAt K mg "is_vote" s_is_vote ["statement"] a.d_is_vote
  d_clash : DefAt K mg "clash" s_clash ["one", "other"] a.d_clash
  d_abandons : DefAt K mg "_abandons" s_abandons ["one", "other"] a.d_abandons
  d_Journal_init : MethAt K a.C_Journal "__init__" "Journal.__init__" s_Journal_init ["self", "who"] a.d_Journal_init
  d_Journal_sign : MethAt K a.C_Journal "sign" "Journal.sign" s_Journal_sign ["self", "statement"] a.d_Journal_sign
  d_word : DefAt K mg "_word" s_word ["part"] a.d_word
  d_letter_line : DefAt K mg "letter_line" s_letter_line ["letter"] a.d_letter_line
  d_Journal_lines : MethAt K a.C_Journal "lines" "Journal.lines" s_Journal_lines ["self"] a.d_Journal_lines
  d_Journal_last_turn : MethAt K a.C_Journal "last_turn" "Journal.last_turn" s_Journal_last_turn ["self", "height"] a.d_Journal_last_turn
  d_law_cell : DefAt K mg "_law_cell" s_law_cell ["script", "k"] a.d_law_cell
  d_law_is_integer : DefAt K mg "_law_is_integer" s_law_is_integer ["actual"] a.d_law_is_integer
  d_law_clash : DefAt K mg "_law_clash" s_law_clash ["one", "other"] a.d_law_clash
  d_law_statement : DefAt K mg "_law_statement" s_law_statement ["digit", "height"] a.d_law_statement
  d_law_drawn : DefAt K mg "_law_drawn" s_law_drawn ["cell"] a.d_law_drawn
  d_law_line : DefAt K mg "_law_line" s_law_line ["who", "statement"] a.d_law_line
  d_law_signs : DefAt K mg "_law_signs" s_law_signs ["journal", "who", "signed", "statement"] a.d_law_signs
theorem Txt.m_Journal {K : PySem.W.Frag} {mg : Str → Option Value} {a : Ads} (T : Txt K mg a) : Mk K a.C_Journal a.d_Journal_init := ⟨T.mk_Journal, T.d_Journal_init.fi, T.d_Journal_init.isf, T.kc_Journal⟩
theorem Txt.me_Journal_sign {K : PySem.W.Frag} {mg : Str → Option Value} {a : Ads} (T : Txt K mg a) : Meth K a.C_Journal "sign" a.d_Journal_sign := ⟨T.d_Journal_sign.fi, T.d_Journal_sign.isf, T.d_Journal_sign.kp⟩
theorem Txt.me_Journal_lines {K : PySem.W.Frag} {mg : Str → Option Value} {a : Ads} (T : Txt K mg a) : Meth K a.C_Journal "lines" a.d_Journal_lines := ⟨T.d_Journal_lines.fi, T.d_Journal_lines.isf, T.d_Journal_lines.kp⟩
theorem Txt.me_Journal_last_turn {K : PySem.W.Frag} {mg : Str → Option Value} {a : Ads} (T : Txt K mg a) : Meth K a.C_Journal "last_turn" a.d_Journal_last_turn := ⟨T.d_Journal_last_turn.fi, T.d_Journal_last_turn.isf, T.d_Journal_last_turn.kp⟩
/-! ### max and min with default=None -/
end Toy
namespace Toy0
open PySem

section
variable {prog : Program} {w : World} {A : Around} {R : Result → Shared → Prop} {I : Addr} {fp wr : List Addr} {n : Nat} {P : Nat → Value → Prop} {St : Nat → Heap → Prop}
/-- the turns of max with keywords, from the place behind j on -/
theorem maxd_run (W : Walks prog w A.in1 I fp wr n P St) (up : Nat → Nat → Bool) (cm : CmpOf prog w A.in1 .Gt P up) (Z : Addr) (nZ : Z ∉ fp) (kw : List (Str × Value)) : ∀ (k j : Nat) (s : Shared) (b0 : Value) (c : Nat), n = j + 1 + k → St (j + 1) s.heap → P (argBest up j) b0 →
    s.heap.get? Z = some { cls := .type "list", dict := none, data := .seq #[b0, b0] c, slots := #[] } → (∀ v h2 t2, P (argBest up (n - 1)) v → (∀ x o, x ∉ wr → x ≠ Z → s.heap.get? x = some o → h2.get? x = some o) → R (.ok (.ret v)) { s with heap := h2, toks := t2 }) →
    codeAny (model prog w) A (.builtin "max.loop" ⟨[.ref I, .none, .ref Z], kw⟩) R s
  | 0, j, s, b0, c, hn, st, hP, hZ, q => by
    have nw : Z ∉ wr := fun z => nZ (W.sub _ z)
    have hin : j + 1 = n := hn.symm
    refine codeAny_builtin PySem.F.entry_max_loop (by
      rw [Around.under_plainId PySem.F.plain_max_loop _]
      show wpAny _ A.in1 (seqItems? (.ref Z) >>= _) _ _ s
      refine wpAny_bind (wpAny_seqItems hZ rfl ?_)
      show wpAny _ A.in1 (tryCatch (pyNext (.ref I)) _ >>= _) _ _ s
      refine wpAny_bind (wpAny_tryCatch (W.done s _ _ (by rw [← hin]; exact st) fun h2 t2 kp => ?_))
      have hZ2 := kp Z _ nw hZ
      show wpAny _ A.in1 (updateSeq Z (fun _ => #[]) >>= _) _ _ _
      refine wpAny_bind (wpAny_updateSeq hZ2 rfl (wpAny_bind (wpAny_letGo (wpAny_pure ?_))))
      exact q b0 _ t2 (by rw [show n - 1 = j by omega]; exact hP) fun x o xw xz e => (Heap.get?_update_other _ _ (fun z => xz z.symm)).trans (kp x o xw e))
  | k + 1, j, s, b0, c, hn, st, hP, hZ, q => by
    have nw : Z ∉ wr := fun z => nZ (W.sub _ z)
    have nm : (toString "max" ++ toString ".loop" : String) = "max.loop" := by decide
    refine codeAny_builtin PySem.F.entry_max_loop (by
      rw [Around.under_plainId PySem.F.plain_max_loop _]
      show wpAny _ A.in1 (seqItems? (.ref Z) >>= _) _ _ s
      refine wpAny_bind (wpAny_seqItems hZ rfl ?_)
      show wpAny _ A.in1 (tryCatch (pyNext (.ref I)) _ >>= _) _ _ s
      refine wpAny_bind (wpAny_tryCatch (W.item (j + 1) s _ _ (by omega) st fun v h2 t2 pv st2 kp => ?_))
      have hZ2 := kp Z _ nw hZ
      show wpAny _ A.in1 (tryCatch (holding [v, v] (richCompare .Gt v b0 >>= _)) _ >>= _) _ _ _
      refine wpAny_bind (wpAny_tryCatch (wpAny_holding (wpAny_bind (cm (j + 1) (argBest up j) v b0 _ _ _ pv hP ?_))))
      refine wpAny_bind (wpAny_holding (wpAny_truthy_bool (wpAny_bind (wpAny_letGo (wpAny_pure ?_)))))
      cases eb : up (j + 1) (argBest up j) with
      | true =>
        simp only [if_true]
        refine wpAny_bind (wpAny_updateSeq hZ2 rfl (wpAny_bind (wpAny_letGo ?_)))
        rw [nm]
        refine wpAny_pure ⟨plainId_quiet PySem.F.plain_max_loop _, maxd_run W up cm Z nZ kw k (j + 1) _ v _ (by omega) (W.frame _ _ _ st2 fun x hx o e => ?_) (by simp only [argBest, eb, if_true]; exact pv) (Heap.get?_update_self _ hZ2 rfl) fun v3 h3 t3 p3 kp3 => ?_⟩
        · exact (Heap.get?_update_other _ _ (fun z : Z = x => nZ (by rw [z]; exact hx))).trans e
        · exact q v3 h3 t3 p3 fun x o xw xz e => kp3 x o xw xz ((Heap.get?_update_other _ _ (fun z => xz z.symm)).trans (kp x o xw e))
      | false =>
        simp only [Bool.false_eq_true, if_false]
        refine wpAny_bind (wpAny_letGo ?_)
        rw [nm]
        refine wpAny_pure ⟨plainId_quiet PySem.F.plain_max_loop _, maxd_run W up cm Z nZ kw k (j + 1) _ b0 c (by omega) st2 (by simp only [argBest, eb, Bool.false_eq_true, if_false]; exact hP) hZ2 fun v3 h3 t3 p3 kp3 => ?_⟩
        exact q v3 h3 t3 p3 fun x o xw xz e => kp3 x o xw xz (kp x o xw e))
/-- its first turn -/
theorem maxd_start (W : Walks prog w A.in1 I fp wr n P St) (up : Nat → Nat → Bool) (cm : CmpOf prog w A.in1 .Gt P up) (Z : Addr) (nZ : Z ∉ fp) (d : Value) {s : Shared} {c : Nat} (st : St 0 s.heap) (hZ : s.heap.get? Z = some { cls := .type "list", dict := none, data := .seq #[] c, slots := #[] })
    (q0 : n = 0 → ∀ h2 t2, (∀ x o, x ∉ wr → x ≠ Z → s.heap.get? x = some o → h2.get? x = some o) → R (.ok (.ret d)) { s with heap := h2, toks := t2 })
    (q : 0 < n → ∀ v h2 t2, P (argBest up (n - 1)) v → (∀ x o, x ∉ wr → x ≠ Z → s.heap.get? x = some o → h2.get? x = some o) → R (.ok (.ret v)) { s with heap := h2, toks := t2 }) :
    codeAny (model prog w) A (.builtin "max.loop" ⟨[.ref I, .none, .ref Z], [(Str.ofString "default", d)]⟩) R s := by
  have nw : Z ∉ wr := fun z => nZ (W.sub _ z)
  have nm : (toString "max" ++ toString ".loop" : String) = "max.loop" := by decide
  refine codeAny_builtin PySem.F.entry_max_loop (by
    rw [Around.under_plainId PySem.F.plain_max_loop _]
    show wpAny _ A.in1 (seqItems? (.ref Z) >>= _) _ _ s
    refine wpAny_bind (wpAny_seqItems hZ rfl ?_)
    show wpAny _ A.in1 (tryCatch (pyNext (.ref I)) _ >>= _) _ _ s
    rcases Nat.eq_zero_or_pos n with n0 | n0
    · refine wpAny_bind (wpAny_tryCatch (W.done s _ _ (by rw [n0]; exact st) fun h2 t2 kp => ?_))
      show wpAny _ A.in1 (rule _ >>= _) _ _ _
      exact wpAny_bind (wpAny_rule (wpAny_pure (q0 n0 h2 t2 fun x o xw _ e => kp x o xw e)))
    · refine wpAny_bind (wpAny_tryCatch (W.item 0 s _ _ n0 st fun v h2 t2 pv st2 kp => ?_))
      have hZ2 := kp Z _ nw hZ
      show wpAny _ A.in1 (updateSeq Z (fun _ => #[v, v]) >>= _) _ _ _
      refine wpAny_bind (wpAny_updateSeq hZ2 rfl ?_)
      rw [nm]
      refine wpAny_pure ⟨plainId_quiet PySem.F.plain_max_loop _, maxd_run W up cm Z nZ _ (n - 1) 0 _ v _ (by omega) (W.frame _ _ _ st2 fun x hx o e => ?_) pv (Heap.get?_update_self _ hZ2 rfl) fun v3 h3 t3 p3 kp3 => ?_⟩
      · exact (Heap.get?_update_other _ _ (fun z : Z = x => nZ (by rw [z]; exact hx))).trans e
      · exact q n0 v3 h3 t3 p3 fun x o xw xz e => kp3 x o xw xz ((Heap.get?_update_other _ _ (fun z => xz z.symm)).trans (kp x o xw e)))
end
section
variable {prog : Program} {w : World} {A : Around} {E : Value → Shared → Prop} {s : Shared} {l : Addr} {xs : Array (Int × Tok)}
theorem maxd_args (a d : Value) : argsOk "max" ⟨[a], [(Str.ofString "default", d)]⟩ := by
  unfold argsOk
  kernel_rfl
theorem maxd_call {d : Value} {Q : Value → Shared → Prop} (hh : A.handled = none) (hl : s.heap.IsList l (intItems xs)) (q0 : xs.size = 0 → ∀ h2 t2, (∀ b o, s.heap.get? b = some o → h2.get? b = some o) → Q d { s with heap := h2, toks := t2 })
    (q : 0 < xs.size → ∀ v h2 t2, (intItems xs)[argBest (fun i j => decide (numAt xs i > numAt xs j)) (xs.size - 1)]? = some v → (∀ b o, s.heap.get? b = some o → h2.get? b = some o) → Q v { s with heap := h2, toks := t2 }) :
    wpAny (model prog w) A (call (.builtin "max") [.ref l] [(Str.ofString "default", d)]) Q E s := by
  have nm : (toString "max" ++ toString ".loop" : String) = "max.loop" := by decide
  refine PyProof.Rows.kmb_tree PySem.F.kind_max PySem.F.plain_max PySem.F.entry_max (maxd_args _ _) ?_
  show wpAny _ A.in1 (Builtin.Builtins.bindParams "max" ["key", "default"] 0 ⟨[], [(Str.ofString "default", d)]⟩ >>= _) _ _ s
  refine wpAny_bind (wpAny_of_eq (show Builtin.Builtins.bindParams "max" ["key", "default"] 0 ⟨[], [(Str.ofString "default", d)]⟩ = pure [none, some d] from rfl) ?_)
  refine wpAny_bind (wpAny_pure (wpAny_bind (iter_intList hl fun s2 e st hfp ne => ?_)))
  subst e
  refine wpAny_bind (wpAny_newObj_type ?_)
  have W := Walks.list (prog := prog) (w := w) (A := A.in1) hh s.heap.objs.size l ne (intItems xs)
  have hsz : (intItems xs).size = xs.size := by simp [intItems]
  rw [nm]
  have nS := fun hm => Nat.lt_irrefl _ (hfp _ hm)
  refine wpAny_pure ⟨plainId_quiet PySem.F.plain_max_loop _, ?_⟩
  refine maxd_start (c := 0) W (fun i j => decide (numAt xs i > numAt xs j)) (CmpOf.ints_gt (numAt xs) (fun _ _ => intItems_at)) _ nS d ?_ ?_ (fun n0 h2 t2 kp => ?_) fun n0 v h2 t2 p kp => ?_
  · exact W.frame _ _ _ st fun b _ o e => Heap.get?_push_of_some _ e
  · exact Heap.get?_push_size _ rfl
  · exact q0 (hsz ▸ n0) h2 t2 (old_kept fun b o nb e => kp b o nb (Nat.ne_of_lt (Heap.lt_size e)) (Heap.get?_push_of_some _ e))
  · rw [hsz] at n0 p
    exact q n0 v h2 t2 p (old_kept fun b o nb e => kp b o nb (Nat.ne_of_lt (Heap.lt_size e)) (Heap.get?_push_of_some _ e))
end

section
variable {prog : Program} {w : World} {A : Around} {R : Result → Shared → Prop} {I : Addr} {fp wr : List Addr} {n : Nat} {P : Nat → Value → Prop} {St : Nat → Heap → Prop}
/-- the turns of min with keywords, from the place behind j on -/
theorem mind_run (W : Walks prog w A.in1 I fp wr n P St) (up : Nat → Nat → Bool) (cm : CmpOf prog w A.in1 .Lt P up) (Z : Addr) (nZ : Z ∉ fp) (kw : List (Str × Value)) : ∀ (k j : Nat) (s : Shared) (b0 : Value) (c : Nat), n = j + 1 + k → St (j + 1) s.heap → P (argBest up j) b0 →
    s.heap.get? Z = some { cls := .type "list", dict := none, data := .seq #[b0, b0] c, slots := #[] } → (∀ v h2 t2, P (argBest up (n - 1)) v → (∀ x o, x ∉ wr → x ≠ Z → s.heap.get? x = some o → h2.get? x = some o) → R (.ok (.ret v)) { s with heap := h2, toks := t2 }) →
    codeAny (model prog w) A (.builtin "min.loop" ⟨[.ref I, .none, .ref Z], kw⟩) R s
  | 0, j, s, b0, c, hn, st, hP, hZ, q => by
    have nw : Z ∉ wr := fun z => nZ (W.sub _ z)
    have hin : j + 1 = n := hn.symm
    refine codeAny_builtin PySem.F.entry_min_loop (by
      rw [Around.under_plainId PySem.F.plain_min_loop _]
      show wpAny _ A.in1 (seqItems? (.ref Z) >>= _) _ _ s
      refine wpAny_bind (wpAny_seqItems hZ rfl ?_)
      show wpAny _ A.in1 (tryCatch (pyNext (.ref I)) _ >>= _) _ _ s
      refine wpAny_bind (wpAny_tryCatch (W.done s _ _ (by rw [← hin]; exact st) fun h2 t2 kp => ?_))
      have hZ2 := kp Z _ nw hZ
      show wpAny _ A.in1 (updateSeq Z (fun _ => #[]) >>= _) _ _ _
      refine wpAny_bind (wpAny_updateSeq hZ2 rfl (wpAny_bind (wpAny_letGo (wpAny_pure ?_))))
      exact q b0 _ t2 (by rw [show n - 1 = j by omega]; exact hP) fun x o xw xz e => (Heap.get?_update_other _ _ (fun z => xz z.symm)).trans (kp x o xw e))
  | k + 1, j, s, b0, c, hn, st, hP, hZ, q => by
    have nw : Z ∉ wr := fun z => nZ (W.sub _ z)
    have nm : (toString "min" ++ toString ".loop" : String) = "min.loop" := by decide
    refine codeAny_builtin PySem.F.entry_min_loop (by
      rw [Around.under_plainId PySem.F.plain_min_loop _]
      show wpAny _ A.in1 (seqItems? (.ref Z) >>= _) _ _ s
      refine wpAny_bind (wpAny_seqItems hZ rfl ?_)
      show wpAny _ A.in1 (tryCatch (pyNext (.ref I)) _ >>= _) _ _ s
      refine wpAny_bind (wpAny_tryCatch (W.item (j + 1) s _ _ (by omega) st fun v h2 t2 pv st2 kp => ?_))
      have hZ2 := kp Z _ nw hZ
      show wpAny _ A.in1 (tryCatch (holding [v, v] (richCompare .Lt v b0 >>= _)) _ >>= _) _ _ _
      refine wpAny_bind (wpAny_tryCatch (wpAny_holding (wpAny_bind (cm (j + 1) (argBest up j) v b0 _ _ _ pv hP ?_))))
      refine wpAny_bind (wpAny_holding (wpAny_truthy_bool (wpAny_bind (wpAny_letGo (wpAny_pure ?_)))))
      cases eb : up (j + 1) (argBest up j) with
      | true =>
        simp only [if_true]
        refine wpAny_bind (wpAny_updateSeq hZ2 rfl (wpAny_bind (wpAny_letGo ?_)))
        rw [nm]
        refine wpAny_pure ⟨plainId_quiet PySem.F.plain_min_loop _, mind_run W up cm Z nZ kw k (j + 1) _ v _ (by omega) (W.frame _ _ _ st2 fun x hx o e => ?_) (by simp only [argBest, eb, if_true]; exact pv) (Heap.get?_update_self _ hZ2 rfl) fun v3 h3 t3 p3 kp3 => ?_⟩
        · exact (Heap.get?_update_other _ _ (fun z : Z = x => nZ (by rw [z]; exact hx))).trans e
        · exact q v3 h3 t3 p3 fun x o xw xz e => kp3 x o xw xz ((Heap.get?_update_other _ _ (fun z => xz z.symm)).trans (kp x o xw e))
      | false =>
        simp only [Bool.false_eq_true, if_false]
        refine wpAny_bind (wpAny_letGo ?_)
        rw [nm]
        refine wpAny_pure ⟨plainId_quiet PySem.F.plain_min_loop _, mind_run W up cm Z nZ kw k (j + 1) _ b0 c (by omega) st2 (by simp only [argBest, eb, Bool.false_eq_true, if_false]; exact hP) hZ2 fun v3 h3 t3 p3 kp3 => ?_⟩
        exact q v3 h3 t3 p3 fun x o xw xz e => kp3 x o xw xz (kp x o xw e))
/-- its first turn -/
theorem mind_start (W : Walks prog w A.in1 I fp wr n P St) (up : Nat → Nat → Bool) (cm : CmpOf prog w A.in1 .Lt P up) (Z : Addr) (nZ : Z ∉ fp) (d : Value) {s : Shared} {c : Nat} (st : St 0 s.heap) (hZ : s.heap.get? Z = some { cls := .type "list", dict := none, data := .seq #[] c, slots := #[] })
    (q0 : n = 0 → ∀ h2 t2, (∀ x o, x ∉ wr → x ≠ Z → s.heap.get? x = some o → h2.get? x = some o) → R (.ok (.ret d)) { s with heap := h2, toks := t2 })
    (q : 0 < n → ∀ v h2 t2, P (argBest up (n - 1)) v → (∀ x o, x ∉ wr → x ≠ Z → s.heap.get? x = some o → h2.get? x = some o) → R (.ok (.ret v)) { s with heap := h2, toks := t2 }) :
    codeAny (model prog w) A (.builtin "min.loop" ⟨[.ref I, .none, .ref Z], [(Str.ofString "default", d)]⟩) R s := by
  have nw : Z ∉ wr := fun z => nZ (W.sub _ z)
  have nm : (toString "min" ++ toString ".loop" : String) = "min.loop" := by decide
  refine codeAny_builtin PySem.F.entry_min_loop (by
    rw [Around.under_plainId PySem.F.plain_min_loop _]
    show wpAny _ A.in1 (seqItems? (.ref Z) >>= _) _ _ s
    refine wpAny_bind (wpAny_seqItems hZ rfl ?_)
    show wpAny _ A.in1 (tryCatch (pyNext (.ref I)) _ >>= _) _ _ s
    rcases Nat.eq_zero_or_pos n with n0 | n0
    · refine wpAny_bind (wpAny_tryCatch (W.done s _ _ (by rw [n0]; exact st) fun h2 t2 kp => ?_))
      show wpAny _ A.in1 (rule _ >>= _) _ _ _
      exact wpAny_bind (wpAny_rule (wpAny_pure (q0 n0 h2 t2 fun x o xw _ e => kp x o xw e)))
    · refine wpAny_bind (wpAny_tryCatch (W.item 0 s _ _ n0 st fun v h2 t2 pv st2 kp => ?_))
      have hZ2 := kp Z _ nw hZ
      show wpAny _ A.in1 (updateSeq Z (fun _ => #[v, v]) >>= _) _ _ _
      refine wpAny_bind (wpAny_updateSeq hZ2 rfl ?_)
      rw [nm]
      refine wpAny_pure ⟨plainId_quiet PySem.F.plain_min_loop _, mind_run W up cm Z nZ _ (n - 1) 0 _ v _ (by omega) (W.frame _ _ _ st2 fun x hx o e => ?_) pv (Heap.get?_update_self _ hZ2 rfl) fun v3 h3 t3 p3 kp3 => ?_⟩
      · exact (Heap.get?_update_other _ _ (fun z : Z = x => nZ (by rw [z]; exact hx))).trans e
      · exact q n0 v3 h3 t3 p3 fun x o xw xz e => kp3 x o xw xz ((Heap.get?_update_other _ _ (fun z => xz z.symm)).trans (kp x o xw e)))
end
section
variable {prog : Program} {w : World} {A : Around} {E : Value → Shared → Prop} {s : Shared} {l : Addr} {xs : Array (Int × Tok)}
theorem mind_args (a d : Value) : argsOk "min" ⟨[a], [(Str.ofString "default", d)]⟩ := by
  unfold argsOk
  kernel_rfl
theorem mind_call {d : Value} {Q : Value → Shared → Prop} (hh : A.handled = none) (hl : s.heap.IsList l (intItems xs)) (q0 : xs.size = 0 → ∀ h2 t2, (∀ b o, s.heap.get? b = some o → h2.get? b = some o) → Q d { s with heap := h2, toks := t2 })
    (q : 0 < xs.size → ∀ v h2 t2, (intItems xs)[argBest (fun i j => decide (numAt xs i < numAt xs j)) (xs.size - 1)]? = some v → (∀ b o, s.heap.get? b = some o → h2.get? b = some o) → Q v { s with heap := h2, toks := t2 }) :
    wpAny (model prog w) A (call (.builtin "min") [.ref l] [(Str.ofString "default", d)]) Q E s := by
  have nm : (toString "min" ++ toString ".loop" : String) = "min.loop" := by decide
  refine PyProof.Rows.kmb_tree PySem.F.kind_min PySem.F.plain_min PySem.F.entry_min (mind_args _ _) ?_
  show wpAny _ A.in1 (Builtin.Builtins.bindParams "min" ["key", "default"] 0 ⟨[], [(Str.ofString "default", d)]⟩ >>= _) _ _ s
  refine wpAny_bind (wpAny_of_eq (show Builtin.Builtins.bindParams "min" ["key", "default"] 0 ⟨[], [(Str.ofString "default", d)]⟩ = pure [none, some d] from rfl) ?_)
  refine wpAny_bind (wpAny_pure (wpAny_bind (iter_intList hl fun s2 e st hfp ne => ?_)))
  subst e
  refine wpAny_bind (wpAny_newObj_type ?_)
  have W := Walks.list (prog := prog) (w := w) (A := A.in1) hh s.heap.objs.size l ne (intItems xs)
  have hsz : (intItems xs).size = xs.size := by simp [intItems]
  rw [nm]
  have nS := fun hm => Nat.lt_irrefl _ (hfp _ hm)
  refine wpAny_pure ⟨plainId_quiet PySem.F.plain_min_loop _, ?_⟩
  refine mind_start (c := 0) W (fun i j => decide (numAt xs i < numAt xs j)) (CmpOf.ints_lt (numAt xs) (fun _ _ => intItems_at)) _ nS d ?_ ?_ (fun n0 h2 t2 kp => ?_) fun n0 v h2 t2 p kp => ?_
  · exact W.frame _ _ _ st fun b _ o e => Heap.get?_push_of_some _ e
  · exact Heap.get?_push_size _ rfl
  · exact q0 (hsz ▸ n0) h2 t2 (old_kept fun b o nb e => kp b o nb (Nat.ne_of_lt (Heap.lt_size e)) (Heap.get?_push_of_some _ e))
  · rw [hsz] at n0 p
    exact q n0 v h2 t2 p (old_kept fun b o nb e => kp b o nb (Nat.ne_of_lt (Heap.lt_size e)) (Heap.get?_push_of_some _ e))
end
end Toy0
namespace Toy
open PySem L2
section
open PyProof.Rows

/-- max(xs, default=d) of a list of ints -/
def rmaxd (K : PySem.W.Frag) : List V → List V → Hp → VK → Prop := fun vs zs H Q => ∃ (a : Addr) (ns : List Int) (d : V), vs = [V.ref a] ∧ zs = [d] ∧ SqL K H a (ns.map V.int) ∧ (ns = [] → Q d H) ∧ ∀ m, m ∈ ns → (∀ y, y ∈ ns → y ≤ m) → Q (.int m) H
theorem cr_maxd {X : Cx} (hc : X.calm = true) : CallRK X (.builtin "max") [Str.ofString "default"] (rmaxd X.K) := by
  intro pins s σ H vs zs us wz Q I r rz h
  obtain ⟨a, ns, d, rfl, rfl, hs, q0, q⟩ := h
  obtain ⟨its, rv, hl, _⟩ := I.list hs
  obtain rfl := Vals.ref1 r
  obtain ⟨w1, rfl, e1⟩ := vals1 rz
  obtain ⟨xs, e⟩ := rv.ints.allInts.items
  have hn : numsOf (intItems xs).toList = ns := by rw [← e]; exact rv.ints.numsOf
  rw [nums_intItems] at hn
  have hl2 := hl.isList
  rw [e] at hl2
  have hlen : ns.length = xs.size := by rw [← hn, List.length_map, Array.length_toList]
  refine Toy0.maxd_call (I.ok.hd hc) hl2 (fun n0 h2 t2 kp => ?_) fun n0 v h2 t2 hv kp => ?_
  · exact ⟨d, H, I.kept kp, e1, q0 (List.eq_nil_of_length_eq_zero (by omega))⟩
  · obtain ⟨t, rfl⟩ := intItems_at hv
    obtain ⟨h1, h3⟩ := argBest_gt (numAt xs) (xs.size - 1)
    refine ⟨.int _, H, I.kept kp, ⟨_, rfl⟩, q _ ?_ fun y hy => ?_⟩
    · rw [← hn, numAt_eq]
      exact PySem.getD_mem (by rw [List.length_map, Array.length_toList]; omega)
    · rw [← hn] at hy
      obtain ⟨j, hj, rfl⟩ := mem_getD hy
      rw [List.length_map, Array.length_toList] at hj
      have := h3 j (by omega)
      rwa [← numAt_eq]

/-- min(xs, default=d) of a list of ints -/
def rmind (K : PySem.W.Frag) : List V → List V → Hp → VK → Prop := fun vs zs H Q => ∃ (a : Addr) (ns : List Int) (d : V), vs = [V.ref a] ∧ zs = [d] ∧ SqL K H a (ns.map V.int) ∧ (ns = [] → Q d H) ∧ ∀ m, m ∈ ns → (∀ y, y ∈ ns → m ≤ y) → Q (.int m) H
theorem cr_mind {X : Cx} (hc : X.calm = true) : CallRK X (.builtin "min") [Str.ofString "default"] (rmind X.K) := by
  intro pins s σ H vs zs us wz Q I r rz h
  obtain ⟨a, ns, d, rfl, rfl, hs, q0, q⟩ := h
  obtain ⟨its, rv, hl, _⟩ := I.list hs
  obtain rfl := Vals.ref1 r
  obtain ⟨w1, rfl, e1⟩ := vals1 rz
  obtain ⟨xs, e⟩ := rv.ints.allInts.items
  have hn : numsOf (intItems xs).toList = ns := by rw [← e]; exact rv.ints.numsOf
  rw [nums_intItems] at hn
  have hl2 := hl.isList
  rw [e] at hl2
  have hlen : ns.length = xs.size := by rw [← hn, List.length_map, Array.length_toList]
  refine Toy0.mind_call (I.ok.hd hc) hl2 (fun n0 h2 t2 kp => ?_) fun n0 v h2 t2 hv kp => ?_
  · exact ⟨d, H, I.kept kp, e1, q0 (List.eq_nil_of_length_eq_zero (by omega))⟩
  · obtain ⟨t, rfl⟩ := intItems_at hv
    obtain ⟨h1, h3⟩ := argBest_lt (numAt xs) (xs.size - 1)
    refine ⟨.int _, H, I.kept kp, ⟨_, rfl⟩, q _ ?_ fun y hy => ?_⟩
    · rw [← hn, numAt_eq]
      exact PySem.getD_mem (by rw [List.length_map, Array.length_toList]; omega)
    · rw [← hn] at hy
      obtain ⟨j, hj, rfl⟩ := mem_getD hy
      rw [List.length_map, Array.length_toList] at hj
      have := h3 j (by omega)
      rwa [← numAt_eq]
end

section
open PyProof.Rows
/-! ### own rules: set(list of ints), k in that set; enumerate(a tuple) -/
theorem any_firstMet (zs : List Int) (k : Int) : (PyProof.Rows.firstMet (fun i => zs.getD i 0) zs.length).any (· == k) = decide (k ∈ zs) := by
  rw [PyProof.Rows.firstMet_any, Bool.eq_iff_iff, List.any_eq_true, decide_eq_true_iff]
  constructor
  · rintro ⟨y, hy, e⟩
    obtain ⟨i, hi, rfl⟩ := List.mem_map.mp hy
    have hi' : i < zs.length := List.mem_range.mp hi
    have e' : zs.getD i 0 = k := by simpa using e
    rw [← e', List.getD_eq_getElem?_getD, List.getElem?_eq_getElem hi']
    exact List.getElem_mem hi'
  · intro hk
    obtain ⟨i, hi, e⟩ := List.getElem_of_mem hk
    refine ⟨k, List.mem_map.mpr ⟨i, List.mem_range.mpr hi, ?_⟩, by simp⟩
    show zs.getD i 0 = k
    rw [List.getD_eq_getElem?_getD, List.getElem?_eq_getElem hi]
    exact e
/-- set(xs), xs a list of ints -/
def rSetOfL (K : PySem.W.Frag) : List V → Hp → VK → Prop := fun vs H Q => ∃ (l : Addr) (zs : List Int), vs = [V.ref l] ∧ SqL K H l (zs.map V.int) ∧ zs.length ≤ 1000 ∧
  ∀ (p : Addr) (n : Nat), H p = Option.none → Q (.ref p) (upd H p (.set (fun k => decide (k ∈ zs)) n))
theorem cr_set {X : Cx} (calm : X.calm = true) : CallR X (.type "set") (rSetOfL X.K) := by
  intro pins sh σ H vs us Q I rel hyp
  obtain ⟨l, zs, rfl, hl, few, q⟩ := hyp
  rw [Vals.ref1 rel]
  obtain ⟨its, rv, pl, _⟩ := I.list hl
  have isI := ints_of_vals rv
  have same : its.toArray.size = zs.length := by
    have e := rv.length
    rw [List.length_map] at e
    rw [List.size_toArray]
    exact e.symm
  refine PySem.call_set_list (items := its.toArray) (ns := zs) (I.ok.hd calm) pl.isList (by simpa using isI) (by rw [same]; unfold scanBound; omega) fun h' tk S kp => ?_
  have fresh : H sh.heap.objs.size = Option.none := I.hok.fresh (Nat.le_refl _)
  have e : (fun k => (PyProof.Rows.firstMet (fun i => zs.getD i 0) its.toArray.size).any (· == k)) = fun k => decide (k ∈ zs) := by
    funext k
    rw [same]
    exact any_firstMet zs k
  rw [e] at S
  exact ⟨.ref sh.heap.objs.size, upd H sh.heap.objs.size (.set (fun k => decide (k ∈ zs)) _), I.laid (t' := tk) (fun b o ho => kp b o (Heap.lt_size ho) ho) (Nat.le_refl _) S, rfl, q _ _ fresh⟩
/-- k in such a set -/
def rInSt (neg : Bool) : R2 := fun x y H Q => ∃ (k : Int) (b : Addr) (S : Int → Bool) (n : Nat), x = V.int k ∧ y = V.ref b ∧ H b = some (.set S n) ∧ Q (.bl (if neg then !S k else S k)) H
theorem op_in_set {X : Cx} : OpR X (compareOp .In) (rInSt false) := by
  intro pins sh σ H x y v u Q I r1 r2 hyp
  obtain ⟨k, b, S, n, rfl, rfl, hb, q⟩ := hyp
  obtain ⟨tk, rfl⟩ := r1
  cases r2
  have hS : sh.heap.SetOf (intKind X.prog X.w) b S n := I.hok b _ hb
  exact PySem.wpAny_inSet_of (PySem.intKind_is _ _ _ _) rfl hS ⟨.bl (S k), H, I.tok _, rfl, q⟩
/-- the pairs of enumerate over the tuple at a -/
def Itu (K : PySem.W.Frag) (a : Addr) : It where
  go i H := ∃ (ys : List V) (y : V), SqT K H a ys ∧ ys[i]? = some y
  yld i H v H' := ∃ (p : Addr) (y : V), v = .ref p ∧ H p = Option.none ∧ H' = upd H p (.tup [.int (i : Nat), y]) ∧ ∀ ys, SqT K H a ys → ys[i]? = some y
  stop i H := ∃ ys : List V, SqT K H a ys ∧ ys.length = i
theorem turn_enumT {P : Program} {w : World} {K : PySem.W.Frag} {elts : List Expr} {kk : Nat} {tpos : Pos} (a en it : Addr) (na : a ≠ it) (ne : en ≠ it) (nea : en ≠ a) :
    Turn P w K (.Tuple elts kk tpos) (Itu K a) [en, it] en (fun i h => (∃ old, IsEnum h en it ((i : Nat) : Int) old) ∧ h.IsTupleIter it a i) where
  mem := List.mem_cons_self
  obj := by
    rintro i h ⟨⟨old, he⟩, ⟨o, ho, hc, hd⟩⟩ b hb
    rcases List.mem_cons.mp hb with rfl | hb
    · exact ⟨_, he, fun v z => nomatch z⟩
    · rw [List.mem_singleton.mp hb]
      exact ⟨o, ho, fun v z => by rw [hd] at z; cases z⟩
  keep := by
    rintro i h h' ⟨⟨old, he⟩, hi⟩ kp
    exact ⟨⟨old, kp en List.mem_cons_self _ he⟩, hi.at fun o z => kp it (List.mem_cons_of_mem _ List.mem_cons_self) o z⟩
  item := by
    intro X hP hw hK calm i pins sh σ H E I fp st hg
    subst hP hw hK
    obtain ⟨⟨old, he⟩, hit⟩ := st
    obtain ⟨ys, y, hy, hix⟩ := hg
    obtain ⟨its, rv, tp, _⟩ := I.tuple hy
    obtain ⟨u, hu, ru⟩ := rv.get hix
    have hT : sh.heap.IsTuple a its.toArray := tp
    have hlen : i < its.toArray.size := by
      rw [List.size_toArray]
      exact (List.getElem?_eq_some_iff.mp hu).1
    have len : en < sh.heap.objs.size := Heap.lt_size he
    have lit : it < sh.heap.objs.size := by
      obtain ⟨_, z, _⟩ := hit
      exact Heap.lt_size z
    refine wpAny_pyNext_enum_itemD (Draws.tuple (by simp [I.ok.hd calm]) it a na its.toArray) he ⟨hit, hT⟩ hlen ne (by simp [ne, nea]) fun x h' tk hx ho hst hnew hsz kp => ?_
    have ex : x = u := by
      rw [List.getElem?_toArray, hu] at hx
      exact (Option.some.inj hx).symm
    subst ex
    refine ⟨_, rfl, wpAny_letOwnedTupleGo_enum (s := { sh with heap := h', toks := tk + 1 }) ho fun h2 he2 sb => ?_⟩
    have new2 : h2.get? sh.heap.objs.size = some { cls := .type "tuple", data := .seq #[.int i tk, x] } := (sb.2 _ (Nat.ne_of_gt len)).trans hnew
    have okN : ObjOk X.prog X.w (upd H sh.heap.objs.size (.tup [.int (i : Nat), y])) h2 sh.heap.objs.size (.tup [.int (i : Nat), y]) := by
      refine ⟨(by show 2 ≤ sizeLine; decide), [.int i tk, x], .cons ⟨_, rfl⟩ (.cons ru .nil), ?_⟩
      exact ⟨_, new2, rfl, _, rfl⟩
    have I2 : Inv X pins σ (upd H sh.heap.objs.size (.tup [.int (i : Nat), y])) { sh with heap := h2, toks := tk + 1 } := by
      refine I.turnedNew (ch := [en, it]) (fun b ob hb z => ?_) fp (Nat.le_refl _) okN
      have b1 : b ≠ en := fun q => hb (by rw [q]; exact List.mem_cons_self)
      have b2 : b ≠ it := fun q => hb (by rw [q]; exact List.mem_cons_of_mem _ List.mem_cons_self)
      exact (sb.2 b b1).trans (kp b ob b1 b2 z)
    refine ⟨.ref sh.heap.objs.size, _, I2, rfl, ⟨_, y, rfl, I.hok.fresh (Nat.le_refl _), rfl, fun zs hz => ?_⟩, ⟨⟨x, ?_⟩, hst.1.at fun o z => (sb.2 it (Ne.symm ne)).trans z⟩, fun b hb => ?_⟩
    · rw [I.tuple_inj hz hy]
      exact hix
    · have e1 : ((i + 1 : Nat) : Int) = (i : Int) + 1 := by omega
      rw [e1]
      exact he2
    · have lb : b < sh.heap.objs.size := by
        rcases List.mem_cons.mp hb with rfl | hb
        · exact len
        · rw [List.mem_singleton.mp hb]
          exact lit
      rw [upd_ne (Nat.ne_of_lt lb)]
      exact (fp b hb).1
  done := by
    intro X hP hw hK calm i pins sh σ H E I fp st hg
    subst hP hw hK
    obtain ⟨⟨old, he⟩, hit⟩ := st
    obtain ⟨ys, hy, rfl⟩ := hg
    obtain ⟨its, rv, tp, _⟩ := I.tuple hy
    have hT : sh.heap.IsTuple a its.toArray := tp
    have e : ys.length = its.toArray.size := by
      rw [List.size_toArray]
      exact rv.length
    rw [e] at hit
    obtain ⟨g0, g1, g2, g3, g4, g5⟩ := fp it (List.mem_cons_of_mem _ List.mem_cons_self)
    exact wpAny_pyNext_enum_endD (Draws.tuple (by simp [I.ok.hd calm]) it a na its.toArray) he ⟨hit, hT⟩ fun h' eb => ⟨rfl, I.turned (t' := sh.toks) (fun b o hb z => eb b o hb z) g0 g1 g3 g4 g5⟩
  self := by
    rintro A i s Q E ⟨⟨_, he⟩, _⟩ h
    exact wpAny_pyIter_enum he h
theorem meets_enum1 {v : Value} {o : Obj} {Z : Heap → Prop} (B : Begins v o Z) :
    Meets (Builtin.«enumerate.__new__» ⟨[.type "enumerate", v], []⟩) (fun _ R s => Z s.heap ∧
      R (.ok (.ret (.ref (s.heap.push o).objs.size))) { s with heap := (s.heap.push o).push { cls := .type "enumerate", data := .fields #[.none, .bool false, .ref s.heap.objs.size, rawInt 0, .none, .none] } }) :=
  .of_wp fun prog w A R s hyp => by
    obtain ⟨hp, g, d, tk, os⟩ := s
    obtain ⟨hz, hyp⟩ := hyp
    have sube := sub_enumerate
    have step : ∀ {A' : Around} {E' : Value → Shared → Prop} {Q' : Value → Shared → Prop}, Q' (.ref hp.objs.size) ⟨hp.push o, g, d, tk, os⟩ → wpAny (model prog w) A' (pyIter v) Q' E' ⟨hp, g, d, tk, os⟩ :=
      fun z => B.iter prog w _ _ ⟨hp, g, d, tk, os⟩ _ hz z
    wp_walk using step
    refine wpAny_stack_any fun st => wpAny_pure ?_
    split
    · rename_i c _ _ _ _ _
      cases (c == Value.type "enumerate") <;> (wp_walk using step; exact ⟨_, rfl, hyp⟩)
    · wp_walk using step
      exact ⟨_, rfl, hyp⟩
theorem call_enum1 {prog : Program} {w : World} {A : Around} {E : Value → Shared → Prop} {s : Shared} {v : Value} {o : Obj} {Z : Heap → Prop} {Q : Value → Shared → Prop} (B : Begins v o Z) (hz : Z s.heap)
    (fin : ∀ h', IsEnum h' (s.heap.objs.size + 1) s.heap.objs.size 0 .none → h'.get? s.heap.objs.size = some o → (∀ b u, s.heap.get? b = some u → h'.get? b = some u) → Q (.ref (s.heap.objs.size + 1)) { s with heap := h' }) :
    wpAny (model prog w) A (call (.type "enumerate") [v]) Q E s := by
  have size1 : (s.heap.push o).objs.size = s.heap.objs.size + 1 := Heap.size_push ..
  refine callType_new F.called_enumerate (by decide) (F.typeCall_enumerate_1 _) (F.newCall_enumerate_1 _) (fun obj => F.args_object_init_2 obj _) F.entry_enumerate_new (meets_enum1 B) ⟨hz, ?_⟩
  rw [size1]
  have isE : IsEnum ((s.heap.push o).push { cls := .type "enumerate", data := .fields #[.none, .bool false, .ref s.heap.objs.size, rawInt 0, .none, .none] }) (s.heap.objs.size + 1) s.heap.objs.size 0 .none := by
    have z := Heap.get?_push_size (s.heap.push o) (o := { cls := .type "enumerate", data := .fields #[.none, .bool false, .ref s.heap.objs.size, rawInt 0, .none, .none] }) rfl
    rwa [size1] at z
  exact ⟨⟨_, isE, rfl⟩, fin _ isE (Heap.get?_push_of_some _ (Heap.get?_push_size _ B.free)) fun b u z => Heap.get?_push_of_some _ (Heap.get?_push_of_some _ z)⟩
def iEnumT (K : PySem.W.Frag) (ta : TA) : TI := fun σ H R => ta σ H fun vs H1 => ∃ (a : Addr) (ys : List V), vs = [.ref a] ∧ SqT K H1 a ys ∧ R (Itu K a) H1
theorem pi_enumT {X : Cx} {e : Expr} {ta : TA} {p pos tpos : Pos} {elts : List Expr} {kk : Nat} (gl : Gl X "enumerate") (no : X.mg "enumerate" = none) (pa : PA X [e] ta) (plain : starEach [e] X.env = [(false, eval e X.env)] := by rfl) :
    PI X (.Tuple elts kk tpos) (.Call (.Name "enumerate" p) [e] [] pos) (iEnumT X.K ta) := by
  constructor
  intro pins s σ H R I hyp
  refine PyProof.Rows.Call_ (ld_blt I gl no boot_enumerate (PyProof.Rows.callWith_type1 (thn (pa.run pos pins s σ H _ I hyp) fun us s1 got => ?_) plain rfl))
  obtain ⟨vs, H1, I1, rel, a, ys, rfl, hy, q⟩ := got
  rw [Vals.ref1 rel]
  obtain ⟨its, rv, tp, _⟩ := I1.tuple hy
  have hT : s1.heap.IsTuple a its.toArray := tp
  have la : a < s1.heap.objs.size := by
    obtain ⟨_, z, _⟩ := hT
    exact Heap.lt_size z
  refine call_enum1 (begins_tuple a its.toArray) hT fun h' isE hit kp => wpAny_pyIter_enum isE ?_
  have I2 : Inv X pins σ H1 { s1 with heap := h' } := I1.kept (t' := s1.toks) kp
  refine ⟨s1.heap.objs.size + 1, [s1.heap.objs.size + 1, s1.heap.objs.size], _, _, H1, rfl, I2, turn_enumT a (s1.heap.objs.size + 1) s1.heap.objs.size (Nat.ne_of_lt la) (Nat.succ_ne_self _) (Nat.ne_of_gt (Nat.lt_succ_of_lt la)), ⟨⟨.none, isE⟩, _, hit, rfl, rfl⟩, fun b hb => ?_, q⟩
  have le : s1.heap.objs.size ≤ b := by
    rcases List.mem_cons.mp hb with rfl | hb
    · exact Nat.le_succ _
    · rw [List.mem_singleton.mp hb]
      exact Nat.le_refl _
  exact I1.fpOk le (I1.hok.fresh le)
/-- the forms that one uses: a word by the turn -/
theorem for_enumT {K : PySem.W.Frag} {a : Addr} {ys : List V} {g : TG} {tb : TS} {D : Ends} {σ : L2.St} {H : Hp} (Pv : Nat → L2.St → Hp → Prop) (h0 : Pv 0 σ H) (src : ∀ i σ H, i ≤ ys.length → Pv i σ H → SqT K H a ys)
    (turn : ∀ i y σ H p, ys[i]? = some y → Pv i σ H → H p = Option.none → g (.ref p) σ (upd H p (.tup [.int (i : Nat), y])) fun σ2 H2 => tb { D with nx := Pv (i + 1), ct := Pv (i + 1), bk := D.nx } σ2 H2) (fin : ∀ σ H, Pv ys.length σ H → D.nx σ H) :
    ∃ W : Nat → Nat → L2.St → Hp → Prop, (∃ m, W 0 m σ H) ∧ ∀ i m σ H, W i m σ H →
      ((Itu K a).stop i H ∧ D.nx σ H) ∨ ((Itu K a).go i H ∧ ∃ N : L2.St → Hp → Prop, (∀ σ' H', N σ' H' → ∃ m', m' < m ∧ W (i + 1) m' σ' H') ∧ ∀ x H', (Itu K a).yld i H x H' → g x σ H' fun σ2 H2 => tb { D with nx := N, ct := N, bk := D.nx } σ2 H2) := by
  refine ⟨fun i m σ H => m + i = ys.length ∧ Pv i σ H, ⟨ys.length, Nat.add_zero _, h0⟩, ?_⟩
  rintro i m σ H ⟨em, pv⟩
  have s := src i σ H (by omega) pv
  rcases Nat.lt_or_ge i ys.length with lt | ge
  · refine .inr ⟨⟨ys, ys[i], s, List.getElem?_eq_getElem lt⟩, Pv (i + 1), fun σ' H' z => ⟨m - 1, by omega, by omega, z⟩, ?_⟩
    rintro x H' ⟨p, y, rfl, hp, rfl, hy⟩
    exact turn i y σ H p (hy ys s) pv hp
  · have e : i = ys.length := by omega
    subst e
    exact .inl ⟨⟨ys, s, rfl⟩, fin σ H pv⟩
theorem lc_enumT {K : PySem.W.Frag} {a : Addr} {ys : List V} {g : TG} {tt : TT} {te : TE} {vs : List Nat} {σ : L2.St} {H1 : Hp} {D : Addr} {Qd : Hp → Prop} (Pv : Nat → Hp → Prop) (h0 : Pv 0 (upd H1 D (.lst []))) (src : ∀ i H, i ≤ ys.length → Pv i H → SqT K H a ys)
    (turn : ∀ i y H p, ys[i]? = some y → Pv i H → H p = Option.none → g (.ref p) (wipe σ vs) (upd H p (.tup [.int (i : Nat), y])) fun σ2 H2 => wipe σ2 vs = wipe σ vs ∧ tt σ2 H2 fun b H3 =>
      if b = true then te σ2 H3 fun y H4 => ∃ acc, H4 D = some (.lst acc) ∧ acc.length < sizeLine ∧ Pv (i + 1) (upd H4 D (.lst (acc ++ [y]))) else Pv (i + 1) H3) (fin : ∀ H, Pv ys.length H → Qd H) :
    ∃ W : Nat → Nat → Hp → Prop, (∃ m, W 0 m (upd H1 D (.lst []))) ∧ ∀ i m H, W i m H →
      ((Itu K a).stop i H ∧ Qd H) ∨ ((Itu K a).go i H ∧ ∃ Nx : Hp → Prop, (∀ H', Nx H' → ∃ m', m' < m ∧ W (i + 1) m' H') ∧ ∀ x H', (Itu K a).yld i H x H' → g x (wipe σ vs) H' fun σ2 H2 => wipe σ2 vs = wipe σ vs ∧ tt σ2 H2 fun b H3 =>
        if b = true then te σ2 H3 fun y H4 => ∃ acc, H4 D = some (.lst acc) ∧ acc.length < sizeLine ∧ Nx (upd H4 D (.lst (acc ++ [y]))) else Nx H3) := by
  refine ⟨fun i m H => m + i = ys.length ∧ Pv i H, ⟨ys.length, Nat.add_zero _, h0⟩, ?_⟩
  rintro i m H ⟨em, pv⟩
  have s := src i H (by omega) pv
  rcases Nat.lt_or_ge i ys.length with lt | ge
  · refine .inr ⟨⟨ys, ys[i], s, List.getElem?_eq_getElem lt⟩, Pv (i + 1), fun H' z => ⟨m - 1, by omega, by omega, z⟩, ?_⟩
    rintro x H' ⟨p, y, rfl, hp, rfl, hy⟩
    exact turn i y H p (hy ys s) pv hp
  · have e : i = ys.length := by omega
    subst e
    exact .inl ⟨⟨ys, s, rfl⟩, fin H pv⟩
/-- sum(t), t a tuple of ints -/
def rSumT (K : PySem.W.Frag) : List V → Hp → VK → Prop := fun vs H Q => ∃ (a : Addr) (zs : List Int), vs = [V.ref a] ∧ SqT K H a (zs.map V.int) ∧ Q (.int zs.sum) H
theorem cr_sumT {X : Cx} (calm : X.calm = true) : CallR X (.builtin "sum") (rSumT X.K) := by
  intro pins sh σ H vs us Q I rel hyp
  obtain ⟨a, zs, rfl, hz, q⟩ := hyp
  rw [Vals.ref1 rel]
  obtain ⟨its, rv, tp, _⟩ := I.tuple hz
  have hT : sh.heap.IsTuple a its.toArray := tp
  have isI : IntsAre its zs := Vals.ints rv
  obtain ⟨xs, ex⟩ := isI.allInts.items
  have en : numsOf (intItems xs).toList = zs := by
    rw [← ex]
    exact isI.numsOf
  rw [nums_intItems] at en
  rw [ex] at hT
  refine PySem.W.ktm_sumG (I.ok.hd calm) hT fun h' tk t' kp => ?_
  rw [preSum_eq, List.take_of_length_le (by simp), en]
  exact ⟨.int zs.sum, H, I.kept kp, ⟨_, rfl⟩, q⟩
/-- enumerate over a list, by a word -/
theorem for_enumL {K : PySem.W.Frag} {a : Addr} {ys : List V} {g : TG} {tb : TS} {D : Ends} {σ : L2.St} {H : Hp} (Pv : Nat → L2.St → Hp → Prop) (h0 : Pv 0 σ H) (src : ∀ i σ H, i ≤ ys.length → Pv i σ H → SqL K H a ys)
    (turn : ∀ i y σ H p, ys[i]? = some y → Pv i σ H → H p = Option.none → g (.ref p) σ (upd H p (.tup [.int (i : Nat), y])) fun σ2 H2 => tb { D with nx := Pv (i + 1), ct := Pv (i + 1), bk := D.nx } σ2 H2) (fin : ∀ σ H, Pv ys.length σ H → D.nx σ H) :
    ∃ W : Nat → Nat → L2.St → Hp → Prop, (∃ m, W 0 m σ H) ∧ ∀ i m σ H, W i m σ H →
      ((Ite K a).stop i H ∧ D.nx σ H) ∨ ((Ite K a).go i H ∧ ∃ N : L2.St → Hp → Prop, (∀ σ' H', N σ' H' → ∃ m', m' < m ∧ W (i + 1) m' σ' H') ∧ ∀ x H', (Ite K a).yld i H x H' → g x σ H' fun σ2 H2 => tb { D with nx := N, ct := N, bk := D.nx } σ2 H2) := by
  refine ⟨fun i m σ H => m + i = ys.length ∧ Pv i σ H, ⟨ys.length, Nat.add_zero _, h0⟩, ?_⟩
  rintro i m σ H ⟨em, pv⟩
  have s := src i σ H (by omega) pv
  rcases Nat.lt_or_ge i ys.length with lt | ge
  · refine .inr ⟨⟨ys, ys[i], s, List.getElem?_eq_getElem lt⟩, Pv (i + 1), fun σ' H' z => ⟨m - 1, by omega, by omega, z⟩, ?_⟩
    rintro x H' ⟨p, y, rfl, hp, rfl, hy⟩
    exact turn i y σ H p (hy ys s) pv hp
  · have e : i = ys.length := by omega
    subst e
    exact .inl ⟨⟨ys, s, Nat.le_refl _⟩, fin σ H pv⟩
/-- k in xs, xs a list of ints -/
theorem inV_ints (zs : List Int) (k : Int) : inV (V.int k) (zs.map V.int) = decide (k ∈ zs) := by
  induction zs with
  | nil => rfl
  | cons a r ih =>
    have e : inV (V.int k) ((a :: r).map V.int) = (eqV (V.int a) (V.int k) || inV (V.int k) (r.map V.int)) := rfl
    rw [e, ih]
    by_cases h : a = k
    · subst h
      simp [eqV]
    · have h' : ¬ k = a := fun z => h z.symm
      simp [eqV, h, h']
theorem flat_ints (zs : List Int) : (zs.map V.int).all flatV = true := by
  rw [List.all_eq_true]
  intro x hx
  obtain ⟨z, _, rfl⟩ := List.mem_map.mp hx
  rfl
end

/-! ### the data: a statement as the tuple that it is -/
inductive Kd where
  | prop | pre | com
  deriving DecidableEq
def Kd.s : Kd → Str
  | .prop => "proposal"
  | .pre => "prevote"
  | .com => "precommit"
structure Sm where
  k : Kd
  h : Int
  t : Int
  b : Option Str
  l : Option Int
def oS : Option Str → V
  | none => .non
  | some x => .str x
def oI : Option Int → V
  | none => .non
  | some x => .int x
def Sm.vals (m : Sm) : List V := match m.k with
  | .pre => [.str m.k.s, .int m.h, .int m.t, oS m.b, oI m.l]
  | _ => [.str m.k.s, .int m.h, .int m.t, oS m.b]
def SmAt (H : Hp) (p : Addr) (m : Sm) : Prop := H p = some (.tup m.vals)
theorem at0 (m : Sm) : atI m.vals 0 = some (.str m.k.s) := by
  cases m with | mk k h t b l => cases k <;> rfl
theorem at1 (m : Sm) : atI m.vals 1 = some (.int m.h) := by
  cases m with | mk k h t b l => cases k <;> rfl
theorem at2 (m : Sm) : atI m.vals 2 = some (.int m.t) := by
  cases m with | mk k h t b l => cases k <;> rfl
theorem at3 (m : Sm) : atI m.vals 3 = some (oS m.b) := by
  cases m with | mk k h t b l => cases k <;> rfl
theorem at4 (m : Sm) (e : m.k = .pre) : atI m.vals 4 = some (oI m.l) := by
  cases m with | mk k h t b l => cases k <;> first | rfl | cases e
theorem ks_pp : ¬ (("proposal" : Str) = "prevote") := by decide +kernel
theorem ks_pc : ¬ (("proposal" : Str) = "precommit") := by decide +kernel
theorem ks_vc : ¬ (("prevote" : Str) = "precommit") := by decide +kernel
theorem ks_vp : ¬ (("prevote" : Str) = "proposal") := fun e => ks_pp e.symm
theorem ks_cp : ¬ (("precommit" : Str) = "proposal") := fun e => ks_pc e.symm
theorem ks_cv : ¬ (("precommit" : Str) = "prevote") := fun e => ks_vc e.symm
theorem kd_inj (a b : Kd) : a.s = b.s ↔ a = b := by
  cases a <;> cases b <;> simp [Kd.s, ks_pp, ks_pc, ks_vc, ks_vp, ks_cp, ks_cv]
theorem dec_kd (a b : Kd) : decide (V.str a.s = V.str b.s) = decide (a = b) := by
  rw [Bool.eq_iff_iff, decide_eq_true_iff, decide_eq_true_iff]
  constructor
  · intro e
    injection e with e
    exact (kd_inj a b).mp e
  · intro e
    rw [e]
theorem kprop (a : Kd) : (V.str a.s = V.str "proposal") = (a = .prop) := propext (by simpa [Kd.s] using decide_eq_decide.mp (dec_kd a .prop))
theorem kpre (a : Kd) : (V.str a.s = V.str "prevote") = (a = .pre) := propext (by simpa [Kd.s] using decide_eq_decide.mp (dec_kd a .pre))
theorem kcom (a : Kd) : (V.str a.s = V.str "precommit") = (a = .com) := propext (by simpa [Kd.s] using decide_eq_decide.mp (dec_kd a .com))
theorem koS (a b : Option Str) : (oS a = oS b) = (a = b) := propext (by
  cases a <;> cases b <;> simp [oS])
theorem koSn (a : Option Str) : (oS a = V.non) = (a = none) := koS a none
theorem koIn (a : Option Int) : (oI a = V.non) = (a = none) := by cases a <;> simp [oI]
theorem dec_oS (a b : Option Str) : decide (oS a = oS b) = decide (a = b) := by
  rw [Bool.eq_iff_iff, decide_eq_true_iff, decide_eq_true_iff]
  constructor
  · intro e
    cases a <;> cases b <;> first | rfl | cases e
    rfl
  · intro e
    rw [e]
theorem dec_oSn (a : Option Str) : decide (oS a = V.non) = decide (a = none) := dec_oS a none
theorem dec_oIn (a : Option Int) : decide (oI a = V.non) = decide (a = none) := by
  cases a <;> rfl
theorem scal_oS (a b : Option Str) : scal (oS a) (oS b) = true := by
  cases a <;> cases b <;> rfl
/-! ### the mirror -/
def abandM (x y : Sm) : Bool :=
  if x.k = .com ∧ y.k = .pre ∧ x.b ≠ none ∧ y.b ≠ none ∧ x.b ≠ y.b ∧ x.t < y.t then (match y.l with | none => true | some l => decide (l < x.t)) else false
def clashM (x y : Sm) : Bool :=
  if x.h ≠ y.h then false
  else if x.k = y.k then (decide (x.k ≠ .prop) && (decide (x.t = y.t) && decide (x.b ≠ y.b)))
  else (abandM x y || abandM y x)
theorem clashM_comm (x y : Sm) : clashM x y = clashM y x := by
  unfold clashM
  by_cases h1 : x.h = y.h
  · by_cases h2 : x.k = y.k
    · simp only [h1, h2, ne_eq, not_true_eq_false, if_false, if_true]
      congr 1
      congr 1
      · exact decide_eq_decide.mpr ⟨Eq.symm, Eq.symm⟩
      · exact decide_eq_decide.mpr ⟨Ne.symm, Ne.symm⟩
    · have h3 : ¬ y.k = x.k := fun e => h2 e.symm
      simp only [h1, h2, h3, ne_eq, not_true_eq_false, if_false, Bool.or_comm]
  · have h3 : ¬ y.h = x.h := fun e => h1 e.symm
    simp only [h1, h3, ne_eq, not_false_eq_true, if_true]
def OkS (b : Option Str) : Prop := ∀ x, b = some x → PyData.strOk x = true
theorem okA : OkS (some "a") := fun x e => by
  cases e
  decide +kernel
theorem okB : OkS (some "b") := fun x e => by
  cases e
  decide +kernel
theorem okN : OkS none := fun x e => nomatch e
theorem pick5 {i : Int} (h0 : 0 ≤ i) (h5 : i < 5) : ∃ b : Option Str, atI [V.str "a", V.str "b", V.str "a", V.str "b", V.non] i = some (oS b) ∧ OkS b := by
  have h : i = 0 ∨ i = 1 ∨ i = 2 ∨ i = 3 ∨ i = 4 := by omega
  rcases h with rfl | rfl | rfl | rfl | rfl
  · exact ⟨some "a", rfl, okA⟩
  · exact ⟨some "b", rfl, okB⟩
  · exact ⟨some "a", rfl, okA⟩
  · exact ⟨some "b", rfl, okB⟩
  · exact ⟨none, rfl, okN⟩
def Sm.dat (m : Sm) : List PyData := match m.k with
  | .pre => [.str m.k.s, .int m.h, .int m.t, (match m.b with | none => .none | some x => .str x), (match m.l with | none => .none | some x => .int x)]
  | _ => [.str m.k.s, .int m.h, .int m.t, (match m.b with | none => .none | some x => .str x)]
theorem dp_oS {K : PySem.W.Frag} {H : Hp} (b : Option Str) : Dp K H (oS b) (match b with | none => .none | some x => .str x) := by
  cases b with
  | none => exact .non
  | some x => exact .str x
theorem dp_oI {K : PySem.W.Frag} {H : Hp} (b : Option Int) : Dp K H (oI b) (match b with | none => .none | some x => .int x) := by
  cases b with
  | none => exact .non
  | some x => exact .int x
theorem dp_sm {K : PySem.W.Frag} {H : Hp} {p : Addr} {m : Sm} (h : H p = some (.tup m.vals)) : Dp K H (.ref p) (.tuple m.dat) := by
  refine .tup (SqT.of h) ?_
  obtain ⟨mk, mh, mt, mb, ml⟩ := m
  cases mk
  · exact .cons (.str _) (.cons (.int _) (.cons (.int _) (.cons (dp_oS _) .nil)))
  · exact .cons (.str _) (.cons (.int _) (.cons (.int _) (.cons (dp_oS _) (.cons (dp_oI _) .nil))))
  · exact .cons (.str _) (.cons (.int _) (.cons (.int _) (.cons (dp_oS _) .nil)))
theorem ks_ok (k : Kd) : PyData.strOk k.s = true := by
  cases k <;> decide +kernel
theorem shaped_sm (m : Sm) (o : OkS m.b) : SeqAt.shaped (.tuple m.dat) = true := by
  obtain ⟨mk, mh, mt, mb, ml⟩ := m
  cases mk <;> cases mb <;> cases ml <;> simp [Sm.dat, SeqAt.shaped, PyData.canLay0, PyData.canLayAll0, PyData.depth, PyData.depthAll, ks_ok] <;> exact o _ rfl
theorem eqv_sm (m : Sm) (o : OkS m.b) : PyData.eqv (.tuple m.dat) (.tuple m.dat) = true := SeqAt.eqv_refl _ (by
  obtain ⟨mk, mh, mt, mb, ml⟩ := m
  cases mk <;> cases mb <;> cases ml <;> simp [Sm.dat, PyData.canLay0, PyData.canLayAll0, ks_ok] <;> exact o _ rfl)
def spVote (K : PySem.W.Frag) : Sp := fun vs H Q _ => ∃ (p : Addr) (m : Sm), vs = [.ref p] ∧ SmAt H p m ∧ ∀ H', Same H H' → Q (.bl (decide (m.k ≠ .prop))) H'
def spAband (K : PySem.W.Frag) : Sp := fun vs H Q _ => ∃ (p q : Addr) (m n : Sm), vs = [.ref p, .ref q] ∧ SmAt H p m ∧ SmAt H q n ∧ ∀ H', Same H H' → Q (.bl (abandM m n)) H'
def spClash (K : PySem.W.Frag) : Sp := fun vs H Q _ => ∃ (p q : Addr) (m n : Sm), vs = [.ref p, .ref q] ∧ SmAt H p m ∧ SmAt H q n ∧ ∀ H', Same H H' → Q (.bl (clashM m n)) H'

/-! ### letters, lists of letters, what is due -/
structure Lt where
  w : Int
  m : Sm
instance : Inhabited Lt := ⟨⟨0, ⟨.prop, 0, 0, none, none⟩⟩⟩
def LtAt (H : Hp) (p : Addr) (x : Lt) : Prop := ∃ q, H p = some (.tup [.int x.w, .ref q]) ∧ SmAt H q x.m
theorem LtAt.same {H H' : Hp} {p : Addr} {x : Lt} (h : LtAt H p x) (s : Same H H') : LtAt H' p x := by
  obtain ⟨q, h1, h2⟩ := h
  exact ⟨q, s _ _ h1, s _ _ h2⟩
theorem ne_lst {H : Hp} {p l : Addr} {xs ys : List V} (h : H p = some (.tup xs)) (hl : H l = some (.lst ys)) : p ≠ l := fun e => by
  rw [e, hl] at h
  cases h
theorem LtAt.upd {H : Hp} {p l : Addr} {x : Lt} {ys : List V} {o : HO} (h : LtAt H p x) (hl : H l = some (.lst ys)) : LtAt (upd H l o) p x := by
  obtain ⟨q, h1, h2⟩ := h
  have h2' : H q = some (.tup x.m.vals) := h2
  refine ⟨q, ?_, ?_⟩
  · rw [upd_ne (ne_lst h1 hl)]
    exact h1
  · unfold SmAt
    rw [upd_ne (ne_lst h2' hl)]
    exact h2
def LsAt (H : Hp) (ps : List Addr) (xs : List Lt) : Prop := ps.length = xs.length ∧ ∀ i, i < xs.length → LtAt H (ps.getD i 0) (xs.getD i default)
theorem LsAt.nil {H : Hp} : LsAt H [] [] := ⟨rfl, fun i h => absurd h (Nat.not_lt_zero i)⟩
theorem LsAt.same {H H' : Hp} {ps : List Addr} {xs : List Lt} (h : LsAt H ps xs) (s : Same H H') : LsAt H' ps xs := ⟨h.1, fun i hi => (h.2 i hi).same s⟩
theorem LsAt.upd {H : Hp} {ps : List Addr} {xs : List Lt} {l : Addr} {ys : List V} {o : HO} (h : LsAt H ps xs) (hl : H l = some (.lst ys)) : LsAt (upd H l o) ps xs := ⟨h.1, fun i hi => (h.2 i hi).upd hl⟩
theorem getD_left {α : Type} {d : α} {xs ys : List α} {i : Nat} (h : i < xs.length) : (xs ++ ys).getD i d = xs.getD i d := by
  rw [List.getD_eq_getElem?_getD, List.getD_eq_getElem?_getD, List.getElem?_append_left h]
theorem getD_last {α : Type} {d : α} {xs : List α} {x : α} : (xs ++ [x]).getD xs.length d = x := by
  rw [List.getD_eq_getElem?_getD, List.getElem?_append_right (Nat.le_refl _), Nat.sub_self]
  rfl
theorem LsAt.snoc {H : Hp} {ps : List Addr} {xs : List Lt} {p : Addr} {x : Lt} (h : LsAt H ps xs) (e : LtAt H p x) : LsAt H (ps ++ [p]) (xs ++ [x]) := by
  refine ⟨by rw [List.length_append, List.length_append, h.1]; rfl, fun i hi => ?_⟩
  rw [List.length_append, List.length_singleton] at hi
  rcases Nat.lt_or_ge i xs.length with z | z
  · rw [getD_left (by rw [h.1]; exact z), getD_left z]
    exact h.2 i z
  · have ei : i = xs.length := by omega
    subst ei
    rw [getD_last]
    have : (ps ++ [p]).getD xs.length 0 = p := by rw [← h.1, getD_last]
    rw [this]
    exact e
theorem at_refs {ps : List Addr} {i : Nat} (h : i < ps.length) : (ps.map V.ref)[i]? = some (.ref (ps.getD i 0)) := by
  rw [List.getElem?_map, List.getD_eq_getElem?_getD, List.getElem?_eq_getElem h]
  rfl
def ownOf (xs : List Lt) (who : Int) : List Lt := xs.filter fun x => decide (x.w = who)
theorem take_succ_getD {α : Type} {d : α} {xs : List α} {i : Nat} (h : i < xs.length) : xs.take (i + 1) = xs.take i ++ [xs.getD i d] := by
  rw [List.take_add_one, List.getElem?_eq_getElem h, List.getD_eq_getElem?_getD, List.getElem?_eq_getElem h]
  rfl
theorem own_yes {xs : List Lt} {who : Int} {i : Nat} (h : i < xs.length) (e : (xs.getD i default).w = who) : ownOf (xs.take (i + 1)) who = ownOf (xs.take i) who ++ [xs.getD i default] := by
  unfold ownOf
  rw [take_succ_getD (d := default) h, List.filter_append, List.filter_cons_of_pos (by exact decide_eq_true e)]
  rfl
theorem own_no {xs : List Lt} {who : Int} {i : Nat} (h : i < xs.length) (e : ¬ (xs.getD i default).w = who) : ownOf (xs.take (i + 1)) who = ownOf (xs.take i) who := by
  unfold ownOf
  rw [take_succ_getD (d := default) h, List.filter_append, List.filter_cons_of_neg (by simpa using e), List.filter_nil, List.append_nil]
theorem own_len (xs : List Lt) (who : Int) : (ownOf xs who).length ≤ xs.length := List.length_filter_le _ _
theorem own_mem {xs : List Lt} {who : Int} {x : Lt} (h : x ∈ ownOf xs who) : x ∈ xs ∧ x.w = who := by
  unfold ownOf at h
  rw [List.mem_filter] at h
  exact ⟨h.1, of_decide_eq_true h.2⟩
theorem getD_mem2 {α : Type} {d : α} {xs : List α} {i : Nat} (h : i < xs.length) : xs.getD i d ∈ xs := by
  rw [List.getD_eq_getElem?_getD, List.getElem?_eq_getElem h]
  exact List.getElem_mem h
/-- the first letter before place n with which the one at place a clashes -/
def rowDue (own : List Lt) (a : Nat) : Nat → Option (Lt × Lt)
  | 0 => none
  | n + 1 => match rowDue own a n with
    | some r => some r
    | none => if clashM (own.getD n default).m (own.getD a default).m then some (own.getD n default, own.getD a default) else none
def colDue (own : List Lt) : Nat → Option (Lt × Lt)
  | 0 => none
  | n + 1 => match colDue own n with
    | some r => some r
    | none => rowDue own n n
def due (own : List Lt) : Option (Lt × Lt) := colDue own own.length
theorem row_mono {own : List Lt} {a i : Nat} {r : Lt × Lt} (h : rowDue own a i = some r) : ∀ d, rowDue own a (i + d) = some r
  | 0 => h
  | d + 1 => by
    show rowDue own a (i + d + 1) = some r
    rw [rowDue, row_mono h d]
theorem col_mono {own : List Lt} {i : Nat} {r : Lt × Lt} (h : colDue own i = some r) : ∀ d, colDue own (i + d) = some r
  | 0 => h
  | d + 1 => by
    show colDue own (i + d + 1) = some r
    rw [colDue, col_mono h d]
theorem row_no {own : List Lt} {a n : Nat} (h : rowDue own a n = none) (c : clashM (own.getD n default).m (own.getD a default).m = false) : rowDue own a (n + 1) = none := by
  rw [rowDue, h]
  show (if _ then _ else _) = _
  rw [c]
  rfl
theorem due_at {own : List Lt} {a n : Nat} (ha : a < own.length) (hn : n < a) (hc : colDue own a = none) (h : rowDue own a n = none) (c : clashM (own.getD n default).m (own.getD a default).m = true) :
    due own = some (own.getD n default, own.getD a default) := by
  have h1 : rowDue own a (n + 1) = some (own.getD n default, own.getD a default) := by
    rw [rowDue, h]
    show (if _ then _ else _) = _
    rw [c]
    rfl
  have h2 : rowDue own a a = some (own.getD n default, own.getD a default) := by
    have := row_mono h1 (a - (n + 1))
    rwa [Nat.add_sub_cancel' hn] at this
  have h3 : colDue own (a + 1) = some (own.getD n default, own.getD a default) := by
    rw [colDue, hc]
    exact h2
  have := col_mono h3 (own.length - (a + 1))
  rw [Nat.add_sub_cancel' ha] at this
  exact this
theorem col_no {own : List Lt} {a : Nat} (hc : colDue own a = none) (h : rowDue own a a = none) : colDue own (a + 1) = none := by
  rw [colDue, hc]
  exact h
theorem row_ok {own : List Lt} {a : Nat} (ha : a < own.length) : ∀ n, n ≤ own.length → ∀ f s, rowDue own a n = some (f, s) → f ∈ own ∧ s ∈ own ∧ clashM f.m s.m = true
  | 0, _, f, s, h => nomatch h
  | n + 1, hn, f, s, h => by
    rw [rowDue] at h
    split at h
    · rename_i r e
      cases h
      exact row_ok ha n (Nat.le_of_lt hn) f s e
    · split at h
      · rename_i c
        cases h
        exact ⟨getD_mem2 hn, getD_mem2 ha, c⟩
      · cases h
theorem col_ok {own : List Lt} : ∀ n, n ≤ own.length → ∀ f s, colDue own n = some (f, s) → f ∈ own ∧ s ∈ own ∧ clashM f.m s.m = true
  | 0, _, f, s, h => nomatch h
  | n + 1, hn, f, s, h => by
    rw [colDue] at h
    split at h
    · rename_i r e
      cases h
      exact col_ok n (Nat.le_of_lt hn) f s e
    · exact row_ok hn n (Nat.le_of_lt hn) f s h
theorem due_ok {own : List Lt} {f s : Lt} (h : due own = some (f, s)) : f ∈ own ∧ s ∈ own ∧ clashM f.m s.m = true := col_ok _ (Nat.le_refl _) f s h
def DueAt (H : Hp) (v : V) : Option (Lt × Lt) → Prop
  | none => v = .non
  | some r => ∃ p a b, v = .ref p ∧ H p = some (.tup [.ref a, .ref b]) ∧ LtAt H a r.1 ∧ LtAt H b r.2
def OkL (xs : List Lt) : Prop := ∀ x ∈ xs, OkS x.m.b
def Lt.dat (x : Lt) : PyData := .tuple [.int x.w, .tuple x.m.dat]
theorem dp_lt {K : PySem.W.Frag} {H : Hp} {p : Addr} {x : Lt} (h : LtAt H p x) : Dp K H (.ref p) x.dat := by
  obtain ⟨q, h1, h2⟩ := h
  exact .tup (SqT.of h1) (.cons (.int _) (.cons (dp_sm h2) .nil))
theorem lay_sm (m : Sm) (o : OkS m.b) : PyData.canLay0 (.tuple m.dat) = true := by
  have h := shaped_sm m o
  exact (Bool.and_eq_true_iff.mp h).1
theorem depth_sm (m : Sm) : PyData.depth (.tuple m.dat) = 1 := by
  obtain ⟨mk, mh, mt, mb, ml⟩ := m
  cases mk <;> cases mb <;> cases ml <;> simp [Sm.dat, PyData.depth, PyData.depthAll]
theorem lay_lt {x : Lt} (o : OkS x.m.b) : PyData.canLay0 x.dat = true := by
  simp only [Lt.dat, PyData.canLay0, PyData.canLayAll0, Bool.true_and, Bool.and_true]
  exact lay_sm x.m o
theorem depth_lt (x : Lt) : PyData.depth x.dat = 2 := by
  have h := depth_sm x.m
  simp only [Lt.dat, PyData.depth, PyData.depthAll] at h ⊢
  omega
theorem shaped_lt {x : Lt} (o : OkS x.m.b) : SeqAt.shaped x.dat = true := by
  unfold SeqAt.shaped
  rw [lay_lt o, depth_lt]
  rfl
theorem eqv_lt {x : Lt} (o : OkS x.m.b) : PyData.eqv x.dat x.dat = true := SeqAt.eqv_refl _ (lay_lt o)
theorem LsAt.cons {H : Hp} {p : Addr} {ps : List Addr} {x : Lt} {xs : List Lt} (h : LsAt H (p :: ps) (x :: xs)) : LtAt H p x ∧ LsAt H ps xs :=
  ⟨h.2 0 (Nat.succ_pos _), Nat.succ.inj h.1, fun i hi => h.2 (i + 1) (Nat.succ_lt_succ hi)⟩
theorem dp_lts {K : PySem.W.Frag} {H : Hp} : ∀ {ps : List Addr} {xs : List Lt}, LsAt H ps xs → DpAll K H (ps.map V.ref) (xs.map Lt.dat)
  | [], [], _ => .nil
  | p :: ps, x :: xs, h => .cons (dp_lt h.cons.1) (dp_lts h.cons.2)
  | [], x :: xs, h => nomatch h.1
  | p :: ps, [], h => nomatch h.1
theorem lay_lts : ∀ {xs : List Lt}, OkL xs → PyData.canLayAll0 (xs.map Lt.dat) = true
  | [], _ => by simp [PyData.canLayAll0]
  | x :: xs, o => by
    simp only [List.map_cons, PyData.canLayAll0]
    rw [lay_lt (o x List.mem_cons_self), lay_lts fun y hy => o y (List.mem_cons_of_mem _ hy)]
    rfl
theorem depth_lts : ∀ xs : List Lt, PyData.depthAll (xs.map Lt.dat) ≤ 2
  | [] => by simp [PyData.depthAll]
  | x :: xs => by
    have := depth_lts xs
    have := depth_lt x
    simp only [List.map_cons, PyData.depthAll]
    omega
theorem shaped_lts {xs : List Lt} (o : OkL xs) : SeqAt.shaped (.list (xs.map Lt.dat)) = true := by
  have h := depth_lts xs
  unfold SeqAt.shaped
  have e : PyData.depth (.list (xs.map Lt.dat)) = PyData.depthAll (xs.map Lt.dat) + 1 := by simp only [PyData.depth]
  have l : PyData.canLay0 (.list (xs.map Lt.dat)) = true := by simp only [PyData.canLay0, lay_lts o]
  rw [l, e, decide_eq_true (show PyData.depthAll (xs.map Lt.dat) + 1 ≤ 64 by omega)]
  rfl
theorem eqv_lts {xs : List Lt} (o : OkL xs) : PyData.eqv (.list (xs.map Lt.dat)) (.list (xs.map Lt.dat)) = true := SeqAt.eqv_refl _ (by
  simp only [PyData.canLay0, lay_lts o])

/-! ### an own error over ValueError whose __init__(self, x) says super().__init__(a message) and self.field = x -/
section
open PySem.W (ksEnv ksFn ks_superIn kxs_mw)
/-- the context of such an __init__ -/
def cxSup (CX : CXT) (P : Program) (w : World) (K : PySem.W.Frag) (mg : Str → Option Value) (base : Heap) (N : List Str) (qual : Str) (scope : Scope) (f : Addr) (cd : Value) (cc : Addr) (A : Around) (outer : List Env) (s : Shared) (H : Hp) (E : XK) : Cx where
  prog := P
  w := w
  K := K
  mg := mg
  base := base
  A := A.deeper (ksEnv qual scope s.heap.objs.size f cd cc)
  N := N
  s_0 := s
  H_0 := H
  env := ksEnv qual scope s.heap.objs.size f cd cc
  outer := outer
  stack := ksEnv qual scope s.heap.objs.size f cd cc :: outer
  ex := []
  fn := fun _ => false
  calm := true
  pn := []
  xe := fun e s' => wpAny (model P w) (A.deeper (ksEnv qual scope s.heap.objs.size f cd cc)) (leaving (ksEnv qual scope s.heap.objs.size f cd cc) e) (fun _ s2 => CX outer H s E e s2) (fun e2 s2 => CX outer H s E e2 s2) s'
/-- what the written part says of the class at C and of its __init__ at f -/
structure SupCls (P : Program) (K : PySem.W.Frag) (C : Addr) (qual par fld : Str) (st : Stmt) (f : Addr) (fd : FuncData) : Prop where
  fn : ∃ (oc od : _) (kV doc pm : Value) (an : Option Addr) (cda : Addr) (ct : Value) (osl : Array (Option Value)) (cc : Addr) (cl : Value) (cld : Option Addr) (csl : Array (Option Value)) (ccl : Value) (cdd : Option Addr) (vs : Array Value) (ccs : Array (Option Value)) (file : Str) (tf : Tok),
    fd = ksFn "__init__" qual (defArgs st) (defBody st) (defScope st) .none kV doc pm an (.ref cda) ct cc ∧ K.lookup f = some ⟨oc, od, .func fd, osl⟩ ∧ PySem.W.codeIn K (.ref cda) qual = true ∧
    K.lookup cc = some ⟨cl, cld, .cell (some (.ref C)), csl⟩ ∧ K.lookup cda = some ⟨ccl, cdd, .fields vs, ccs⟩ ∧ vs[2]? = some (.str file tf) ∧ ((P.main.file : Str) == file) = true
  oex : OexC K C
  sup : ks_superIn K C C "__init__" = some (some (.builtin "ValueError.__init__"))
  opq : PySem.W.nsIn K cStatics "thirdparty.any" = some none
  subV : PySem.W.subIn K (.ref C) (.type "ValueError") = some true
  mroC : PySem.W.mroIn K C (.ref C) = some true
  nof : PySem.W.findIn K (.ref C) fld = some none
  topS : (P.main.scope.names.lookup ("super" : Str)).isSome = false
/-- the shape of the text -/
structure SupTxt (par fld : Str) (st : Stmt) (msg : Expr) (p0 p1 p2 p3 p4 p5 p6 p7 p8 : Pos) : Prop where
  body : defBody st = [.Expr (.Call (.Attribute (.Call (.Name "super" p0) [] [] p1) "__init__" p2) [msg] [] p3) p4, .Assign [.Attribute (.Name "self" p5) fld p6] (.Name par p7) p8]
  kind : (defScope st).kind = .function
  co : (defScope st).isCoroutine = false
  gen : (defScope st).isGenerator = false
  s1 : (defScope st).names.lookup ("self" : Str) = some .local
  s2 : (defScope st).names.lookup par = some .local
  s3 : (defScope st).names.lookup ("__class__" : Str) = some .free
  s4 : (defScope st).names.lookup ("super" : Str) = some .globalImplicit
  only : ∀ y ∈ (defScope st).names, y.2 ≠ .cell ∧ (y.2 = .free → y.1 = "__class__")
  ps : ∃ ar, ((defArgs st).posonlyargs ++ (defArgs st).args).head? = some ar ∧ ar.arg = "self"
theorem inv_sup {CX : CXT} {P : Program} {w : World} {K : PySem.W.Frag} {mg : Str → Option Value} {base : Heap} {par qual : Str} {scope : Scope} {f cc : Addr} {cd : Value} {A : Around} {outer : List Env} {s : Shared} {h1 : Heap} {H : Hp} {E : XK} {u0 u1 : Value} {v0 v1 : V} {tk : Nat} {D : Value}
    (kind : scope.kind = .function) (only : ∀ y ∈ scope.names, y.2 ≠ .cell ∧ (y.2 = .free → y.1 = ("__class__" : Str))) (l1 : scope.names.lookup ("self" : Str) = some .local) (l2 : scope.names.lookup par = some .local) (np : ¬ ("self" : Str) = par)
    (hd : A.handled = none) (e0 : Env0 P w K mg base A outer s H) (r0 : RelV v0 u0) (r1 : RelV v1 u1)
    (cell : s.heap.IsCell cc (some D)) (free : H cc = Option.none) (small : cc < s.heap.objs.size)
    (ns : h1.Ns s.heap.objs.size (fun x => [(par, u1), (("self" : Str), u0)].lookup x)) (kp : ∀ b o, s.heap.get? b = some o → h1.get? b = some o) :
    L2.Inv (cxSup CX P w K mg base ["self", par] qual scope f cd cc A outer s H E) [] (start ["self", par] [v0, v1]) H { s with heap := h1, toks := tk } := by
  have one : ∀ (x : Str) (c : Addr), (ksEnv qual scope s.heap.objs.size f cd cc).cells.lookup x = some c → x = "__class__" ∧ c = cc := fun x c e => by
    have e' : [(("__class__" : Str), cc)].lookup x = some c := e
    by_cases z : x = "__class__"
    · subst z
      exact ⟨rfl, (Option.some.inj ((show some cc = some c from by simpa [List.lookup] using e'))).symm⟩
    · have b : (x == ("__class__" : Str)) = false := by simpa using z
      simp [List.lookup, b] at e'
  have noA : ∀ b : Addr, b ∉ (cxSup CX P w K mg base ["self", par] qual scope f cd cc A outer s H E).ex := fun b z => absurd (show b ∈ ([] : List Addr) from z) (by simp)
  have ok : (cxSup CX P w K mg base ["self", par] qual scope f cd cc A outer s H E).Ok := {
    mod := e0.mod
    kind := kind
    glob := rfl
    blt := rfl
    above := Nat.le_refl _
    inj := fun x y c h1 h2 => (one x c h1).1.trans (one y c h2).1.symm
    has := fun x hx => by
      have hx' : scope.names.lookup x = some .cell ∨ scope.names.lookup x = some .free := hx
      rcases hx' with hx' | hx'
      · exact absurd rfl (only _ (PySem.mem_of_lookup hx')).1
      · have e : x = "__class__" := (only _ (PySem.mem_of_lookup hx')).2 rfl
        subst e
        exact ⟨cc, rfl⟩
    cab := fun x c h => Bool.noConfusion h
    hd := fun _ => hd
    frames := Around.frames_deeper e0.frames
    stk := .inr ⟨rfl, rfl⟩
    exf := fun b z => absurd z (noA b)
    bs := e0.bs
    bsz := e0.bsz
    noex := fun b _ _ => noA b
    exfs := fun b z => absurd z (noA b)
    funs := e0.funs
    frf := e0.frf }
  exact {
    ok := ok
    os := rfl
    bare := e0.bare
    base := Un.kept kp
    loc := ⟨_, ns, fun i x v h1 h2 h3 => by
      match i, h1, h2 with
      | 0, h1, h2 =>
        cases h1
        cases h2
        refine ⟨u0, r0, .inl ⟨l1, ?_⟩⟩
        show [(par, u1), (("self" : Str), u0)].lookup ("self" : Str) = some u0
        have b : (("self" : Str) == par) = false := by simpa using np
        simp [List.lookup, b]
      | 1, h1, h2 =>
        cases h1
        cases h2
        refine ⟨u1, r1, .inl ⟨l2, ?_⟩⟩
        show (match par == par with | true => some u1 | false => [(("self" : Str), u0)].lookup par) = some u1
        rw [beq_self_eq_true]
      | i + 2, h1, h2 =>
        have h3 : (["self", par] : List Str)[i + 2]? = some x := h1
        simp at h3⟩
    cell := fun x c e => by
      obtain ⟨_, rfl⟩ := one x c e
      obtain ⟨o, ho, hc⟩ := cell
      exact ⟨_, o, kp _ _ ho, hc⟩
    free := e0.hok.fresh (Nat.le_refl _)
    freeC := fun x c e => by
      obtain ⟨_, rfl⟩ := one x c e
      exact free
    pin := fun p hp => absurd (show p ∈ ([] : List (Addr × Obj)) from hp) (by simp)
    hok := e0.hok.kept kp
    len := rfl }
/-- what such an __init__ promises -/
def spSup (C : Addr) (fld : Str) (good : V → Prop) : Sp := fun vs H Q _ => ∃ (e : Addr) (v : V), vs = [.ref e, v] ∧ H e = some (exo e C Option.none) ∧ good v ∧
  ∀ dx, H dx = Option.none → dx ≠ e → Q .non (upd (upd H dx (exd dx [(fld, v)])) e (exo e C (some dx)))
theorem exo_again {X : Cx} {pins : List (Addr × Obj)} {σ : L2.St} {H : Hp} {a C t1 : Addr} {hp h' : Heap} {g : Array GenState} {d : Drawn} {t t' : Nat} {os : OsState} (I : L2.Inv X pins σ H ⟨hp, g, d, t, os⟩) (e : H a = some (exo a C Option.none))
    (kp : ∀ b o, b ≠ a → hp.get? b = some o → h'.get? b = some o) (hx : h'.get? a = some ({ cls := .ref C, dict := Option.none, data := .fields #[.ref t1, .none, .none, .none, .bool false, .none] } : Obj)) : L2.Inv X pins σ H ⟨h', g, d, t', os⟩ := by
  have same : upd H a (exo a C Option.none) = H := by
    funext b
    unfold upd
    split
    · rename_i z
      rw [z, e]
    · rfl
  have J := I.write (t' := t') (x := a) (e := a) (o := exo a C Option.none) (by rw [e]; exact True.intro) (.inl rfl) kp ⟨_, hx⟩ (exo_ok hx)
  rwa [same] at J
/-- the bound ValueError.__init__, called: the error's arguments are laid anew, nothing of it is told -/
theorem call_mw {X : Cx} {pins : List (Addr × Obj)} {σ : L2.St} {H : Hp} {s : Shared} {e C u : Addr} {rest : List Value} {Q : Value → Shared → Prop} {E : Value → Shared → Prop} (T : OexC X.K C) (I : L2.Inv X pins σ H s) (he : H e = some (exo e C Option.none)) (hu : s.heap.get? u = some (kxs_mw "ValueError.__init__" e))
    (few : rest.length ≤ sizeLine) (fin : ∀ s', L2.Inv X pins σ H s' → Q .none s') : wpAny (model X.prog X.w) X.A (call (.ref u) rest) Q E s := by
  obtain ⟨nm, qn, N, bs, bm, sn, sub, ab, col, dd, k0, k1, k2, k3, k5, hC, hbm⟩ := T.cls
  obtain ⟨t1, ho⟩ := exo_at I.hok he
  have hC' := I.kIn _ _ hC
  obtain ⟨hp, g, d, tk, os⟩ := s
  refine wpAny_call (codeAny_of_tree ?_)
  show wpAny _ X.A.in1 (callAny (.ref u) ⟨rest, []⟩) _ _ _
  unfold callAny
  refine wpAny_bind (wpAny_load hu ?_)
  have b : (Value.type "method-wrapper" == Value.type "method" || Value.type "method-wrapper" == Value.type "builtin_function_or_method" ||
      Value.type "method-wrapper" == Value.type "method-wrapper") = true := by decide
  simp only [b, if_true]
  refine PySem.W.KFB.if_so (by decide) (wpAny_bind ?_)
  refine PySem.W.check_bound_init F.excBase_ValueError.toExcCallFacts hC' ho rfl (wpAny_bind (wpAny_pure (wpAny_pure ⟨plainId_quiet F.excBase_ValueError.init.plain _, ?_⟩)))
  refine codeAny_builtin F.excBase_ValueError.initEntry ?_
  exact PySem.W.exc_init_tree (cls := .ref C) (t0 := t1) (dv := Option.none) (c2 := .none) (c3 := .none) (b4 := .bool false) ho few fun h' kp hx _ => fin _ (exo_again I he kp hx)
/-- THE RULE: such an __init__ keeps its promise -/
theorem ok_sup {CX : CXT} {P : Program} {w : World} {K : PySem.W.Frag} {mg : Str → Option Value} {base : Heap} {C f : Addr} {fd : FuncData} {qual par fld : Str} {st : Stmt} {msg : Expr} {p0 p1 p2 p3 p4 p5 p6 p7 p8 : Pos} {good : V → Prop}
    (S : SupCls P K C qual par fld st f fd) (T : SupTxt par fld st msg p0 p1 p2 p3 p4 p5 p6 p7 p8) (np : ¬ ("self" : Str) = par) (nd : (par == ("__debug__" : Str)) = false) (nc : (par == ("__classdict__" : Str)) = false) (noS : mg "super" = Option.none)
    (hmsg : ∀ (cd : Value) (cc : Addr) (A : Around) (outer : List Env) (s : Shared) (H : Hp) (E : XK) (e : Addr) (v : V), good v →
      ∃ ta, PA (cxSup CX P w K mg base ["self", par] qual (defScope st) f cd cc A outer s H E) [msg] ta ∧ ∀ H1 Q, (∀ x, Q [x] H1) → ta (start ["self", par] [.ref e, v]) H1 Q)
    (star : ∀ env, starEach [msg] env = [(false, eval msg env)]) (inter : ∀ L g cd cc, interactive (ksEnv qual (defScope st) L g cd cc) = false) (swap : ∀ L g cd cc, swapsWith (.Call (.Attribute (.Call (.Name "super" p0) [] [] p1) "__init__" p2) [msg] [] p3) Option.none p4.line (ksEnv qual (defScope st) L g cd cc) = pure false)
    (swap2 : ∀ L g cd cc, swapsWith (.Name par p7) (some (.Attribute (.Name "self" p5) fld p6)) p8.line (ksEnv qual (defScope st) L g cd cc) = pure false)
    (pl : Sem Bool) (he : ∀ (env : Env), eval (.Call (.Attribute (.Call (.Name "super" p0) [] [] p1) "__init__" p2) [msg] [] p3) env = (do
      let ov ← attributeBase (.Call (.Name "super" p0) [] [] p1) "__init__" env (eval (.Call (.Name "super" p0) [] [] p1) env)
      standAt p2.atName
      let (f, first) ← holding [ov] (getMethod ov "__init__" pl)
      callWith p3 f first (backTo p3 (starEach [msg] env)) [])) :
    FnOk P w K mg base CX 1 f fd ["self", par] (spSup C fld good) := by
  obtain ⟨oc, od, kV, doc, pm, an, cda, ct, osl, cc, cl, cld, csl, ccl, cdd, vs, ccs, file, tf, rfl, lk, hcd, hcell, hcode, hvs, hfile⟩ := S.fn
  refine ⟨fun vs H Q E h => ?_, fun A outer s H args us vs0 Q E hr e0 hb rel hsp => ?_⟩
  · obtain ⟨e, v, rfl, _⟩ := h
    rfl
  obtain ⟨e, v, rfl, hexo, hgood, fin⟩ := hsp
  have KX : K.In s.heap := e0.mod.kin.keeps fun b o z => (e0.bs b o z).1
  have lim : s.heap.NoLimit := e0.mod.nolimit.keeps fun b o z => (e0.bs b o z).1
  obtain ⟨u0, u1, rfl, r0, r1⟩ := vals2 rel
  have isCell : s.heap.IsCell cc (some (.ref C)) := ⟨_, KX _ _ hcell, rfl⟩
  have freeC : H cc = Option.none := (e0.bs _ _ (e0.mod.kin _ _ hcell)).2
  refine ks_codeAny_call_defAt (fd := ksFn "__init__" qual (defArgs st) (defBody st) (defScope st) .none kV doc pm an (.ref cda) ct cc) (body := defBody st) (binds := [(("self" : Str), u0), (par, u1)]) hr.depth (KX _ _ lk) rfl lim (PySem.W.codeRec_of KX hcd) rfl hb (fun x hx => (T.only x hx).1) ?_ (fun h1 ns kp => ?_) T.co T.gen T.kind
  · intro y hy
    rcases List.mem_cons.mp hy with rfl | hy
    · exact T.s1
    · rw [List.mem_singleton.mp hy]
      exact T.s2
  have I : L2.Inv (cxSup CX P w K mg base ["self", par] qual (defScope st) f (.ref cda) cc A outer s H E) [] (start ["self", par] [.ref e, v]) H { s with heap := h1, toks := s.toks + 2 } :=
    inv_sup T.kind T.only T.s1 T.s2 np hr.hd e0 r0 r1 isCell freeC (Heap.lt_size (KX _ _ hcell)) ns kp
  show wpAt (model P w) (A.deeper (ksEnv qual (defScope st) s.heap.objs.size f (.ref cda) cc)) (.func (defBody st) (ksEnv qual (defScope st) s.heap.objs.size f (.ref cda) cc)) (execs (defBody st) (ksEnv qual (defScope st) s.heap.objs.size f (.ref cda) cc)) _ _ _
  rw [T.body]
  obtain ⟨hp, g, d, tk, os⟩ := s
  have up : ∀ b o, base.get? b = some o → h1.get? b = some o := fun b o z => kp b o (e0.bs b o z).1
  have K1 : K.In h1 := e0.mod.kin.keeps up
  obtain ⟨mb, hmb, hbb⟩ := e0.mod.blt
  obtain ⟨ar, har, earg⟩ := T.ps
  cases (show u0 = Value.ref e from r0)
  obtain ⟨t1, hx⟩ := exo_at I.hok hexo
  obtain ⟨nm, qn, N, bs, bm, sn, sub, ab, col, dd, k0, k1, k2, k3, k5, hC, hbm⟩ := S.oex.cls
  have hcl : PySem.W.clsIn K C = some { name := nm, bases := bs, mro := .ref C :: bm, ns := N, qualname := qn, hasDict := true, slotNames := sn, subclasses := sub, abstract := ab, collection := col, hasDel := false } := by
    unfold PySem.W.clsIn
    rw [hC]
  refine ks_wpAt_execs_cons (ks_wpAt_Expr_any (ks_wpAt_MethodCall (pl := pl) ?_ (he _)) (inter _ _ _ _) (swap _ _ _ _))
  refine ks_wpAt_super_base (env := ksEnv qual (defScope st) hp.objs.size f (.ref cda) cc) T.s4 T.s3 (by decide) rfl (kp _ _ (KX _ _ lk)) rfl har rfl (K1 _ _ hcode) rfl hvs hfile S.topS ?_
  refine PySem.W.ks_loadName_global T.kind T.s4 (PySem.Calls.loadGlobal_builtin (env := ksEnv qual (defScope st) hp.objs.size f (.ref cda) cc) (e0.mod.glob.keeps up) noS (hmb.keeps up) ((hbb "super" (by decide)).trans (by decide +kernel)) ⟨rfl, ?_⟩)
  refine wpAny_loadName_free T.kind T.s3 rfl ⟨_, K1 _ _ hcell, rfl⟩ ?_
  rw [earg]
  refine wpAny_loadName_local T.kind T.s1 ns (v := .ref e) ?_ ?_
  · show [(par, u1), (("self" : Str), Value.ref e)].lookup ("self" : Str) = some (.ref e)
    have b : (("self" : Str) == par) = false := by simpa using np
    simp [List.lookup, b]
  refine ks_wpAny_isType_cls (K1 _ _ hC) rfl ⟨rfl, ?_⟩
  refine ks_wpAny_call_super (K1 _ _ hC) rfl hx rfl (fun c z => by cases z) (PySem.W.looks_mroIn K1 S.mroC) (fun h2 hso kp2 => ?_)
  have K2 : K.In h2 := K1.keeps kp2
  have hx2 := kp2 _ _ hx
  have inst : PySem.W.InstAt h2 e { cls := .ref C, dict := Option.none, data := .fields #[.ref t1, .none, .none, .none, .bool false, .none] } C Option.none := ⟨hx2, rfl, rfl, trivial⟩
  have hf := S.sup
  unfold ks_superIn at hf
  rw [hcl] at hf
  have neC : e ≠ C := fun z => by
    have q := (e0.bs _ _ (e0.mod.kin _ _ hC)).2
    rw [← z, hexo] at q
    cases q
  refine PySem.W.kxs_getMethod PySem.W.kxs_ValueError hso (PySem.W.looks_opaque K2 S.opq) (l₀ := .ref C :: bm) ((PySem.W.looks_clsIn K2 hcl).andThen .now) rfl K2 hf (inst.type.andThen (PySem.W.looks_subIn K2 S.subV)) neC (by decide) ?_
  have hmw : (h2.push (kxs_mw "ValueError.__init__" e)).get? h2.objs.size = some (kxs_mw "ValueError.__init__" e) := Heap.get?_push_size _ rfl
  have kp3 : ∀ b o, h1.get? b = some o → (h2.push (kxs_mw "ValueError.__init__" e)).get? b = some o := fun b o z => Heap.get?_push_of_some _ (kp2 b o z)
  have Ih := I.kept (h' := h2) (t' := tk + 2) kp2
  have I2 := I.kept (h' := h2.push (kxs_mw "ValueError.__init__" e)) (t' := tk + 2 + 1) kp3
  have I3 : L2.Inv (cxSup CX P w K mg base ["self", par] qual (defScope st) f (.ref cda) cc A outer ⟨hp, g, d, tk, os⟩ H E) [(h2.objs.size, kxs_mw "ValueError.__init__" e)] (start ["self", par] [.ref e, v]) H ⟨h2.push (kxs_mw "ValueError.__init__" e), g, d, tk + 2 + 1, os⟩ := { I2 with
    pin := fun p hp' => by
      cases List.mem_singleton.mp hp'
      refine ⟨hmw, Ih.hok.fresh (Nat.le_refl _), Nat.ne_of_gt Ih.lt, Ih.nofs (Nat.le_refl _), fun c z => by cases z⟩ }
  obtain ⟨ta, pa, rd⟩ := hmsg (.ref cda) cc A outer ⟨hp, g, d, tk, os⟩ H E e v hgood
  have st1 := star (ksEnv qual (defScope st) hp.objs.size f (.ref cda) cc)
  have ran : wpAny (model P w) (A.deeper (ksEnv qual (defScope st) hp.objs.size f (.ref cda) cc)) (spliced (backTo p3 (starEach [msg] (ksEnv qual (defScope st) hp.objs.size f (.ref cda) cc)))) _ _ _ :=
    pa.run p3 _ _ _ _ (fun vs H1 => H1 = H ∧ vs.length = 1) I3 (rd H _ fun x => ⟨rfl, rfl⟩)
  show wpAny _ _ (callWith p3 (.ref h2.objs.size) [] (backTo p3 (starEach [msg] (ksEnv qual (defScope st) hp.objs.size f (.ref cda) cc))) []) _ _ _
  rw [st1] at ran ⊢
  refine PySem.W.kxs_callWith (i := "ValueError.__init__") (x := e) (u := h2.objs.size) rfl (PySem.Calls.evalArgs_plain (thn ran fun us s3 got => ?_))
  obtain ⟨vs1, H1, I4, rel1, rfl, len1⟩ := got
  have hu := (I4.pin _ List.mem_cons_self).1
  refine ⟨hu, call_mw S.oex I4 hexo hu (by show us.length ≤ sizeLine; rw [← Vals.length rel1, len1, sizeLine_eq]; decide) fun s4 I5 => ?_⟩
  have last : PSs (cxSup CX P w K mg base ["self", par] qual (defScope st) f (.ref cda) cc A outer ⟨hp, g, d, tk, os⟩ H1 E) [.Assign [.Attribute (.Name "self" p5) fld p6] (.Name par p7) p8] _ :=
    pss_one (ps_ost (pv 0 rfl (.inl T.s1)) (pv 1 rfl (.inl T.s2) nd nc) (swap2 _ _ _ _))
  refine wpAt_of_wpAny (thn (last.run _ s4 _ H1 { nx := fun _ H2 => Q .non H2, rt := Q } I5 ⟨v, rfl, .ref e, rfl, e, C, rfl, S.oex, S.nof, .inl ⟨hexo, fin⟩⟩) fun fl s5 got => ?_)
  cases fl with
  | next =>
    obtain ⟨σ', H', J, q⟩ := got
    exact ⟨V.non, H', J.os, J.bare, J.base, J.hok, rfl, q⟩
  | ret u =>
    obtain ⟨y, σ', H', J, ry, q⟩ := got
    exact ⟨y, H', J.os, J.bare, J.base, J.hok, ry, q⟩
  | brk =>
    obtain ⟨_, _, _, q⟩ := got
    exact q.elim
  | cont =>
    obtain ⟨_, _, _, q⟩ := got
    exact q.elim
end

/-! ### raising such an error where nothing is handled; a new object whose __init__ may raise; isinstance of a caught error -/
theorem fun_okN {P : Program} {w : World} {K : PySem.W.Frag} {mg : Str → Option Value} {base : Heap} {x qual : Str} {st : Stmt} {f : Addr} {fd : FuncData} {N ps : List Str} {k : Nat} {sp : Sp} (F : Fun K x qual st f fd) (S : FnScope N ps (defScope st))
    (len : ∀ vs H Q E, sp vs H Q E → vs.length = ps.length)
    (body : ∀ (cdv : Value) (A : Around) (outer : List Env) (s : Shared) (H : Hp) (vs : List V) (Q : VK) (E : XK), Room k (A.deeper (PyProof.Rows.envOfC qual (defScope st) s.heap.objs.size f cdv)) → sp vs H Q E →
      ∃ t, PSs (cxOf (L2N.CX P w) P w K mg base N qual (defScope st) f cdv A outer s H E) (defBody st) t ∧ t { nx := fun _ H' => Q .non H', rt := Q } (start N vs) H) : FnOk P w K mg base (L2N.CX P w) (k + 1) f fd ps sp := by
  obtain ⟨oc, od, kV, doc, pm, an, cdv, ct, osl, rfl, lk, hcd⟩ := F.ex
  exact fn_of lk hcd S len fun A outer s H vs Q E hr h => body cdv A outer s H vs Q E hr h
/-- a def that lets nothing out lets nothing out -/
theorem weak_cx {P : Program} {w : World} {K : PySem.W.Frag} {mg : Str → Option Value} {base : Heap} {CX : CXT} {k : Nat} {f : Addr} {fd : FuncData} {ps : List Str} {sp : Sp} (F : FnOk P w K mg base CX0 k f fd ps sp) : FnOk P w K mg base CX k f fd ps sp :=
  ⟨F.len, fun A outer s H args us vs Q E hr e0 hb r h => codeAny_mono (F.run A outer s H args us vs Q E hr e0 hb r h) fun res s' q => by
    cases res with
    | error e => exact False.elim q
    | ok fl => cases fl <;> exact q⟩
def tSup (C : Addr) (fld : Str) (good : V → Prop) (ta : TA) : L2.St → Hp → XK → Prop := fun σ H Q => ta σ H fun vs H1 => ∃ v, vs = [v] ∧ good v ∧ ∀ d, H1 d = Option.none → Q (.ref C) (some d) (upd H1 d (.xd [(fld, v)]))
theorem sup_heap {H : Hp} {a d C : Addr} {fs : List (Str × V)} (ha : H a = Option.none) (ne : d ≠ a) : upd (del (upd (upd (upd H a (exo a C Option.none)) d (exd d fs)) a (exo a C (some d))) a) d (.xd fs) = upd H d (.xd fs) := by
  funext b
  by_cases hd : b = d
  · subst hd
    rw [upd_same, upd_same]
  · rw [upd_ne hd, upd_ne hd]
    by_cases hb : b = a
    · subst hb
      rw [del_same, ha]
    · rw [del_ne hb, upd_ne hb, upd_ne hd, upd_ne hb]
theorem pmk_sup {X : Cx} {x fld par : Str} {e : Expr} {ta : TA} {p pos : Pos} {C fI : Addr} {fd : FuncData} {good : V → Prop} (T : OexC X.K C) (iC : PySem.W.findIn X.K (.ref C) "__init__" = some (some (.ref fI))) (tI : PySem.W.typeIn X.K (.ref fI) = some (.type "function"))
    (F1 : FnOk X.prog X.w X.K X.mg X.base CX0 1 fI fd ["self", par] (spSup C fld good)) (hr : Room 2 X.A) (hb : Binds X.K fd ["self", par] []) (hg : Gl X x) (hm : X.mg x = some (.ref C)) (ha : PA X [e] ta)
    (hdb : (x == ("__debug__" : Str)) = false := by decide) (he : starEach (e :: []) X.env = (false, eval e X.env) :: starEach [] X.env := by rfl) (hpl : (backTo pos (starEach [] X.env)).any (·.1) = false := by rfl) :
    L2N.PMk X (.Call (.Name x p) [e] [] pos) (tSup C fld good ta) := by
  intro pins s σ H Q I hyp
  obtain ⟨nm, qn, N, bs, bm, sn, sub, ab, col, dd, k0, k1, k2, k3, k5, hC, hbm⟩ := T.cls
  refine wpAny_Call_Name_kw (ld_glob I hg hm ?_ hdb)
  refine PySem.W.callWith_K (h₀ := X.base) I.ok.mod.kin T.kC (thn (ha.run pos pins s σ H _ I hyp) fun us s1 got => ?_) he hpl
  obtain ⟨vs, H1, I1, rel, v, rfl, gv, q⟩ := got
  refine ⟨I1.kIn, ?_⟩
  show wpAny _ _ (call (.ref C) us) _ _ _
  obtain ⟨hp, g, dr, tk, os⟩ := s1
  have above : hp.objs.size ≤ hp.objs.size + 1 := Nat.le_succ _
  have free : H1 (hp.objs.size + 1) = Option.none := I1.hok.fresh above
  have grown : ∀ b o, hp.get? b = some o → ((hp.push (PySem.W.kdv_tup us)).push (PySem.HandSPX.excO C hp.objs.size)).get? b = some o := fun b o z => Heap.get?_push_of_some _ (Heap.get?_push_of_some _ z)
  have there : ((hp.push (PySem.W.kdv_tup us)).push (PySem.HandSPX.excO C hp.objs.size)).get? (hp.objs.size + 1) = some (PySem.HandSPX.excO C hp.objs.size) := by heap_get
  have I2 := I1.laid (t' := tk) (a := hp.objs.size + 1) (o := exo (hp.objs.size + 1) C Option.none) (h' := (hp.push (PySem.W.kdv_tup us)).push (PySem.HandSPX.excO C hp.objs.size)) grown above (exo_ok there)
  have rel2 : Vals [V.ref (hp.objs.size + 1), v] (Value.ref (hp.objs.size + 1) :: us) := .cons rfl rel
  have two : (Value.ref (hp.objs.size + 1) :: us).length = 2 := rel2.length.symm
  have bind := hb ⟨(hp.push (PySem.W.kdv_tup us)).push (PySem.HandSPX.excO C hp.objs.size), g, dr, tk, os⟩ (Value.ref (hp.objs.size + 1) :: us) I2.kIn (by rw [List.append_nil]; exact two)
  rw [List.append_nil] at bind
  have few : us.length ≤ sizeLine := by
    rw [← Vals.length rel, sizeLine_eq]
    show 1 ≤ 16777216
    decide
  refine wpAny_call (PySem.HandSPX.call_own F.excBase_ValueError (fun Y => PySem.HandSPX.refsVE_contains Y bm hbm) (I1.kIn _ _ hC) (PySem.W.looks_findIn I1.kIn iC) (fun self => PySem.W.bind_fn I1.kIn self tI) few ?_)
  refine codeAny_mono (F1.run _ X.stack _ _ ⟨Value.ref (hp.objs.size + 1) :: us, []⟩ _ _ (fun y H2 => y = .non ∧ ∃ d, H1 d = Option.none ∧ d ≠ hp.objs.size + 1 ∧ H2 = upd (upd (upd H1 (hp.objs.size + 1) (exo (hp.objs.size + 1) C Option.none)) d (exd d [(fld, v)])) (hp.objs.size + 1) (exo (hp.objs.size + 1) C (some d)))
    (fun _ _ _ => False) ((hr.make (k := 1) C us [])) (I2.env0.make C us []) bind rel2 ⟨_, v, rfl, upd_same, gv, fun d hd nd => ⟨rfl, d, (by rwa [upd_ne nd] at hd), nd, rfl⟩⟩) fun res s2 fin => ?_
  cases res with
  | error z => exact False.elim fin
  | ok fl =>
    cases fl with
    | ret u =>
      obtain ⟨y, H2, os2, bare2, un2, hok2, ry, rfl, d, hd, nd, rfl⟩ := fin
      obtain ⟨h2, g2, d2, t2, os'⟩ := s2
      have ea : upd (upd (upd H1 (hp.objs.size + 1) (exo (hp.objs.size + 1) C Option.none)) d (exd d [(fld, v)])) (hp.objs.size + 1) (exo (hp.objs.size + 1) C (some d)) (hp.objs.size + 1) = some (exo (hp.objs.size + 1) C (some d)) := upd_same
      have ed : upd (upd (upd H1 (hp.objs.size + 1) (exo (hp.objs.size + 1) C Option.none)) d (exd d [(fld, v)])) (hp.objs.size + 1) (exo (hp.objs.size + 1) C (some d)) d = some (exd d [(fld, v)]) := by rw [upd_ne nd, upd_same]
      obtain ⟨t0, G, J, kG, ge, hoe, na⟩ := mk_end0 (d2 := d2) (t2 := t2) I1 above grown un2 hok2 os2 bare2 ea ed hd
      rw [sup_heap free nd] at J na
      refine ⟨ry, hp.objs.size + 1, _, _, ⟨G, g2, d2, t2, os'⟩, _, .ref C, some d, rfl, J, kG, ge, hoe, ⟨rfl, rfl, fun fv z => ?_⟩, rfl, rfl, na, rfl, bare2, raises_own T.exC T.tyC, q d hd⟩
      cases z
      rfl
    | next => exact False.elim fin
    | brk => exact False.elim fin
    | cont => exact False.elim fin
/-- C(e, ..) within a try: what __init__ lets out is wished for at the slots -/
def tMakeS (C : Addr) (sp : Sp) (E : L2.St → XK) (t : TA) : TE := fun σ H Q => t σ H fun vs H1 => ∀ x dx, H1 x = Option.none → H1 dx = Option.none → dx ≠ x → sp (.ref x :: vs) (upd (upd H1 dx (.own x)) x (.ins C dx [])) (fun v H2 => v = .non ∧ Q (.ref x) H2) (E σ)
theorem pe_makeS {X : Cx} {CX : CXT} {k : Nat} {f C : Addr} {fd : FuncData} {ps : List Str} {sp : Sp} {E : L2.St → XK} {x : Str} {p pos : Pos} {e : Expr} {es : List Expr} {t : TA} (M : Mk X.K C f) (F : FnOk X.prog X.w X.K X.mg X.base CX k f fd ps sp) (hr : Room (k + 1) X.A) (hg : Gl X x) (hm : X.mg x = some (.ref C))
    (hb : Binds X.K fd ps []) (hx : ∀ (pins : List (Addr × Obj)) (σ : L2.St) (H : Hp) (s : Shared) (u : Value) (s' : Shared), L2.Inv X pins σ H s → CX X.stack H s (E σ) u s' → X.xe u s')
    (ha : PA X (e :: es) t) (hdb : (x == ("__debug__" : Str)) = false := by decide) (he : starEach (e :: es) X.env = (false, eval e X.env) :: starEach es X.env := by rfl) (hpl : (backTo pos (starEach es X.env)).any (·.1) = false := by rfl) :
    PE X (.Call (.Name x p) (e :: es) [] pos) (tMakeS C sp E t) := by
  constructor
  intro pins s σ H Q I hyp
  refine wpAny_Call_Name_kw (ld_glob I hg hm ?_ hdb)
  refine PySem.W.callWith_K (h₀ := X.base) I.ok.mod.kin M.kp (thn (ha.run pos pins s σ H _ I hyp) fun us s1 got => ?_) he hpl
  obtain ⟨vs, H1, I1, rel, q⟩ := got
  refine ⟨I1.kIn, ?_⟩
  have I2 := Inv.made (C := C) I1
  have prom := q (s1.heap.objs.size + 1) s1.heap.objs.size (I1.hok.fresh (Nat.le_succ _)) (I1.hok.fresh (Nat.le_refl _)) (Nat.ne_of_lt (Nat.lt_succ_self _))
  have rel2 : Vals (V.ref (s1.heap.objs.size + 1) :: vs) (Value.ref (s1.heap.objs.size + 1) :: us) := .cons rfl rel
  have len : (Value.ref (s1.heap.objs.size + 1) :: us ++ []).length = ps.length := by
    rw [List.append_nil, ← F.len _ _ _ _ prom]
    exact rel2.length.symm
  have bind := hb _ (Value.ref (s1.heap.objs.size + 1) :: us) I2.kIn len
  rw [List.append_nil] at bind
  refine wpAny_call (make_map (f := f) I1.kIn M.makes M.init (beq_iff_eq.mp M.fn) (codeAny_mono (F.run _ X.stack _ _ ⟨Value.ref (s1.heap.objs.size + 1) :: us, []⟩ _ _ _ (E σ) (hr.make C us []) (I2.env0.make C us []) bind rel2 prom) fun res s2 fin => ?_))
  cases res with
  | error z => exact hx pins σ _ _ z s2 I2 fin
  | ok fl =>
    cases fl with
    | ret u =>
      obtain ⟨v, H', I3, rv, rfl, q3⟩ := I2.after fin
      exact ⟨rv, V.ref (s1.heap.objs.size + 1), H', I3, rfl, q3⟩
    | next => exact False.elim fin
    | brk => exact False.elim fin
    | cont => exact False.elim fin
/-- isinstance(e, a class), e the caught error of the class at D with its dict -/
structure XcC (K : PySem.W.Frag) (D : Addr) : Prop where
  cl : (PySem.W.clsIn K D).isSome = true
  ga : PySem.W.findIn K (.ref D) "__getattribute__" = some (some (.builtin "BaseException.__getattribute__"))
  gt : PySem.W.findIn K (.ref D) "__getattr__" = some Option.none
  sub : PySem.W.subIn K (.ref D) (.type "BaseException") = some true
  has : PySem.W.hasDictIn K D = true
  cls : PySem.W.findIn K (.ref D) "__class__" = some (some (.builtin "object.__class__"))
  get : PySem.W.specialIn K (.builtin "object.__class__") "__get__" = some (some (.builtin "getset_descriptor.__get__"))
  tk : PySem.W.takesIn K (.builtin "object.__class__") = some true
  obj : PySem.W.mroIn K D (.type "object") = some true
theorem xc_at {X : Cx} {pins : List (Addr × Obj)} {σ : L2.St} {H : Hp} {s : Shared} {a D dd : Addr} {oe : Obj} {pn : List (Addr × Obj)} {fs : List (Str × V)} (I : L2.Inv (X.suite a ((a, oe) :: pn)) pins σ H s) (hz : Zc (.ref D) (some dd) oe) (hf : ∃ vs, oe.data = .fields vs) (hd : H dd = some (.xd fs)) :
    ∃ od, PySem.W.InstAt s.heap a oe D (some od) := by
  obtain ⟨got, _⟩ := I.pin (a, oe) (List.mem_append_left _ List.mem_cons_self)
  obtain ⟨vs, hv⟩ := hf
  have x : ObjOk X.prog X.w H s.heap dd (.xd fs) := I.hok dd _ hd
  obtain ⟨mA, ⟨od, _, _, ho, _⟩, _⟩ := x
  obtain ⟨oc, odd, oda, osl⟩ := oe
  obtain ⟨h1, h2⟩ := hz
  dsimp only at h1 h2 hv
  subst h1 h2 hv
  exact ⟨od, got, rfl, rfl, ho⟩
def rIsX (K : PySem.W.Frag) (a : Addr) (cls : Value) (d : Option Addr) : List V → Hp → VK → Prop := fun xs H Q => ∃ (D dd : Addr) (c : V) (cv : Value) (b : Bool) (fs : List (Str × V)), xs = [.ref a, c] ∧ cls = .ref D ∧ d = some dd ∧ XcC K D ∧ ClsV c cv ∧ H dd = some (.xd fs) ∧
  PySem.W.kitOne K (.ref D) cv = some b ∧ Q (.bl b) H
theorem call_isX {X : Cx} {a : Addr} {cls : Value} {d : Option Addr} {oe : Obj} {pn : List (Addr × Obj)} (hz : Zc cls d oe) (hf : ∃ vs, oe.data = .fields vs) : CallR (X.suite a ((a, oe) :: pn)) (.builtin "isinstance") (rIsX X.K a cls d) := by
  intro pins sh σ H xs us Q I rel hyp
  obtain ⟨D, dd, c, cv, b, fs, rfl, rfl, rfl, C, hcv, hd, e, q⟩ := hyp
  obtain ⟨u1, u2, rfl, r1, r2⟩ := vals2 rel
  have e2 := hcv.eq r2
  subst e2
  cases r1
  obtain ⟨od, J⟩ := xc_at I hz hf hd
  exact PySem.W.kia_one (PySem.W.kitx_exc C.cl C.ga C.gt C.sub C.cls C.get C.tk C.obj) I.kIn J e (fun z => nomatch z) fun tk => ⟨.bl b, H, I.kept (t' := tk) fun _ _ z => z, rfl, q⟩
def rIsXT (K : PySem.W.Frag) (a : Addr) (cls : Value) (d : Option Addr) : List V → Hp → VK → Prop := fun xs H Q => ∃ (D dd tp : Addr) (cs : List V) (cvs : List Value) (b : Bool) (fs : List (Str × V)), xs = [.ref a, .ref tp] ∧ cls = .ref D ∧ d = some dd ∧ XcC K D ∧
  H tp = some (.tup cs) ∧ Paired ClsV cs cvs ∧ H dd = some (.xd fs) ∧ PySem.W.kitAny K (.ref D) cvs = some b ∧ Q (.bl b) H
theorem call_isXT {X : Cx} {a : Addr} {cls : Value} {d : Option Addr} {oe : Obj} {pn : List (Addr × Obj)} (hz : Zc cls d oe) (hf : ∃ vs, oe.data = .fields vs) : CallR (X.suite a ((a, oe) :: pn)) (.builtin "isinstance") (rIsXT X.K a cls d) := by
  intro pins sh σ H xs us Q I rel hyp
  obtain ⟨D, dd, tp, cs, cvs, b, fs, rfl, rfl, rfl, C, ht, hcs, hd, e, q⟩ := hyp
  obtain ⟨u1, u2, rfl, r1, r2⟩ := vals2 rel
  cases r1
  cases (show u2 = Value.ref tp from r2)
  obtain ⟨od, J⟩ := xc_at I hz hf hd
  have x : ObjOk X.prog X.w H sh.heap tp (.tup cs) := I.hok tp _ ht
  obtain ⟨_, its, rv, ⟨oc, odd, oda, osl⟩, h1, h2, n, h3⟩ := x
  have e3 := ClsV.all hcs rv
  subst e3
  simp only at h2 h3
  subst h2 h3
  exact PySem.W.kia_tup (PySem.W.kitx_exc C.cl C.ga C.gt C.sub C.cls C.get C.tk C.obj) I.kIn J h1 e (fun z => nomatch z) fun tk => ⟨.bl b, H, I.kept (t' := tk) fun _ _ z => z, rfl, q⟩
theorem takes0N {X : Cx} : L2N.Takes X (fun _ _ _ _ => False) := fun _ _ x => by
  obtain ⟨_, _, _, _, _, _, _, _, _, _, _, _, _, _, _, _, z⟩ := x
  exact z.elim
theorem hot_of {X : Cx} {a : Addr} {cls : Value} {d : Option Addr} {oe : Obj} {pn : List (Addr × Obj)} (hz : L2N.Zn cls d oe) (hf : ∃ vs, oe.data = .fields vs) : L2H.HotC (X.suite a ((a, oe) :: pn)) := by
  obtain ⟨vs, hv⟩ := hf
  exact ⟨(a, oe), ⟨rfl, vs, hv, hz.2.2 vs hv⟩, List.mem_cons_self⟩
theorem fun_okH {P : Program} {w : World} {K : PySem.W.Frag} {mg : Str → Option Value} {base : Heap} {x qual : Str} {st : Stmt} {f : Addr} {fd : FuncData} {N ps : List Str} {k : Nat} {sp : Sp} (F : Fun K x qual st f fd) (S : FnScope N ps (defScope st))
    (len : ∀ vs H Q E, sp vs H Q E → vs.length = ps.length)
    (body : ∀ (cdv : Value) (A : Around) (outer : List Env) (s : Shared) (H : Hp) (vs : List V) (Q : VK) (E : XK) (p : Addr × Obj), L2H.RoomH k (A.deeper (PyProof.Rows.envOfC qual (defScope st) s.heap.objs.size f cdv)) → sp vs H Q E →
      ∃ t, PSs (L2H.cxH CX0 P w K mg base N qual (defScope st) f cdv A outer s H E p) (defBody st) t ∧ t { nx := fun _ H' => Q .non H', rt := Q } (start N vs) H) : L2H.FnH P w K mg base CX0 (k + 1) f fd ps sp := by
  obtain ⟨oc, od, kV, doc, pm, an, cdv, ct, osl, rfl, lk, hcd⟩ := F.ex
  exact L2H.fn_ofH lk hcd S len fun A outer s H vs Q E p _ hr h => body cdv A outer s H vs Q E p hr h

/-- e.f where the written part is told -/
theorem pe_fldK {X : Cx} {K : PySem.W.Frag} {e : Expr} {f : Str} {ta : TE} {pos : Pos} (hK : X.K = K) (he : PE X e ta) (hb : attributeBase e f X.env (eval e X.env) = eval e X.env) : PE X (.Attribute e f pos) (tFld K ta f) := by
  subst hK
  exact pe_fld he hb
/-- list(xs) where the written part is told -/
def rListOf (K : PySem.W.Frag) : List V → Hp → VK → Prop := fun zs H Q => ∃ (p : Addr) (ys : List V), zs = [V.ref p] ∧ (SqL K H p ys ∨ SqT K H p ys) ∧ (∀ l : Addr, H l = none → Q (.ref l) (upd H l (.lst ys)))
theorem cr_listK {X : Cx} {K : PySem.W.Frag} (hK : X.K = K) : CallR X (.type "list") (rListOf K) := by
  subst hK
  exact call_list_of
/-- len of a list or tuple where the written part is told -/
def rLenOf (K : PySem.W.Frag) : List V → Hp → VK → Prop := fun zs H Q => ∃ (p : Addr) (ys : List V), zs = [V.ref p] ∧ (SqL K H p ys ∨ SqT K H p ys) ∧ Q (.int (ys.length : Int)) H
theorem cr_lenK {X : Cx} {K : PySem.W.Frag} (hK : X.K = K) : CallR X (.builtin "len") (rLenOf K) := by
  subst hK
  exact call_len_seq

/-- o.m(e, ..) within a try: what the method lets out is wished for at the slots -/
def tMethT (C : Addr) (m : Str) (sp : Sp) (E : L2.St → XK) (ta : TE) (t : TA) : TE := fun σ H Q => ta σ H fun x H1 => ∃ (j dx : Addr) (fs : List (Str × V)), x = V.ref j ∧ H1 j = some (HO.ins C dx fs) ∧ fs.lookup m = Option.none ∧ (t σ H1 fun vs H2 => sp (x :: vs) H2 Q (E σ))
theorem pe_methT {X : Cx} {CX : CXT} {k : Nat} {f C : Addr} {fd : FuncData} {ps : List Str} {sp : Sp} {E : L2.St → XK} {m : Str} {apos pos : Pos} {o e : Expr} {es : List Expr} {ta : TE} {t : TA} {pl : Sem Bool} (he : PE X o ta) (c : L2.Cls X.K C) (hm : L2.Meth X.K C m f) (F : FnOk X.prog X.w X.K X.mg X.base CX k f fd ps sp)
    (hr : Room k X.A) (hb : Binds X.K fd ps []) (hx : ∀ σ, PassesAt CX X σ (E σ)) (ha : PA X (e :: es) t) (one : starEach (e :: es) X.env = (false, eval e X.env) :: starEach es X.env := by rfl) (nost : (backTo pos (starEach es X.env)).any (·.1) = false := by rfl)
    (text : eval (.Call (.Attribute o m apos) (e :: es) [] pos) X.env = (do let ov ← eval o X.env; standAt apos.atName; let (f, first) ← holding [ov] (getMethod ov m pl); callWith pos f first (backTo pos (starEach (e :: es) X.env)) (backToKw pos (keywordEach [] X.env))) := by rfl) :
    PE X (.Call (.Attribute o m apos) (e :: es) [] pos) (tMethT C m sp E ta t) := by
  constructor
  intro pins s σ H Q I hyp
  refine PySem.W.methodCall_KW (pl := pl) (thn (he.run pins s σ H _ I hyp) fun u s1 got => ?_) text
  obtain ⟨x, H1, I1, rx, j, dx, fs, ex, ej, nf, q⟩ := got
  subst ex
  have eu : u = Value.ref j := rx
  subst eu
  refine getmeth_ok I1 ej c hm nf (PySem.W.callWith_K (first := [Value.ref j]) (h₀ := X.base) I.ok.mod.kin hm.kp (thn (ha.run pos pins s1 σ H1 _ I1 q) fun us s2 got2 => ?_) one nost)
  obtain ⟨vs, H2, I2, rel, q2⟩ := got2
  exact ⟨I2.kIn, run_fnS (us := Value.ref j :: us) (vs := V.ref j :: vs) F hr hb (hx σ) I2 (.cons rfl rel) q2⟩
/-- str of a text or of an int -/
def rStrA : List V → Hp → VK → Prop := fun vs H Q => (∃ i : Int, vs = [V.int i] ∧ i.natAbs.log2 < 1920 ∧ Q (.str (toString i)) H) ∨ ∃ x : Str, vs = [V.str x] ∧ Q (.str x) H
theorem cr_strA {X : Cx} : CallR X (.type "str") rStrA := by
  intro pins sh σ H vs us Q I rel hyp
  rcases hyp with ⟨i, rfl, small, q⟩ | ⟨x, rfl, q⟩
  · exact call_str_int pins sh σ H _ us Q I rel ⟨i, rfl, small, q⟩
  · exact SkE.call_str_str pins sh σ H _ us Q I rel ⟨x, rfl, q⟩

structure TxtE (P : Program) (K : PySem.W.Frag) (mg : Str → Option Value) (a : Ads) : Prop where
  g_Refused : mg "Refused" = some (.ref a.C_Refused)
  sup_Refused : ∃ fd, SupCls P K a.C_Refused "Refused.__init__" "vote" "vote" s_Refused_init a.d_Refused_init fd ∧ Binds K fd ["self", "vote"] []
  iC_Refused : PySem.W.findIn K (.ref a.C_Refused) "__init__" = some (some (.ref a.d_Refused_init))
  tI_Refused : PySem.W.typeIn K (.ref a.d_Refused_init) = some (.type "function")
  oex_Refused : OexC K a.C_Refused
  xc_Refused : XcC K a.C_Refused
  g_BadJournal : mg "BadJournal" = some (.ref a.C_BadJournal)
  g_BadLine : mg "BadLine" = some (.ref a.C_BadLine)
  g_TribunalError : mg "TribunalError" = some (.ref a.C_TribunalError)
  exm_TribunalError_Refused : PySem.W.exmOne K (.ref a.C_Refused) (.ref a.C_TribunalError) = some true
  ktR : PySem.W.kitAny K (.ref a.C_Refused) [.ref a.C_BadJournal, .ref a.C_BadLine] = some false
  kt0 : PySem.W.kitOne K (.ref a.C_Refused) (.ref a.C_Refused) = some true

/-! ### journals -/
theorem hu65 {k : Nat} {A : Around} (r : Room k A) : A.units + 65 < cLine := by
  have := r.un
  omega
instance : Inhabited Sm := ⟨⟨.prop, 0, 0, none, none⟩⟩
def SsAt (H : Hp) (ps : List Addr) (ms : List Sm) : Prop := ps.length = ms.length ∧ ∀ i, i < ms.length → SmAt H (ps.getD i 0) (ms.getD i default)
theorem SsAt.nil {H : Hp} : SsAt H [] [] := ⟨rfl, fun i h => absurd h (Nat.not_lt_zero i)⟩
theorem SsAt.same {H H' : Hp} {ps : List Addr} {ms : List Sm} (h : SsAt H ps ms) (s : Same H H') : SsAt H' ps ms := ⟨h.1, fun i hi => s _ _ (h.2 i hi)⟩
theorem ne_ls {H : Hp} {p l : Addr} {m : Sm} {ys : List V} (h : SmAt H p m) (hl : H l = some (.lst ys)) : p ≠ l := fun e => by
  have h : H p = some (.tup m.vals) := h
  rw [e, hl] at h
  cases h
/-- all but the object at l stays -/
def But (l : Addr) (H H' : Hp) : Prop := ∀ b o, b ≠ l → H b = some o → H' b = some o
theorem But.sm {l : Addr} {H H' : Hp} {p : Addr} {m : Sm} {ys : List V} (k : But l H H') (hl : H l = some (.lst ys)) (h : SmAt H p m) : SmAt H' p m := k _ _ (ne_ls h hl) h
theorem But.ss {l : Addr} {H H' : Hp} {ps : List Addr} {ms : List Sm} {ys : List V} (k : But l H H') (hl : H l = some (.lst ys)) (h : SsAt H ps ms) : SsAt H' ps ms := ⟨h.1, fun i hi => k.sm hl (h.2 i hi)⟩
theorem SsAt.snoc {H : Hp} {ps : List Addr} {ms : List Sm} {p : Addr} {m : Sm} (h : SsAt H ps ms) (e : SmAt H p m) : SsAt H (ps ++ [p]) (ms ++ [m]) := by
  refine ⟨by rw [List.length_append, List.length_append, h.1]; rfl, fun i hi => ?_⟩
  rw [List.length_append, List.length_singleton] at hi
  rcases Nat.lt_or_ge i ms.length with z | z
  · rw [getD_left (by rw [h.1]; exact z), getD_left z]
    exact h.2 i z
  · have ei : i = ms.length := by omega
    subst ei
    rw [getD_last]
    have : (ps ++ [p]).getD ms.length 0 = p := by rw [← h.1, getD_last]
    rw [this]
    exact e
theorem SsAt.cons {H : Hp} {p : Addr} {ps : List Addr} {m : Sm} {ms : List Sm} (h : SsAt H (p :: ps) (m :: ms)) : SmAt H p m ∧ SsAt H ps ms :=
  ⟨h.2 0 (Nat.succ_pos _), Nat.succ.inj h.1, fun i hi => h.2 (i + 1) (Nat.succ_lt_succ hi)⟩
def smD (m : Sm) : PyData := .tuple m.dat
theorem dp_sms {K : PySem.W.Frag} {H : Hp} : ∀ {ps : List Addr} {ms : List Sm}, SsAt H ps ms → DpAll K H (ps.map V.ref) (ms.map smD)
  | [], [], _ => .nil
  | p :: ps, m :: ms, h => .cons (dp_sm h.cons.1) (dp_sms h.cons.2)
  | [], m :: ms, h => nomatch h.1
  | p :: ps, [], h => nomatch h.1
def OkM (ms : List Sm) : Prop := ∀ m ∈ ms, OkS m.b
theorem lay_sms : ∀ {ms : List Sm}, OkM ms → PyData.canLayAll0 (ms.map smD) = true
  | [], _ => by simp [PyData.canLayAll0]
  | m :: ms, o => by
    simp only [List.map_cons, PyData.canLayAll0]
    rw [show PyData.canLay0 (smD m) = true from lay_sm m (o m List.mem_cons_self), lay_sms fun y hy => o y (List.mem_cons_of_mem _ hy)]
    rfl
theorem depth_sms : ∀ ms : List Sm, PyData.depthAll (ms.map smD) ≤ 1
  | [] => by simp [PyData.depthAll]
  | m :: ms => by
    have := depth_sms ms
    have h : PyData.depth (smD m) = 1 := depth_sm m
    simp only [List.map_cons, PyData.depthAll, h]
    omega
theorem shaped_sms {ms : List Sm} (o : OkM ms) : SeqAt.shaped (.list (ms.map smD)) = true := by
  have h := depth_sms ms
  unfold SeqAt.shaped
  have e : PyData.depth (.list (ms.map smD)) = PyData.depthAll (ms.map smD) + 1 := by simp only [PyData.depth]
  have l : PyData.canLay0 (.list (ms.map smD)) = true := by simp only [PyData.canLay0, lay_sms o]
  rw [l, e, decide_eq_true (show PyData.depthAll (ms.map smD) + 1 ≤ 64 by omega)]
  rfl
theorem eqv_sms {ms : List Sm} (o : OkM ms) : PyData.eqv (.list (ms.map smD)) (.list (ms.map smD)) = true := SeqAt.eqv_refl _ (by
  simp only [PyData.canLay0, lay_sms o])
/-- m in ms -/
def memS (ms : List Sm) (m : Sm) : Bool := (ms.map smD).any fun z => PyData.eqv z (smD m)
theorem ne_wsg : ¬ (("who" : Str) = "signed") := by decide +kernel
def jfs (who : Int) (L : Addr) : List (Str × V) := putF "signed" (.ref L) (putF "who" (.int who) [])
theorem jfs_w (who : Int) (L : Addr) : (jfs who L).lookup ("who" : Str) = some (.int who) := by
  unfold jfs
  rw [lookup_putF, if_neg ne_wsg, lookup_putF, if_pos rfl]
theorem jfs_s (who : Int) (L : Addr) : (jfs who L).lookup ("signed" : Str) = some (.ref L) := by
  unfold jfs
  rw [lookup_putF, if_pos rfl]
theorem jfs_no (who : Int) (L : Addr) {m : Str} (h1 : ¬ m = "who") (h2 : ¬ m = "signed") : (jfs who L).lookup m = none := by
  unfold jfs
  rw [lookup_putF, if_neg h2, lookup_putF, if_neg h1]
  rfl
def JAt (C : Addr) (H : Hp) (j : Addr) (who : Int) (L : Addr) : Prop := ∃ dx, H j = some (.ins C dx (jfs who L))
/-- the first of the first n that clashes with m -/
def fcl (ms : List Sm) (m : Sm) : Nat → Option Nat
  | 0 => none
  | n + 1 => match fcl ms m n with
    | some k => some k
    | none => if clashM (ms.getD n default) m then some n else none
theorem fcl_none {ms : List Sm} {m : Sm} : ∀ {n : Nat}, fcl ms m n = none → ∀ k, k < n → clashM (ms.getD k default) m = false
  | 0, _, k, hk => absurd hk (Nat.not_lt_zero _)
  | n + 1, h, k, hk => by
    rw [fcl] at h
    split at h
    · cases h
    · rename_i e
      split at h
      · cases h
      · rename_i c
        rcases Nat.lt_or_ge k n with z | z
        · exact fcl_none e k z
        · have : k = n := by omega
          rw [this]
          simpa using c
theorem fcl_keep {ms : List Sm} {m : Sm} {n k : Nat} (h : fcl ms m n = some k) : fcl ms m (n + 1) = some k := by
  rw [fcl, h]
theorem fcl_new {ms : List Sm} {m : Sm} {n : Nat} (h : fcl ms m n = none) (c : clashM (ms.getD n default) m = true) : fcl ms m (n + 1) = some n := by
  rw [fcl, h]
  exact if_pos c
theorem fcl_no {ms : List Sm} {m : Sm} {n : Nat} (h : fcl ms m n = none) (c : clashM (ms.getD n default) m = false) : fcl ms m (n + 1) = none := by
  rw [fcl, h]
  exact if_neg (by rw [c]; exact Bool.false_ne_true)
theorem fcl_mono {ms : List Sm} {m : Sm} {n k : Nat} (h : fcl ms m n = some k) : ∀ d, fcl ms m (n + d) = some k
  | 0 => h
  | d + 1 => fcl_keep (fcl_mono h d)
theorem fcl_lt {ms : List Sm} {m : Sm} : ∀ {n k : Nat}, fcl ms m n = some k → k < n
  | 0, k, h => nomatch h
  | n + 1, k, h => by
    rw [fcl] at h
    split at h
    · rename_i e
      cases h
      have := fcl_lt e
      omega
    · split at h
      · cases h
        exact Nat.lt_succ_self _
      · cases h
/-- what is signed behind m -/
def after (ps : List Addr) (ms : List Sm) (p : Addr) (m : Sm) : List Addr := if memS ms m then ps else ps ++ [p]
def afterM (ms : List Sm) (m : Sm) : List Sm := if memS ms m then ms else ms ++ [m]
theorem shaped_pair {who : Int} {m : Sm} (o : OkS m.b) : SeqAt.shaped (.tuple [.int who, .tuple m.dat]) = true := shaped_lt (x := ⟨who, m⟩) o
theorem eqv_pair {who : Int} {m : Sm} (o : OkS m.b) : PyData.eqv (.tuple [.int who, .tuple m.dat]) (.tuple [.int who, .tuple m.dat]) = true := eqv_lt (x := ⟨who, m⟩) o
def spJI (K : PySem.W.Frag) (C : Addr) : Sp := fun vs H Q _ => ∃ (p dx : Addr) (who : Int), vs = [.ref p, .int who] ∧ H p = some (.ins C dx []) ∧ ∀ (L : Addr) (H' : Hp), H L = none → H' p = some (.ins C dx (jfs who L)) → H' L = some (.lst []) → (∀ b o, b ≠ p → H b = some o → H' b = some o) → Q .non H'
def spSign (K : PySem.W.Frag) (C CR : Addr) : Sp := fun vs H Q E => ∃ (j p L : Addr) (who : Int) (ps : List Addr) (ms : List Sm) (m : Sm), vs = [.ref j, .ref p] ∧ JAt C H j who L ∧ H L = some (.lst (ps.map V.ref)) ∧ SsAt H ps ms ∧ SmAt H p m ∧ ms.length ≤ 900 ∧ OkM ms ∧ OkS m.b ∧
  (∀ k, fcl ms m ms.length = some k → ∀ d H', Same H H' → H' d = some (.xd [(("vote" : Str), .ref (ps.getD k 0))]) → E (.ref CR) (some d) H') ∧
  (fcl ms m ms.length = none → ∀ t H', But L H H' → H' L = some (.lst ((after ps ms p m).map V.ref)) → H' t = some (.tup [.int who, .ref p]) → Q (.ref t) H')
def spLast (K : PySem.W.Frag) (C : Addr) : Sp := fun vs H Q _ => ∃ (j L : Addr) (who h : Int) (ps : List Addr) (ms : List Sm), vs = [.ref j, .int h] ∧ JAt C H j who L ∧ H L = some (.lst (ps.map V.ref)) ∧ SsAt H ps ms ∧ ms.length ≤ 900 ∧ (∀ m ∈ ms, 0 ≤ m.t) ∧
  ∀ (z : Int) H', Same H H' → (z = 0 ∨ z ∈ (ms.filter fun m => decide (m.h = h)).map Sm.t) → 0 ≤ z → (∀ m ∈ ms, m.h = h → m.t ≤ z) → Q (.int z) H'
/-! ### words and lines -/
def wordV : V → Str
  | .non => "-"
  | .int i => toString i
  | .str x => x
  | _ => ""
def lineS (who : Int) (m : Sm) : Str := Txt.join " " ((toString who : Str) :: m.vals.map wordV)
/-- small numbers and names -/
def SmallV (v : V) : Prop := v = .non ∨ (∃ i : Int, v = .int i ∧ 0 ≤ i ∧ i < 64) ∨ ∃ x : Str, v = .str x ∧ x.length ≤ 60 ∧ PyData.strOk x = true
def SmallM (m : Sm) : Prop := ∀ v ∈ m.vals, SmallV v
theorem num_len : ∀ n : _root_.Fin 64, ((toString ((n.val : Nat) : Int) : Str)).length ≤ 60 ∧ PyData.strOk (toString ((n.val : Nat) : Int) : Str) = true := by decide +kernel
theorem num_ok {i : Int} (h0 : 0 ≤ i) (h1 : i < 64) : (toString i : Str).length ≤ 60 ∧ PyData.strOk (toString i : Str) = true := by
  have h := num_len ⟨i.toNat, by omega⟩
  have e : ((i.toNat : Nat) : Int) = i := by omega
  simp only [e] at h
  exact h
theorem word_ok {v : V} (h : SmallV v) : (wordV v).length ≤ 60 ∧ PyData.strOk (wordV v) = true := by
  rcases h with rfl | ⟨i, rfl, h0, h1⟩ | ⟨x, rfl, h⟩
  · exact ⟨by decide +kernel, by decide +kernel⟩
  · exact num_ok h0 h1
  · exact h
theorem vals_len (m : Sm) : m.vals.length ≤ 5 := by
  obtain ⟨mk, mh, mt, mb, ml⟩ := m
  cases mk <;> simp [Sm.vals]
theorem strOk_app {a b : Str} (h1 : PyData.strOk a = true) (h2 : PyData.strOk b = true) : PyData.strOk (a ++ b) = true := by
  unfold PyData.strOk at *
  show (a.cps ++ b.cps).all _ = true
  rw [Array.all_append, h1, h2]
  rfl
theorem strOk_join {y : Str} (hy : PyData.strOk y = true) : ∀ {parts : List Str}, (∀ x ∈ parts, PyData.strOk x = true) → PyData.strOk (Str.join y parts) = true
  | [], _ => (by decide +kernel : PyData.strOk Str.empty = true)
  | [x], h => h x List.mem_cons_self
  | x :: z :: r, h => strOk_app (strOk_app (h x List.mem_cons_self) hy) (strOk_join hy fun w hw => h w (List.mem_cons_of_mem _ hw))
theorem line_ok {who : Int} {m : Sm} (w0 : 0 ≤ who) (w1 : who < 64) (h : SmallM m) : PyData.strOk (lineS who m) = true := by
  unfold lineS
  rw [TL.join_eq]
  refine strOk_join (by decide +kernel) fun x hx => ?_
  rcases List.mem_cons.mp hx with rfl | hx
  · exact (num_ok w0 w1).2
  · obtain ⟨v, hv, rfl⟩ := List.mem_map.mp hx
    exact (word_ok (h v hv)).2
theorem sum_small : ∀ {ys : List Str}, (∀ y ∈ ys, y.length ≤ 60) → (ys.map (·.length)).sum ≤ 60 * ys.length
  | [], _ => by simp
  | y :: ys, h => by
    have h1 := h y List.mem_cons_self
    have h2 := sum_small fun z hz => h z (List.mem_cons_of_mem _ hz)
    simp only [List.map_cons, List.sum_cons, List.length_cons]
    omega
theorem join_fit {who : Int} {m : Sm} (w0 : 0 ≤ who) (w1 : who < 64) (h : SmallM m) : ((((toString who : Str) :: m.vals.map wordV)).map (·.length)).sum + (((toString who : Str) :: m.vals.map wordV)).length * (" " : Str).length ≤ 16777216 := by
  have l := vals_len m
  have s := sum_small (ys := (toString who : Str) :: m.vals.map wordV) fun y hy => by
    rcases List.mem_cons.mp hy with rfl | hy
    · exact (num_ok w0 w1).1
    · obtain ⟨v, hv, rfl⟩ := List.mem_map.mp hy
      exact (word_ok (h v hv)).1
  have e : (" " : Str).length = 1 := by decide +kernel
  simp only [List.length_cons, List.length_map] at s ⊢
  rw [e]
  omega
theorem dp_strs {K : PySem.W.Frag} {H : Hp} : ∀ xs : List Str, DpAll K H (xs.map V.str) (xs.map PyData.str)
  | [] => .nil
  | x :: xs => .cons (.str x) (dp_strs xs)
theorem lay_strs : ∀ {xs : List Str}, (∀ x ∈ xs, PyData.strOk x = true) → PyData.canLayAll0 (xs.map PyData.str) = true
  | [], _ => by simp [PyData.canLayAll0]
  | x :: xs, o => by
    simp only [List.map_cons, PyData.canLayAll0, PyData.canLay0, o x List.mem_cons_self, lay_strs fun y hy => o y (List.mem_cons_of_mem _ hy)]
    rfl
theorem depth_strs : ∀ xs : List Str, PyData.depthAll (xs.map PyData.str) = 0
  | [] => by simp [PyData.depthAll]
  | x :: xs => by
    have := depth_strs xs
    simp only [List.map_cons, PyData.depthAll, PyData.depth, this]
    rfl
theorem shaped_strs {xs : List Str} (o : ∀ x ∈ xs, PyData.strOk x = true) : SeqAt.shaped (.list (xs.map PyData.str)) = true := by
  unfold SeqAt.shaped
  have e : PyData.depth (.list (xs.map PyData.str)) = PyData.depthAll (xs.map PyData.str) + 1 := by simp only [PyData.depth]
  have l : PyData.canLay0 (.list (xs.map PyData.str)) = true := by simp only [PyData.canLay0, lay_strs o]
  rw [l, e, depth_strs]
  rfl
theorem eqv_strs {xs : List Str} (o : ∀ x ∈ xs, PyData.strOk x = true) : PyData.eqv (.list (xs.map PyData.str)) (.list (xs.map PyData.str)) = true := SeqAt.eqv_refl _ (by
  simp only [PyData.canLay0, lay_strs o])
def spWord (K : PySem.W.Frag) : Sp := fun vs H Q _ => ∃ v : V, vs = [v] ∧ SmallV v ∧ Q (.str (wordV v)) H
def spLine (K : PySem.W.Frag) : Sp := fun vs H Q _ => ∃ (t : Addr) (x : Lt), vs = [.ref t] ∧ LtAt H t x ∧ 0 ≤ x.w ∧ x.w < 64 ∧ SmallM x.m ∧ ∀ H', Same H H' → Q (.str (lineS x.w x.m)) H'
def spLines (K : PySem.W.Frag) (C : Addr) : Sp := fun vs H Q _ => ∃ (j L : Addr) (who : Int) (ps : List Addr) (ms : List Sm), vs = [.ref j] ∧ JAt C H j who L ∧ H L = some (.lst (ps.map V.ref)) ∧ SsAt H ps ms ∧ ms.length ≤ 900 ∧ 0 ≤ who ∧ who < 64 ∧ (∀ m ∈ ms, SmallM m) ∧
  ∀ R H', Same H H' → H' R = some (.lst ((ms.map (lineS who)).map V.str)) → Q (.ref R) H'

def NormM (m : Sm) : Prop := OkS m.b ∧ (∀ x, m.b = some x → x.length ≤ 60) ∧ 0 ≤ m.t ∧ m.t < 4 ∧ ∀ l, m.l = some l → 0 ≤ l ∧ l < 4
theorem NormM.small {m : Sm} (n : NormM m) (h0 : 0 ≤ m.h) (h1 : m.h < 64) : SmallM m := by
  obtain ⟨n1, n2, n3, n4, n5⟩ := n
  have hk : SmallV (.str m.k.s) := .inr (.inr ⟨_, rfl, by cases m.k <;> decide +kernel, ks_ok _⟩)
  have hh : SmallV (.int m.h) := .inr (.inl ⟨_, rfl, h0, h1⟩)
  have ht : SmallV (.int m.t) := .inr (.inl ⟨_, rfl, n3, by omega⟩)
  have hb : SmallV (oS m.b) := by
    cases e : m.b with
    | none => exact .inl rfl
    | some x => exact .inr (.inr ⟨x, rfl, n2 x e, n1 x e⟩)
  have hl : SmallV (oI m.l) := by
    cases e : m.l with
    | none => exact .inl rfl
    | some x =>
      have := n5 x e
      exact .inr (.inl ⟨x, rfl, this.1, by omega⟩)
  intro v hv
  obtain ⟨mk, mh, mt, mb, ml⟩ := m
  cases mk <;> simp only [Sm.vals, List.mem_cons, List.not_mem_nil, or_false] at hv <;> (rcases hv with rfl | rfl | rfl | rfl | rfl <;> assumption) <;> skip
def spStat2 (K : PySem.W.Frag) : Sp := fun vs H Q _ => ∃ (d h : Int), vs = [.int d, .int h] ∧ ∀ p m H', Same H H' → SmAt H' p m → NormM m → m.h = h → Q (.ref p) H'
def spDrawn (K : PySem.W.Frag) : Sp := fun vs H Q _ => ∃ c : Int, vs = [.int c] ∧ ∀ p m H', Same H H' → SmAt H' p m → NormM m → 0 ≤ m.h → m.h < 2 → Q (.ref p) H'
def spLLine (K : PySem.W.Frag) : Sp := fun vs H Q _ => ∃ (who : Int) (p : Addr) (m : Sm), vs = [.int who, .ref p] ∧ SmAt H p m ∧ 0 ≤ who ∧ who < 64 ∧ SmallM m ∧ ∀ H', Same H H' → Q (.str (lineS who m)) H'
def spSigns (K : PySem.W.Frag) (C : Addr) : Sp := fun vs H Q _ => ∃ (j p L G : Addr) (who : Int) (ps : List Addr) (ms : List Sm) (m : Sm), vs = [.ref j, .int who, .ref G, .ref p] ∧ JAt C H j who L ∧ H L = some (.lst (ps.map V.ref)) ∧ H G = some (.lst (ps.map V.ref)) ∧ SsAt H ps ms ∧ SmAt H p m ∧ ms.length ≤ 100 ∧ OkM ms ∧ OkS m.b ∧
  G ≠ L ∧ ∀ H', But L H H' → H' L = some (.lst ((if fcl ms m ms.length = none then after ps ms p m else ps).map V.ref)) → Q (.bl true) H'

def spCell (K : PySem.W.Frag) : Sp := fun vs H Q _ => ∃ (a : Addr) (ns : List Int) (k : Int), vs = [.ref a, .int k] ∧ SqL K H a (ns.map V.int) ∧ ns.length ≤ 63 ∧ 0 ≤ k ∧ Q (.int (ns.getD k.toNat 0)) H
def spIsInt (K : PySem.W.Frag) : Sp := fun vs H Q _ => ∃ i : Int, vs = [.int i] ∧ Q (.bl true) H
def spLaw (K : PySem.W.Frag) : Sp := fun vs H Q _ => ∃ (a : Addr) (ns : List Int), vs = [.ref a] ∧ SqL K H a (ns.map V.int) ∧ ns.length ≤ 63 ∧ ∀ H', Q (.bl true) H'
section
local macro_rules | `(tactic| walk_at "r1") => `(tactic| first
  | refine ⟨_, rfl, ?_⟩
  | refine ⟨_, _, rfl, rfl, (by show (0 : Int) < _; first | decide | omega), ?_⟩
  | refine ⟨_, _, rfl, rfl, (show CDiv _ _ from ⟨by decide, by decide⟩), ?_⟩
  | refine ⟨_, _, rfl, rfl, (show CMul _ _ from .inl ⟨by decide, by decide⟩), ?_⟩
  | refine ⟨_, _, rfl, rfl, (show CMul _ _ from .inr ⟨by decide, by decide⟩), ?_⟩
  | refine ⟨_, _, rfl, rfl, (show CPow _ _ from ⟨by decide, by decide, by decide⟩), ?_⟩
  | refine ⟨_, _, rfl, rfl, ?_⟩
  | refine ⟨_, _, _, _, rfl, rfl, SqT.of (by assumption), by first | exact at0 _ | exact at1 _ | exact at2 _ | exact at3 _ | exact at4 _ (by assumption), ?_⟩
  | refine ⟨scal_oS _ _, ?_⟩
  | refine .inl ⟨_, rfl, ?_⟩
  | refine ⟨rfl, ?_⟩)
local macro_rules | `(tactic| walk_at "rs") => `(tactic| repeat walk_at "r1")

variable {P : Program} {w : World} {K : PySem.W.Frag} {mg : Str → Option Value} {base : Heap} {a : Ads}
theorem getD_mem {zs : List Int} {i : Nat} (h : i < zs.length) : zs.getD i 0 ∈ zs := by
  rw [List.getD_eq_getElem?_getD, List.getElem?_eq_getElem h]
  exact List.getElem_mem h
theorem at_ints {zs : List Int} {i : Nat} (h : i < zs.length) : (zs.map V.int)[i]? = some (.int (zs.getD i 0)) := by
  rw [List.getElem?_map, List.getD_eq_getElem?_getD, List.getElem?_eq_getElem h]
  rfl

theorem ok_is_vote (T : Txt K mg a) : ∃ fd, FnOk P w K mg base CX0 1 a.d_is_vote fd ["statement"] (spVote K) ∧ Binds K fd ["statement"] [] := by
  obtain ⟨fd, F, b⟩ := T.d_is_vote.F
  refine ⟨fd, F.ok sc_is_vote (fun vs H Q E h => ?_) (fun cdv A outer s H vs Q E hr h => ?_), b⟩
  · obtain ⟨p, m, rfl, _⟩ := h
    rfl
  · obtain ⟨p, m, rfl, hp, k⟩ := h
    refine ⟨_, (pss_one (ps_ret (pe_cmpR op_in_seq (pe_ix ix_tup (pv 0) (pe_glob (v := (.int 0)) rfl T.c_KIND.choose_spec ⟨_, rfl⟩) (fun _ _ => rfl)) (pe_tup (pa_cons pe_str (pa_cons pe_str pa_nil))) (by rfl)))), ?_⟩
    refine ⟨_, rfl, p, _, _, _, rfl, rfl, SqT.of hp, at0 m, (by show 2 ≤ sizeLine; decide), fun t ht => ?_⟩
    refine ⟨t, _, rfl, .inr (SqT.of upd_same), rfl, rfl, ?_⟩
    have e : inV (V.str m.k.s) [V.str "prevote", V.str "precommit"] = decide (m.k ≠ .prop) := by
      cases hk : m.k <;> decide +kernel
    show Q (.bl (inV (V.str m.k.s) [V.str "prevote", V.str "precommit"])) _
    rw [e]
    exact k _ (same_new ht)
theorem ok_abandons (T : Txt K mg a) : ∃ fd, FnOk P w K mg base CX0 1 a.d_abandons fd ["one", "other"] (spAband K) ∧ Binds K fd ["one", "other"] [] := by
  obtain ⟨fd, F, b⟩ := T.d_abandons.F
  refine ⟨fd, F.ok sc_abandons (fun vs H Q E h => ?_) (fun cdv A outer s H vs Q E hr h => ?_), b⟩
  · obtain ⟨_, _, _, _, rfl, _⟩ := h
    rfl
  · obtain ⟨p, q, m, n, rfl, hp, hq, k⟩ := h
    have k0 : Q (.bl (abandM m n)) H := k _ (Same.refl H)
    refine ⟨_, (pss_cons (ps_if (PW.pt (pw_or (pt_cmpR op_ne (pe_ix ix_tup (pv 0) (pe_glob (v := (.int 0)) rfl T.c_KIND.choose_spec ⟨_, rfl⟩) (fun _ _ => rfl)) pe_str (nomark _)) (pw_or1 (pt_cmpR op_ne (pe_ix ix_tup (pv 1) (pe_glob (v := (.int 0)) rfl T.c_KIND.choose_spec ⟨_, rfl⟩) (fun _ _ => rfl)) pe_str (nomark _)))))
      (pss_one (ps_ret pe_bl))
      pss_nil)
      (pss_cons (ps_if (PW.pt (pw_or (pt_cmpR op_isN (pe_ix ix_tup (pv 0) (pe_glob (v := (.int 3)) rfl T.c_BLOCK.choose_spec ⟨_, rfl⟩) (fun _ _ => rfl)) pe_non (nomark _)) (pw_or1 (pt_cmpR op_isN (pe_ix ix_tup (pv 1) (pe_glob (v := (.int 3)) rfl T.c_BLOCK.choose_spec ⟨_, rfl⟩) (fun _ _ => rfl)) pe_non (nomark _)))))
      (pss_one (ps_ret pe_bl))
      pss_nil)
      (pss_cons (ps_if (PW.pt (pw_or (pt_cmpR op_eq (pe_ix ix_tup (pv 0) (pe_glob (v := (.int 3)) rfl T.c_BLOCK.choose_spec ⟨_, rfl⟩) (fun _ _ => rfl)) (pe_ix ix_tup (pv 1) (pe_glob (v := (.int 3)) rfl T.c_BLOCK.choose_spec ⟨_, rfl⟩) (fun _ _ => rfl)) (nomark _)) (pw_or1 (pt_cmpR op_ge (pe_ix ix_tup (pv 0) (pe_glob (v := (.int 2)) rfl T.c_TURN.choose_spec ⟨_, rfl⟩) (fun _ _ => rfl)) (pe_ix ix_tup (pv 1) (pe_glob (v := (.int 2)) rfl T.c_TURN.choose_spec ⟨_, rfl⟩) (fun _ _ => rfl)) (nomark _)))))
      (pss_one (ps_ret pe_bl))
      pss_nil)
      (pss_one (ps_ret (pe_or (pe_cmpR op_isN (pe_ix ix_tup (pv 1) (pe_glob (v := (.int 4)) rfl T.c_LEAN.choose_spec ⟨_, rfl⟩) (fun _ _ => rfl)) pe_non (nomark _)) (pe_one (pe_cmpR op_lt (pe_ix ix_tup (pv 1) (pe_glob (v := (.int 4)) rfl T.c_LEAN.choose_spec ⟨_, rfl⟩) (fun _ _ => rfl)) (pe_ix ix_tup (pv 0) (pe_glob (v := (.int 2)) rfl T.c_TURN.choose_spec ⟨_, rfl⟩) (fun _ _ => rfl)) (nomark _))))))))), ?_⟩
    walk_at "rs"
    refine ite2 (fun c1 => ?_) (fun c1 => ?_) <;> simp only [kcom, Bool.not_eq_true', decide_eq_false_iff_not, decide_eq_true_iff, Decidable.not_not] at c1
    · rw [show abandM m n = false from if_neg (fun z => c1 z.1)] at k0
      exact k0
    walk_at "rs"
    refine ite2 (fun c2 => ?_) (fun c2 => ?_) <;> simp only [kpre, Bool.not_eq_true', decide_eq_false_iff_not, decide_eq_true_iff, Decidable.not_not] at c2
    · rw [show abandM m n = false from if_neg (fun z => c2 z.2.1)] at k0
      exact k0
    walk_at "rs"
    refine ite2 (fun c3 => ?_) (fun c3 => ?_) <;> simp only [koSn, decide_eq_true_iff] at c3
    · rw [show abandM m n = false from if_neg (fun z => z.2.2.1 c3)] at k0
      exact k0
    walk_at "rs"
    refine ite2 (fun c4 => ?_) (fun c4 => ?_) <;> simp only [koSn, decide_eq_true_iff] at c4
    · rw [show abandM m n = false from if_neg (fun z => z.2.2.2.1 c4)] at k0
      exact k0
    walk_at "rs"
    refine ite2 (fun c5 => ?_) (fun c5 => ?_) <;> simp only [koS, decide_eq_true_iff] at c5
    · rw [show abandM m n = false from if_neg (fun z => z.2.2.2.2.1 c5)] at k0
      exact k0
    walk_at "rs"
    refine ite2 (fun c6 => ?_) (fun c6 => ?_) <;> simp only [decide_eq_true_iff] at c6
    · rw [show abandM m n = false from if_neg (fun z => by have := z.2.2.2.2.2; omega)] at k0
      exact k0
    have e : abandM m n = (match n.l with | none => true | some l => decide (l < m.t)) := if_pos ⟨c1, c2, c3, c4, c5, by omega⟩
    rw [e] at k0
    clear e
    walk_at "rs"
    refine ite2 (fun c7 => ?_) (fun c7 => ?_) <;> simp only [koIn, decide_eq_true_iff] at c7
    · rw [c7] at k0
      exact k0
    · cases hnl : n.l with
      | none => exact absurd hnl c7
      | some l =>
        rw [hnl] at k0
        refine ⟨_, rfl, _, _, _, _, rfl, rfl, SqT.of hq, (at4 n c2).trans (by rw [hnl]), ?_⟩
        walk_at "rs"
        exact k0
theorem ok_clash (T : Txt K mg a) : ∃ fd, FnOk P w K mg base CX0 2 a.d_clash fd ["one", "other"] (spClash K) ∧ Binds K fd ["one", "other"] [] := by
  obtain ⟨fd, F, b⟩ := T.d_clash.F
  obtain ⟨fd_abandons, G_abandons, b_abandons⟩ := ok_abandons (P := P) (w := w) (base := base) T
  obtain ⟨fd_is_vote, G_is_vote, b_is_vote⟩ := ok_is_vote (P := P) (w := w) (base := base) T
  refine ⟨fd, F.ok sc_clash (fun vs H Q E h => ?_) (fun cdv A outer s H vs Q E hr h => ?_), b⟩
  · obtain ⟨_, _, _, _, rfl, _⟩ := h
    rfl
  · obtain ⟨p, q, m, n, rfl, hp, hq, k⟩ := h
    refine ⟨_, (pss_cons (ps_if (pt_cmpR op_ne (pe_ix ix_tup (pv 0) (pe_glob (v := (.int 1)) rfl T.c_HEIGHT.choose_spec ⟨_, rfl⟩) (fun _ _ => rfl)) (pe_ix ix_tup (pv 1) (pe_glob (v := (.int 1)) rfl T.c_HEIGHT.choose_spec ⟨_, rfl⟩) (fun _ _ => rfl)) (nomark _))
      (pss_one (ps_ret pe_bl))
      pss_nil)
      (pss_cons (ps_if (pt_cmpR op_eq (pe_ix ix_tup (pv 0) (pe_glob (v := (.int 0)) rfl T.c_KIND.choose_spec ⟨_, rfl⟩) (fun _ _ => rfl)) (pe_ix ix_tup (pv 1) (pe_glob (v := (.int 0)) rfl T.c_KIND.choose_spec ⟨_, rfl⟩) (fun _ _ => rfl)) (nomark _))
      (pss_one (ps_ret (pe_and (pe_call G_is_vote (hr.mono (by decide)) rfl T.d_is_vote.g T.d_is_vote.kp b_is_vote .nil pass0 (pa_cons (pv 0) pa_nil)) (pe_and (pe_cmpR op_eq (pe_ix ix_tup (pv 0) (pe_glob (v := (.int 2)) rfl T.c_TURN.choose_spec ⟨_, rfl⟩) (fun _ _ => rfl)) (pe_ix ix_tup (pv 1) (pe_glob (v := (.int 2)) rfl T.c_TURN.choose_spec ⟨_, rfl⟩) (fun _ _ => rfl)) (nomark _)) (pe_one (pe_cmpR op_ne (pe_ix ix_tup (pv 0) (pe_glob (v := (.int 3)) rfl T.c_BLOCK.choose_spec ⟨_, rfl⟩) (fun _ _ => rfl)) (pe_ix ix_tup (pv 1) (pe_glob (v := (.int 3)) rfl T.c_BLOCK.choose_spec ⟨_, rfl⟩) (fun _ _ => rfl)) (nomark _)))))))
      pss_nil)
      (pss_one (ps_ret (pe_or (pe_call G_abandons (hr.mono (by decide)) rfl T.d_abandons.g T.d_abandons.kp b_abandons .nil pass0 (pa_cons (pv 0) (pa_cons (pv 1) pa_nil))) (pe_one (pe_call G_abandons (hr.mono (by decide)) rfl T.d_abandons.g T.d_abandons.kp b_abandons .nil pass0 (pa_cons (pv 1) (pa_cons (pv 0) pa_nil))))))))), ?_⟩
    unfold clashM at k
    walk_at "rs"
    refine ite2 (fun c1 => ?_) (fun c1 => ?_) <;> simp only [dec_int, Bool.not_eq_true', beq_eq_false_iff_ne, Bool.not_eq_false', Bool.not_eq_true, beq_iff_eq, ne_eq, Decidable.not_not] at c1
    · rw [if_pos c1] at k
      exact k _ (Same.refl H)
    rw [if_neg (fun z => z c1)] at k
    walk_at "rs"
    refine ite2 (fun c2 => ?_) (fun c2 => ?_) <;> simp only [dec_kd, decide_eq_true_iff] at c2
    · rw [if_pos c2] at k
      walk_at "rs"
      refine ⟨p, m, rfl, hp, fun H' s1 => ?_⟩
      have hp' : SmAt H' p m := s1 _ _ hp
      have hq' : SmAt H' q n := s1 _ _ hq
      walk_at "rs"
      refine ite2 (fun c3 => ?_) (fun c3 => ?_)
      · rw [c3, Bool.true_and] at k
        walk_at "rs"
        refine ite2 (fun c4 => ?_) (fun c4 => ?_) <;> simp only [dec_int, beq_iff_eq] at c4
        · rw [decide_eq_true c4, Bool.true_and] at k
          walk_at "rs"
          have k' := k H' s1
          rw [show decide (m.b ≠ n.b) = (!decide (oS m.b = oS n.b)) by rw [dec_oS, decide_not]] at k'
          exact k'
        · rw [decide_eq_false c4, Bool.false_and] at k
          exact k H' s1
      · rw [Bool.eq_false_iff.mpr c3, Bool.false_and] at k
        exact k H' s1
    · rw [if_neg c2] at k
      walk_at "rs"
      refine ⟨p, q, m, n, rfl, hp, hq, fun H' s1 => ?_⟩
      have hp' : SmAt H' p m := s1 _ _ hp
      have hq' : SmAt H' q n := s1 _ _ hq
      walk_at "rs"
      refine ite2 (fun c3 => ?_) (fun c3 => ?_)
      · rw [c3, Bool.true_or] at k
        exact k H' s1
      · rw [Bool.eq_false_iff.mpr c3, Bool.false_or] at k
        walk_at "rs"
        exact ⟨q, p, n, m, rfl, hq', hp', fun H2 s2 => k H2 (s1.trans s2)⟩

theorem ok_Journal_init (T : Txt K mg a) : ∃ fd, FnOk P w K mg base CX0 1 a.d_Journal_init fd ["self", "who"] (spJI K a.C_Journal) ∧ Binds K fd ["self", "who"] [] := by
  obtain ⟨fd, F, b⟩ := T.d_Journal_init.F
  refine ⟨fd, F.ok sc_Journal_init (fun vs H Q E h => ?_) (fun cdv A outer s H vs Q E hr h => ?_), b⟩
  · obtain ⟨_, _, _, rfl, _⟩ := h
    rfl
  · obtain ⟨p, dx, who, rfl, hp, k⟩ := h
    refine ⟨_, (pss_cons (ps_fld (pv 0) (pv 1) rfl)
      (pss_one (ps_fld (pv 0) (pe_lst pa_nil) rfl))), ?_⟩
    walk_at "rs"
    refine ⟨p, _, dx, [], rfl, hp, T.cl_Journal, T.a_Journal_who, (by show 0 < 1000; decide), ?_⟩
    walk_at "rs"
    refine ⟨(by show 0 ≤ sizeLine; decide), fun L hL => ?_⟩
    have nL : p ≠ L := fun e => by rw [e, upd_same] at hL; cases hL
    walk_at "rs"
    refine ⟨p, _, dx, _, rfl, by rw [upd_ne nL, upd_same], T.cl_Journal, T.a_Journal_signed, (by show 1 < 1000; decide), ?_⟩
    have hL0 : H L = none := by rwa [upd_ne nL.symm] at hL
    refine k L _ hL0 upd_same (by rw [upd_ne nL.symm, upd_same]) fun b o hb e => ?_
    rw [upd_ne hb, upd_ne (ne_of_none e hL0), upd_ne hb]
    exact e
theorem ok_Refused_init (TE : TxtE P K mg a) (T : Txt K mg a) : ∃ fd, FnOk P w K mg base CX0 1 a.d_Refused_init fd ["self", "vote"] (spSup a.C_Refused "vote" fun _ => True) ∧ Binds K fd ["self", "vote"] [] := by
  obtain ⟨fd, S, b⟩ := TE.sup_Refused
  have T0 : SupTxt "vote" "vote" s_Refused_init _ _ _ _ _ _ _ _ _ _ := ⟨rfl, rfl, rfl, rfl, rfl, rfl, rfl, rfl, by decide +kernel, ⟨_, rfl, rfl⟩⟩
  refine ⟨fd, ok_sup S T0 (by decide +kernel) (by decide) (by decide) T.n_super ?_ (fun _ => rfl) (fun _ _ _ _ => rfl) (fun _ _ _ _ => rfl) (fun _ _ _ _ => rfl) _ (fun _ => rfl), b⟩
  rintro cd cc A outer s H E e v _
  exact ⟨_, pa_cons pe_str pa_nil, fun H1 Q q => q _⟩
theorem ok_Journal_sign (TE : TxtE P K mg a) (T : Txt K mg a) : ∃ fd, FnOk P w K mg base (L2N.CX P w) 3 a.d_Journal_sign fd ["self", "statement"] (spSign K a.C_Journal a.C_Refused) ∧ Binds K fd ["self", "statement"] [] := by
  obtain ⟨fd, F, b⟩ := T.d_Journal_sign.F
  obtain ⟨fd_clash, G_clash, b_clash⟩ := ok_clash (P := P) (w := w) (base := base) T
  obtain ⟨fd_Refused_init, G_Refused_init, b_Refused_init⟩ := ok_Refused_init (P := P) (w := w) (base := base) TE T
  refine ⟨fd, fun_okN F sc_Journal_sign (fun vs H Q E h => ?_) (fun cdv A outer s H vs Q E hr h => ?_), b⟩
  · obtain ⟨_, _, _, _, _, _, _, rfl, _⟩ := h
    rfl
  · obtain ⟨j, p, L, who, ps, ms, m, rfl, ⟨dx, hj⟩, hL, hs, hm, few, okm, ok, kr, kq⟩ := h
    have n1 := hs.1
    refine ⟨_, (pss_cons (ps_for (passes_of rfl) rfl (pi_list (pe_fld (pv 0) rfl)) (pg_name (i := 2) sc_Journal_sign.nd rfl (Or.inl rfl))
      (pss_one (ps_if (pt_val (pe_call G_clash (hr.mono (by decide)) rfl T.d_clash.g T.d_clash.kp b_clash .nil pass0 (pa_cons (pv 2) (pa_cons (pv 1) pa_nil))))
        (pss_one (L2N.ps_raise rfl (L2N.takes_of rfl rfl rfl rfl) (pmk_sup TE.oex_Refused TE.iC_Refused TE.tI_Refused G_Refused_init (hr.mono (by decide)) b_Refused_init rfl TE.g_Refused (pa_cons (pv 2) pa_nil))))
        pss_nil)))
      (pss_cons (ps_if (pt_cmpR (op_notInD (hu65 hr)) (pv 1) (pe_fld (pv 0) rfl) (by rfl))
      (pss_one (ps_expr (pe_bm PySem.F.plainAttrs_list PySem.F.slot_list_append PySem.F.type_list_append mt_append (pe_fld (pv 0) rfl) (pa_cons (pv 1) pa_nil))))
      pss_nil)
      (pss_one (ps_ret (pe_tup (pa_cons (pe_fld (pv 0) rfl) (pa_cons (pv 1) pa_nil))))))), ?_⟩
    walk_at "rs"
    refine ⟨j, _, dx, _, .ref L, rfl, hj, T.cl_Journal, T.a_Journal_signed, jfs_s _ _, ?_⟩
    walk_at "rs"
    refine ⟨⟨_, SqL.of hL⟩, for_list (K := K) (a := L) (xs := ps.map V.ref) (fun i σ H2 => ∃ v2 : Option V, σ = [some (.ref j), some (.ref p), v2] ∧ Same H H2 ∧ fcl ms m i = none) ⟨_, rfl, Same.refl H, rfl⟩ (fun i σ H2 _ ⟨_, _, s2, _⟩ => SqL.of (s2 _ _ hL)) ?_ ?_⟩
    · rintro i y σ H2 hy ⟨v2, rfl, s2, hno⟩
      have hi : i < ps.length := by
        have e := (List.getElem?_eq_some_iff.mp hy).1
        rwa [List.length_map] at e
      rw [at_refs hi] at hy
      cases hy
      walk_at "rs"
      refine ⟨_, p, _, m, rfl, s2 _ _ (hs.2 i (by omega)), s2 _ _ hm, fun H3 s3 => ?_⟩
      walk_at "rs"
      refine ite2 (fun c1 => ?_) (fun c1 => ?_)
      · walk_at "rs"
        have e := fcl_mono (fcl_new hno c1) (ms.length - (i + 1))
        rw [Nat.add_sub_cancel' (by omega)] at e
        refine ⟨trivial, fun d hd => ?_⟩
        exact kr i e d _ ((s2.trans s3).trans (same_new hd)) upd_same
      · exact ⟨_, rfl, s2.trans s3, fcl_no hno (by simpa using c1)⟩
    · rintro σ H2 ⟨v2, rfl, s2, hno⟩
      rw [List.length_map, n1] at hno
      have k1 := kq hno
      walk_at "rs"
      refine ⟨j, _, dx, _, .ref L, rfl, s2 _ _ hj, T.cl_Journal, T.a_Journal_signed, jfs_s _ _, ?_⟩
      refine ⟨smD m, _, dp_sm (s2 _ _ hm), .lst (SqL.of (s2 _ _ hL)) (dp_sms (hs.same s2)), shaped_sm m ok, shaped_sms okm, ?_⟩
      have k2 : ∀ t H', But L H H' → H' L = some (.lst ((if ((ms.map smD).any fun z => PyData.eqv z (smD m)) = true then ps else ps ++ [p]).map V.ref)) → H' t = some (.tup [.int who, .ref p]) → Q (.ref t) H' := k1
      have fin : ∀ (H3 : Hp), But L H H3 → H3 j = some (.ins a.C_Journal dx (jfs who L)) → H3 L = some (.lst ((if ((ms.map smD).any fun z => PyData.eqv z (smD m)) = true then ps else ps ++ [p]).map V.ref)) → ∀ t, H3 t = none → Q (.ref t) (upd H3 t (.tup [.int who, .ref p])) := fun H3 k3 _ k4 t ht => by
        have s4 := same_new (o := .tup [.int who, .ref p]) ht
        exact k2 t _ (fun b o nb e => s4 _ _ (k3 b o nb e)) (s4 _ _ k4) upd_same
      clear k1 k2 kq kr
      cases q : ((ms.map smD).any fun z => PyData.eqv z (smD m)) with
      | true =>
        rw [q] at fin
        walk_at "rs"
        refine ⟨j, _, dx, _, .int who, rfl, s2 _ _ hj, T.cl_Journal, T.a_Journal_who, jfs_w _ _, ?_⟩
        walk_at "rs"
        refine ⟨(by show 2 ≤ sizeLine; decide), fun t ht => ?_⟩
        exact fin H2 (fun b o _ e => s2 b o e) (s2 _ _ hj) (s2 _ _ hL) t ht
      | false =>
        rw [q] at fin
        walk_at "rs"
        refine ⟨j, _, dx, _, .ref L, rfl, s2 _ _ hj, T.cl_Journal, T.a_Journal_signed, jfs_s _ _, ?_⟩
        refine ⟨.inl ⟨rfl, _, SqL.of (s2 _ _ hL)⟩, ?_⟩
        walk_at "rs"
        refine ⟨L, _, _, rfl, rfl, s2 _ _ hL, by rw [List.length_map]; exact small1000 (by omega), ?_⟩
        have nj : j ≠ L := fun e => by rw [e, hL] at hj; cases hj
        walk_at "rs"
        refine ⟨j, _, dx, _, .int who, rfl, by rw [upd_ne nj]; exact s2 _ _ hj, T.cl_Journal, T.a_Journal_who, jfs_w _ _, ?_⟩
        walk_at "rs"
        refine ⟨(by show 2 ≤ sizeLine; decide), fun t ht => ?_⟩
        refine fin _ (fun b o nb e => by rw [upd_ne nb]; exact s2 b o e) (by rw [upd_ne nj]; exact s2 _ _ hj) ?_ t ht
        rw [upd_same]
        simp
theorem ok_word (T : Txt K mg a) : ∃ fd, FnOk P w K mg base CX0 1 a.d_word fd ["part"] (spWord K) ∧ Binds K fd ["part"] [] := by
  obtain ⟨fd, F, b⟩ := T.d_word.F
  refine ⟨fd, F.ok sc_word (fun vs H Q E h => ?_) (fun cdv A outer s H vs Q E hr h => ?_), b⟩
  · obtain ⟨_, rfl, _⟩ := h
    rfl
  · obtain ⟨v, rfl, hv, k⟩ := h
    refine ⟨_, (pss_cons (ps_if (pt_cmpR op_isN (pv 0) pe_non (nomark _))
      (pss_one (ps_ret (pe_glob (v := (.str "-")) rfl T.c_NONE.choose_spec ⟨_, rfl⟩)))
      pss_nil)
      (pss_one (ps_ret (pe_callTy cr_strA (by rfl) T.n_str (by decide +kernel) (pa_cons (pv 0) pa_nil))))), ?_⟩
    rcases hv with rfl | ⟨i, rfl, h0, h1⟩ | ⟨x, rfl, hx⟩
    · walk_at "rs"
      exact k
    · walk_at "rs"
      exact ⟨Nat.lt_of_le_of_lt (Nat.log2_le_self _) (by omega), k⟩
    · walk_at "rs"
      exact .inr ⟨x, rfl, k⟩
theorem ok_letter_line (T : Txt K mg a) : ∃ fd, FnOk P w K mg base CX0 2 a.d_letter_line fd ["letter"] (spLine K) ∧ Binds K fd ["letter"] [] := by
  obtain ⟨fd, F, b⟩ := T.d_letter_line.F
  obtain ⟨fd_word, G_word, b_word⟩ := ok_word (P := P) (w := w) (base := base) T
  refine ⟨fd, F.ok sc_letter_line (fun vs H Q E h => ?_) (fun cdv A outer s H vs Q E hr h => ?_), b⟩
  · obtain ⟨_, _, rfl, _⟩ := h
    rfl
  · obtain ⟨t, x, rfl, hx, w0, w1, hs, k⟩ := h
    obtain ⟨q, hp, hq⟩ := id hx
    have hq' : H q = some (.tup x.m.vals) := hq
    have l5 := vals_len x.m
    refine ⟨_, (pss_cons (ps_asg (pv 0) (pg_tup rfl (pgs_cons (pg_name (i := 1) sc_letter_line.nd rfl (Or.inl rfl)) (pgs_cons (pg_name (i := 2) sc_letter_line.nd rfl (Or.inl rfl)) pgs_nil))))
      (pss_one (ps_ret (pe_join pe_str (pe_op op_cat (pe_lst (pa_cons (pe_callTy cr_strA (by rfl) T.n_str (by decide +kernel) (pa_cons (pv 1) pa_nil)) pa_nil)) (pe_lc (own := [("part", 3)]) (g := (gName 3)) (tt := tYes) rfl sc_letter_line.nd (pi_tup (pv 2)) (blkOk_by (own := [("part", 3)]) (N := sc_letter_line_N) (sc := defScope s_letter_line) (by decide +kernel)) (fun _ _ _ _ _ => (pg_name (i := 3) sc_letter_line.nd rfl (Or.inl rfl))) (fun _ _ _ _ _ => pts_nil) (fun _ _ _ _ _ => (pe_call G_word (hr.mono (by decide)) rfl T.d_word.g T.d_word.kp b_word .nil pass0 (pa_cons (pv 3) pa_nil))))))))), ?_⟩
    walk_at "rs"
    refine ⟨_, _, rfl, SqT.of hp, rfl, _, _, rfl, _, _, rfl, rfl, ?_⟩
    walk_at "rs"
    refine ⟨⟨_, rfl⟩, ?_⟩
    walk_at "rs"
    refine ⟨Nat.lt_of_le_of_lt (Nat.log2_le_self _) (by omega), ?_⟩
    refine ⟨(by show 1 ≤ sizeLine; decide), fun l1 hl1 => ?_⟩
    have s1 := same_new (o := .lst [V.str (toString x.w)]) hl1
    have h1 := (upd_same : (upd H l1 (.lst [V.str (toString x.w)])) l1 = _)
    generalize upd H l1 (.lst [V.str (toString x.w)]) = H1 at s1 h1 ⊢
    walk_at "rs"
    refine ⟨⟨_, SqT.of (s1 _ _ hq')⟩, fun D hD => ?_⟩
    refine lc_tup (K := K) (a := q) (xs := x.m.vals) (fun i H2 => Same H1 H2 ∧ H2 D = some (.lst (((x.m.vals.take i).map wordV).map V.str))) ⟨same_new hD, by rw [upd_same]; simp⟩ (fun i H2 _ ⟨s2, _⟩ => SqT.of (s2 _ _ (s1 _ _ hq'))) ?_ ?_
    · rintro i y H2 hy ⟨s2, hd⟩
      have hi : i < x.m.vals.length := (List.getElem?_eq_some_iff.mp hy).1
      have et : x.m.vals.take (i + 1) = x.m.vals.take i ++ [y] := by rw [List.take_add_one, hy]; rfl
      have hsy := hs y (List.mem_of_getElem? hy)
      refine ⟨rfl, ?_⟩
      walk_at "rs"
      refine ⟨hsy, ?_⟩
      refine ⟨_, hd, by rw [List.length_map, List.length_map, List.length_take]; exact small1000 (by omega), same_upd s2 hD, ?_⟩
      rw [upd_same, et]
      simp
    · rintro H2 ⟨s2, hd⟩
      rw [List.take_length] at hd
      have fit := join_fit (who := x.w) w0 w1 hs
      refine ⟨l1, D, _, _, rfl, rfl, s2 _ _ h1, hd, by rw [List.length_map, List.length_map, sizeLine_eq]; simp; omega, fun l3 hl3 => ?_⟩
      have s3 := same_new (o := .lst ([V.str (toString x.w)] ++ (x.m.vals.map wordV).map V.str)) hl3
      refine ⟨_, l3, (toString x.w : Str) :: x.m.vals.map wordV, rfl, rfl, .inl (SqL.of upd_same), fit, ?_⟩
      exact k _ ((s1.trans s2).trans s3)
theorem ok_Journal_lines (T : Txt K mg a) : ∃ fd, FnOk P w K mg base CX0 3 a.d_Journal_lines fd ["self"] (spLines K a.C_Journal) ∧ Binds K fd ["self"] [] := by
  obtain ⟨fd, F, b⟩ := T.d_Journal_lines.F
  obtain ⟨fd_letter_line, G_letter_line, b_letter_line⟩ := ok_letter_line (P := P) (w := w) (base := base) T
  refine ⟨fd, F.ok sc_Journal_lines (fun vs H Q E h => ?_) (fun cdv A outer s H vs Q E hr h => ?_), b⟩
  · obtain ⟨_, _, _, _, _, rfl, _⟩ := h
    rfl
  · obtain ⟨j, L, who, ps, ms, rfl, ⟨dx, hj⟩, hL, hs, few, w0, w1, sm, k⟩ := h
    have n1 := hs.1
    refine ⟨_, (pss_one (ps_ret (pe_lc (own := [("statement", 1)]) (g := (gName 1)) (tt := tYes) rfl sc_Journal_lines.nd (pi_list (pe_fld (pv 0) rfl)) (blkOk_by (own := [("statement", 1)]) (N := sc_Journal_lines_N) (sc := defScope s_Journal_lines) (by decide +kernel)) (fun _ _ _ _ _ => (pg_name (i := 1) sc_Journal_lines.nd rfl (Or.inl rfl))) (fun _ _ _ _ _ => pts_nil) (fun _ _ _ _ _ => (pe_call G_letter_line (hr.mono (by decide)) rfl T.d_letter_line.g T.d_letter_line.kp b_letter_line .nil pass0 (pa_cons (pe_tup (pa_cons (pe_fldK (K := K) rfl (pv 0) rfl) (pa_cons (pv 1) pa_nil))) pa_nil)))))), ?_⟩
    walk_at "rs"
    refine ⟨j, _, dx, _, .ref L, rfl, hj, T.cl_Journal, T.a_Journal_signed, jfs_s _ _, ?_⟩
    walk_at "rs"
    refine ⟨⟨_, SqL.of hL⟩, fun D hD => ?_⟩
    refine lc_list (K := K) (a := L) (xs := ps.map V.ref) (fun i H2 => Same H H2 ∧ H2 D = some (.lst (((ms.take i).map (lineS who)).map V.str))) ⟨same_new hD, by rw [upd_same]; simp⟩ (fun i H2 _ ⟨s2, _⟩ => SqL.of (s2 _ _ hL)) ?_ ?_
    · rintro i y H2 hy ⟨s2, hd⟩
      have hi : i < ps.length := by
        have e := (List.getElem?_eq_some_iff.mp hy).1
        rwa [List.length_map] at e
      have hi' : i < ms.length := by omega
      rw [at_refs hi] at hy
      cases hy
      have et := take_succ_getD (d := default) hi'
      have hsy := sm _ (getD_mem2 (d := default) hi')
      have hm := s2 _ _ (hs.2 i hi')
      generalize ms.getD i default = m at et hsy hm
      refine ⟨rfl, ?_⟩
      walk_at "rs"
      refine ⟨j, _, dx, _, .int who, rfl, s2 _ _ hj, T.cl_Journal, T.a_Journal_who, jfs_w _ _, ?_⟩
      walk_at "rs"
      refine ⟨(by show 2 ≤ sizeLine; decide), fun t ht => ?_⟩
      have s3 := same_new (o := .tup [V.int who, V.ref (ps.getD i 0)]) ht
      refine ⟨t, ⟨who, m⟩, rfl, ⟨_, upd_same, s3 _ _ hm⟩, w0, w1, hsy, fun H4 s4 => ?_⟩
      refine ⟨_, s4 _ _ (s3 _ _ hd), by rw [List.length_map, List.length_map, List.length_take]; exact small1000 (by omega), same_upd (s2.trans (s3.trans s4)) hD, ?_⟩
      rw [upd_same, et]
      simp
    · rintro H2 ⟨s2, hd⟩
      rw [List.length_map, n1, List.take_length] at hd
      exact k D H2 s2 hd
theorem ok_Journal_last_turn (T : Txt K mg a) : ∃ fd, FnOk P w K mg base CX0 1 a.d_Journal_last_turn fd ["self", "height"] (spLast K a.C_Journal) ∧ Binds K fd ["self", "height"] [] := by
  obtain ⟨fd, F, b⟩ := T.d_Journal_last_turn.F
  refine ⟨fd, F.ok sc_Journal_last_turn (fun vs H Q E h => ?_) (fun cdv A outer s H vs Q E hr h => ?_), b⟩
  · obtain ⟨_, _, _, _, _, _, rfl, _⟩ := h
    rfl
  · obtain ⟨j, L, who, h, ps, ms, rfl, ⟨dx, hj⟩, hL, hs, few, pos, k⟩ := h
    have n1 := hs.1
    refine ⟨_, (pss_cons (ps_setLc (i := 2) (own := [("statement", 3)]) (g := (gName 3)) rfl sc_Journal_last_turn.nd rfl rfl (sw_true rfl rfl rfl (by decide +kernel)) (pi_list (pe_fld (pv 0) rfl)) (blkOk_by (own := [("statement", 3)]) (N := sc_Journal_last_turn_N) (sc := defScope s_Journal_last_turn) (by decide +kernel)) (fun _ _ _ _ _ => (pg_name (i := 3) sc_Journal_last_turn.nd rfl (Or.inl rfl))) (fun _ _ _ _ _ => (pts_one (pt_cmpR op_eq (pe_ix (r := rIxT K) ix_tup (pv 3) (pe_glob (v := (.int 1)) rfl T.c_HEIGHT.choose_spec ⟨_, rfl⟩) (fun _ _ => rfl)) (pv 1) (nomark _)))) (fun _ _ _ _ _ => (pe_ix (r := rIxT K) ix_tup (pv 3) (pe_glob (v := (.int 2)) rfl T.c_TURN.choose_spec ⟨_, rfl⟩) (fun _ _ => rfl))))
      (pss_one (ps_ret (pe_callBK (cr_maxd rfl) (by rfl) T.n_max (by decide +kernel) (pa_cons (pv 2) pa_nil) (pk_cons pe_int pk_nil))))), ?_⟩
    walk_at "rs"
    refine ⟨j, _, dx, _, .ref L, rfl, hj, T.cl_Journal, T.a_Journal_signed, jfs_s _ _, ?_⟩
    walk_at "rs"
    refine ⟨⟨_, SqL.of hL⟩, fun D hD => ?_⟩
    refine lc_list (K := K) (a := L) (xs := ps.map V.ref) (fun i H2 => Same H H2 ∧ H2 D = some (.lst ((((ms.take i).filter fun m => decide (m.h = h)).map Sm.t).map V.int))) ⟨same_new hD, by rw [upd_same]; simp⟩ (fun i H2 _ ⟨s2, _⟩ => SqL.of (s2 _ _ hL)) ?_ ?_
    · rintro i y H2 hy ⟨s2, hd⟩
      have hi : i < ps.length := by
        have e := (List.getElem?_eq_some_iff.mp hy).1
        rwa [List.length_map] at e
      have hi' : i < ms.length := by omega
      rw [at_refs hi] at hy
      cases hy
      have et := take_succ_getD (d := default) hi'
      have hm := s2 _ _ (hs.2 i hi')
      generalize ms.getD i default = m at et hm
      have lf := List.length_filter_le (fun m : Sm => decide (m.h = h)) (ms.take i)
      rw [List.length_take] at lf
      refine ⟨rfl, ?_⟩
      walk_at "rs"
      refine ite2 (fun c1 => ?_) (fun c1 => ?_) <;> simp only [dec_int, beq_iff_eq] at c1
      · walk_at "rs"
        refine ⟨_, hd, by rw [List.length_map, List.length_map]; exact small1000 (by omega), same_upd s2 hD, ?_⟩
        rw [upd_same, et, List.filter_append, List.filter_cons_of_pos (by exact decide_eq_true c1)]
        simp
      · refine ⟨s2, ?_⟩
        rw [hd, et, List.filter_append, List.filter_cons_of_neg (by simpa using c1)]
        simp
    · rintro H2 ⟨s2, hd⟩
      rw [List.length_map, n1, List.take_length] at hd
      have mem : ∀ m ∈ ms, m.h = h → m.t ∈ (ms.filter fun m => decide (m.h = h)).map Sm.t := fun m hm e => List.mem_map.mpr ⟨m, List.mem_filter.mpr ⟨hm, decide_eq_true e⟩, rfl⟩
      have back : ∀ z ∈ (ms.filter fun m => decide (m.h = h)).map Sm.t, 0 ≤ z := fun z hz => by
        obtain ⟨m, hm, rfl⟩ := List.mem_map.mp hz
        exact pos m (List.mem_filter.mp hm).1
      walk_at "rs"
      refine ⟨D, _, _, rfl, rfl, SqL.of hd, fun e => ?_, fun z hz lo => ?_⟩
      · refine k 0 H2 s2 (.inl rfl) (Int.le_refl _) fun m hm eh => ?_
        have := mem m hm eh
        rw [e] at this
        cases this
      · exact k z H2 s2 (.inr hz) (back z hz) fun m hm eh => lo _ (mem m hm eh)

theorem ok_law_cell (T : Txt K mg a) : ∃ fd, FnOk P w K mg base CX0 1 a.d_law_cell fd ["script", "k"] (spCell K) ∧ Binds K fd ["script", "k"] [] := by
  obtain ⟨fd, F, b⟩ := T.d_law_cell.F
  refine ⟨fd, F.ok sc_law_cell (fun vs H Q E h => ?_) (fun cdv A outer s H vs Q E hr h => ?_), b⟩
  · obtain ⟨a, ns, k, rfl, _⟩ := h
    rfl
  · obtain ⟨l, ns, k, rfl, hS, hl, hk, q⟩ := h
    refine ⟨_, (pss_cons (ps_if (pt_cmpR op_lt (pv 1) (pe_callB call_len_seq (by rfl) T.n_len PySem.boot_len (pa_cons (pv 0) pa_nil)) (nomark _))
      (pss_one (ps_ret (pe_ix ix_list (pv 0) (pv 1) (fun _ _ => rfl))))
      pss_nil)
      (pss_one (ps_ret pe_int))), ?_⟩
    refine ⟨_, rfl, _, rfl, l, _, rfl, .inl hS, _, _, rfl, rfl, _, rfl, ?_⟩
    refine ite2 (fun hlt => ?_) (fun hge => ?_)
    · have hlt : k < ((ns.map V.int).length : Int) := of_decide_eq_true hlt
      rw [List.length_map] at hlt
      have hj : k.toNat < ns.length := by omega
      have e : ns.getD k.toNat 0 = ns[k.toNat] := by rw [List.getD_eq_getElem?_getD, List.getElem?_eq_getElem hj]; rfl
      rw [e] at q
      refine ⟨_, rfl, _, rfl, l, _, k, .int ns[k.toNat], rfl, rfl, hS, at_of (j := k.toNat) (by omega) (by rw [List.getElem?_map, List.getElem?_eq_getElem hj]; rfl), q⟩
    · have hge : ¬ k < ((ns.map V.int).length : Int) := fun e => hge (decide_eq_true e)
      rw [List.length_map] at hge
      have e : ns.getD k.toNat 0 = 0 := by rw [List.getD_eq_getElem?_getD, List.getElem?_eq_none (by omega)]; rfl
      rw [e] at q
      exact q

theorem ok_law_is_integer (T : Txt K mg a) : ∃ fd, FnOk P w K mg base CX0 1 a.d_law_is_integer fd ["actual"] (spIsInt K) ∧ Binds K fd ["actual"] [] := by
  obtain ⟨fd, F, b⟩ := T.d_law_is_integer.F
  refine ⟨fd, F.ok sc_law_is_integer (fun vs H Q E h => ?_) (fun cdv A outer s H vs Q E hr h => ?_), b⟩
  · obtain ⟨_, rfl, _⟩ := h
    rfl
  · obtain ⟨i, rfl, k⟩ := h
    refine ⟨_, (pss_one (ps_ret (pe_and (pe_callB call_isi (by rfl) T.n_isinstance (by decide +kernel) (pa_cons (pv 0) (pa_cons (pe_bltn (v := .ty "int") (u := .type "int") (by rfl) T.n_int (by decide +kernel) rfl) pa_nil))) (pe_one (pe_not (pe_callB call_isi (by rfl) T.n_isinstance (by decide +kernel) (pa_cons (pv 0) (pa_cons (pe_bltn (v := .ty "bool") (u := .type "bool") (by rfl) T.n_bool (by decide +kernel) rfl) pa_nil)))))))), ?_⟩
    walk_at "rs"
    refine ⟨_, _, .type "int", .type "int", true, rfl, .ty _, .base (.int _), kit_ty (by decide +kernel), ?_⟩
    walk_at "rs"
    refine ⟨_, _, .type "int", .type "bool", false, rfl, .ty _, .base (.int _), kit_ty (by decide +kernel), ?_⟩
    walk_at "rs"
    exact k

theorem ok_law_clash (T : Txt K mg a) : ∃ fd, FnOk P w K mg base CX0 1 a.d_law_clash fd ["one", "other"] (spClash K) ∧ Binds K fd ["one", "other"] [] := by
  obtain ⟨fd, F, b⟩ := T.d_law_clash.F
  refine ⟨fd, F.ok sc_law_clash (fun vs H Q E h => ?_) (fun cdv A outer s H vs Q E hr h => ?_), b⟩
  · obtain ⟨_, _, _, _, rfl, _⟩ := h
    rfl
  · obtain ⟨p, q, m, n, rfl, hp, hq, k⟩ := h
    have k0 : Q (.bl (clashM m n)) H := k _ (Same.refl H)
    clear k
    refine ⟨_, (pss_cons (ps_if (PW.pt (pw_or (pt_cmpR op_ne (pe_ix ix_tup (pv 0) pe_int (fun _ _ => rfl)) (pe_ix ix_tup (pv 1) pe_int (fun _ _ => rfl)) (nomark _)) (pw_or (pt_cmpR op_eq (pe_ix ix_tup (pv 0) pe_int (fun _ _ => rfl)) pe_str (nomark _)) (pw_or1 (pt_cmpR op_eq (pe_ix ix_tup (pv 1) pe_int (fun _ _ => rfl)) pe_str (nomark _))))))
      (pss_one (ps_ret pe_bl))
      pss_nil)
      (pss_cons (ps_if (pt_cmpR op_eq (pe_ix ix_tup (pv 0) pe_int (fun _ _ => rfl)) (pe_ix ix_tup (pv 1) pe_int (fun _ _ => rfl)) (nomark _))
      (pss_one (ps_ret (pe_and (pe_cmpR op_eq (pe_ix ix_tup (pv 0) pe_int (fun _ _ => rfl)) (pe_ix ix_tup (pv 1) pe_int (fun _ _ => rfl)) (nomark _)) (pe_one (pe_cmpR op_ne (pe_ix ix_tup (pv 0) pe_int (fun _ _ => rfl)) (pe_ix ix_tup (pv 1) pe_int (fun _ _ => rfl)) (nomark _))))))
      pss_nil)
      (pss_cons (ps_set (i := 2) sc_law_clash.nd rfl (Or.inl rfl) (pv 0))
      (pss_cons (ps_set (i := 3) sc_law_clash.nd rfl (Or.inl rfl) (pv 1))
      (pss_cons (ps_if (pt_cmpR op_eq (pe_ix ix_tup (pv 0) pe_int (fun _ _ => rfl)) pe_str (nomark _))
      (pss_cons (ps_set (i := 2) sc_law_clash.nd rfl (Or.inl rfl) (pv 1))
        (pss_one (ps_set (i := 3) sc_law_clash.nd rfl (Or.inl rfl) (pv 0))))
      pss_nil)
      (pss_cons (ps_if (PW.pt (pw_or (pt_cmpR op_isN (pe_ix ix_tup (pv 2) pe_int (fun _ _ => rfl)) pe_non (nomark _)) (pw_or (pt_cmpR op_isN (pe_ix ix_tup (pv 3) pe_int (fun _ _ => rfl)) pe_non (nomark _)) (pw_or (pt_cmpR op_eq (pe_ix ix_tup (pv 2) pe_int (fun _ _ => rfl)) (pe_ix ix_tup (pv 3) pe_int (fun _ _ => rfl)) (nomark _)) (pw_or1 (pt_cmpR op_le (pe_ix ix_tup (pv 3) pe_int (fun _ _ => rfl)) (pe_ix ix_tup (pv 2) pe_int (fun _ _ => rfl)) (nomark _)))))))
      (pss_one (ps_ret pe_bl))
      pss_nil)
      (pss_one (ps_ret (pe_or (pe_cmpR op_isN (pe_ix ix_tup (pv 3) pe_int (fun _ _ => rfl)) pe_non (nomark _)) (pe_one (pe_cmpR op_lt (pe_ix ix_tup (pv 3) pe_int (fun _ _ => rfl)) (pe_ix ix_tup (pv 2) pe_int (fun _ _ => rfl)) (nomark _)))))))))))), ?_⟩
    walk_at "rs"
    refine ite2 (fun c1 => ?_) (fun c1 => ?_) <;> simp only [dec_int, Bool.not_eq_true', beq_eq_false_iff_ne, Bool.not_eq_false', Bool.not_eq_true, beq_iff_eq, ne_eq, Decidable.not_not] at c1
    · rw [show clashM m n = false from if_pos c1] at k0
      exact k0
    walk_at "rs"
    refine ite2 (fun c2 => ?_) (fun c2 => ?_) <;> simp only [kprop, decide_eq_true_iff] at c2
    · rw [show clashM m n = false by
        unfold clashM abandM
        rw [if_neg (fun z => z c1)]
        by_cases e : m.k = n.k
        · rw [if_pos e, c2]
          rfl
        · rw [if_neg e, c2]
          simp] at k0
      exact k0
    walk_at "rs"
    refine ite2 (fun c3 => ?_) (fun c3 => ?_) <;> simp only [kprop, decide_eq_true_iff] at c3
    · rw [show clashM m n = false by
        unfold clashM abandM
        rw [if_neg (fun z => z c1)]
        by_cases e : m.k = n.k
        · rw [if_pos e, e, c3]
          rfl
        · rw [if_neg e, c3]
          simp] at k0
      exact k0
    walk_at "rs"
    refine ite2 (fun c4 => ?_) (fun c4 => ?_) <;> simp only [dec_kd, decide_eq_true_iff] at c4
    · unfold clashM at k0
      rw [if_neg (fun z => z c1), if_pos c4, decide_eq_true c2, Bool.true_and] at k0
      walk_at "rs"
      refine ite2 (fun c5 => ?_) (fun c5 => ?_) <;> simp only [dec_int, beq_iff_eq] at c5
      · rw [decide_eq_true c5, Bool.true_and] at k0
        walk_at "rs"
        rw [show decide (m.b ≠ n.b) = (!decide (oS m.b = oS n.b)) by rw [dec_oS, decide_not]] at k0
        exact k0
      · rw [decide_eq_false c5, Bool.false_and] at k0
        exact k0
    · unfold clashM at k0
      rw [if_neg (fun z => z c1), if_neg c4] at k0
      walk_at "rs"
      refine ite2 (fun c5 => ?_) (fun c5 => ?_) <;> simp only [kpre, decide_eq_true_iff] at c5
      · have cn : n.k = .com := by
          cases e : n.k with
          | prop => exact absurd e c3
          | pre => exact absurd (c5.trans e.symm) c4
          | com => rfl
        rw [show abandM m n = false from if_neg (fun z => by rw [c5] at z; cases z.1), Bool.false_or] at k0
        walk_at "rs"
        refine ite2 (fun d1 => ?_) (fun d1 => ?_) <;> simp only [koSn, decide_eq_true_iff] at d1
        · rw [show abandM n m = false from if_neg (fun z => z.2.2.1 d1)] at k0
          exact k0
        walk_at "rs"
        refine ite2 (fun d2 => ?_) (fun d2 => ?_) <;> simp only [koSn, decide_eq_true_iff] at d2
        · rw [show abandM n m = false from if_neg (fun z => z.2.2.2.1 d2)] at k0
          exact k0
        walk_at "rs"
        refine ite2 (fun d3 => ?_) (fun d3 => ?_) <;> simp only [koS, decide_eq_true_iff] at d3
        · rw [show abandM n m = false from if_neg (fun z => z.2.2.2.2.1 d3)] at k0
          exact k0
        walk_at "rs"
        refine ite2 (fun d4 => ?_) (fun d4 => ?_) <;> simp only [decide_eq_true_iff] at d4
        · rw [show abandM n m = false from if_neg (fun z => by have := z.2.2.2.2.2; omega)] at k0
          exact k0
        rw [show abandM n m = (match m.l with | none => true | some l => decide (l < n.t)) from if_pos ⟨by assumption, by assumption, d1, d2, d3, by omega⟩] at k0
        walk_at "rs"
        refine ite2 (fun d5 => ?_) (fun d5 => ?_) <;> simp only [koIn, decide_eq_true_iff] at d5
        · rw [d5] at k0
          exact k0
        · cases hnl : m.l with
          | none => exact absurd hnl d5
          | some l =>
            rw [hnl] at k0
            refine ⟨_, rfl, _, _, _, _, rfl, rfl, SqT.of (by assumption), (at4 m (by assumption)).trans (by rw [hnl]), ?_⟩
            walk_at "rs"
            exact k0
      · have cm : m.k = .com := by
          cases e : m.k with
          | prop => exact absurd e c2
          | pre => exact absurd e c5
          | com => rfl
        have cn : n.k = .pre := by
          cases e : n.k with
          | prop => exact absurd e c3
          | pre => rfl
          | com => exact absurd (cm.trans e.symm) c4
        rw [show abandM n m = false from if_neg (fun z => by rw [cn] at z; cases z.1), Bool.or_false] at k0
        walk_at "rs"
        refine ite2 (fun d1 => ?_) (fun d1 => ?_) <;> simp only [koSn, decide_eq_true_iff] at d1
        · rw [show abandM m n = false from if_neg (fun z => z.2.2.1 d1)] at k0
          exact k0
        walk_at "rs"
        refine ite2 (fun d2 => ?_) (fun d2 => ?_) <;> simp only [koSn, decide_eq_true_iff] at d2
        · rw [show abandM m n = false from if_neg (fun z => z.2.2.2.1 d2)] at k0
          exact k0
        walk_at "rs"
        refine ite2 (fun d3 => ?_) (fun d3 => ?_) <;> simp only [koS, decide_eq_true_iff] at d3
        · rw [show abandM m n = false from if_neg (fun z => z.2.2.2.2.1 d3)] at k0
          exact k0
        walk_at "rs"
        refine ite2 (fun d4 => ?_) (fun d4 => ?_) <;> simp only [decide_eq_true_iff] at d4
        · rw [show abandM m n = false from if_neg (fun z => by have := z.2.2.2.2.2; omega)] at k0
          exact k0
        rw [show abandM m n = (match n.l with | none => true | some l => decide (l < m.t)) from if_pos ⟨by assumption, by assumption, d1, d2, d3, by omega⟩] at k0
        walk_at "rs"
        refine ite2 (fun d5 => ?_) (fun d5 => ?_) <;> simp only [koIn, decide_eq_true_iff] at d5
        · rw [d5] at k0
          exact k0
        · cases hnl : n.l with
          | none => exact absurd hnl d5
          | some l =>
            rw [hnl] at k0
            refine ⟨_, rfl, _, _, _, _, rfl, rfl, SqT.of (by assumption), (at4 n (by assumption)).trans (by rw [hnl]), ?_⟩
            walk_at "rs"
            exact k0

theorem pick5b {i : Int} (h0 : 0 ≤ i) (h5 : i < 5) : ∃ b : Option Str, atI [V.str "a", V.str "b", V.str "a", V.str "b", V.non] i = some (oS b) ∧ OkS b ∧ ∀ x, b = some x → x.length ≤ 60 := by
  have ha : ∀ x : Str, some ("a" : Str) = some x → x.length ≤ 60 := fun x e => by cases e; decide +kernel
  have hb : ∀ x : Str, some ("b" : Str) = some x → x.length ≤ 60 := fun x e => by cases e; decide +kernel
  have h : i = 0 ∨ i = 1 ∨ i = 2 ∨ i = 3 ∨ i = 4 := by omega
  rcases h with rfl | rfl | rfl | rfl | rfl
  · exact ⟨some "a", rfl, okA, ha⟩
  · exact ⟨some "b", rfl, okB, hb⟩
  · exact ⟨some "a", rfl, okA, ha⟩
  · exact ⟨some "b", rfl, okB, hb⟩
  · exact ⟨none, rfl, okN, fun x e => nomatch e⟩
theorem ok_law_statement (T : Txt K mg a) : ∃ fd, FnOk P w K mg base CX0 1 a.d_law_statement fd ["digit", "height"] (spStat2 K) ∧ Binds K fd ["digit", "height"] [] := by
  obtain ⟨fd, F, b⟩ := T.d_law_statement.F
  refine ⟨fd, F.ok sc_law_statement (fun vs H Q E h => ?_) (fun cdv A outer s H vs Q E hr h => ?_), b⟩
  · obtain ⟨_, _, rfl, _⟩ := h
    rfl
  · obtain ⟨d, ht, rfl, k⟩ := h
    refine ⟨_, (pss_cons (ps_set (i := 2) sc_law_statement.nd rfl (Or.inl rfl) (pe_ix ix_tup (pe_tup (pa_cons pe_str (pa_cons pe_str (pa_cons pe_str (pa_cons pe_str (pa_cons pe_non pa_nil)))))) (pe_op op_mod (pe_callTy call_int1 (by rfl) T.n_int (by decide +kernel) (pa_cons (pv 0) pa_nil)) pe_int) (fun _ _ => rfl)))
      (pss_cons (ps_set (i := 3) sc_law_statement.nd rfl (Or.inl rfl) (pe_op op_mod (pe_op op_fdiv (pv 0) pe_int) pe_int))
      (pss_cons (ps_if (pt_cmpR op_eq (pe_op op_mod (pe_op op_fdiv (pv 0) pe_int) pe_int) pe_int (nomark _))
      (pss_one (ps_ret (pe_tup (pa_cons pe_str (pa_cons (pv 1) (pa_cons (pv 3) (pa_cons (pv 2) pa_nil)))))))
      pss_nil)
      (pss_cons (ps_set (i := 4) sc_law_statement.nd rfl (Or.inl rfl) pe_non)
      (pss_cons (ps_if (PW.pt (pw_and (pt_cmpR op_notN (pv 2) pe_non (nomark _)) (pw_and (pt_cmpR op_gt (pv 3) pe_int (nomark _)) (pw_and1 (pt_cmpR op_eq (pe_op op_mod (pe_op op_fdiv (pv 0) pe_int) pe_int) pe_int (nomark _))))))
      (pss_one (ps_set (i := 4) sc_law_statement.nd rfl (Or.inl rfl) (pe_op op_mod (pe_op op_fdiv (pv 0) pe_int) (pv 3))))
      pss_nil)
      (pss_one (ps_ret (pe_tup (pa_cons pe_str (pa_cons (pv 1) (pa_cons (pv 3) (pa_cons (pv 2) (pa_cons (pv 4) pa_nil))))))))))))), ?_⟩
    walk_at "rs"
    refine ⟨(by show 5 ≤ sizeLine; decide), fun p1 hp1 => ?_⟩
    obtain ⟨b1, hb1, ob1, lb1⟩ := pick5b (i := d % 5) (Int.emod_nonneg _ (by decide)) (Int.emod_lt_of_pos _ (by decide))
    have s1 : Same H (upd H p1 (.tup [V.str "a", V.str "b", V.str "a", V.str "b", V.non])) := same_new hp1
    have t0 : 0 ≤ d / 5 % 4 := Int.emod_nonneg _ (by decide)
    have t4 : d / 5 % 4 < 4 := Int.emod_lt_of_pos _ (by decide)
    walk_at "rs"
    refine ⟨p1, _, _, _, rfl, rfl, SqT.of upd_same, hb1, ?_⟩
    walk_at "rs"
    refine ite2 (fun c1 => ?_) (fun c1 => ?_)
    · walk_at "rs"
      refine ⟨(by show 4 ≤ sizeLine; decide), fun q hq => ?_⟩
      exact k q ⟨.com, _, _, b1, none⟩ _ (s1.trans (same_new hq)) upd_same ⟨ob1, lb1, t0, t4, fun l e => nomatch e⟩ rfl
    walk_at "rs"
    refine ite2 (fun c2 => ?_) (fun c2 => ?_)
    · walk_at "rs"
      refine ite2 (fun c3 => ?_) (fun c3 => ?_)
      · have c3' := of_decide_eq_true c3
        walk_at "rs"
        refine ite2 (fun c4 => ?_) (fun c4 => ?_)
        · walk_at "rs"
          refine ⟨(by show 5 ≤ sizeLine; decide), fun q hq => ?_⟩
          refine k q ⟨.pre, _, _, b1, some _⟩ _ (s1.trans (same_new hq)) upd_same ⟨ob1, lb1, t0, t4, fun l e => ?_⟩ rfl
          have e : d / 80 % (d / 5 % 4) = l := by injection e
          have g0 : 0 ≤ d / 80 % (d / 5 % 4) := Int.emod_nonneg _ (by omega)
          have g1 : d / 80 % (d / 5 % 4) < d / 5 % 4 := Int.emod_lt_of_pos _ (by omega)
          omega
        · walk_at "rs"
          refine ⟨(by show 5 ≤ sizeLine; decide), fun q hq => ?_⟩
          exact k q ⟨.pre, _, _, b1, none⟩ _ (s1.trans (same_new hq)) upd_same ⟨ob1, lb1, t0, t4, fun l e => nomatch e⟩ rfl
      · walk_at "rs"
        refine ⟨(by show 5 ≤ sizeLine; decide), fun q hq => ?_⟩
        exact k q ⟨.pre, _, _, b1, none⟩ _ (s1.trans (same_new hq)) upd_same ⟨ob1, lb1, t0, t4, fun l e => nomatch e⟩ rfl
    · walk_at "rs"
      refine ⟨(by show 5 ≤ sizeLine; decide), fun q hq => ?_⟩
      exact k q ⟨.pre, _, _, b1, none⟩ _ (s1.trans (same_new hq)) upd_same ⟨ob1, lb1, t0, t4, fun l e => nomatch e⟩ rfl

theorem ok_law_drawn (T : Txt K mg a) : ∃ fd, FnOk P w K mg base CX0 2 a.d_law_drawn fd ["cell"] (spDrawn K) ∧ Binds K fd ["cell"] [] := by
  obtain ⟨fd, F, b⟩ := T.d_law_drawn.F
  obtain ⟨fd_law_statement, G_law_statement, b_law_statement⟩ := ok_law_statement (P := P) (w := w) (base := base) T
  refine ⟨fd, F.ok sc_law_drawn (fun vs H Q E h => ?_) (fun cdv A outer s H vs Q E hr h => ?_), b⟩
  · obtain ⟨_, rfl, _⟩ := h
    rfl
  · obtain ⟨c, rfl, k⟩ := h
    have h0 : 0 ≤ c / 9 % 2 := Int.emod_nonneg _ (by decide)
    have h1 : c / 9 % 2 < 2 := Int.emod_lt_of_pos _ (by decide)
    have t0 : 0 ≤ c / 18 % 4 := Int.emod_nonneg _ (by decide)
    have t1 : c / 18 % 4 < 4 := Int.emod_lt_of_pos _ (by decide)
    have g0 : 0 ≤ c % 9 := Int.emod_nonneg _ (by decide)
    have g1 : c % 9 < 9 := Int.emod_lt_of_pos _ (by decide)
    refine ⟨_, (pss_cons (ps_if (pt_cmpR op_eq (pe_op op_mod (pe_callTy call_int1 (by rfl) T.n_int (by decide +kernel) (pa_cons (pv 0) pa_nil)) pe_int) pe_int (nomark _))
      (pss_one (ps_ret (pe_tup (pa_cons pe_str (pa_cons (pe_op op_mod (pe_op op_fdiv (pv 0) pe_int) pe_int) (pa_cons (pe_op op_mod (pe_op op_fdiv (pv 0) pe_int) pe_int) (pa_cons (pe_ix ix_str pe_str (pe_op op_mod (pe_op op_fdiv (pv 0) pe_int) pe_int) (fun _ _ => rfl)) pa_nil)))))))
      pss_nil)
      (pss_one (ps_ret (pe_call G_law_statement (hr.mono (by decide)) rfl T.d_law_statement.g T.d_law_statement.kp b_law_statement .nil pass0 (pa_cons (pe_op op_fdiv (pv 0) pe_int) (pa_cons (pe_op op_fdiv (pe_op op_mod (pe_callTy call_int1 (by rfl) T.n_int (by decide +kernel) (pa_cons (pv 0) pa_nil)) pe_int) pe_int) pa_nil)))))), ?_⟩
    walk_at "rs"
    refine ite2 (fun c1 => ?_) (fun c1 => ?_)
    · walk_at "rs"
      obtain ⟨d, hd, od, ld⟩ : ∃ d : Nat, atI ("ab" : Str).cps.toList (c / 72 % 2) = some d ∧ PyData.strOk (⟨#[d]⟩ : Str) = true ∧ (⟨#[d]⟩ : Str).length ≤ 60 := by
        have b0 : 0 ≤ c / 72 % 2 := Int.emod_nonneg _ (by decide)
        have b1 : c / 72 % 2 < 2 := Int.emod_lt_of_pos _ (by decide)
        have h : c / 72 % 2 = 0 ∨ c / 72 % 2 = 1 := by omega
        rcases h with h | h
        · rw [h]
          exact ⟨97, by decide +kernel, by decide +kernel, by decide +kernel⟩
        · rw [h]
          exact ⟨98, by decide +kernel, by decide +kernel, by decide +kernel⟩
      refine ⟨_, _, d, rfl, rfl, (by rw [sizeLine_eq]; decide +kernel), hd, ?_⟩
      refine ⟨(by show 4 ≤ sizeLine; decide), fun q hq => ?_⟩
      exact k q ⟨.prop, _, _, some ⟨#[d]⟩, none⟩ _ (same_new hq) upd_same ⟨fun x e => by cases e; exact od, fun x e => by cases e; exact ld, t0, t1, fun l e => nomatch e⟩ h0 h1
    · walk_at "rs"
      refine ⟨_, _, rfl, fun p m H' s' hp nm hm => ?_⟩
      exact k p m H' s' hp nm (by rw [hm]; show 0 ≤ c % 9 / 6; omega) (by rw [hm]; show c % 9 / 6 < 2; omega)
theorem ok_law_line (T : Txt K mg a) : ∃ fd, FnOk P w K mg base CX0 1 a.d_law_line fd ["who", "statement"] (spLLine K) ∧ Binds K fd ["who", "statement"] [] := by
  obtain ⟨fd, F, b⟩ := T.d_law_line.F
  refine ⟨fd, F.ok sc_law_line (fun vs H Q E h => ?_) (fun cdv A outer s H vs Q E hr h => ?_), b⟩
  · obtain ⟨_, _, _, rfl, _⟩ := h
    rfl
  · obtain ⟨who, p, m, rfl, hp, w0, w1, hs, k⟩ := h
    have hp' : H p = some (.tup m.vals) := hp
    have l5 := vals_len m
    refine ⟨_, (pss_cons (ps_set (i := 2) sc_law_line.nd rfl (Or.inl rfl) (pe_lst (pa_cons (pe_callTy cr_strA (by rfl) T.n_str (by decide +kernel) (pa_cons (pv 0) pa_nil)) pa_nil)))
      (pss_cons (ps_for PassesOwn.never rfl (pi_tup (pv 1)) (pg_name (i := 3) sc_law_line.nd rfl (Or.inl rfl))
      (pss_one (ps_if (pt_cmpR op_isN (pv 3) pe_non (nomark _))
        (pss_one (ps_expr (pe_bm PySem.F.plainAttrs_list PySem.F.slot_list_append PySem.F.type_list_append mt_append (pv 2) (pa_cons pe_str pa_nil))))
        (pss_one (ps_expr (pe_bm PySem.F.plainAttrs_list PySem.F.slot_list_append PySem.F.type_list_append mt_append (pv 2) (pa_cons (pe_callTy cr_strA (by rfl) T.n_str (by decide +kernel) (pa_cons (pv 3) pa_nil)) pa_nil)))))))
      (pss_one (ps_ret (pe_join pe_str (pv 2)))))), ?_⟩
    walk_at "rs"
    refine ⟨Nat.lt_of_le_of_lt (Nat.log2_le_self _) (by omega), ?_⟩
    refine ⟨(by show 1 ≤ sizeLine; decide), fun W hW => ?_⟩
    have s1 := same_new (o := .lst [V.str (toString who)]) hW
    walk_at "rs"
    refine ⟨⟨_, SqT.of (s1 _ _ hp')⟩, for_tup (K := K) (a := p) (xs := m.vals) (fun i σ H2 => ∃ v3 : Option V, σ = [some (.int who), some (.ref p), some (.ref W), v3] ∧ Same H H2 ∧ H2 W = some (.lst (((toString who : Str) :: (m.vals.take i).map wordV).map V.str)))
      ⟨_, rfl, s1, by rw [upd_same]; rfl⟩ (fun i σ H2 _ ⟨_, _, s2, _⟩ => SqT.of (s2 _ _ hp')) ?_ ?_⟩
    · rintro i y σ H2 hy ⟨v3, rfl, s2, hw2⟩
      have hi : i < m.vals.length := (List.getElem?_eq_some_iff.mp hy).1
      have et : m.vals.take (i + 1) = m.vals.take i ++ [y] := by rw [List.take_add_one, hy]; rfl
      have hsy := hs y (List.mem_of_getElem? hy)
      have lw : (((toString who : Str) :: (m.vals.take i).map wordV).map V.str).length < sizeLine := by
        rw [List.length_map, List.length_cons, List.length_map, List.length_take]
        exact small1000 (by omega)
      have fin : ∀ x : Str, x = wordV y → ∃ v3 : Option V, [some (V.int who), some (.ref p), some (.ref W), some y] = [some (V.int who), some (.ref p), some (.ref W), v3] ∧ Same H (upd H2 W (.lst (((toString who : Str) :: (m.vals.take i).map wordV).map V.str ++ [V.str x]))) ∧
          (upd H2 W (.lst (((toString who : Str) :: (m.vals.take i).map wordV).map V.str ++ [V.str x]))) W = some (.lst (((toString who : Str) :: (m.vals.take (i + 1)).map wordV).map V.str)) := fun x e => by
        refine ⟨_, rfl, same_upd s2 hW, ?_⟩
        rw [upd_same, et, e]
        simp
      rcases hsy with rfl | ⟨z, rfl, h0, h1⟩ | ⟨x, rfl, hx⟩
      · walk_at "rs"
        refine ⟨.inl ⟨rfl, _, SqL.of hw2⟩, ?_⟩
        walk_at "rs"
        refine ⟨W, _, _, rfl, rfl, hw2, lw, ?_⟩
        exact fin _ rfl
      · walk_at "rs"
        refine ⟨.inl ⟨rfl, _, SqL.of hw2⟩, ?_⟩
        walk_at "rs"
        refine ⟨Nat.lt_of_le_of_lt (Nat.log2_le_self _) (by omega), ?_⟩
        refine ⟨W, _, _, rfl, rfl, hw2, lw, ?_⟩
        exact fin _ rfl
      · walk_at "rs"
        refine ⟨.inl ⟨rfl, _, SqL.of hw2⟩, ?_⟩
        walk_at "rs"
        refine .inr ⟨x, rfl, ?_⟩
        refine ⟨W, _, _, rfl, rfl, hw2, lw, ?_⟩
        exact fin _ rfl
    · rintro σ H2 ⟨v3, rfl, s2, hw2⟩
      rw [List.take_length] at hw2
      have fit := join_fit (who := who) w0 w1 hs
      walk_at "rs"
      refine ⟨⟨_, rfl⟩, ?_⟩
      walk_at "rs"
      refine ⟨_, W, _, rfl, rfl, .inl (SqL.of hw2), fit, ?_⟩
      exact k _ s2
theorem ok_law_signs (TE : TxtE P K mg a) (T : Txt K mg a) : ∃ fd, FnOk P w K mg base CX0 4 a.d_law_signs fd ["journal", "who", "signed", "statement"] (spSigns K a.C_Journal) ∧ Binds K fd ["journal", "who", "signed", "statement"] [] := by
  obtain ⟨fd, F, b⟩ := T.d_law_signs.F
  obtain ⟨fd_Journal_sign, G_Journal_sign, b_Journal_sign⟩ := ok_Journal_sign (P := P) (w := w) (base := base) TE T
  obtain ⟨fd_law_clash, G_law_clash, b_law_clash⟩ := ok_law_clash (P := P) (w := w) (base := base) T
  obtain ⟨fdS, SupS, bS⟩ := TE.sup_Refused
  have nof := SupS.nof
  refine ⟨fd, F.ok sc_law_signs (fun vs H Q E h => ?_) (fun cdv A outer s H vs Q E hr h => ?_), b⟩
  · obtain ⟨_, _, _, _, _, _, _, _, rfl, _⟩ := h
    rfl
  · obtain ⟨j, p, L, G, who, ps, ms, m, rfl, ⟨dx, hj⟩, hL, hG, hs, hm, few, okm, ok, nGL, k⟩ := h
    have n1 := hs.1
    refine ⟨_, (pss_cons (ps_setLc (i := 4) (own := [("earlier", 7)]) (g := (gName 7)) rfl sc_law_signs.nd rfl rfl (sw_true rfl rfl rfl (by decide +kernel)) (pi_list (pv 2)) (blkOk_by (own := [("earlier", 7)]) (N := sc_law_signs_N) (sc := defScope s_law_signs) (by decide +kernel)) (fun _ _ _ _ _ => (pg_name (i := 7) sc_law_signs.nd rfl (Or.inl rfl))) (fun _ _ _ _ _ => (pts_one (pt_val (pe_call G_law_clash (hr.mono (by decide)) rfl T.d_law_clash.g T.d_law_clash.kp b_law_clash .nil pass0 (pa_cons (pv 7) (pa_cons (pv 3) pa_nil)))))) (fun _ _ _ _ _ => (pv 7)))
      (pss_cons (L2N.ps_try_as (i := 6) rfl rfl sc_law_signs.nd rfl rfl ⟨rfl, by decide, .inl TE.g_TribunalError⟩ takes0N (fun W pn xe tk _ => (pss_one (ps_set (i := 5) sc_law_signs.nd rfl (Or.inl rfl) (pe_methT (pv 0) T.cl_Journal T.me_Journal_sign G_Journal_sign (hr.mono (by decide)) b_Journal_sign (E := fun σ cls d H => W cls d σ H) (fun σ pins H s u s_ I c => tk u s_ (L2N.XE.of_call I (fun _ _ _ h => h) c)) (pa_cons (pv 3) pa_nil))))) (fun ae oe cls d pn hz hf => (pss_cons (ps_if (PW.pt (pw_or (pt_val (pe_callB (call_isXT hz.zc hf) (by rfl) T.n_isinstance (by decide +kernel) (pa_cons (pv 6) (pa_cons (pe_tup (pa_cons (pe_glob (v := .ref a.C_BadJournal) rfl TE.g_BadJournal rfl) (pa_cons (pe_glob (v := .ref a.C_BadLine) rfl TE.g_BadLine rfl) pa_nil))) pa_nil)))) (pw_or1 (pt_cmpR op_eq (pe_callB (id := "len") (r := rLenOf K) (cr_lenK rfl) (by rfl) T.n_len PySem.boot_len (pa_cons (pv 4) pa_nil)) pe_int (nomark _))))) (pss_one (ps_ret pe_bl)) pss_nil) (pss_one (ps_ret (pe_and (pe_callB (call_isX hz.zc hf) (by rfl) T.n_isinstance (by decide +kernel) (pa_cons (pv 6) (pa_cons (pe_glob (v := .ref a.C_Refused) rfl TE.g_Refused rfl) pa_nil))) (pe_one (pe_cmpR (r := rEqD K) (op_eqD hr.units) (pe_xf ⟨TE.xc_Refused.ga, TE.xc_Refused.gt, TE.xc_Refused.sub, TE.xc_Refused.has⟩ nof hz.zc hf (pv 6)) (pe_ix (r := rIxL K) ix_list (pv 4) pe_int (fun _ _ => rfl)) (nomark _)))))))))
      (pss_one (ps_ret (pe_and (pe_cmpR op_eq (pe_callB call_len_seq (by rfl) T.n_len PySem.boot_len (pa_cons (pv 4) pa_nil)) pe_int (nomark _)) (pe_and (pe_callB call_isi (by rfl) T.n_isinstance (by decide +kernel) (pa_cons (pv 5) (pa_cons (pe_bltn (v := .ty "tuple") (u := .type "tuple") (by rfl) T.n_tuple (by decide +kernel) rfl) pa_nil))) (pe_one (pe_cmpR (op_eqD hr.units) (pv 5) (pe_tup (pa_cons (pv 1) (pa_cons (pv 3) pa_nil))) (nomark _))))))))), ?_⟩
    walk_at "rs"
    refine ⟨⟨_, SqL.of hG⟩, fun D hD => ?_⟩
    refine lc_list (K := K) (a := G) (xs := ps.map V.ref) (fun i H2 => Same H H2 ∧ ∃ qs : List Addr, H2 D = some (.lst (qs.map V.ref)) ∧ qs.length ≤ i ∧ match fcl ms m i with | none => qs = [] | some k => ∃ r, qs = ps.getD k 0 :: r) ⟨same_new hD, [], upd_same, Nat.le_refl _, rfl⟩ (fun i H2 _ ⟨s2, _⟩ => SqL.of (s2 _ _ hG)) ?_ ?_
    · rintro i y H2 hy ⟨s2, qs, hd, lq, hqs⟩
      have hi : i < ps.length := by
        have e := (List.getElem?_eq_some_iff.mp hy).1
        rwa [List.length_map] at e
      rw [at_refs hi] at hy
      cases hy
      refine ⟨rfl, ?_⟩
      walk_at "rs"
      refine ⟨_, p, _, m, rfl, s2 _ _ (hs.2 i (by omega)), s2 _ _ hm, fun H3 s3 => ?_⟩
      walk_at "rs"
      refine ite2 (fun c1 => ?_) (fun c1 => ?_)
      · walk_at "rs"
        refine ⟨_, s3 _ _ hd, by rw [List.length_map]; exact small1000 (by omega), same_upd (s2.trans s3) hD, qs ++ [ps.getD i 0], by rw [upd_same]; simp, by rw [List.length_append, List.length_singleton]; omega, ?_⟩
        cases e : fcl ms m i with
        | none =>
          rw [e] at hqs
          rw [fcl_new e c1]
          exact ⟨[], by rw [hqs]; rfl⟩
        | some k =>
          rw [e] at hqs
          rw [fcl_keep e]
          obtain ⟨r, hr'⟩ := hqs
          exact ⟨r ++ [ps.getD i 0], by rw [hr']; rfl⟩
      · refine ⟨s2.trans s3, qs, s3 _ _ hd, by omega, ?_⟩
        cases e : fcl ms m i with
        | none =>
          rw [e] at hqs
          rw [fcl_no e (by simpa using c1)]
          exact hqs
        | some k =>
          rw [e] at hqs
          rw [fcl_keep e]
          exact hqs
    · rintro H2 ⟨s2, qs, hd, lq, hqs⟩
      rw [List.length_map, n1] at hqs
      rw [List.length_map] at lq
      walk_at "rs"
      refine ⟨j, dx, _, rfl, s2 _ _ hj, jfs_no _ _ (by decide +kernel) (by decide +kernel), ?_⟩
      walk_at "rs"
      refine ⟨j, p, L, who, ps, ms, m, rfl, ⟨dx, s2 _ _ hj⟩, s2 _ _ hL, hs.same s2, s2 _ _ hm, by omega, okm, ok, fun k1 e d H3 s3 hd3 => ?_, fun e t H3 kb hL3 ht3 => ?_⟩
      · rw [e] at hqs k
        obtain ⟨r, hr'⟩ := hqs
        have s23 := s2.trans s3
        refine ⟨true, TE.exm_TribunalError_Refused, fun _ ex hex => ?_, fun z => nomatch z⟩
        walk_at "rs"
        refine ⟨(by show 2 ≤ sizeLine; decide), fun tp htp => ?_⟩
        have s4 := same_new (o := .tup [V.ref a.C_BadJournal, V.ref a.C_BadLine]) htp
        refine ⟨a.C_Refused, d, tp, _, _, false, _, rfl, rfl, rfl, TE.xc_Refused, upd_same, .cons (.own _) (.cons (.own _) .nil), s4 _ _ hd3, TE.ktR, ?_⟩
        walk_at "rs"
        refine ⟨D, _, rfl, .inl (SqL.of (s4 _ _ (s3 _ _ hd))), ?_⟩
        walk_at "rs"
        refine ite2 (fun c1 => ?_) (fun c1 => ?_)
        · exfalso
          rw [hr', List.map_cons, List.length_cons] at c1
          simp [dec_int] at c1
          omega
        walk_at "rs"
        refine ⟨a.C_Refused, d, .ref a.C_Refused, .ref a.C_Refused, true, _, rfl, rfl, rfl, TE.xc_Refused, .own _, s4 _ _ hd3, TE.kt0, ?_⟩
        walk_at "rs"
        refine ⟨d, _, _, rfl, s4 _ _ hd3, (by rfl : List.lookup ("vote" : Str) [(("vote" : Str), V.ref (ps.getD k1 0))] = some (.ref (ps.getD k1 0))), ?_⟩
        walk_at "rs"
        refine ⟨D, _, 0, _, rfl, rfl, SqL.of (s4 _ _ (s3 _ _ hd)), by rw [hr']; exact atI_nat (j := 0) rfl, ?_⟩
        have hk := fcl_lt e
        have hmk := s4 _ _ (s3 _ _ (s2 _ _ (hs.2 k1 hk)))
        have okk : OkS (ms.getD k1 default).b := okm _ (getD_mem2 hk)
        refine ⟨_, _, dp_sm hmk, dp_sm hmk, shaped_sm _ okk, shaped_sm _ okk, ?_⟩
        rw [eqv_sm _ okk]
        refine k _ (fun b o nb hb => s4 _ _ (s3 _ _ (s2 b o hb))) ?_
        rw [s4 _ _ (s3 _ _ (s2 _ _ hL))]
        rfl
      · rw [e] at hqs k
        subst hqs
        have nDL : D ≠ L := fun z => by rw [z, hL] at hD; cases hD
        walk_at "rs"
        refine ⟨D, _, rfl, .inl (SqL.of (kb _ _ nDL hd)), ?_⟩
        walk_at "rs"
        refine ⟨_, _, .type "tuple", .type "tuple", true, rfl, .ty _, .base (.tup ht3), kit_ty (by decide +kernel), ?_⟩
        walk_at "rs"
        refine ⟨(by show 2 ≤ sizeLine; decide), fun t2 ht2 => ?_⟩
        have s4 := same_new (o := .tup [V.int who, V.ref p]) ht2
        have hq : H3 p = some (.tup m.vals) := kb.sm (s2 _ _ hL) (s2 _ _ hm)
        have hq4 := s4 _ _ hq
        refine ⟨_, _, .tup (SqT.of (s4 _ _ ht3)) (.cons (.int _) (.cons (dp_sm hq4) .nil)), .tup (SqT.of upd_same) (.cons (.int _) (.cons (dp_sm hq4) .nil)), shaped_pair ok, shaped_pair ok, ?_⟩
        rw [eqv_pair ok]
        refine k _ (fun b o nb hb => s4 _ _ (kb b o nb (s2 b o hb))) (s4 _ _ hL3)
theorem ok_law {f : Addr} {fd : FuncData} (F : Fun K "law" "law" s_law f fd) (TE : TxtE P K mg a) (T : Txt K mg a) : FnOk P w K mg base CX0 5 f fd ["script"] (spLaw K) := by
  obtain ⟨fd_Journal_init, G_Journal_init, b_Journal_init⟩ := ok_Journal_init (P := P) (w := w) (base := base) T
  obtain ⟨fd_law_drawn, G_law_drawn, b_law_drawn⟩ := ok_law_drawn (P := P) (w := w) (base := base) T
  obtain ⟨fd_Journal_lines, G_Journal_lines, b_Journal_lines⟩ := ok_Journal_lines (P := P) (w := w) (base := base) T
  obtain ⟨fd_law_cell, G_law_cell, b_law_cell⟩ := ok_law_cell (P := P) (w := w) (base := base) T
  obtain ⟨fd_law_signs, G_law_signs, b_law_signs⟩ := ok_law_signs (P := P) (w := w) (base := base) TE T
  obtain ⟨fd_law_line, G_law_line, b_law_line⟩ := ok_law_line (P := P) (w := w) (base := base) T
  obtain ⟨fd_law_is_integer, G_law_is_integer, b_law_is_integer⟩ := ok_law_is_integer (P := P) (w := w) (base := base) T
  obtain ⟨fd_Journal_last_turn, G_Journal_last_turn, b_Journal_last_turn⟩ := ok_Journal_last_turn (P := P) (w := w) (base := base) T
  obtain ⟨fd_law_clash, G_law_clash, b_law_clash⟩ := ok_law_clash (P := P) (w := w) (base := base) T
  refine F.ok sc_law (fun vs H Q E h => ?_) (fun cdv A outer s H vs Q E hr h => ?_)
  · obtain ⟨_, _, rfl, _⟩ := h
    rfl
  · obtain ⟨l, ns, rfl, hS, hl, k⟩ := h
    refine ⟨_, (pss_cons (ps_set (i := 1) sc_law.nd rfl (Or.inr rfl) (pe_op op_mod (pe_callTy call_int1 (by rfl) T.n_int (by decide +kernel) (pa_cons (pe_call G_law_cell (hr.mono (by decide)) rfl T.d_law_cell.g T.d_law_cell.kp b_law_cell .nil pass0 (pa_cons (pv 0) (pa_cons pe_int pa_nil))) pa_nil)) pe_int))
      (pss_cons (ps_set (i := 2) sc_law.nd rfl (Or.inl rfl) (pe_make T.m_Journal G_Journal_init (hr.mono (by decide)) (by rfl) T.g_Journal b_Journal_init .nil pass0 (pa_cons (pv 1) pa_nil)))
      (pss_cons (ps_set (i := 3) sc_law.nd rfl (Or.inl rfl) (pe_lst pa_nil))
      (pss_cons (ps_for PassesOwn.never rfl (pi_list (pv 0)) (pg_name (i := 4) sc_law.nd rfl (Or.inl rfl))
      (pss_cons (ps_set (i := 5) sc_law.nd rfl (Or.inr rfl) (pe_call G_law_drawn (hr.mono (by decide)) rfl T.d_law_drawn.g T.d_law_drawn.kp b_law_drawn .nil pass0 (pa_cons (pv 4) pa_nil)))
        (pss_cons (ps_if (pt_not (pt_val (pe_call G_law_signs (hr.mono (by decide)) rfl T.d_law_signs.g T.d_law_signs.kp b_law_signs .nil pass0 (pa_cons (pv 2) (pa_cons (pv 1) (pa_cons (pv 3) (pa_cons (pv 5) pa_nil)))))))
        (pss_one (ps_ret pe_bl))
        pss_nil)
        (C8.pss_cut (ps_if (PW.pt (pw_and (pt_cmpR op_eq (pe_callB call_len_seq (by rfl) T.n_len PySem.boot_len (pa_cons (pe_lc (own := [("earlier", 8)]) (g := (gName 8)) rfl sc_law.nd (pi_list (pv 3)) (blkOk_by (own := [("earlier", 8)]) (N := sc_law_N) (sc := defScope s_law) (by decide +kernel)) (fun _ _ _ _ _ => (pg_name (i := 8) sc_law.nd rfl (Or.inl rfl))) (fun _ _ _ _ _ => (pts_one (pt_val (pe_call G_law_clash (hr.mono (by decide)) rfl T.d_law_clash.g T.d_law_clash.kp b_law_clash .nil pass0 (pa_cons (pv 8) (pa_cons (pv 5) pa_nil)))))) (fun _ _ _ _ _ => (pv 8))) pa_nil)) pe_int (nomark _)) (pw_and1 (pt_cmpR (op_notInD (hu65 hr)) (pv 5) (pv 3) (by rfl)))))
        (pss_one (ps_expr (pe_bm PySem.F.plainAttrs_list PySem.F.slot_list_append PySem.F.type_list_append mt_append (pv 3) (pa_cons (pv 5) pa_nil))))
        pss_nil)
        (pss_one (ps_if (pt_cmpR (op_neD hr.units) (pe_fld (pv 2) rfl) (pv 3) (nomark _))
        (pss_one (ps_ret pe_bl))
        pss_nil))))))
      (pss_cons (ps_if (pt_cmpR (op_neD hr.units) (pe_meth0 (pv 2) T.cl_Journal T.me_Journal_lines G_Journal_lines (hr.mono (by decide)) b_Journal_lines .nil pass0) (pe_lc (own := [("statement", 5)]) (g := (gName 5)) (tt := tYes) rfl sc_law.nd (pi_list (pv 3)) (blkOk_by (own := [("statement", 5)]) (N := sc_law_N) (sc := defScope s_law) (by decide +kernel)) (fun _ _ _ _ _ => (pg_name (i := 5) sc_law.nd rfl (Or.inl rfl))) (fun _ _ _ _ _ => pts_nil) (fun _ _ _ _ _ => (pe_call G_law_line (hr.mono (by decide)) rfl T.d_law_line.g T.d_law_line.kp b_law_line .nil pass0 (pa_cons (pv 1) (pa_cons (pv 5) pa_nil))))) (nomark _))
      (pss_one (ps_ret pe_bl))
      pss_nil)
      (pss_cons (ps_for PassesOwn.never rfl (pi_tup (pe_tup (pa_cons pe_int (pa_cons pe_int (pa_cons pe_int pa_nil))))) (pg_name (i := 6) sc_law.nd rfl (Or.inr rfl))
      (pss_cons (ps_set (i := 7) sc_law.nd rfl (Or.inl rfl) (pe_op op_cat (pe_lst (pa_cons pe_int pa_nil)) (pe_lc (own := [("statement", 5)]) (g := (gName 5)) rfl sc_law.nd (pi_list (pv 3)) (blkOk_by (own := [("statement", 5)]) (N := sc_law_N) (sc := defScope s_law) (by decide +kernel)) (fun _ _ _ _ _ => (pg_name (i := 5) sc_law.nd rfl (Or.inl rfl))) (fun _ _ _ _ _ => (pts_one (pt_cmpR op_eq (pe_ix (r := rIxT K) ix_tup (pv 5) pe_int (fun _ _ => rfl)) (pv 6) (nomark _)))) (fun _ _ _ _ _ => (pe_ix (r := rIxT K) ix_tup (pv 5) pe_int (fun _ _ => rfl))))))
        (pss_one (ps_if (PW.pt (pw_or (pt_not (pt_val (pe_call G_law_is_integer (hr.mono (by decide)) rfl T.d_law_is_integer.g T.d_law_is_integer.kp b_law_is_integer .nil pass0 (pa_cons (pe_meth (pv 2) T.cl_Journal T.me_Journal_last_turn G_Journal_last_turn (hr.mono (by decide)) b_Journal_last_turn .nil pass0 (pa_cons (pv 6) pa_nil)) pa_nil)))) (pw_or1 (pt_cmpR op_ne (pe_meth (pv 2) T.cl_Journal T.me_Journal_last_turn G_Journal_last_turn (hr.mono (by decide)) b_Journal_last_turn .nil pass0 (pa_cons (pv 6) pa_nil)) (pe_callB (cr_max rfl) (by rfl) T.n_max (by decide +kernel) (pa_cons (pv 7) pa_nil)) (nomark _)))))
        (pss_one (ps_ret pe_bl))
        pss_nil))))
      (pss_one (ps_ret pe_bl)))))))), ?_⟩
    walk_at "rs"
    refine ⟨l, ns, 0, rfl, hS, hl, by decide, ?_⟩
    walk_at "rs"
    have w0 : 0 ≤ (ns.getD (Int.toNat 0) 0 % 16) := Int.emod_nonneg _ (by decide)
    have w1 : (ns.getD (Int.toNat 0) 0 % 16) < 16 := Int.emod_lt_of_pos _ (by decide)
    intro j dx hj0 hdx ndx
    refine ⟨j, dx, (ns.getD (Int.toNat 0) 0 % 16), rfl, upd_same, fun L H1 hL hj hLL keep => ?_⟩
    have jL : j ≠ L := fun z => by rw [← z, upd_same] at hL; cases hL
    have dL : dx ≠ L := fun z => by rw [← z, upd_ne ndx, upd_same] at hL; cases hL
    have hL0 : H L = none := by rwa [upd_ne jL.symm, upd_ne dL.symm] at hL
    have s1 : Same H H1 := fun b o e => keep b o (fun z => by rw [z, hj0] at e; cases e) (by rw [upd_ne (fun z => by rw [z, hj0] at e; cases e), upd_ne (fun z => by rw [z, hdx] at e; cases e)]; exact e)
    refine ⟨rfl, ?_⟩
    walk_at "rs"
    refine ⟨(by show 0 ≤ sizeLine; decide), fun G hG => ?_⟩
    have nGL : G ≠ L := fun z => by rw [z, hLL] at hG; cases hG
    have nGj : G ≠ j := fun z => by rw [z, hj] at hG; cases hG
    have sG := same_new (o := .lst []) hG
    walk_at "rs"
    refine ⟨⟨_, (sG.seq (s1.seq hS))⟩, for_list (K := K) (a := l) (xs := ns.map V.int) (fun i σ H2 => ∃ (v4 v5 v6 v7 v8 : Option V) (ps : List Addr) (ms : List Sm), σ = [some (.ref l), some (.int (ns.getD (Int.toNat 0) 0 % 16)), some (.ref j), some (.ref G), v4, v5, v6, v7, v8] ∧ Same H H2 ∧ JAt a.C_Journal H2 j (ns.getD (Int.toNat 0) 0 % 16) L ∧
      H2 L = some (.lst (ps.map V.ref)) ∧ H2 G = some (.lst (ps.map V.ref)) ∧ SsAt H2 ps ms ∧ ms.length ≤ i ∧ ∀ m ∈ ms, NormM m ∧ 0 ≤ m.h ∧ m.h < 2)
      ⟨_, _, _, _, _, [], [], rfl, s1.trans sG, ⟨dx, sG _ _ hj⟩, sG _ _ hLL, upd_same, SsAt.nil, Nat.le_refl _, fun m hm => nomatch hm⟩ (fun i σ H2 _ ⟨_, _, _, _, _, _, _, _, s2, _⟩ => s2.seq hS) ?_ ?_⟩
    · rintro i y σ H2 hy ⟨v4, v5, v6, v7, v8, ps, ms, rfl, s2, ⟨dx2, hj2⟩, hL2, hG2, hs2, few, norm⟩
      have hi : i < ns.length := by
        have e := (List.getElem?_eq_some_iff.mp hy).1
        rwa [List.length_map] at e
      rw [at_ints hi] at hy
      cases hy
      have okm : OkM ms := fun m hm => (norm m hm).1.1
      walk_at "rs"
      refine fun p m H3 s3 hm nm h0 h1 => ?_
      walk_at "rs"
      have ok : OkS m.b := nm.1
      have n1 := hs2.1
      refine ⟨j, p, L, G, (ns.getD (Int.toNat 0) 0 % 16), ps, ms, m, rfl, ⟨dx2, s3 _ _ hj2⟩, s3 _ _ hL2, s3 _ _ hG2, hs2.same s3, hm, by omega, okm, ok, nGL, fun H4 kb hL4 => ?_⟩
      have hL3 := s3 _ _ hL2
      have hj4 : H4 j = some (.ins a.C_Journal dx2 (jfs (ns.getD (Int.toNat 0) 0 % 16) L)) := kb _ _ jL (s3 _ _ hj2)
      have hG4 : H4 G = some (.lst (ps.map V.ref)) := kb _ _ nGL (s3 _ _ hG2)
      have hs4 := kb.ss hL3 (hs2.same s3)
      have hm4 := kb.sm hL3 hm
      have s4 : Same H H4 := fun b o e => kb b o (fun z => by rw [z, hL0] at e; cases e) (s3 _ _ (s2 _ _ e))
      walk_at "rs"
      refine ⟨fun σ H6 => ∃ (v8 : Option V) (ps' : List Addr) (ms' : List Sm), σ = [some (.ref l), some (.int (ns.getD (Int.toNat 0) 0 % 16)), some (.ref j), some (.ref G), some (.int (ns.getD i 0)), some (.ref p), v6, v7, v8] ∧ Same H H6 ∧ JAt a.C_Journal H6 j (ns.getD (Int.toNat 0) 0 % 16) L ∧
        H6 L = some (.lst (ps'.map V.ref)) ∧ H6 G = some (.lst (ps'.map V.ref)) ∧ SsAt H6 ps' ms' ∧ ms'.length ≤ i + 1 ∧ ∀ m ∈ ms', NormM m ∧ 0 ≤ m.h ∧ m.h < 2, ?_, ?_⟩
      walk_at "rs"
      refine ⟨⟨_, SqL.of hG4⟩, fun D hD => ?_⟩
      refine lc_list (K := K) (a := G) (xs := ps.map V.ref) (fun i H5 => Same H4 H5 ∧ ∃ qs : List Addr, H5 D = some (.lst (qs.map V.ref)) ∧ qs.length ≤ i ∧ (qs = [] ↔ fcl ms m i = none)) ⟨same_new hD, [], upd_same, Nat.le_refl _, by simp [fcl]⟩ (fun i H5 _ ⟨s5, _⟩ => SqL.of (s5 _ _ hG4)) ?_ ?_
      · rintro i y H5 hy ⟨s5, qs, hd, lq, hqs⟩
        have hi : i < ps.length := by
          have e := (List.getElem?_eq_some_iff.mp hy).1
          rwa [List.length_map] at e
        rw [at_refs hi] at hy
        cases hy
        refine ⟨rfl, ?_⟩
        walk_at "rs"
        refine ⟨_, p, _, m, rfl, s5 _ _ (hs4.2 i (by omega)), s5 _ _ hm4, fun H6 s6 => ?_⟩
        walk_at "rs"
        refine ite2 (fun c1 => ?_) (fun c1 => ?_)
        · walk_at "rs"
          refine ⟨_, s6 _ _ hd, by rw [List.length_map]; exact small1000 (by omega), same_upd (s5.trans s6) hD, qs ++ [ps.getD i 0], by rw [upd_same]; simp, by rw [List.length_append, List.length_singleton]; omega, ?_⟩
          refine ⟨fun z => by simp at z, fun z => ?_⟩
          cases e : fcl ms m i with
          | none => rw [fcl_new e c1] at z; cases z
          | some k => rw [fcl_keep e] at z; cases z
        · refine ⟨s5.trans s6, qs, s6 _ _ hd, by omega, hqs.trans ?_⟩
          cases e : fcl ms m i with
          | none => rw [fcl_no e (by simpa using c1)]
          | some k => rw [fcl_keep e]
      · rintro H5 ⟨s5, qs, hd, lq, hqs⟩
        rw [List.length_map, n1] at hqs
        rw [List.length_map] at lq
        refine ⟨D, _, rfl, .inl (SqL.of hd), ?_⟩
        walk_at "rs"
        have hj5 := s5 _ _ hj4
        have hL5 := s5 _ _ hL4
        have hG5 := s5 _ _ hG4
        have hs5 := hs4.same s5
        have hm5 : SmAt H5 p m := s5 _ _ hm4
        have s5' := s4.trans s5
        refine ite2 (fun c1 => ?_) (fun c1 => ?_)
        · have eq0 : qs = [] := by
            simp [dec_int] at c1
            exact c1
          have ef := hqs.mp eq0
          rw [ef] at hL5
          rw [if_pos rfl] at hL5
          walk_at "rs"
          refine ⟨smD m, _, dp_sm hm5, .lst (SqL.of hG5) (dp_sms hs5), shaped_sm m ok, shaped_sms okm, ?_⟩
          have hL5' : H5 L = some (.lst ((if ((ms.map smD).any fun z => PyData.eqv z (smD m)) = true then ps else ps ++ [p]).map V.ref)) := hL5
          clear hL5
          cases q : ((ms.map smD).any fun z => PyData.eqv z (smD m)) with
          | true =>
            rw [q] at hL5'
            walk_at "rs"
            exact ⟨_, ps, ms, rfl, s5', ⟨dx2, hj5⟩, hL5', hG5, hs5, by omega, norm⟩
          | false =>
            rw [q] at hL5'
            walk_at "rs"
            refine ⟨.inl ⟨rfl, _, SqL.of hG5⟩, ?_⟩
            walk_at "rs"
            refine ⟨G, _, _, rfl, rfl, hG5, by rw [List.length_map]; exact small1000 (by omega), ?_⟩
            have sG6 : ∀ b o, b ≠ G → H5 b = some o → (upd H5 G (.lst (ps.map V.ref ++ [V.ref p]))) b = some o := fun b o nb e => by rw [upd_ne nb]; exact e
            have hG0 : H G = none := by
              cases z : H G with
              | none => rfl
              | some o =>
                have := s1 _ _ z
                rw [hG] at this
                cases this
            refine ⟨_, ps ++ [p], ms ++ [m], rfl, fun b o e => sG6 b o (fun z => by rw [z, hG0] at e; cases e) (s5' _ _ e), ⟨dx2, sG6 _ _ nGj.symm hj5⟩, sG6 _ _ nGL.symm hL5', by rw [upd_same]; simp, (But.ss (l := G) sG6 hG5 (hs5.snoc hm5)), by rw [List.length_append, List.length_singleton]; omega, fun y hy => ?_⟩
            rcases List.mem_append.mp hy with hy | hy
            · exact norm y hy
            · rw [List.mem_singleton.mp hy]
              exact ⟨nm, h0, h1⟩
        · have nf : ¬ fcl ms m ms.length = none := fun z => by
            apply c1
            simp [dec_int, hqs.mpr z]
          rw [if_neg nf] at hL5
          exact ⟨_, ps, ms, rfl, s5', ⟨dx2, hj5⟩, hL5, hG5, hs5, by omega, norm⟩
      · rintro σ H6 ⟨v8, ps', ms', rfl, s6, ⟨dx6, hj6⟩, hL6, hG6, hs6, few6, norm6⟩
        have okm6 : OkM ms' := fun m hm => (norm6 m hm).1.1
        walk_at "rs"
        refine ⟨j, _, dx6, _, .ref L, rfl, hj6, T.cl_Journal, T.a_Journal_signed, jfs_s _ _, ?_⟩
        walk_at "rs"
        refine ⟨_, _, .lst (SqL.of hL6) (dp_sms hs6), .lst (SqL.of hG6) (dp_sms hs6), shaped_sms okm6, shaped_sms okm6, ?_⟩
        rw [eqv_sms okm6]
        walk_at "rs"
        exact ⟨_, _, _, _, _, ps', ms', rfl, s6, ⟨dx6, hj6⟩, hL6, hG6, hs6, few6, norm6⟩
    · rintro σ H2 ⟨v4, v5, v6, v7, v8, ps, ms, rfl, s2, ⟨dx2, hj2⟩, hL2, hG2, hs2, few, norm⟩
      rw [List.length_map] at few
      have n1 := hs2.1
      walk_at "rs"
      refine ⟨j, dx2, _, rfl, hj2, jfs_no _ _ (by decide +kernel) (by decide +kernel), ?_⟩
      have sm : ∀ m ∈ ms, SmallM m := fun m hm => (norm m hm).1.small (norm m hm).2.1 (by have := (norm m hm).2.2; omega)
      refine ⟨j, L, (ns.getD (Int.toNat 0) 0 % 16), ps, ms, rfl, ⟨dx2, hj2⟩, hL2, hs2, by omega, w0, by omega, sm, fun R H3 s3 hR => ?_⟩
      walk_at "rs"
      refine ⟨⟨_, SqL.of (s3 _ _ hG2)⟩, fun D hD => ?_⟩
      refine lc_list (K := K) (a := G) (xs := ps.map V.ref) (fun i H4 => Same H3 H4 ∧ H4 D = some (.lst (((ms.take i).map (lineS (ns.getD (Int.toNat 0) 0 % 16))).map V.str))) ⟨same_new hD, by rw [upd_same]; simp⟩ (fun i H4 _ ⟨s4, _⟩ => SqL.of (s4 _ _ (s3 _ _ hG2))) ?_ ?_
      · rintro i y H4 hy ⟨s4, hd⟩
        have hi : i < ps.length := by
          have e := (List.getElem?_eq_some_iff.mp hy).1
          rwa [List.length_map] at e
        have hi' : i < ms.length := by omega
        rw [at_refs hi] at hy
        cases hy
        have et := take_succ_getD (d := default) hi'
        have hsy := sm _ (getD_mem2 (d := default) hi')
        have hm := s4 _ _ (s3 _ _ (hs2.2 i hi'))
        generalize ms.getD i default = m at et hsy hm
        refine ⟨rfl, ?_⟩
        walk_at "rs"
        refine ⟨_, _, m, rfl, hm, w0, by omega, hsy, fun H5 s5 => ?_⟩
        refine ⟨_, s5 _ _ hd, by rw [List.length_map, List.length_map, List.length_take]; exact small1000 (by omega), same_upd (s4.trans s5) hD, ?_⟩
        rw [upd_same, et]
        simp
      · rintro H4 ⟨s4, hd⟩
        rw [List.length_map, n1, List.take_length] at hd
        have oks : ∀ x ∈ ms.map (lineS (ns.getD (Int.toNat 0) 0 % 16)), PyData.strOk x = true := fun x hx => by
          obtain ⟨m, hm, rfl⟩ := List.mem_map.mp hx
          exact line_ok w0 (by omega) (sm m hm)
        refine ⟨_, _, .lst (SqL.of (s4 _ _ hR)) (dp_strs _), .lst (SqL.of hd) (dp_strs _), shaped_strs oks, shaped_strs oks, ?_⟩
        rw [eqv_strs oks]
        walk_at "rs"
        refine ite2 (fun c => absurd c (by decide)) (fun _ => ?_)
        walk_at "rs"
        refine ⟨(by show 3 ≤ sizeLine; decide), fun t3 ht3 => ?_⟩
        have s4' := s2.trans (s3.trans s4)
        have hj4 := s4 _ _ (s3 _ _ hj2)
        have hL4 := s4 _ _ (s3 _ _ hL2)
        have hG4 := s4 _ _ (s3 _ _ hG2)
        have hs4 := (hs2.same s3).same s4
        have f3 : upd H4 t3 (.tup [V.int 0, V.int 1, V.int 2]) t3 = some (.tup [V.int 0, V.int 1, V.int 2]) := upd_same
        have s5 := same_new (o := .tup [V.int 0, V.int 1, V.int 2]) ht3
        generalize upd H4 t3 (.tup [V.int 0, V.int 1, V.int 2]) = H5 at f3 s5 ⊢
        have hj5 := s5 _ _ hj4
        have hL5 := s5 _ _ hL4
        have hG5 := s5 _ _ hG4
        have hs5 := hs4.same s5
        refine ⟨t3, rfl, ⟨_, SqT.of f3⟩, for_tup (K := K) (a := t3) (xs := [V.int 0, V.int 1, V.int 2]) (fun i σ H6 => ∃ v4 v5 v6 v7 v8 : Option V, σ = [some (.ref l), some (.int (ns.getD (Int.toNat 0) 0 % 16)), some (.ref j), some (.ref G), v4, v5, v6, v7, v8] ∧ Same H5 H6) ⟨_, _, _, _, _, rfl, Same.refl H5⟩ (fun i σ H6 _ ⟨_, _, _, _, _, _, s6⟩ => SqT.of (s6 _ _ f3)) ?_ ?_⟩
        · rintro i y σ H6 hy ⟨v4, v5, v6, v7, v8, rfl, s6⟩
          obtain ⟨z, rfl⟩ : ∃ z : Int, y = .int z := by
            have := List.mem_of_getElem? hy
            simp only [List.mem_cons, List.not_mem_nil, or_false] at this
            rcases this with rfl | rfl | rfl <;> exact ⟨_, rfl⟩
          refine ⟨(by show 1 ≤ sizeLine; decide), fun l1 hl1 => ?_⟩
          have f1 : upd H6 l1 (.lst [V.int 0]) l1 = some (.lst [V.int 0]) := upd_same
          have s7 := same_new (o := .lst [V.int 0]) hl1
          generalize upd H6 l1 (.lst [V.int 0]) = H7 at f1 s7 ⊢
          have s57 := s6.trans s7
          walk_at "rs"
          refine ⟨⟨_, SqL.of (s57 _ _ hG5)⟩, fun D2 hD2 => ?_⟩
          refine lc_list (K := K) (a := G) (xs := ps.map V.ref) (fun i H8 => Same H7 H8 ∧ H8 D2 = some (.lst ((((ms.take i).filter fun m => decide (m.h = z)).map Sm.t).map V.int))) ⟨same_new hD2, by rw [upd_same]; simp⟩ (fun i H8 _ ⟨s8, _⟩ => SqL.of (s8 _ _ (s57 _ _ hG5))) ?_ ?_
          · rintro i y H8 hy ⟨s8, hd2⟩
            have hi : i < ps.length := by
              have e := (List.getElem?_eq_some_iff.mp hy).1
              rwa [List.length_map] at e
            have hi' : i < ms.length := by omega
            rw [at_refs hi] at hy
            cases hy
            have et := take_succ_getD (d := default) hi'
            have hm := s8 _ _ (s57 _ _ (hs5.2 i hi'))
            generalize ms.getD i default = m at et hm
            have lf := List.length_filter_le (fun m : Sm => decide (m.h = z)) (ms.take i)
            rw [List.length_take] at lf
            refine ⟨rfl, ?_⟩
            walk_at "rs"
            refine ite2 (fun c1 => ?_) (fun c1 => ?_) <;> simp only [dec_int, beq_iff_eq] at c1
            · walk_at "rs"
              refine ⟨_, hd2, by rw [List.length_map, List.length_map]; exact small1000 (by omega), same_upd s8 hD2, ?_⟩
              rw [upd_same, et, List.filter_append, List.filter_cons_of_pos (by exact decide_eq_true c1)]
              simp
            · refine ⟨s8, ?_⟩
              rw [hd2, et, List.filter_append, List.filter_cons_of_neg (by simpa using c1)]
              simp
          · rintro H8 ⟨s8, hd2⟩
            rw [List.length_map, n1, List.take_length] at hd2
            have f1' := s8 _ _ f1
            have lf := List.length_filter_le (fun m : Sm => decide (m.h = z)) ms
            refine ⟨l1, D2, _, _, rfl, rfl, f1', hd2, by rw [sizeLine_eq, List.length_map, List.length_map]; simp; omega, fun l3 hl3 => ?_⟩
            have f3' : upd H8 l3 (.lst ([V.int 0] ++ (((ms.filter fun m => decide (m.h = z)).map Sm.t).map V.int))) l3 = some (.lst ((0 :: ((ms.filter fun m => decide (m.h = z)).map Sm.t)).map V.int)) := upd_same
            have s9 := same_new (o := .lst ([V.int 0] ++ (((ms.filter fun m => decide (m.h = z)).map Sm.t).map V.int))) hl3
            generalize upd H8 l3 (.lst ([V.int 0] ++ (((ms.filter fun m => decide (m.h = z)).map Sm.t).map V.int))) = H9 at f3' s9 ⊢
            have s59 := s57.trans (s8.trans s9)
            have post : ∀ m ∈ ms, 0 ≤ m.t := fun m hm => (norm m hm).1.2.2.1
            walk_at "rs"
            refine ⟨j, dx2, _, rfl, s59 _ _ hj5, jfs_no _ _ (by decide +kernel) (by decide +kernel), ?_⟩
            walk_at "rs"
            refine ⟨j, L, (ns.getD (Int.toNat 0) 0 % 16), z, ps, ms, rfl, ⟨dx2, s59 _ _ hj5⟩, s59 _ _ hL5, hs5.same s59, by omega, post, fun q1 H10 s10 _ _ _ => ?_⟩
            refine ⟨q1, rfl, ?_⟩
            walk_at "rs"
            refine ⟨j, dx2, _, rfl, s10 _ _ (s59 _ _ hj5), jfs_no _ _ (by decide +kernel) (by decide +kernel), ?_⟩
            walk_at "rs"
            refine ⟨j, L, (ns.getD (Int.toNat 0) 0 % 16), z, ps, ms, rfl, ⟨dx2, s10 _ _ (s59 _ _ hj5)⟩, s10 _ _ (s59 _ _ hL5), (hs5.same s59).same s10, by omega, post, fun q2 H11 s11 in2 pos2 up2 => ?_⟩
            walk_at "rs"
            refine ⟨l3, _, rfl, SqL.of (s11 _ _ (s10 _ _ f3')), Nat.succ_pos _, fun m hm top => ?_⟩
            have em : q2 = m := by
              refine Int.le_antisymm ?_ ?_
              · refine top _ ?_
                rcases in2 with rfl | h2
                · exact List.mem_cons_self
                · exact List.mem_cons_of_mem _ h2
              · rcases List.mem_cons.mp hm with rfl | h2
                · exact pos2
                · obtain ⟨y, hy, rfl⟩ := List.mem_map.mp h2
                  have := List.mem_filter.mp hy
                  exact up2 y this.1 (by simpa using this.2)
            subst em
            walk_at "rs"
            refine ite2 (fun c => absurd c (by simp)) (fun _ => ?_)
            exact ⟨_, _, _, _, _, rfl, s59.trans (s10.trans s11)⟩
        · rintro σ H6 ⟨v4, v5, v6, v7, v8, rfl, s6⟩
          exact k _

end

theorem all_mk {l : PySem.W.OpenLaw} {w : World} {K : PySem.W.Frag} {h : Heap} {mg : Str → Option Value} {fa : Addr} (X : K.In h) (G : h.Ns mainGlobals mg) (hfa : mg "law" = some (.ref fa))
    {t_KIND : Tok} {t_HEIGHT : Tok} {t_TURN : Tok} {t_BLOCK : Tok} {t_LEAN : Tok} {t_NONE : Tok} {C_Journal : Addr} {f_is_vote : Addr} {od_is_vote an_is_vote : Option Addr} {sl_is_vote : Array (Option Value)} {oc_is_vote kV_is_vote dc_is_vote pm_is_vote cd_is_vote ct_is_vote : Value} {f_clash : Addr} {od_clash an_clash : Option Addr} {sl_clash : Array (Option Value)} {oc_clash kV_clash dc_clash pm_clash cd_clash ct_clash : Value} {f_abandons : Addr} {od_abandons an_abandons : Option Addr} {sl_abandons : Array (Option Value)} {oc_abandons kV_abandons dc_abandons pm_abandons cd_abandons ct_abandons : Value} {f_Journal_init : Addr} {od_Journal_init an_Journal_init : Option Addr} {sl_Journal_init : Array (Option Value)} {oc_Journal_init kV_Journal_init dc_Journal_init pm_Journal_init cd_Journal_init ct_Journal_init : Value} {f_Journal_sign : Addr} {od_Journal_sign an_Journal_sign : Option Addr} {sl_Journal_sign : Array (Option Value)} {oc_Journal_sign kV_Journal_sign dc_Journal_sign pm_Journal_sign cd_Journal_sign ct_Journal_sign : Value} {f_word : Addr} {od_word an_word : Option Addr} {sl_word : Array (Option Value)} {oc_word kV_word dc_word pm_word cd_word ct_word : Value} {f_letter_line : Addr} {od_letter_line an_letter_line : Option Addr} {sl_letter_line : Array (Option Value)} {oc_letter_line kV_letter_line dc_letter_line pm_letter_line cd_letter_line ct_letter_line : Value} {f_Journal_lines : Addr} {od_Journal_lines an_Journal_lines : Option Addr} {sl_Journal_lines : Array (Option Value)} {oc_Journal_lines kV_Journal_lines dc_Journal_lines pm_Journal_lines cd_Journal_lines ct_Journal_lines : Value} {f_Journal_last_turn : Addr} {od_Journal_last_turn an_Journal_last_turn : Option Addr} {sl_Journal_last_turn : Array (Option Value)} {oc_Journal_last_turn kV_Journal_last_turn dc_Journal_last_turn pm_Journal_last_turn cd_Journal_last_turn ct_Journal_last_turn : Value} {f_law_cell : Addr} {od_law_cell an_law_cell : Option Addr} {sl_law_cell : Array (Option Value)} {oc_law_cell kV_law_cell dc_law_cell pm_law_cell cd_law_cell ct_law_cell : Value} {f_law_is_integer : Addr} {od_law_is_integer an_law_is_integer : Option Addr} {sl_law_is_integer : Array (Option Value)} {oc_law_is_integer kV_law_is_integer dc_law_is_integer pm_law_is_integer cd_law_is_integer ct_law_is_integer : Value} {f_law_clash : Addr} {od_law_clash an_law_clash : Option Addr} {sl_law_clash : Array (Option Value)} {oc_law_clash kV_law_clash dc_law_clash pm_law_clash cd_law_clash ct_law_clash : Value} {f_law_statement : Addr} {od_law_statement an_law_statement : Option Addr} {sl_law_statement : Array (Option Value)} {oc_law_statement kV_law_statement dc_law_statement pm_law_statement cd_law_statement ct_law_statement : Value} {f_law_drawn : Addr} {od_law_drawn an_law_drawn : Option Addr} {sl_law_drawn : Array (Option Value)} {oc_law_drawn kV_law_drawn dc_law_drawn pm_law_drawn cd_law_drawn ct_law_drawn : Value} {f_law_line : Addr} {od_law_line an_law_line : Option Addr} {sl_law_line : Array (Option Value)} {oc_law_line kV_law_line dc_law_line pm_law_line cd_law_line ct_law_line : Value} {f_law_signs : Addr} {od_law_signs an_law_signs : Option Addr} {sl_law_signs : Array (Option Value)} {oc_law_signs kV_law_signs dc_law_signs pm_law_signs cd_law_signs ct_law_signs : Value} {f_law : Addr} {od_law an_law : Option Addr} {sl_law : Array (Option Value)} {oc_law kV_law dc_law pm_law cd_law ct_law : Value} {C_Refused f_Refused_init : Addr} {nm_Refused q_Refused : Str} {N_Refused : Addr} {bs_Refused bm_Refused : List Value} {sn_Refused : List Str} {sub_Refused : List Value} {ab_Refused : Bool} {col_Refused : Option Bool} {dd_Refused : Option Addr} {k0_Refused k1_Refused k2_Refused k3_Refused k5_Refused : Option Value} {od_Refused_init an_Refused_init : Option Addr} {sl_Refused_init : Array (Option Value)} {oc_Refused_init kV_Refused_init dc_Refused_init pm_Refused_init ct_Refused_init : Value} {cda_Refused_init cc_Refused_init : Addr} {cl_Refused_init ccl_Refused_init : Value} {cld_Refused_init cdd_Refused_init : Option Addr} {csl_Refused_init ccs_Refused_init : Array (Option Value)} {vs_Refused_init : Array Value} {file_Refused_init : Str} {tf_Refused_init : Tok} {C_BadJournal : Addr} {C_BadLine : Addr} {C_TribunalError : Addr}
    (c_KIND : PySem.W.nsIn K mainGlobals "KIND" = some (some (.int 0 t_KIND)))
    (c_HEIGHT : PySem.W.nsIn K mainGlobals "HEIGHT" = some (some (.int 1 t_HEIGHT)))
    (c_TURN : PySem.W.nsIn K mainGlobals "TURN" = some (some (.int 2 t_TURN)))
    (c_BLOCK : PySem.W.nsIn K mainGlobals "BLOCK" = some (some (.int 3 t_BLOCK)))
    (c_LEAN : PySem.W.nsIn K mainGlobals "LEAN" = some (some (.int 4 t_LEAN)))
    (c_NONE : PySem.W.nsIn K mainGlobals "NONE" = some (some (.str "-" t_NONE)))
    (n_len : PySem.W.nsIn K mainGlobals "len" = some none)
    (n_range : PySem.W.nsIn K mainGlobals "range" = some none)
    (n_isinstance : PySem.W.nsIn K mainGlobals "isinstance" = some none)
    (n_int : PySem.W.nsIn K mainGlobals "int" = some none)
    (n_bool : PySem.W.nsIn K mainGlobals "bool" = some none)
    (n_list : PySem.W.nsIn K mainGlobals "list" = some none)
    (n_tuple : PySem.W.nsIn K mainGlobals "tuple" = some none)
    (n_sum : PySem.W.nsIn K mainGlobals "sum" = some none)
    (n_max : PySem.W.nsIn K mainGlobals "max" = some none)
    (n_str : PySem.W.nsIn K mainGlobals "str" = some none)
    (n_super : PySem.W.nsIn K mainGlobals "super" = some none)
    (n_ValueError : PySem.W.nsIn K mainGlobals "ValueError" = some none)
    (g_Journal : PySem.W.nsIn K mainGlobals "Journal" = some (some (.ref C_Journal)))
    (a_is_vote : PySem.W.nsIn K mainGlobals "is_vote" = some (some (.ref f_is_vote)))
    (l_is_vote : K.lookup f_is_vote = some ⟨oc_is_vote, od_is_vote, .func (PySem.W.fnOf "is_vote" "is_vote" (defArgs s_is_vote) (defBody s_is_vote) (defScope s_is_vote) .none kV_is_vote dc_is_vote pm_is_vote an_is_vote cd_is_vote ct_is_vote), sl_is_vote⟩)
    (q_is_vote : PySem.W.codeIn K cd_is_vote "is_vote" = true)
    (k_is_vote : PySem.W.keepIn K (.ref f_is_vote) = true)
    (a_clash : PySem.W.nsIn K mainGlobals "clash" = some (some (.ref f_clash)))
    (l_clash : K.lookup f_clash = some ⟨oc_clash, od_clash, .func (PySem.W.fnOf "clash" "clash" (defArgs s_clash) (defBody s_clash) (defScope s_clash) .none kV_clash dc_clash pm_clash an_clash cd_clash ct_clash), sl_clash⟩)
    (q_clash : PySem.W.codeIn K cd_clash "clash" = true)
    (k_clash : PySem.W.keepIn K (.ref f_clash) = true)
    (a_abandons : PySem.W.nsIn K mainGlobals "_abandons" = some (some (.ref f_abandons)))
    (l_abandons : K.lookup f_abandons = some ⟨oc_abandons, od_abandons, .func (PySem.W.fnOf "_abandons" "_abandons" (defArgs s_abandons) (defBody s_abandons) (defScope s_abandons) .none kV_abandons dc_abandons pm_abandons an_abandons cd_abandons ct_abandons), sl_abandons⟩)
    (q_abandons : PySem.W.codeIn K cd_abandons "_abandons" = true)
    (k_abandons : PySem.W.keepIn K (.ref f_abandons) = true)
    (a_Journal_init : PySem.W.findIn K (.ref C_Journal) "__init__" = some (some (.ref f_Journal_init)))
    (i_Journal_init : PySem.W.isFn K (.ref f_Journal_init) = true)
    (l_Journal_init : K.lookup f_Journal_init = some ⟨oc_Journal_init, od_Journal_init, .func (PySem.W.fnOf "__init__" "Journal.__init__" (defArgs s_Journal_init) (defBody s_Journal_init) (defScope s_Journal_init) .none kV_Journal_init dc_Journal_init pm_Journal_init an_Journal_init cd_Journal_init ct_Journal_init), sl_Journal_init⟩)
    (q_Journal_init : PySem.W.codeIn K cd_Journal_init "Journal.__init__" = true)
    (k_Journal_init : PySem.W.keepIn K (.ref f_Journal_init) = true)
    (a_Journal_sign : PySem.W.findIn K (.ref C_Journal) "sign" = some (some (.ref f_Journal_sign)))
    (i_Journal_sign : PySem.W.isFn K (.ref f_Journal_sign) = true)
    (l_Journal_sign : K.lookup f_Journal_sign = some ⟨oc_Journal_sign, od_Journal_sign, .func (PySem.W.fnOf "sign" "Journal.sign" (defArgs s_Journal_sign) (defBody s_Journal_sign) (defScope s_Journal_sign) .none kV_Journal_sign dc_Journal_sign pm_Journal_sign an_Journal_sign cd_Journal_sign ct_Journal_sign), sl_Journal_sign⟩)
    (q_Journal_sign : PySem.W.codeIn K cd_Journal_sign "Journal.sign" = true)
    (k_Journal_sign : PySem.W.keepIn K (.ref f_Journal_sign) = true)
    (a_word : PySem.W.nsIn K mainGlobals "_word" = some (some (.ref f_word)))
    (l_word : K.lookup f_word = some ⟨oc_word, od_word, .func (PySem.W.fnOf "_word" "_word" (defArgs s_word) (defBody s_word) (defScope s_word) .none kV_word dc_word pm_word an_word cd_word ct_word), sl_word⟩)
    (q_word : PySem.W.codeIn K cd_word "_word" = true)
    (k_word : PySem.W.keepIn K (.ref f_word) = true)
    (a_letter_line : PySem.W.nsIn K mainGlobals "letter_line" = some (some (.ref f_letter_line)))
    (l_letter_line : K.lookup f_letter_line = some ⟨oc_letter_line, od_letter_line, .func (PySem.W.fnOf "letter_line" "letter_line" (defArgs s_letter_line) (defBody s_letter_line) (defScope s_letter_line) .none kV_letter_line dc_letter_line pm_letter_line an_letter_line cd_letter_line ct_letter_line), sl_letter_line⟩)
    (q_letter_line : PySem.W.codeIn K cd_letter_line "letter_line" = true)
    (k_letter_line : PySem.W.keepIn K (.ref f_letter_line) = true)
    (a_Journal_lines : PySem.W.findIn K (.ref C_Journal) "lines" = some (some (.ref f_Journal_lines)))
    (i_Journal_lines : PySem.W.isFn K (.ref f_Journal_lines) = true)
    (l_Journal_lines : K.lookup f_Journal_lines = some ⟨oc_Journal_lines, od_Journal_lines, .func (PySem.W.fnOf "lines" "Journal.lines" (defArgs s_Journal_lines) (defBody s_Journal_lines) (defScope s_Journal_lines) .none kV_Journal_lines dc_Journal_lines pm_Journal_lines an_Journal_lines cd_Journal_lines ct_Journal_lines), sl_Journal_lines⟩)
    (q_Journal_lines : PySem.W.codeIn K cd_Journal_lines "Journal.lines" = true)
    (k_Journal_lines : PySem.W.keepIn K (.ref f_Journal_lines) = true)
    (a_Journal_last_turn : PySem.W.findIn K (.ref C_Journal) "last_turn" = some (some (.ref f_Journal_last_turn)))
    (i_Journal_last_turn : PySem.W.isFn K (.ref f_Journal_last_turn) = true)
    (l_Journal_last_turn : K.lookup f_Journal_last_turn = some ⟨oc_Journal_last_turn, od_Journal_last_turn, .func (PySem.W.fnOf "last_turn" "Journal.last_turn" (defArgs s_Journal_last_turn) (defBody s_Journal_last_turn) (defScope s_Journal_last_turn) .none kV_Journal_last_turn dc_Journal_last_turn pm_Journal_last_turn an_Journal_last_turn cd_Journal_last_turn ct_Journal_last_turn), sl_Journal_last_turn⟩)
    (q_Journal_last_turn : PySem.W.codeIn K cd_Journal_last_turn "Journal.last_turn" = true)
    (k_Journal_last_turn : PySem.W.keepIn K (.ref f_Journal_last_turn) = true)
    (a_law_cell : PySem.W.nsIn K mainGlobals "_law_cell" = some (some (.ref f_law_cell)))
    (l_law_cell : K.lookup f_law_cell = some ⟨oc_law_cell, od_law_cell, .func (PySem.W.fnOf "_law_cell" "_law_cell" (defArgs s_law_cell) (defBody s_law_cell) (defScope s_law_cell) .none kV_law_cell dc_law_cell pm_law_cell an_law_cell cd_law_cell ct_law_cell), sl_law_cell⟩)
    (q_law_cell : PySem.W.codeIn K cd_law_cell "_law_cell" = true)
    (k_law_cell : PySem.W.keepIn K (.ref f_law_cell) = true)
    (a_law_is_integer : PySem.W.nsIn K mainGlobals "_law_is_integer" = some (some (.ref f_law_is_integer)))
    (l_law_is_integer : K.lookup f_law_is_integer = some ⟨oc_law_is_integer, od_law_is_integer, .func (PySem.W.fnOf "_law_is_integer" "_law_is_integer" (defArgs s_law_is_integer) (defBody s_law_is_integer) (defScope s_law_is_integer) .none kV_law_is_integer dc_law_is_integer pm_law_is_integer an_law_is_integer cd_law_is_integer ct_law_is_integer), sl_law_is_integer⟩)
    (q_law_is_integer : PySem.W.codeIn K cd_law_is_integer "_law_is_integer" = true)
    (k_law_is_integer : PySem.W.keepIn K (.ref f_law_is_integer) = true)
    (a_law_clash : PySem.W.nsIn K mainGlobals "_law_clash" = some (some (.ref f_law_clash)))
    (l_law_clash : K.lookup f_law_clash = some ⟨oc_law_clash, od_law_clash, .func (PySem.W.fnOf "_law_clash" "_law_clash" (defArgs s_law_clash) (defBody s_law_clash) (defScope s_law_clash) .none kV_law_clash dc_law_clash pm_law_clash an_law_clash cd_law_clash ct_law_clash), sl_law_clash⟩)
    (q_law_clash : PySem.W.codeIn K cd_law_clash "_law_clash" = true)
    (k_law_clash : PySem.W.keepIn K (.ref f_law_clash) = true)
    (a_law_statement : PySem.W.nsIn K mainGlobals "_law_statement" = some (some (.ref f_law_statement)))
    (l_law_statement : K.lookup f_law_statement = some ⟨oc_law_statement, od_law_statement, .func (PySem.W.fnOf "_law_statement" "_law_statement" (defArgs s_law_statement) (defBody s_law_statement) (defScope s_law_statement) .none kV_law_statement dc_law_statement pm_law_statement an_law_statement cd_law_statement ct_law_statement), sl_law_statement⟩)
    (q_law_statement : PySem.W.codeIn K cd_law_statement "_law_statement" = true)
    (k_law_statement : PySem.W.keepIn K (.ref f_law_statement) = true)
    (a_law_drawn : PySem.W.nsIn K mainGlobals "_law_drawn" = some (some (.ref f_law_drawn)))
    (l_law_drawn : K.lookup f_law_drawn = some ⟨oc_law_drawn, od_law_drawn, .func (PySem.W.fnOf "_law_drawn" "_law_drawn" (defArgs s_law_drawn) (defBody s_law_drawn) (defScope s_law_drawn) .none kV_law_drawn dc_law_drawn pm_law_drawn an_law_drawn cd_law_drawn ct_law_drawn), sl_law_drawn⟩)
    (q_law_drawn : PySem.W.codeIn K cd_law_drawn "_law_drawn" = true)
    (k_law_drawn : PySem.W.keepIn K (.ref f_law_drawn) = true)
    (a_law_line : PySem.W.nsIn K mainGlobals "_law_line" = some (some (.ref f_law_line)))
    (l_law_line : K.lookup f_law_line = some ⟨oc_law_line, od_law_line, .func (PySem.W.fnOf "_law_line" "_law_line" (defArgs s_law_line) (defBody s_law_line) (defScope s_law_line) .none kV_law_line dc_law_line pm_law_line an_law_line cd_law_line ct_law_line), sl_law_line⟩)
    (q_law_line : PySem.W.codeIn K cd_law_line "_law_line" = true)
    (k_law_line : PySem.W.keepIn K (.ref f_law_line) = true)
    (a_law_signs : PySem.W.nsIn K mainGlobals "_law_signs" = some (some (.ref f_law_signs)))
    (l_law_signs : K.lookup f_law_signs = some ⟨oc_law_signs, od_law_signs, .func (PySem.W.fnOf "_law_signs" "_law_signs" (defArgs s_law_signs) (defBody s_law_signs) (defScope s_law_signs) .none kV_law_signs dc_law_signs pm_law_signs an_law_signs cd_law_signs ct_law_signs), sl_law_signs⟩)
    (q_law_signs : PySem.W.codeIn K cd_law_signs "_law_signs" = true)
    (k_law_signs : PySem.W.keepIn K (.ref f_law_signs) = true)
    (a_law : PySem.W.nsIn K mainGlobals "law" = some (some (.ref f_law)))
    (l_law : K.lookup f_law = some ⟨oc_law, od_law, .func (PySem.W.fnOf "law" "law" (defArgs s_law) (defBody s_law) (defScope s_law) .none kV_law dc_law pm_law an_law cd_law ct_law), sl_law⟩)
    (q_law : PySem.W.codeIn K cd_law "law" = true)
    (k_law : PySem.W.keepIn K (.ref f_law) = true)
    (pg_Journal : PySem.W.plainGet K C_Journal Str.empty = true)
    (hd_Journal : PySem.W.hasDictIn K C_Journal = true)
    (po_Journal : PySem.W.plainOver K C_Journal = true)
    (sa_Journal : PySem.W.findIn K (.ref C_Journal) "__setattr__" = some (some (.builtin "object.__setattr__")))
    (mk_Journal : PySem.W.makesIn K C_Journal = true)
    (kc_Journal : PySem.W.keepIn K (.ref C_Journal) = true)
    (no_Journal_who : PySem.W.findIn K (.ref C_Journal) "who" = some none)
    (no_Journal_signed : PySem.W.findIn K (.ref C_Journal) "signed" = some none)
    (g_Refused : PySem.W.nsIn K mainGlobals "Refused" = some (some (.ref C_Refused)))
    (lc_Refused : K.lookup C_Refused = some (excClassObj nm_Refused q_Refused C_Refused N_Refused bs_Refused bm_Refused true sn_Refused sub_Refused ab_Refused col_Refused dd_Refused k0_Refused k1_Refused k2_Refused k3_Refused k5_Refused "ValueError.__new__"))
    (rb_Refused : PySem.HandSPX.refsVE bm_Refused = true)
    (sa_Refused : PySem.W.findIn K (.ref C_Refused) "__setattr__" = some (some (.builtin "object.__setattr__")))
    (eb_Refused : PySem.W.subIn K (.ref C_Refused) (.type "BaseException") = some true)
    (ty_Refused : PySem.W.typeIn K (.ref C_Refused) = some (.type "type"))
    (kc_Refused : PySem.W.keepIn K (.ref C_Refused) = true)
    (a_Refused_init : PySem.W.findIn K (.ref C_Refused) "__init__" = some (some (.ref f_Refused_init)))
    (tI_Refused_init : PySem.W.typeIn K (.ref f_Refused_init) = some (.type "function"))
    (l_Refused_init : K.lookup f_Refused_init = some ⟨oc_Refused_init, od_Refused_init, .func (PySem.W.ksFn "__init__" "Refused.__init__" (defArgs s_Refused_init) (defBody s_Refused_init) (defScope s_Refused_init) .none kV_Refused_init dc_Refused_init pm_Refused_init an_Refused_init (.ref cda_Refused_init) ct_Refused_init cc_Refused_init), sl_Refused_init⟩)
    (q_Refused_init : PySem.W.codeIn K (.ref cda_Refused_init) "Refused.__init__" = true)
    (ce_Refused_init : K.lookup cc_Refused_init = some ⟨cl_Refused_init, cld_Refused_init, .cell (some (.ref C_Refused)), csl_Refused_init⟩)
    (co_Refused_init : K.lookup cda_Refused_init = some ⟨ccl_Refused_init, cdd_Refused_init, .fields vs_Refused_init, ccs_Refused_init⟩)
    (v2_Refused_init : vs_Refused_init[2]? = some (.str file_Refused_init tf_Refused_init))
    (fi_Refused_init : ((l.prog.main.file : Str) == file_Refused_init) = true)
    (su_Refused : PySem.W.ks_superIn K C_Refused C_Refused "__init__" = some (some (.builtin "ValueError.__init__")))
    (op_Refused : PySem.W.nsIn K cStatics "thirdparty.any" = some none)
    (sv_Refused : PySem.W.subIn K (.ref C_Refused) (.type "ValueError") = some true)
    (mc_Refused : PySem.W.mroIn K C_Refused (.ref C_Refused) = some true)
    (nf_Refused : PySem.W.findIn K (.ref C_Refused) "vote" = some none)
    (ts_Refused : (l.prog.main.scope.names.lookup ("super" : Str)).isSome = false)
    (xga_Refused : PySem.W.findIn K (.ref C_Refused) "__getattribute__" = some (some (.builtin "BaseException.__getattribute__")))
    (xgt_Refused : PySem.W.findIn K (.ref C_Refused) "__getattr__" = some none)
    (xhd_Refused : PySem.W.hasDictIn K C_Refused = true)
    (xcc_Refused : PySem.W.findIn K (.ref C_Refused) "__class__" = some (some (.builtin "object.__class__")))
    (xsp_Refused : PySem.W.specialIn K (.builtin "object.__class__") "__get__" = some (some (.builtin "getset_descriptor.__get__")))
    (xtk_Refused : PySem.W.takesIn K (.builtin "object.__class__") = some true)
    (xmo_Refused : PySem.W.mroIn K C_Refused (.type "object") = some true)
    (g_BadJournal : PySem.W.nsIn K mainGlobals "BadJournal" = some (some (.ref C_BadJournal)))
    (g_BadLine : PySem.W.nsIn K mainGlobals "BadLine" = some (some (.ref C_BadLine)))
    (g_TribunalError : PySem.W.nsIn K mainGlobals "TribunalError" = some (some (.ref C_TribunalError)))
    (te1_TribunalError : PySem.W.subIn K (.ref C_TribunalError) (.type "BaseException") = some true)
    (te2_TribunalError : PySem.W.hasDictIn K C_TribunalError = true)
    (te3_TribunalError : PySem.W.typeIn K (.ref C_TribunalError) = some (.type "type"))
    (te4_TribunalError_Refused : PySem.W.subIn K (.ref C_Refused) (.ref C_TribunalError) = some true)
    (ktR : PySem.W.kitAny K (.ref C_Refused) [.ref C_BadJournal, .ref C_BadLine] = some false)
    (kt0 : PySem.W.kitOne K (.ref C_Refused) (.ref C_Refused) = some true) :
    ∃ fd : FuncData, (∀ (s : Shared) (v : Value), BindsTo s fd ⟨[v], []⟩ [("script", v)]) ∧ ∀ base : Heap, K.In base → base.Ns mainGlobals mg → FnOk l.prog w K mg base CX0 5 fa fd ["script"] (spLaw K) := by
  have e := hfa.symm.trans (PySem.W.mg_of X G a_law)
  cases e
  have T : Txt K mg ⟨C_Journal, f_is_vote, f_clash, f_abandons, f_Journal_init, f_Journal_sign, f_word, f_letter_line, f_Journal_lines, f_Journal_last_turn, f_law_cell, f_law_is_integer, f_law_clash, f_law_statement, f_law_drawn, f_law_line, f_law_signs, C_Refused, f_Refused_init, C_TribunalError, C_BadJournal, C_BadLine⟩ := {
    n_len := mg_no X G n_len
    n_range := mg_no X G n_range
    n_isinstance := mg_no X G n_isinstance
    n_int := mg_no X G n_int
    n_bool := mg_no X G n_bool
    n_list := mg_no X G n_list
    n_tuple := mg_no X G n_tuple
    n_sum := mg_no X G n_sum
    n_max := mg_no X G n_max
    n_str := mg_no X G n_str
    n_super := mg_no X G n_super
    n_ValueError := mg_no X G n_ValueError
    c_KIND := ⟨_, PySem.W.mg_of X G c_KIND⟩
    c_HEIGHT := ⟨_, PySem.W.mg_of X G c_HEIGHT⟩
    c_TURN := ⟨_, PySem.W.mg_of X G c_TURN⟩
    c_BLOCK := ⟨_, PySem.W.mg_of X G c_BLOCK⟩
    c_LEAN := ⟨_, PySem.W.mg_of X G c_LEAN⟩
    c_NONE := ⟨_, PySem.W.mg_of X G c_NONE⟩
    g_Journal := PySem.W.mg_of X G g_Journal
    cl_Journal := ⟨pg_Journal, hd_Journal, po_Journal, sa_Journal⟩
    kc_Journal := kc_Journal
    mk_Journal := mk_Journal
    a_Journal_who := no_Journal_who
    a_Journal_signed := no_Journal_signed
    d_is_vote := ⟨def_mk l_is_vote q_is_vote k_is_vote (fun _ _ _ _ _ _ us hl => match us, hl with | [_], _ => rfl), PySem.W.mg_of X G a_is_vote, k_is_vote⟩
    d_clash := ⟨def_mk l_clash q_clash k_clash (fun _ _ _ _ _ _ us hl => match us, hl with | [_, _], _ => rfl), PySem.W.mg_of X G a_clash, k_clash⟩
    d_abandons := ⟨def_mk l_abandons q_abandons k_abandons (fun _ _ _ _ _ _ us hl => match us, hl with | [_, _], _ => rfl), PySem.W.mg_of X G a_abandons, k_abandons⟩
    d_Journal_init := ⟨def_mk l_Journal_init q_Journal_init k_Journal_init (fun _ _ _ _ _ _ us hl => match us, hl with | [_, _], _ => rfl), a_Journal_init, i_Journal_init, k_Journal_init⟩
    d_Journal_sign := ⟨def_mk l_Journal_sign q_Journal_sign k_Journal_sign (fun _ _ _ _ _ _ us hl => match us, hl with | [_, _], _ => rfl), a_Journal_sign, i_Journal_sign, k_Journal_sign⟩
    d_word := ⟨def_mk l_word q_word k_word (fun _ _ _ _ _ _ us hl => match us, hl with | [_], _ => rfl), PySem.W.mg_of X G a_word, k_word⟩
    d_letter_line := ⟨def_mk l_letter_line q_letter_line k_letter_line (fun _ _ _ _ _ _ us hl => match us, hl with | [_], _ => rfl), PySem.W.mg_of X G a_letter_line, k_letter_line⟩
    d_Journal_lines := ⟨def_mk l_Journal_lines q_Journal_lines k_Journal_lines (fun _ _ _ _ _ _ us hl => match us, hl with | [_], _ => rfl), a_Journal_lines, i_Journal_lines, k_Journal_lines⟩
    d_Journal_last_turn := ⟨def_mk l_Journal_last_turn q_Journal_last_turn k_Journal_last_turn (fun _ _ _ _ _ _ us hl => match us, hl with | [_, _], _ => rfl), a_Journal_last_turn, i_Journal_last_turn, k_Journal_last_turn⟩
    d_law_cell := ⟨def_mk l_law_cell q_law_cell k_law_cell (fun _ _ _ _ _ _ us hl => match us, hl with | [_, _], _ => rfl), PySem.W.mg_of X G a_law_cell, k_law_cell⟩
    d_law_is_integer := ⟨def_mk l_law_is_integer q_law_is_integer k_law_is_integer (fun _ _ _ _ _ _ us hl => match us, hl with | [_], _ => rfl), PySem.W.mg_of X G a_law_is_integer, k_law_is_integer⟩
    d_law_clash := ⟨def_mk l_law_clash q_law_clash k_law_clash (fun _ _ _ _ _ _ us hl => match us, hl with | [_, _], _ => rfl), PySem.W.mg_of X G a_law_clash, k_law_clash⟩
    d_law_statement := ⟨def_mk l_law_statement q_law_statement k_law_statement (fun _ _ _ _ _ _ us hl => match us, hl with | [_, _], _ => rfl), PySem.W.mg_of X G a_law_statement, k_law_statement⟩
    d_law_drawn := ⟨def_mk l_law_drawn q_law_drawn k_law_drawn (fun _ _ _ _ _ _ us hl => match us, hl with | [_], _ => rfl), PySem.W.mg_of X G a_law_drawn, k_law_drawn⟩
    d_law_line := ⟨def_mk l_law_line q_law_line k_law_line (fun _ _ _ _ _ _ us hl => match us, hl with | [_, _], _ => rfl), PySem.W.mg_of X G a_law_line, k_law_line⟩
    d_law_signs := ⟨def_mk l_law_signs q_law_signs k_law_signs (fun _ _ _ _ _ _ us hl => match us, hl with | [_, _, _, _], _ => rfl), PySem.W.mg_of X G a_law_signs, k_law_signs⟩ }
  have TE : TxtE l.prog K mg ⟨C_Journal, f_is_vote, f_clash, f_abandons, f_Journal_init, f_Journal_sign, f_word, f_letter_line, f_Journal_lines, f_Journal_last_turn, f_law_cell, f_law_is_integer, f_law_clash, f_law_statement, f_law_drawn, f_law_line, f_law_signs, C_Refused, f_Refused_init, C_TribunalError, C_BadJournal, C_BadLine⟩ := {
    g_Refused := PySem.W.mg_of X G g_Refused
    sup_Refused := ⟨_, { fn := ⟨_, _, _, _, _, _, _, _, _, _, _, _, _, _, _, _, _, _, _, rfl, l_Refused_init, q_Refused_init, ce_Refused_init, co_Refused_init, v2_Refused_init, fi_Refused_init⟩, oex := ⟨⟨_, _, _, _, _, _, _, _, _, _, _, _, _, _, _, lc_Refused, rb_Refused⟩, sa_Refused, eb_Refused, ty_Refused, kc_Refused⟩, sup := su_Refused, opq := op_Refused, subV := sv_Refused, mroC := mc_Refused, nof := nf_Refused, topS := ts_Refused }, .all fun us hl => match us, hl with | [_, _], _ => rfl⟩
    iC_Refused := a_Refused_init
    tI_Refused := tI_Refused_init
    oex_Refused := ⟨⟨_, _, _, _, _, _, _, _, _, _, _, _, _, _, _, lc_Refused, rb_Refused⟩, sa_Refused, eb_Refused, ty_Refused, kc_Refused⟩
    xc_Refused := ⟨by unfold PySem.W.clsIn; rw [lc_Refused]; rfl, xga_Refused, xgt_Refused, eb_Refused, xhd_Refused, xcc_Refused, xsp_Refused, xtk_Refused, xmo_Refused⟩
    g_BadJournal := PySem.W.mg_of X G g_BadJournal
    g_BadLine := PySem.W.mg_of X G g_BadLine
    g_TribunalError := PySem.W.mg_of X G g_TribunalError
    exm_TribunalError_Refused := PySem.W.exm_ref te1_TribunalError te2_TribunalError te3_TribunalError te4_TribunalError_Refused
    ktR := ktR
    kt0 := kt0 }
  have F5 := fun_mk (st := s_law) l_law q_law k_law
  exact ⟨PySem.W.fnOf "law" "law" (defArgs s_law) (defBody s_law) (defScope s_law) .none kV_law dc_law pm_law an_law cd_law ct_law, fun s v => .of_eq rfl, fun base _ _ => ok_law F5 TE T⟩
theorem walk {l : PySem.W.OpenLaw} {q : Program} {loose : List Str} {XP : (Str → Option Value) → Heap → Prop} {YP : World → Heap → Prop} {d : DefRec} {K : Params → PySem.W.Frag} (hn : l.most = some 63) (hdf : d.params.defaults = [])
    (hY : ∀ (w : World) (h : Heap), YP w h → (K w.params).In h)
    (F : ∀ (w : World) (mg : Str → Option Value) (fa : Addr) (h : Heap), (K w.params).In h → h.Ns mainGlobals mg → mg d.name = some (.ref fa) →
      ∃ fd : FuncData, (∀ (s : Shared) (u : Value), BindsTo s fd ⟨[u], []⟩ [("script", u)]) ∧ ∀ base : Heap, (K w.params).In base → base.Ns mainGlobals mg → FnOk l.prog w (K w.params) mg base CX0 5 fa fd ["script"] (spLaw (K w.params))) :
    PySem.W.WalkO q loose XP YP l.row.toRowW d [] (fun f vs => PySem.call f vs) :=
  L2.walk_of (n := 63) (k := 5) (x := "script") (CX := fun _ => CX0) (sp := fun w => spLaw (K w.params)) hn (by decide) hdf ⟨rfl, by decide, by decide⟩ hY F (fun _ _ a ns hl _ hS => ⟨a, ns, rfl, hS, hl, fun _ => rfl⟩) fun _ _ _ _ _ z => z
end Toy
open PySem PySem.W PyProof.Rows
set_option maxRecDepth 100000 in
set_option maxHeartbeats 0 in
theorem PySem.Challenge.cw_tribunal_k06_journals_refuse_clashes_holds : PySem.Challenge.rw_tribunal_k06_journals_refuse_clashes.Holds := by
  w_on; o_law; k_head; (case hw => w_witness2)
  k_fill
  refine Toy.walk (l := PySem.Challenge.rw_tribunal_k06_journals_refuse_clashes) rfl rfl (fun w h Y => PySem.W.kIn_of Y) ?F
  case F =>
    intro w mg fa h KX G hmg
    refine' Toy.all_mk KX G hmg ?c_KIND ?c_HEIGHT ?c_TURN ?c_BLOCK ?c_LEAN ?c_NONE ?n_len ?n_range ?n_isinstance ?n_int ?n_bool ?n_list ?n_tuple ?n_sum ?n_max ?n_str ?n_super ?n_ValueError ?g_Journal ?a_is_vote ?l_is_vote ?q_is_vote ?k_is_vote ?a_clash ?l_clash ?q_clash ?k_clash ?a_abandons ?l_abandons ?q_abandons ?k_abandons ?a_Journal_init ?i_Journal_init ?l_Journal_init ?q_Journal_init ?k_Journal_init ?a_Journal_sign ?i_Journal_sign ?l_Journal_sign ?q_Journal_sign ?k_Journal_sign ?a_word ?l_word ?q_word ?k_word ?a_letter_line ?l_letter_line ?q_letter_line ?k_letter_line ?a_Journal_lines ?i_Journal_lines ?l_Journal_lines ?q_Journal_lines ?k_Journal_lines ?a_Journal_last_turn ?i_Journal_last_turn ?l_Journal_last_turn ?q_Journal_last_turn ?k_Journal_last_turn ?a_law_cell ?l_law_cell ?q_law_cell ?k_law_cell ?a_law_is_integer ?l_law_is_integer ?q_law_is_integer ?k_law_is_integer ?a_law_clash ?l_law_clash ?q_law_clash ?k_law_clash ?a_law_statement ?l_law_statement ?q_law_statement ?k_law_statement ?a_law_drawn ?l_law_drawn ?q_law_drawn ?k_law_drawn ?a_law_line ?l_law_line ?q_law_line ?k_law_line ?a_law_signs ?l_law_signs ?q_law_signs ?k_law_signs ?a_law ?l_law ?q_law ?k_law ?pg_Journal ?hd_Journal ?po_Journal ?sa_Journal ?mk_Journal ?kc_Journal ?no_Journal_who ?no_Journal_signed ?g_Refused ?lc_Refused ?rb_Refused ?sa_Refused ?eb_Refused ?ty_Refused ?kc_Refused ?a_Refused_init ?tI_Refused_init ?l_Refused_init ?q_Refused_init ?ce_Refused_init ?co_Refused_init ?v2_Refused_init ?fi_Refused_init ?su_Refused ?op_Refused ?sv_Refused ?mc_Refused ?nf_Refused ?ts_Refused ?xga_Refused ?xgt_Refused ?xhd_Refused ?xcc_Refused ?xsp_Refused ?xtk_Refused ?xmo_Refused ?g_BadJournal ?g_BadLine ?g_TribunalError ?te1_TribunalError ?te2_TribunalError ?te3_TribunalError ?te4_TribunalError_Refused ?ktR ?kt0
    (case c_KIND => k_is)
    (case c_HEIGHT => k_is)
    (case c_TURN => k_is)
    (case c_BLOCK => k_is)
    (case c_LEAN => k_is)
    (case c_NONE => k_is)
    (case n_len => k_is)
    (case n_range => k_is)
    (case n_isinstance => k_is)
    (case n_int => k_is)
    (case n_bool => k_is)
    (case n_list => k_is)
    (case n_tuple => k_is)
    (case n_sum => k_is)
    (case n_max => k_is)
    (case n_str => k_is)
    (case n_super => k_is)
    (case n_ValueError => k_is)
    (case g_Journal => k_is)
    (case a_is_vote => k_is)
    (case l_is_vote => k_is)
    (case q_is_vote => k_is)
    (case k_is_vote => k_is)
    (case a_clash => k_is)
    (case l_clash => k_is)
    (case q_clash => k_is)
    (case k_clash => k_is)
    (case a_abandons => k_is)
    (case l_abandons => k_is)
    (case q_abandons => k_is)
    (case k_abandons => k_is)
    (case a_Journal_init => k_is)
    (case i_Journal_init => k_is)
    (case l_Journal_init => k_is)
    (case q_Journal_init => k_is)
    (case k_Journal_init => k_is)
    (case a_Journal_sign => k_is)
    (case i_Journal_sign => k_is)
    (case l_Journal_sign => k_is)
    (case q_Journal_sign => k_is)
    (case k_Journal_sign => k_is)
    (case a_word => k_is)
    (case l_word => k_is)
    (case q_word => k_is)
    (case k_word => k_is)
    (case a_letter_line => k_is)
    (case l_letter_line => k_is)
    (case q_letter_line => k_is)
    (case k_letter_line => k_is)
    (case a_Journal_lines => k_is)
    (case i_Journal_lines => k_is)
    (case l_Journal_lines => k_is)
    (case q_Journal_lines => k_is)
    (case k_Journal_lines => k_is)
    (case a_Journal_last_turn => k_is)
    (case i_Journal_last_turn => k_is)
    (case l_Journal_last_turn => k_is)
    (case q_Journal_last_turn => k_is)
    (case k_Journal_last_turn => k_is)
    (case a_law_cell => k_is)
    (case l_law_cell => k_is)
    (case q_law_cell => k_is)
    (case k_law_cell => k_is)
    (case a_law_is_integer => k_is)
    (case l_law_is_integer => k_is)
    (case q_law_is_integer => k_is)
    (case k_law_is_integer => k_is)
    (case a_law_clash => k_is)
    (case l_law_clash => k_is)
    (case q_law_clash => k_is)
    (case k_law_clash => k_is)
    (case a_law_statement => k_is)
    (case l_law_statement => k_is)
    (case q_law_statement => k_is)
    (case k_law_statement => k_is)
    (case a_law_drawn => k_is)
    (case l_law_drawn => k_is)
    (case q_law_drawn => k_is)
    (case k_law_drawn => k_is)
    (case a_law_line => k_is)
    (case l_law_line => k_is)
    (case q_law_line => k_is)
    (case k_law_line => k_is)
    (case a_law_signs => k_is)
    (case l_law_signs => k_is)
    (case q_law_signs => k_is)
    (case k_law_signs => k_is)
    (case a_law => k_is)
    (case l_law => k_is)
    (case q_law => k_is)
    (case k_law => k_is)
    (case pg_Journal => k_is)
    (case hd_Journal => k_is)
    (case po_Journal => k_is)
    (case sa_Journal => k_is)
    (case mk_Journal => k_is)
    (case kc_Journal => k_is)
    (case no_Journal_who => k_is)
    (case no_Journal_signed => k_is)
    (case g_Refused => k_is)
    (case lc_Refused => k_is)
    (case rb_Refused => decide +kernel)
    (case sa_Refused => k_is)
    (case eb_Refused => k_is)
    (case ty_Refused => k_is)
    (case kc_Refused => k_is)
    (case a_Refused_init => k_is)
    (case tI_Refused_init => k_is)
    (case l_Refused_init => k_is)
    (case q_Refused_init => k_is)
    (case ce_Refused_init => k_is)
    (case co_Refused_init => k_is)
    (case v2_Refused_init => rfl)
    (case fi_Refused_init => decide +kernel)
    (case su_Refused => ks_is)
    (case op_Refused => k_is)
    (case sv_Refused => k_is)
    (case mc_Refused => k_is)
    (case nf_Refused => k_is)
    (case ts_Refused => decide +kernel)
    (case xga_Refused => k_is)
    (case xgt_Refused => k_is)
    (case xhd_Refused => k_is)
    (case xcc_Refused => k_is)
    (case xsp_Refused => k_is)
    (case xtk_Refused => k_is)
    (case xmo_Refused => k_is)
    (case g_BadJournal => k_is)
    (case g_BadLine => k_is)
    (case g_TribunalError => k_is)
    (case te1_TribunalError => k_is)
    (case te2_TribunalError => k_is)
    (case te3_TribunalError => k_is)
    (case te4_TribunalError_Refused => k_is)
    (case ktR => kit_is)
    (case kt0 => kit_is)
