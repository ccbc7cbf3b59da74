import PyProof.Rows.All
import Wide.All
import OpenK.AllK
import Wide.FinOn
import HandS.ForMost
import HandS.IsInst
import HandS.TupLe
import HandS.Codes
import HandS.More
import KE.GoesMore
import KE.GoesEnum
import KE.KTupSum
import PySem.Challenge.RW_tribunal_k01_two_quorums_meet_in_a_third
set_option Elab.async false
set_option linter.all false
set_option maxRecDepth 100000
set_option maxHeartbeats 4000000
namespace Toy
open PySem L2
def top (i : Nat) : Stmt := PySem.Challenge.pw_tribunal_k01_two_quorums_meet_in_a_third.main.body.getD i (.Pass ⟨0, 0, 0, 0⟩)
abbrev s_law_cell : Stmt := (top 10)
abbrev s_law_row : Stmt := (top 12)
abbrev s_law_weights : Stmt := (top 13)
abbrev s_law_weight : Stmt := (top 14)
abbrev s_first_wrong : Stmt := (top 8)
abbrev s_Committee_init : Stmt := (inClass (top 7) 0)
abbrev s_Committee_weight_of : Stmt := (inClass (top 7) 1)
abbrev s_Committee_is_quorum : Stmt := (inClass (top 7) 2)
abbrev s_Committee_is_third : Stmt := (inClass (top 7) 3)
abbrev s_law : Stmt := (top 15)
abbrev sc_law_cell_N : List Str := ["script", "k"]
theorem sc_law_cell : FnScope sc_law_cell_N ["script", "k"] (defScope s_law_cell) := ⟨rfl, rfl, rfl, by decide +kernel, rfl, by decide +kernel, by decide +kernel⟩
abbrev sc_law_row_N : List Str := ["cell", "count", "size", "state", "row", "k"]
theorem sc_law_row : FnScope sc_law_row_N ["cell", "count", "size"] (defScope s_law_row) := ⟨rfl, rfl, rfl, by decide +kernel, rfl, by decide +kernel, by decide +kernel⟩
abbrev sc_law_weights_N : List Str := ["cell", "most", "count", "value"]
theorem sc_law_weights : FnScope sc_law_weights_N ["cell", "most"] (defScope s_law_weights) := ⟨rfl, rfl, rfl, by decide +kernel, rfl, by decide +kernel, by decide +kernel⟩
abbrev sc_law_weight_N : List Str := ["weights", "members", "k"]
theorem sc_law_weight : FnScope sc_law_weight_N ["weights", "members"] (defScope s_law_weight) := ⟨rfl, rfl, rfl, by decide +kernel, rfl, by decide +kernel, by decide +kernel⟩
abbrev sc_first_wrong_N : List Str := ["weights", "at", "weight"]
theorem sc_first_wrong : FnScope sc_first_wrong_N ["weights"] (defScope s_first_wrong) := ⟨rfl, rfl, rfl, by decide +kernel, rfl, by decide +kernel, by decide +kernel⟩
abbrev sc_Committee_init_N : List Str := ["self", "weights", "wrong"]
theorem sc_Committee_init : FnScope sc_Committee_init_N ["self", "weights"] (defScope s_Committee_init) := ⟨rfl, rfl, rfl, by decide +kernel, rfl, by decide +kernel, by decide +kernel⟩
abbrev sc_Committee_weight_of_N : List Str := ["self", "members", "listed", "member", "weight"]
theorem sc_Committee_weight_of : FnScope sc_Committee_weight_of_N ["self", "members"] (defScope s_Committee_weight_of) := ⟨rfl, rfl, rfl, by decide +kernel, rfl, by decide +kernel, by decide +kernel⟩
abbrev sc_Committee_is_quorum_N : List Str := ["self", "members"]
theorem sc_Committee_is_quorum : FnScope sc_Committee_is_quorum_N ["self", "members"] (defScope s_Committee_is_quorum) := ⟨rfl, rfl, rfl, by decide +kernel, rfl, by decide +kernel, by decide +kernel⟩
abbrev sc_Committee_is_third_N : List Str := ["self", "members"]
theorem sc_Committee_is_third : FnScope sc_Committee_is_third_N ["self", "members"] (defScope s_Committee_is_third) := ⟨rfl, rfl, rfl, by decide +kernel, rfl, by decide +kernel, by decide +kernel⟩
abbrev sc_law_N : List Str := ["script", "weights", "committee", "lists", "at", "digits", "common", "members", "rest", "less", "k"]
theorem sc_law : FnScope sc_law_N ["script"] (defScope s_law) := ⟨rfl, rfl, rfl, by decide +kernel, rfl, by decide +kernel, by decide +kernel⟩
/-! ### what stands where -/
structure DefAt (K : PySem.W.Frag) (mg : Str → Option Value) (x : Str) (st : Stmt) (ps : List Str) (f : Addr) : Prop where
  F : ∃ fd, Fun K x x st f fd ∧ Binds K fd ps []
  g : mg x = some (.ref f)
  kp : PySem.W.keepIn K (.ref f) = true
structure MethAt (K : PySem.W.Frag) (C : Addr) (x qual : Str) (st : Stmt) (ps : List Str) (f : Addr) : Prop where
  F : ∃ fd, Fun K x qual st f fd ∧ Binds K fd ps []
  fi : PySem.W.findIn K (.ref C) x = some (some (.ref f))
  isf : PySem.W.isFn K (.ref f) = true
  kp : PySem.W.keepIn K (.ref f) = true
theorem def_mk {K : PySem.W.Frag} {x qual : Str} {st : Stmt} {f : Addr} {ps : List Str} {oc : Value} {od an : Option Addr} {osl : Array (Option Value)} {kV doc pm cdv ct : Value}
    (l : K.lookup f = some ⟨oc, od, .func (PySem.W.fnOf x qual (defArgs st) (defBody st) (defScope st) .none kV doc pm an cdv ct), osl⟩)
    (c : PySem.W.codeIn K cdv qual = true) (k : PySem.W.keepIn K (.ref f) = true)
    (h : ∀ (kV doc pm : Value) (an : Option Addr) (cdv ct : Value) (us : List Value), us.length = ps.length → bindArgs (PySem.W.fnOf x qual (defArgs st) (defBody st) (defScope st) .none kV doc pm an cdv ct) ⟨us, []⟩ = pure (ps.zip us)) :
    ∃ fd, Fun K x qual st f fd ∧ Binds K fd ps [] := by
  have F := fun_mk (st := st) l c k
  exact ⟨_, F, F.binds h⟩
theorem mg_no {K : PySem.W.Frag} {h : Heap} {mg : Str → Option Value} {n : Str} (X : K.In h) (G : h.Ns mainGlobals mg) (e : PySem.W.nsIn K mainGlobals n = some none) : mg n = none := PySem.W.mg_none_of X G e
theorem same_new {H : Hp} {p : Addr} {o : HO} (n : H p = Option.none) : Same H (upd H p o) := fun b u e => by
  rw [upd_ne (ne_of_none e n)]
  exact e
theorem same_upd {H H2 : Hp} {p : Addr} {o : HO} (s : Same H H2) (n : H p = Option.none) : Same H (upd H2 p o) := fun b u e => by
  rw [upd_ne (ne_of_none e n)]
  exact s b u e
structure Ads where
  C_Committee : Addr
  d_law_cell : Addr
  d_law_row : Addr
  d_law_weights : Addr
  d_law_weight : Addr
  d_first_wrong : Addr
  d_Committee_init : Addr
  d_Committee_weight_of : Addr
  d_Committee_is_quorum : Addr
  d_Committee_is_third : Addr
structure Txt (K : PySem.W.Frag) (mg : Str → Option Value) (a : Ads) : Prop where
  n_len : mg "len" = none
  n_range : mg "range" = none
  n_int : mg "int" = none
  n_sum : mg "sum" = none
  n_enumerate : mg "enumerate" = none
  n_set : mg "set" = none
  n_tuple : mg "tuple" = none
  n_list : mg "list" = none
  c_MOST_MEMBERS : ∃ t, mg "MOST_MEMBERS" = some (.int 16 t)
  c_MOST_WEIGHT : ∃ t, mg "MOST_WEIGHT" = some (.int 1000000000000 t)
  g_Committee : mg "Committee" = some (.ref a.C_Committee)
  cl_Committee : Cls K a.C_Committee
  kc_Committee : PySem.W.keepIn K (.ref a.C_Committee) = true
  mk_Committee : PySem.W.makesIn K a.C_Committee = true
  a_Committee_weights : NoAttr K a.C_Committee "weights"
  a_Committee_size : NoAttr K a.C_Committee "size"
  a_Committee_total : NoAttr K a.C_Committee "total"
  d_law_cell : DefAt K mg "_law_cell" s_law_cell ["script", "k"] a.d_law_cell
  d_law_row : DefAt K mg "_law_row" s_law_row ["cell", "count", "size"] a.d_law_row
  d_law_weights : DefAt K mg "_law_weights" s_law_weights ["cell", "most"] a.d_law_weights
  d_law_weight : DefAt K mg "_law_weight" s_law_weight ["weights", "members"] a.d_law_weight
  d_first_wrong : DefAt K mg "_first_wrong" s_first_wrong ["weights"] a.d_first_wrong
  d_Committee_init : MethAt K a.C_Committee "__init__" "Committee.__init__" s_Committee_init ["self", "weights"] a.d_Committee_init
  d_Committee_weight_of : MethAt K a.C_Committee "weight_of" "Committee.weight_of" s_Committee_weight_of ["self", "members"] a.d_Committee_weight_of
  d_Committee_is_quorum : MethAt K a.C_Committee "is_quorum" "Committee.is_quorum" s_Committee_is_quorum ["self", "members"] a.d_Committee_is_quorum
  d_Committee_is_third : MethAt K a.C_Committee "is_third" "Committee.is_third" s_Committee_is_third ["self", "members"] a.d_Committee_is_third
theorem Txt.m_Committee {K : PySem.W.Frag} {mg : Str → Option Value} {a : Ads} (T : Txt K mg a) : Mk K a.C_Committee a.d_Committee_init := ⟨T.mk_Committee, T.d_Committee_init.fi, T.d_Committee_init.isf, T.kc_Committee⟩
theorem Txt.me_Committee_weight_of {K : PySem.W.Frag} {mg : Str → Option Value} {a : Ads} (T : Txt K mg a) : Meth K a.C_Committee "weight_of" a.d_Committee_weight_of := ⟨T.d_Committee_weight_of.fi, T.d_Committee_weight_of.isf, T.d_Committee_weight_of.kp⟩
theorem Txt.me_Committee_is_quorum {K : PySem.W.Frag} {mg : Str → Option Value} {a : Ads} (T : Txt K mg a) : Meth K a.C_Committee "is_quorum" a.d_Committee_is_quorum := ⟨T.d_Committee_is_quorum.fi, T.d_Committee_is_quorum.isf, T.d_Committee_is_quorum.kp⟩
theorem Txt.me_Committee_is_third {K : PySem.W.Frag} {mg : Str → Option Value} {a : Ads} (T : Txt K mg a) : Meth K a.C_Committee "is_third" a.d_Committee_is_third := ⟨T.d_Committee_is_third.fi, T.d_Committee_is_third.isf, T.d_Committee_is_third.kp⟩
section
open PyProof.Rows
/-! ### own rules: set(list of ints), k in that set; enumerate(a tuple) -/
theorem any_firstMet (zs : List Int) (k : Int) : (PyProof.Rows.firstMet (fun i => zs.getD i 0) zs.length).any (· == k) = decide (k ∈ zs) := by
  rw [PyProof.Rows.firstMet_any, Bool.eq_iff_iff, List.any_eq_true, decide_eq_true_iff]
  constructor
  · rintro ⟨y, hy, e⟩
    obtain ⟨i, hi, rfl⟩ := List.mem_map.mp hy
    have hi' : i < zs.length := List.mem_range.mp hi
    have e' : zs.getD i 0 = k := by simpa using e
    rw [← e', List.getD_eq_getElem?_getD, List.getElem?_eq_getElem hi']
    exact List.getElem_mem hi'
  · intro hk
    obtain ⟨i, hi, e⟩ := List.getElem_of_mem hk
    refine ⟨k, List.mem_map.mpr ⟨i, List.mem_range.mpr hi, ?_⟩, by simp⟩
    show zs.getD i 0 = k
    rw [List.getD_eq_getElem?_getD, List.getElem?_eq_getElem hi]
    exact e
/-- set(xs), xs a list of ints -/
def rSetOfL (K : PySem.W.Frag) : List V → Hp → VK → Prop := fun vs H Q => ∃ (l : Addr) (zs : List Int), vs = [V.ref l] ∧ SqL K H l (zs.map V.int) ∧ zs.length ≤ 1000 ∧
  ∀ (p : Addr) (n : Nat), H p = Option.none → Q (.ref p) (upd H p (.set (fun k => decide (k ∈ zs)) n))
theorem cr_set {X : Cx} (calm : X.calm = true) : CallR X (.type "set") (rSetOfL X.K) := by
  intro pins sh σ H vs us Q I rel hyp
  obtain ⟨l, zs, rfl, hl, few, q⟩ := hyp
  rw [Vals.ref1 rel]
  obtain ⟨its, rv, pl, _⟩ := I.list hl
  have isI := ints_of_vals rv
  have same : its.toArray.size = zs.length := by
    have e := rv.length
    rw [List.length_map] at e
    rw [List.size_toArray]
    exact e.symm
  refine PySem.call_set_list (items := its.toArray) (ns := zs) (I.ok.hd calm) pl.isList (by simpa using isI) (by rw [same]; unfold scanBound; omega) fun h' tk S kp => ?_
  have fresh : H sh.heap.objs.size = Option.none := I.hok.fresh (Nat.le_refl _)
  have e : (fun k => (PyProof.Rows.firstMet (fun i => zs.getD i 0) its.toArray.size).any (· == k)) = fun k => decide (k ∈ zs) := by
    funext k
    rw [same]
    exact any_firstMet zs k
  rw [e] at S
  exact ⟨.ref sh.heap.objs.size, upd H sh.heap.objs.size (.set (fun k => decide (k ∈ zs)) _), I.laid (t' := tk) (fun b o ho => kp b o (Heap.lt_size ho) ho) (Nat.le_refl _) S, rfl, q _ _ fresh⟩
/-- k in such a set -/
def rInSt (neg : Bool) : R2 := fun x y H Q => ∃ (k : Int) (b : Addr) (S : Int → Bool) (n : Nat), x = V.int k ∧ y = V.ref b ∧ H b = some (.set S n) ∧ Q (.bl (if neg then !S k else S k)) H
theorem op_in_set {X : Cx} : OpR X (compareOp .In) (rInSt false) := by
  intro pins sh σ H x y v u Q I r1 r2 hyp
  obtain ⟨k, b, S, n, rfl, rfl, hb, q⟩ := hyp
  obtain ⟨tk, rfl⟩ := r1
  cases r2
  have hS : sh.heap.SetOf (intKind X.prog X.w) b S n := I.hok b _ hb
  exact PySem.wpAny_inSet_of (PySem.intKind_is _ _ _ _) rfl hS ⟨.bl (S k), H, I.tok _, rfl, q⟩
/-- the pairs of enumerate over the tuple at a -/
def Itu (K : PySem.W.Frag) (a : Addr) : It where
  go i H := ∃ (ys : List V) (y : V), SqT K H a ys ∧ ys[i]? = some y
  yld i H v H' := ∃ (p : Addr) (y : V), v = .ref p ∧ H p = Option.none ∧ H' = upd H p (.tup [.int (i : Nat), y]) ∧ ∀ ys, SqT K H a ys → ys[i]? = some y
  stop i H := ∃ ys : List V, SqT K H a ys ∧ ys.length = i
theorem turn_enumT {P : Program} {w : World} {K : PySem.W.Frag} {elts : List Expr} {kk : Nat} {tpos : Pos} (a en it : Addr) (na : a ≠ it) (ne : en ≠ it) (nea : en ≠ a) :
    Turn P w K (.Tuple elts kk tpos) (Itu K a) [en, it] en (fun i h => (∃ old, IsEnum h en it ((i : Nat) : Int) old) ∧ h.IsTupleIter it a i) where
  mem := List.mem_cons_self
  obj := by
    rintro i h ⟨⟨old, he⟩, ⟨o, ho, hc, hd⟩⟩ b hb
    rcases List.mem_cons.mp hb with rfl | hb
    · exact ⟨_, he, fun v z => nomatch z⟩
    · rw [List.mem_singleton.mp hb]
      exact ⟨o, ho, fun v z => by rw [hd] at z; cases z⟩
  keep := by
    rintro i h h' ⟨⟨old, he⟩, hi⟩ kp
    exact ⟨⟨old, kp en List.mem_cons_self _ he⟩, hi.at fun o z => kp it (List.mem_cons_of_mem _ List.mem_cons_self) o z⟩
  item := by
    intro X hP hw hK calm i pins sh σ H E I fp st hg
    subst hP hw hK
    obtain ⟨⟨old, he⟩, hit⟩ := st
    obtain ⟨ys, y, hy, hix⟩ := hg
    obtain ⟨its, rv, tp, _⟩ := I.tuple hy
    obtain ⟨u, hu, ru⟩ := rv.get hix
    have hT : sh.heap.IsTuple a its.toArray := tp
    have hlen : i < its.toArray.size := by
      rw [List.size_toArray]
      exact (List.getElem?_eq_some_iff.mp hu).1
    have len : en < sh.heap.objs.size := Heap.lt_size he
    have lit : it < sh.heap.objs.size := by
      obtain ⟨_, z, _⟩ := hit
      exact Heap.lt_size z
    refine wpAny_pyNext_enum_itemD (Draws.tuple (by simp [I.ok.hd calm]) it a na its.toArray) he ⟨hit, hT⟩ hlen ne (by simp [ne, nea]) fun x h' tk hx ho hst hnew hsz kp => ?_
    have ex : x = u := by
      rw [List.getElem?_toArray, hu] at hx
      exact (Option.some.inj hx).symm
    subst ex
    refine ⟨_, rfl, wpAny_letOwnedTupleGo_enum (s := { sh with heap := h', toks := tk + 1 }) ho fun h2 he2 sb => ?_⟩
    have new2 : h2.get? sh.heap.objs.size = some { cls := .type "tuple", data := .seq #[.int i tk, x] } := (sb.2 _ (Nat.ne_of_gt len)).trans hnew
    have okN : ObjOk X.prog X.w (upd H sh.heap.objs.size (.tup [.int (i : Nat), y])) h2 sh.heap.objs.size (.tup [.int (i : Nat), y]) := by
      refine ⟨(by show 2 ≤ sizeLine; decide), [.int i tk, x], .cons ⟨_, rfl⟩ (.cons ru .nil), ?_⟩
      exact ⟨_, new2, rfl, _, rfl⟩
    have I2 : Inv X pins σ (upd H sh.heap.objs.size (.tup [.int (i : Nat), y])) { sh with heap := h2, toks := tk + 1 } := by
      refine I.turnedNew (ch := [en, it]) (fun b ob hb z => ?_) fp (Nat.le_refl _) okN
      have b1 : b ≠ en := fun q => hb (by rw [q]; exact List.mem_cons_self)
      have b2 : b ≠ it := fun q => hb (by rw [q]; exact List.mem_cons_of_mem _ List.mem_cons_self)
      exact (sb.2 b b1).trans (kp b ob b1 b2 z)
    refine ⟨.ref sh.heap.objs.size, _, I2, rfl, ⟨_, y, rfl, I.hok.fresh (Nat.le_refl _), rfl, fun zs hz => ?_⟩, ⟨⟨x, ?_⟩, hst.1.at fun o z => (sb.2 it (Ne.symm ne)).trans z⟩, fun b hb => ?_⟩
    · rw [I.tuple_inj hz hy]
      exact hix
    · have e1 : ((i + 1 : Nat) : Int) = (i : Int) + 1 := by omega
      rw [e1]
      exact he2
    · have lb : b < sh.heap.objs.size := by
        rcases List.mem_cons.mp hb with rfl | hb
        · exact len
        · rw [List.mem_singleton.mp hb]
          exact lit
      rw [upd_ne (Nat.ne_of_lt lb)]
      exact (fp b hb).1
  done := by
    intro X hP hw hK calm i pins sh σ H E I fp st hg
    subst hP hw hK
    obtain ⟨⟨old, he⟩, hit⟩ := st
    obtain ⟨ys, hy, rfl⟩ := hg
    obtain ⟨its, rv, tp, _⟩ := I.tuple hy
    have hT : sh.heap.IsTuple a its.toArray := tp
    have e : ys.length = its.toArray.size := by
      rw [List.size_toArray]
      exact rv.length
    rw [e] at hit
    obtain ⟨g0, g1, g2, g3, g4, g5⟩ := fp it (List.mem_cons_of_mem _ List.mem_cons_self)
    exact wpAny_pyNext_enum_endD (Draws.tuple (by simp [I.ok.hd calm]) it a na its.toArray) he ⟨hit, hT⟩ fun h' eb => ⟨rfl, I.turned (t' := sh.toks) (fun b o hb z => eb b o hb z) g0 g1 g3 g4 g5⟩
  self := by
    rintro A i s Q E ⟨⟨_, he⟩, _⟩ h
    exact wpAny_pyIter_enum he h
theorem meets_enum1 {v : Value} {o : Obj} {Z : Heap → Prop} (B : Begins v o Z) :
    Meets (Builtin.«enumerate.__new__» ⟨[.type "enumerate", v], []⟩) (fun _ R s => Z s.heap ∧
      R (.ok (.ret (.ref (s.heap.push o).objs.size))) { s with heap := (s.heap.push o).push { cls := .type "enumerate", data := .fields #[.none, .bool false, .ref s.heap.objs.size, rawInt 0, .none, .none] } }) :=
  .of_wp fun prog w A R s hyp => by
    obtain ⟨hp, g, d, tk, os⟩ := s
    obtain ⟨hz, hyp⟩ := hyp
    have sube := sub_enumerate
    have step : ∀ {A' : Around} {E' : Value → Shared → Prop} {Q' : Value → Shared → Prop}, Q' (.ref hp.objs.size) ⟨hp.push o, g, d, tk, os⟩ → wpAny (model prog w) A' (pyIter v) Q' E' ⟨hp, g, d, tk, os⟩ :=
      fun z => B.iter prog w _ _ ⟨hp, g, d, tk, os⟩ _ hz z
    wp_walk using step
    refine wpAny_stack_any fun st => wpAny_pure ?_
    split
    · rename_i c _ _ _ _ _
      cases (c == Value.type "enumerate") <;> (wp_walk using step; exact ⟨_, rfl, hyp⟩)
    · wp_walk using step
      exact ⟨_, rfl, hyp⟩
theorem call_enum1 {prog : Program} {w : World} {A : Around} {E : Value → Shared → Prop} {s : Shared} {v : Value} {o : Obj} {Z : Heap → Prop} {Q : Value → Shared → Prop} (B : Begins v o Z) (hz : Z s.heap)
    (fin : ∀ h', IsEnum h' (s.heap.objs.size + 1) s.heap.objs.size 0 .none → h'.get? s.heap.objs.size = some o → (∀ b u, s.heap.get? b = some u → h'.get? b = some u) → Q (.ref (s.heap.objs.size + 1)) { s with heap := h' }) :
    wpAny (model prog w) A (call (.type "enumerate") [v]) Q E s := by
  have size1 : (s.heap.push o).objs.size = s.heap.objs.size + 1 := Heap.size_push ..
  refine callType_new F.called_enumerate (by decide) (F.typeCall_enumerate_1 _) (F.newCall_enumerate_1 _) (fun obj => F.args_object_init_2 obj _) F.entry_enumerate_new (meets_enum1 B) ⟨hz, ?_⟩
  rw [size1]
  have isE : IsEnum ((s.heap.push o).push { cls := .type "enumerate", data := .fields #[.none, .bool false, .ref s.heap.objs.size, rawInt 0, .none, .none] }) (s.heap.objs.size + 1) s.heap.objs.size 0 .none := by
    have z := Heap.get?_push_size (s.heap.push o) (o := { cls := .type "enumerate", data := .fields #[.none, .bool false, .ref s.heap.objs.size, rawInt 0, .none, .none] }) rfl
    rwa [size1] at z
  exact ⟨⟨_, isE, rfl⟩, fin _ isE (Heap.get?_push_of_some _ (Heap.get?_push_size _ B.free)) fun b u z => Heap.get?_push_of_some _ (Heap.get?_push_of_some _ z)⟩
def iEnumT (K : PySem.W.Frag) (ta : TA) : TI := fun σ H R => ta σ H fun vs H1 => ∃ (a : Addr) (ys : List V), vs = [.ref a] ∧ SqT K H1 a ys ∧ R (Itu K a) H1
theorem pi_enumT {X : Cx} {e : Expr} {ta : TA} {p pos tpos : Pos} {elts : List Expr} {kk : Nat} (gl : Gl X "enumerate") (no : X.mg "enumerate" = none) (pa : PA X [e] ta) (plain : starEach [e] X.env = [(false, eval e X.env)] := by rfl) :
    PI X (.Tuple elts kk tpos) (.Call (.Name "enumerate" p) [e] [] pos) (iEnumT X.K ta) := by
  constructor
  intro pins s σ H R I hyp
  refine PyProof.Rows.Call_ (ld_blt I gl no boot_enumerate (PyProof.Rows.callWith_type1 (thn (pa.run pos pins s σ H _ I hyp) fun us s1 got => ?_) plain rfl))
  obtain ⟨vs, H1, I1, rel, a, ys, rfl, hy, q⟩ := got
  rw [Vals.ref1 rel]
  obtain ⟨its, rv, tp, _⟩ := I1.tuple hy
  have hT : s1.heap.IsTuple a its.toArray := tp
  have la : a < s1.heap.objs.size := by
    obtain ⟨_, z, _⟩ := hT
    exact Heap.lt_size z
  refine call_enum1 (begins_tuple a its.toArray) hT fun h' isE hit kp => wpAny_pyIter_enum isE ?_
  have I2 : Inv X pins σ H1 { s1 with heap := h' } := I1.kept (t' := s1.toks) kp
  refine ⟨s1.heap.objs.size + 1, [s1.heap.objs.size + 1, s1.heap.objs.size], _, _, H1, rfl, I2, turn_enumT a (s1.heap.objs.size + 1) s1.heap.objs.size (Nat.ne_of_lt la) (Nat.succ_ne_self _) (Nat.ne_of_gt (Nat.lt_succ_of_lt la)), ⟨⟨.none, isE⟩, _, hit, rfl, rfl⟩, fun b hb => ?_, q⟩
  have le : s1.heap.objs.size ≤ b := by
    rcases List.mem_cons.mp hb with rfl | hb
    · exact Nat.le_succ _
    · rw [List.mem_singleton.mp hb]
      exact Nat.le_refl _
  exact I1.fpOk le (I1.hok.fresh le)
/-- the forms that one uses: a word by the turn -/
theorem for_enumT {K : PySem.W.Frag} {a : Addr} {ys : List V} {g : TG} {tb : TS} {D : Ends} {σ : L2.St} {H : Hp} (Pv : Nat → L2.St → Hp → Prop) (h0 : Pv 0 σ H) (src : ∀ i σ H, i ≤ ys.length → Pv i σ H → SqT K H a ys)
    (turn : ∀ i y σ H p, ys[i]? = some y → Pv i σ H → H p = Option.none → g (.ref p) σ (upd H p (.tup [.int (i : Nat), y])) fun σ2 H2 => tb { D with nx := Pv (i + 1), ct := Pv (i + 1), bk := D.nx } σ2 H2) (fin : ∀ σ H, Pv ys.length σ H → D.nx σ H) :
    ∃ W : Nat → Nat → L2.St → Hp → Prop, (∃ m, W 0 m σ H) ∧ ∀ i m σ H, W i m σ H →
      ((Itu K a).stop i H ∧ D.nx σ H) ∨ ((Itu K a).go i H ∧ ∃ N : L2.St → Hp → Prop, (∀ σ' H', N σ' H' → ∃ m', m' < m ∧ W (i + 1) m' σ' H') ∧ ∀ x H', (Itu K a).yld i H x H' → g x σ H' fun σ2 H2 => tb { D with nx := N, ct := N, bk := D.nx } σ2 H2) := by
  refine ⟨fun i m σ H => m + i = ys.length ∧ Pv i σ H, ⟨ys.length, Nat.add_zero _, h0⟩, ?_⟩
  rintro i m σ H ⟨em, pv⟩
  have s := src i σ H (by omega) pv
  rcases Nat.lt_or_ge i ys.length with lt | ge
  · refine .inr ⟨⟨ys, ys[i], s, List.getElem?_eq_getElem lt⟩, Pv (i + 1), fun σ' H' z => ⟨m - 1, by omega, by omega, z⟩, ?_⟩
    rintro x H' ⟨p, y, rfl, hp, rfl, hy⟩
    exact turn i y σ H p (hy ys s) pv hp
  · have e : i = ys.length := by omega
    subst e
    exact .inl ⟨⟨ys, s, rfl⟩, fin σ H pv⟩
theorem lc_enumT {K : PySem.W.Frag} {a : Addr} {ys : List V} {g : TG} {tt : TT} {te : TE} {vs : List Nat} {σ : L2.St} {H1 : Hp} {D : Addr} {Qd : Hp → Prop} (Pv : Nat → Hp → Prop) (h0 : Pv 0 (upd H1 D (.lst []))) (src : ∀ i H, i ≤ ys.length → Pv i H → SqT K H a ys)
    (turn : ∀ i y H p, ys[i]? = some y → Pv i H → H p = Option.none → g (.ref p) (wipe σ vs) (upd H p (.tup [.int (i : Nat), y])) fun σ2 H2 => wipe σ2 vs = wipe σ vs ∧ tt σ2 H2 fun b H3 =>
      if b = true then te σ2 H3 fun y H4 => ∃ acc, H4 D = some (.lst acc) ∧ acc.length < sizeLine ∧ Pv (i + 1) (upd H4 D (.lst (acc ++ [y]))) else Pv (i + 1) H3) (fin : ∀ H, Pv ys.length H → Qd H) :
    ∃ W : Nat → Nat → Hp → Prop, (∃ m, W 0 m (upd H1 D (.lst []))) ∧ ∀ i m H, W i m H →
      ((Itu K a).stop i H ∧ Qd H) ∨ ((Itu K a).go i H ∧ ∃ Nx : Hp → Prop, (∀ H', Nx H' → ∃ m', m' < m ∧ W (i + 1) m' H') ∧ ∀ x H', (Itu K a).yld i H x H' → g x (wipe σ vs) H' fun σ2 H2 => wipe σ2 vs = wipe σ vs ∧ tt σ2 H2 fun b H3 =>
        if b = true then te σ2 H3 fun y H4 => ∃ acc, H4 D = some (.lst acc) ∧ acc.length < sizeLine ∧ Nx (upd H4 D (.lst (acc ++ [y]))) else Nx H3) := by
  refine ⟨fun i m H => m + i = ys.length ∧ Pv i H, ⟨ys.length, Nat.add_zero _, h0⟩, ?_⟩
  rintro i m H ⟨em, pv⟩
  have s := src i H (by omega) pv
  rcases Nat.lt_or_ge i ys.length with lt | ge
  · refine .inr ⟨⟨ys, ys[i], s, List.getElem?_eq_getElem lt⟩, Pv (i + 1), fun H' z => ⟨m - 1, by omega, by omega, z⟩, ?_⟩
    rintro x H' ⟨p, y, rfl, hp, rfl, hy⟩
    exact turn i y H p (hy ys s) pv hp
  · have e : i = ys.length := by omega
    subst e
    exact .inl ⟨⟨ys, s, rfl⟩, fin H pv⟩
/-- sum(t), t a tuple of ints -/
def rSumT (K : PySem.W.Frag) : List V → Hp → VK → Prop := fun vs H Q => ∃ (a : Addr) (zs : List Int), vs = [V.ref a] ∧ SqT K H a (zs.map V.int) ∧ Q (.int zs.sum) H
theorem cr_sumT {X : Cx} (calm : X.calm = true) : CallR X (.builtin "sum") (rSumT X.K) := by
  intro pins sh σ H vs us Q I rel hyp
  obtain ⟨a, zs, rfl, hz, q⟩ := hyp
  rw [Vals.ref1 rel]
  obtain ⟨its, rv, tp, _⟩ := I.tuple hz
  have hT : sh.heap.IsTuple a its.toArray := tp
  have isI : IntsAre its zs := Vals.ints rv
  obtain ⟨xs, ex⟩ := isI.allInts.items
  have en : numsOf (intItems xs).toList = zs := by
    rw [← ex]
    exact isI.numsOf
  rw [nums_intItems] at en
  rw [ex] at hT
  refine PySem.W.ktm_sumG (I.ok.hd calm) hT fun h' tk t' kp => ?_
  rw [preSum_eq, List.take_of_length_le (by simp), en]
  exact ⟨.int zs.sum, H, I.kept kp, ⟨_, rfl⟩, q⟩
/-- enumerate over a list, by a word -/
theorem for_enumL {K : PySem.W.Frag} {a : Addr} {ys : List V} {g : TG} {tb : TS} {D : Ends} {σ : L2.St} {H : Hp} (Pv : Nat → L2.St → Hp → Prop) (h0 : Pv 0 σ H) (src : ∀ i σ H, i ≤ ys.length → Pv i σ H → SqL K H a ys)
    (turn : ∀ i y σ H p, ys[i]? = some y → Pv i σ H → H p = Option.none → g (.ref p) σ (upd H p (.tup [.int (i : Nat), y])) fun σ2 H2 => tb { D with nx := Pv (i + 1), ct := Pv (i + 1), bk := D.nx } σ2 H2) (fin : ∀ σ H, Pv ys.length σ H → D.nx σ H) :
    ∃ W : Nat → Nat → L2.St → Hp → Prop, (∃ m, W 0 m σ H) ∧ ∀ i m σ H, W i m σ H →
      ((Ite K a).stop i H ∧ D.nx σ H) ∨ ((Ite K a).go i H ∧ ∃ N : L2.St → Hp → Prop, (∀ σ' H', N σ' H' → ∃ m', m' < m ∧ W (i + 1) m' σ' H') ∧ ∀ x H', (Ite K a).yld i H x H' → g x σ H' fun σ2 H2 => tb { D with nx := N, ct := N, bk := D.nx } σ2 H2) := by
  refine ⟨fun i m σ H => m + i = ys.length ∧ Pv i σ H, ⟨ys.length, Nat.add_zero _, h0⟩, ?_⟩
  rintro i m σ H ⟨em, pv⟩
  have s := src i σ H (by omega) pv
  rcases Nat.lt_or_ge i ys.length with lt | ge
  · refine .inr ⟨⟨ys, ys[i], s, List.getElem?_eq_getElem lt⟩, Pv (i + 1), fun σ' H' z => ⟨m - 1, by omega, by omega, z⟩, ?_⟩
    rintro x H' ⟨p, y, rfl, hp, rfl, hy⟩
    exact turn i y σ H p (hy ys s) pv hp
  · have e : i = ys.length := by omega
    subst e
    exact .inl ⟨⟨ys, s, Nat.le_refl _⟩, fin σ H pv⟩
/-- k in xs, xs a list of ints -/
theorem inV_ints (zs : List Int) (k : Int) : inV (V.int k) (zs.map V.int) = decide (k ∈ zs) := by
  induction zs with
  | nil => rfl
  | cons a r ih =>
    have e : inV (V.int k) ((a :: r).map V.int) = (eqV (V.int a) (V.int k) || inV (V.int k) (r.map V.int)) := rfl
    rw [e, ih]
    by_cases h : a = k
    · subst h
      simp [eqV]
    · have h' : ¬ k = a := fun z => h z.symm
      simp [eqV, h, h']
theorem flat_ints (zs : List Int) : (zs.map V.int).all flatV = true := by
  rw [List.all_eq_true]
  intro x hx
  obtain ⟨z, _, rfl⟩ := List.mem_map.mp hx
  rfl
end

/-! ### the mathematics of weights -/
/-- the weights at the places below n that f lists, in order -/
def pick (ws : List Int) (f : Int → Bool) : Nat → List Int
  | 0 => []
  | n + 1 => if f (n : Int) then pick ws f n ++ [ws.getD n 0] else pick ws f n
def wt (ws : List Int) (f : Int → Bool) (n : Nat) : Int := (pick ws f n).sum
theorem wt_succ (ws : List Int) (f : Int → Bool) (n : Nat) : wt ws f (n + 1) = wt ws f n + (if f (n : Int) then ws.getD n 0 else 0) := by
  unfold wt
  rw [pick]
  split
  · rw [List.sum_append, List.sum_cons, List.sum_nil, Int.add_zero]
  · rw [Int.add_zero]
theorem pick_len (ws : List Int) (f : Int → Bool) : ∀ n, (pick ws f n).length ≤ n
  | 0 => Nat.le_refl _
  | n + 1 => by
    have ih := pick_len ws f n
    rw [pick]
    split
    · rw [List.length_append, List.length_singleton]
      omega
    · omega
theorem wt_congr (ws : List Int) (f g : Int → Bool) : ∀ n, (∀ k : Nat, k < n → f k = g k) → wt ws f n = wt ws g n
  | 0, _ => rfl
  | n + 1, h => by
    rw [wt_succ, wt_succ, wt_congr ws f g n fun k hk => h k (Nat.lt_succ_of_lt hk), h n (Nat.lt_succ_self n)]
theorem wt_take (ws : List Int) : ∀ n, n ≤ ws.length → wt ws (fun _ => true) n = (ws.take n).sum
  | 0, _ => by simp [wt, pick]
  | n + 1, h => by
    have hn : n < ws.length := h
    rw [wt_succ, wt_take ws n (Nat.le_of_lt hn), if_pos rfl, sum_take (List.getElem?_eq_getElem hn), List.getD_eq_getElem?_getD, List.getElem?_eq_getElem hn]
    rfl
theorem wt_all (ws : List Int) : wt ws (fun _ => true) ws.length = ws.sum := by
  rw [wt_take ws _ (Nat.le_refl _), List.take_length]
theorem wt_not (ws : List Int) (f : Int → Bool) : ∀ n, wt ws f n + wt ws (fun k => !f k) n = wt ws (fun _ => true) n
  | 0 => rfl
  | n + 1 => by
    have ih := wt_not ws f n
    rw [wt_succ, wt_succ, wt_succ, if_pos rfl]
    cases f (n : Int)
    · simp
      omega
    · simp
      omega
theorem wt_both (ws : List Int) (f g : Int → Bool) (pos : ∀ k : Nat, 0 ≤ ws.getD k 0) : ∀ n, wt ws f n + wt ws g n ≤ wt ws (fun k => f k && g k) n + wt ws (fun _ => true) n
  | 0 => Int.le_refl _
  | n + 1 => by
    have ih := wt_both ws f g pos n
    have p := pos n
    rw [wt_succ, wt_succ, wt_succ, wt_succ, if_pos rfl]
    cases f (n : Int) <;> cases g (n : Int) <;> simp only [Bool.and_self, Bool.and_true, Bool.and_false, Bool.true_and, Bool.false_and, if_true, Bool.false_eq_true, if_false] <;> omega
/-- the weight of some listed members -/
def wOf (ws ms : List Int) : Int := wt ws (fun k => decide (k ∈ ms)) ws.length
/-- the places below n that f lists -/
def sel (f : Int → Bool) : Nat → List Int
  | 0 => []
  | n + 1 => if f (n : Int) then sel f n ++ [(n : Int)] else sel f n
theorem sel_len (f : Int → Bool) : ∀ n, (sel f n).length ≤ n
  | 0 => Nat.le_refl _
  | n + 1 => by
    have ih := sel_len f n
    rw [sel]
    split
    · rw [List.length_append, List.length_singleton]
      omega
    · omega
theorem mem_sel (f : Int → Bool) (k : Nat) : ∀ n, (k : Int) ∈ sel f n ↔ k < n ∧ f k = true
  | 0 => by simp [sel]
  | n + 1 => by
    have ih := mem_sel f k n
    rw [sel]
    split
    · rename_i h
      rw [List.mem_append, ih, List.mem_singleton]
      constructor
      · rintro (⟨h1, h2⟩ | h1)
        · exact ⟨by omega, h2⟩
        · have e : k = n := by omega
          subst e
          exact ⟨Nat.lt_succ_self _, h⟩
      · rintro ⟨h1, h2⟩
        rcases Nat.lt_or_ge k n with h3 | h3
        · exact .inl ⟨h3, h2⟩
        · exact .inr (by omega)
    · rename_i h
      rw [ih]
      constructor
      · rintro ⟨h1, h2⟩
        exact ⟨by omega, h2⟩
      · rintro ⟨h1, h2⟩
        refine ⟨?_, h2⟩
        rcases Nat.lt_or_ge k n with h3 | h3
        · exact h3
        · have e : k = n := by omega
          subst e
          exact absurd h2 h
/-- who is not listed weighs what is left -/
theorem wOf_rest (ws ms : List Int) : wOf ws ms + wOf ws (sel (fun k => !decide (k ∈ ms)) ws.length) = ws.sum := by
  unfold wOf
  rw [wt_congr ws (fun k => decide (k ∈ sel (fun k => !decide (k ∈ ms)) ws.length)) (fun k => !decide (k ∈ ms)) ws.length fun k hk => ?_]
  · rw [wt_not, wt_all]
  · rw [Bool.eq_iff_iff, decide_eq_true_iff, mem_sel]
    exact ⟨fun z => z.2, fun z => ⟨hk, z⟩⟩
theorem wOf_common (ws ms ns : List Int) (pos : ∀ k : Nat, 0 ≤ ws.getD k 0) : wOf ws ms + wOf ws ns ≤ wOf ws (ms.filter fun k => decide (k ∈ ns)) + ws.sum := by
  unfold wOf
  have h := wt_both ws (fun k => decide (k ∈ ms)) (fun k => decide (k ∈ ns)) pos ws.length
  rw [wt_all] at h
  rw [wt_congr ws (fun k => decide (k ∈ ms.filter fun k => decide (k ∈ ns))) (fun k => decide (k ∈ ms) && decide (k ∈ ns)) ws.length fun k _ => ?_]
  · exact h
  · rw [Bool.eq_iff_iff]
    simp [List.mem_filter]

/-! ### a committee as it stands -/
theorem ne_ws : ¬ (("weights" : Str) = "size") := by decide +kernel
theorem ne_wt : ¬ (("weights" : Str) = "total") := by decide +kernel
theorem ne_st : ¬ (("size" : Str) = "total") := by decide +kernel
def cfs (t : Addr) (ws : List Int) : List (Str × V) := putF "total" (.int ws.sum) (putF "size" (.int ws.length) (putF "weights" (.ref t) []))
theorem cfs_w (t : Addr) (ws : List Int) : (cfs t ws).lookup ("weights" : Str) = some (.ref t) := by
  unfold cfs
  rw [lookup_putF, if_neg ne_wt, lookup_putF, if_neg ne_ws, lookup_putF, if_pos rfl]
theorem cfs_s (t : Addr) (ws : List Int) : (cfs t ws).lookup ("size" : Str) = some (.int ws.length) := by
  unfold cfs
  rw [lookup_putF, if_neg ne_st, lookup_putF, if_pos rfl]
theorem cfs_t (t : Addr) (ws : List Int) : (cfs t ws).lookup ("total" : Str) = some (.int ws.sum) := by
  unfold cfs
  rw [lookup_putF, if_pos rfl]
theorem cfs_no (t : Addr) (ws : List Int) {m : Str} (h1 : ¬ m = "weights") (h2 : ¬ m = "size") (h3 : ¬ m = "total") : (cfs t ws).lookup m = none := by
  unfold cfs
  rw [lookup_putF, if_neg h3, lookup_putF, if_neg h2, lookup_putF, if_neg h1]
  all_goals rfl
def CommAt (C : Addr) (H : Hp) (p : Addr) (ws : List Int) : Prop := ∃ dx t, H p = some (.ins C dx (cfs t ws)) ∧ H t = some (.tup (ws.map V.int))
theorem CommAt.same {C : Addr} {H H' : Hp} {p : Addr} {ws : List Int} (h : CommAt C H p ws) (s : Same H H') : CommAt C H' p ws := by
  obtain ⟨dx, t, h1, h2⟩ := h
  exact ⟨dx, t, s _ _ h1, s _ _ h2⟩
/-- weights that a committee takes -/
def GoodW (ws : List Int) : Prop := 0 < ws.length ∧ ws.length ≤ 16 ∧ ∀ w ∈ ws, 1 ≤ w ∧ w ≤ 1000000000000
/-! ### promises -/
def spCell (K : PySem.W.Frag) : Sp := fun vs H Q _ => ∃ (a : Addr) (ns : List Int) (k : Int), vs = [.ref a, .int k] ∧ SqL K H a (ns.map V.int) ∧ ns.length ≤ 63 ∧ 0 ≤ k ∧ Q (.int (ns.getD k.toNat 0)) H
def spRow (K : PySem.W.Frag) : Sp := fun vs H Q _ => ∃ (cell count size : Int), vs = [.int cell, .int count, .int size] ∧ 0 ≤ count ∧ count ≤ 1000 ∧ 0 < size ∧ size < 1000 ∧
  ∀ p (row : List Int) H', Same H H' → H' p = some (.lst (row.map V.int)) → row.length = count.toNat → (∀ x ∈ row, 0 ≤ x ∧ x < size) → H p = none → Q (.ref p) H'
def spWeights (K : PySem.W.Frag) : Sp := fun vs H Q _ => ∃ (cell : Int), vs = [.int cell, .int 16] ∧ ∀ p (ws : List Int) H', Same H H' → H' p = some (.lst (ws.map V.int)) → GoodW ws → Q (.ref p) H'
def spWeight (K : PySem.W.Frag) : Sp := fun vs H Q _ => ∃ (p q : Addr) (ws ms : List Int), vs = [.ref p, .ref q] ∧ SqL K H p (ws.map V.int) ∧ SqL K H q (ms.map V.int) ∧ ws.length ≤ 16 ∧ ∀ H', Same H H' → Q (.int (wOf ws ms)) H'
def spFirst (K : PySem.W.Frag) : Sp := fun vs H Q _ => ∃ (p : Addr) (ws : List Int), vs = [.ref p] ∧ SqL K H p (ws.map V.int) ∧ GoodW ws ∧ ∀ H', Same H H' → Q .non H'
def spInit (K : PySem.W.Frag) (C : Addr) : Sp := fun vs H Q _ => ∃ (p dx l : Addr) (ws : List Int), vs = [.ref p, .ref l] ∧ H p = some (.ins C dx []) ∧ SqL K H l (ws.map V.int) ∧ GoodW ws ∧
  ∀ H' : Hp, CommAt C H' p ws → (∀ b o, H b = some o → b ≠ p → H' b = some o) → Q .non H'
def spWof (K : PySem.W.Frag) (C : Addr) : Sp := fun vs H Q _ => ∃ (p l : Addr) (ws ms : List Int), vs = [.ref p, .ref l] ∧ CommAt C H p ws ∧ ws.length ≤ 16 ∧ SqL K H l (ms.map V.int) ∧ ms.length ≤ 1000 ∧ ∀ H', Same H H' → Q (.int (wOf ws ms)) H'
def spQuorum (K : PySem.W.Frag) (C : Addr) : Sp := fun vs H Q _ => ∃ (p l : Addr) (ws ms : List Int), vs = [.ref p, .ref l] ∧ CommAt C H p ws ∧ ws.length ≤ 16 ∧ SqL K H l (ms.map V.int) ∧ ms.length ≤ 1000 ∧ ∀ H', Same H H' → Q (.bl (decide (2 * ws.sum < 3 * wOf ws ms))) H'
def spThird (K : PySem.W.Frag) (C : Addr) : Sp := fun vs H Q _ => ∃ (p l : Addr) (ws ms : List Int), vs = [.ref p, .ref l] ∧ CommAt C H p ws ∧ ws.length ≤ 16 ∧ SqL K H l (ms.map V.int) ∧ ms.length ≤ 1000 ∧ ∀ H', Same H H' → Q (.bl (decide (ws.sum < 3 * wOf ws ms))) H'
def spLaw (K : PySem.W.Frag) : Sp := fun vs H Q _ => ∃ (a : Addr) (ns : List Int), vs = [.ref a] ∧ SqL K H a (ns.map V.int) ∧ ns.length ≤ 63 ∧ ∀ H', Q (.bl true) H'
section
local macro_rules | `(tactic| walk_at "r1") => `(tactic| first
  | refine ⟨_, rfl, ?_⟩
  | refine ⟨_, _, rfl, rfl, (by show (0 : Int) < _; first | decide | omega), ?_⟩
  | refine ⟨_, _, rfl, rfl, (show CDiv _ _ from ⟨by decide, by decide⟩), ?_⟩
  | refine ⟨_, _, rfl, rfl, (show CMul _ _ from .inl ⟨by decide, by decide⟩), ?_⟩
  | refine ⟨_, _, rfl, rfl, (show CMul _ _ from .inr ⟨by decide, by decide⟩), ?_⟩
  | refine ⟨_, _, rfl, rfl, (show CPow _ _ from ⟨by decide, by decide, by decide⟩), ?_⟩
  | refine ⟨_, _, rfl, rfl, ?_⟩
  | refine .inl ⟨_, rfl, ?_⟩
  | refine ⟨rfl, ?_⟩)
local macro_rules | `(tactic| walk_at "rs") => `(tactic| repeat walk_at "r1")
variable {P : Program} {w : World} {K : PySem.W.Frag} {mg : Str → Option Value} {base : Heap} {a : Ads}
theorem ok_law_cell (T : Txt K mg a) : ∃ fd, FnOk P w K mg base CX0 1 a.d_law_cell fd ["script", "k"] (spCell K) ∧ Binds K fd ["script", "k"] [] := by
  obtain ⟨fd, F, b⟩ := T.d_law_cell.F
  refine ⟨fd, F.ok sc_law_cell (fun vs H Q E h => ?_) (fun cdv A outer s H vs Q E hr h => ?_), b⟩
  · obtain ⟨a, ns, k, rfl, _⟩ := h
    rfl
  · obtain ⟨l, ns, k, rfl, hS, hl, hk, q⟩ := h
    refine ⟨_, (pss_cons (ps_if (pt_cmpR op_lt (pv 1) (pe_callB call_len_seq (by rfl) T.n_len PySem.boot_len (pa_cons (pv 0) pa_nil)) (nomark _))
      (pss_one (ps_ret (pe_ix ix_list (pv 0) (pv 1) (fun _ _ => rfl))))
      pss_nil)
      (pss_one (ps_ret pe_int))), ?_⟩
    refine ⟨_, rfl, _, rfl, l, _, rfl, .inl hS, _, _, rfl, rfl, _, rfl, ?_⟩
    refine ite2 (fun hlt => ?_) (fun hge => ?_)
    · have hlt : k < ((ns.map V.int).length : Int) := of_decide_eq_true hlt
      rw [List.length_map] at hlt
      have hj : k.toNat < ns.length := by omega
      have e : ns.getD k.toNat 0 = ns[k.toNat] := by rw [List.getD_eq_getElem?_getD, List.getElem?_eq_getElem hj]; rfl
      rw [e] at q
      refine ⟨_, rfl, _, rfl, l, _, k, .int ns[k.toNat], rfl, rfl, hS, at_of (j := k.toNat) (by omega) (by rw [List.getElem?_map, List.getElem?_eq_getElem hj]; rfl), q⟩
    · have hge : ¬ k < ((ns.map V.int).length : Int) := fun e => hge (decide_eq_true e)
      rw [List.length_map] at hge
      have e : ns.getD k.toNat 0 = 0 := by rw [List.getD_eq_getElem?_getD, List.getElem?_eq_none (by omega)]; rfl
      rw [e] at q
      exact q

theorem ok_law_row (T : Txt K mg a) : ∃ fd, FnOk P w K mg base CX0 1 a.d_law_row fd ["cell", "count", "size"] (spRow K) ∧ Binds K fd ["cell", "count", "size"] [] := by
  obtain ⟨fd, F, b⟩ := T.d_law_row.F
  refine ⟨fd, F.ok sc_law_row (fun vs H Q E h => ?_) (fun cdv A outer s H vs Q E hr h => ?_), b⟩
  · obtain ⟨_, _, _, rfl, _⟩ := h
    rfl
  · obtain ⟨cell, count, size, rfl, c0, c1, z0, z1, k⟩ := h
    refine ⟨_, (pss_cons (ps_set (i := 3) sc_law_row.nd rfl (Or.inl rfl) (pv 0))
      (pss_cons (ps_set (i := 4) sc_law_row.nd rfl (Or.inl rfl) (pe_lst pa_nil))
      (pss_cons (ps_for PassesOwn.never rfl (pi_range1 rfl T.n_range (pa_cons (pv 1) pa_nil)) (pg_name (i := 5) sc_law_row.nd rfl (Or.inl rfl))
      (pss_one (ps_if (pt_cmpR op_ge (pv 0) (pe_op op_pow pe_int pe_int) (nomark _))
        (pss_cons (ps_expr (pe_bm PySem.F.plainAttrs_list PySem.F.slot_list_append PySem.F.type_list_append mt_append (pv 4) (pa_cons (pe_op op_mod (pe_callTy call_int1 (by rfl) T.n_int (by decide +kernel) (pa_cons (pv 3) pa_nil)) (pv 2)) pa_nil)))
          (pss_one (ps_set (i := 3) sc_law_row.nd rfl (Or.inl rfl) (pe_op op_fdivN (pv 3) (pv 2)))))
        (pss_cons (ps_set (i := 3) sc_law_row.nd rfl (Or.inl rfl) (pe_op op_mod (pe_callTy call_int1 (by rfl) T.n_int (by decide +kernel) (pa_cons (pe_op op_add (pe_op op_mul (pv 3) pe_int) pe_int) pa_nil)) pe_int))
          (pss_one (ps_expr (pe_bm PySem.F.plainAttrs_list PySem.F.slot_list_append PySem.F.type_list_append mt_append (pv 4) (pa_cons (pe_op op_mod (pe_op op_mod (pe_callTy call_int1 (by rfl) T.n_int (by decide +kernel) (pa_cons (pe_op op_add (pe_op op_mul (pv 3) pe_int) (pe_op op_mul (pv 5) pe_int)) pa_nil)) pe_int) (pv 2)) pa_nil))))))))
      (pss_one (ps_ret (pv 4)))))), ?_⟩
    walk_at "rs"
    refine ⟨(by show 0 ≤ sizeLine; decide), fun p hp => ?_⟩
    walk_at "rs"
    refine ⟨(by show -(2 ^ 62 : Int) ≤ _; omega), (by show _ < (2 ^ 62 : Int); omega), ?_⟩
    refine for_range (lo := 0) (n := count.toNat) (fun i σ H2 => ∃ (st : Int) (row : List Int) (v5 : Option V), σ = [some (.int cell), some (.int count), some (.int size), some (.int st), some (.ref p), v5] ∧ Same H H2 ∧
      H2 p = some (.lst (row.map V.int)) ∧ row.length = i ∧ ∀ x ∈ row, 0 ≤ x ∧ x < size) ⟨_, [], _, rfl, same_new hp, upd_same, rfl, fun x hx => nomatch hx⟩ ?_ ?_
    · rintro i σ H2 hi ⟨st, row, v5, rfl, s2, hrow, hlen, hb⟩
      have fit : (row.map V.int).length < sizeLine := by
        rw [List.length_map]
        exact small1000 (by omega)
      have grow : ∀ z : Int, 0 ≤ z → z < size → ∀ x ∈ row ++ [z], 0 ≤ x ∧ x < size := fun z h0 h1 x hx => by
        rcases List.mem_append.mp hx with hx | hx
        · exact hb x hx
        · rw [List.mem_singleton.mp hx]
          exact ⟨h0, h1⟩
      walk_at "rs"
      refine ite2 (fun c1 => ?_) (fun c1 => ?_)
      · walk_at "rs"
        refine ⟨.inl ⟨rfl, _, SqL.of hrow⟩, ?_⟩
        walk_at "rs"
        refine ⟨p, _, _, rfl, rfl, hrow, fit, ?_⟩
        walk_at "rs"
        refine ⟨(show CDivN _ _ from ⟨by omega, by omega⟩), ?_⟩
        exact ⟨_, row ++ [st % size], _, rfl, same_upd s2 hp, by rw [upd_same]; simp, by simp [hlen], grow _ (Int.emod_nonneg _ (by omega)) (Int.emod_lt_of_pos _ z0)⟩
      · walk_at "rs"
        refine ⟨.inl ⟨rfl, _, SqL.of hrow⟩, ?_⟩
        walk_at "rs"
        refine ⟨p, _, _, rfl, rfl, hrow, fit, ?_⟩
        exact ⟨_, row ++ [((st * 48271 + 12345) % 2147483647 * 69621 + (i : Int) * 7919) % 2147483647 % size], _, rfl, same_upd s2 hp, by rw [upd_same]; simp, by simp [hlen], grow _ (Int.emod_nonneg _ (by omega)) (Int.emod_lt_of_pos _ z0)⟩
    · rintro σ H2 ⟨st, row, v5, rfl, s2, hrow, hlen, hb⟩
      walk_at "rs"
      exact k p row H2 s2 hrow hlen hb hp
theorem getD_mem {zs : List Int} {i : Nat} (h : i < zs.length) : zs.getD i 0 ∈ zs := by
  rw [List.getD_eq_getElem?_getD, List.getElem?_eq_getElem h]
  exact List.getElem_mem h
theorem at_ints {zs : List Int} {i : Nat} (h : i < zs.length) : (zs.map V.int)[i]? = some (.int (zs.getD i 0)) := by
  rw [List.getElem?_map, List.getD_eq_getElem?_getD, List.getElem?_eq_getElem h]
  rfl
theorem ok_law_weights (T : Txt K mg a) : ∃ fd, FnOk P w K mg base CX0 2 a.d_law_weights fd ["cell", "most"] (spWeights K) ∧ Binds K fd ["cell", "most"] [] := by
  obtain ⟨fd, F, b⟩ := T.d_law_weights.F
  obtain ⟨fd_law_row, G_law_row, b_law_row⟩ := ok_law_row (P := P) (w := w) (base := base) T
  refine ⟨fd, F.ok sc_law_weights (fun vs H Q E h => ?_) (fun cdv A outer s H vs Q E hr h => ?_), b⟩
  · obtain ⟨_, rfl, _⟩ := h
    rfl
  · obtain ⟨cell, rfl, k⟩ := h
    refine ⟨_, (pss_cons (ps_set (i := 2) sc_law_weights.nd rfl (Or.inl rfl) (pe_op op_add pe_int (pe_op op_mod (pe_callTy call_int1 (by rfl) T.n_int (by decide +kernel) (pa_cons (pv 0) pa_nil)) (pv 1))))
      (pss_cons (ps_if (pt_cmpR op_eq (pe_op op_mod (pe_op op_fdiv (pv 0) pe_int) pe_int) pe_int (nomark _))
      (pss_one (ps_ret (pe_op op_rep (pe_lst (pa_cons pe_int pa_nil)) (pv 2))))
      pss_nil)
      (pss_one (ps_ret (pe_lc (own := [("value", 3)]) (g := (gName 3)) (tt := tYes) rfl sc_law_weights.nd (pi_list (pe_call G_law_row (hr.mono (by decide)) rfl T.d_law_row.g T.d_law_row.kp b_law_row .nil pass0 (pa_cons (pe_op op_fdiv (pv 0) pe_int) (pa_cons (pv 2) (pa_cons pe_int pa_nil))))) (blkOk_by (own := [("value", 3)]) (N := sc_law_weights_N) (sc := defScope s_law_weights) (by decide +kernel)) (fun _ _ _ _ _ => (pg_name (i := 3) sc_law_weights.nd rfl (Or.inl rfl))) (fun _ _ _ _ _ => pts_nil) (fun _ _ _ _ _ => (pe_op op_add pe_int (pv 3)))))))), ?_⟩
    have c0 : 0 ≤ cell % 16 := Int.emod_nonneg _ (by decide)
    have c1 : cell % 16 < 16 := Int.emod_lt_of_pos _ (by decide)
    walk_at "rs"
    refine ite2 (fun c2 => ?_) (fun c2 => ?_)
    · walk_at "rs"
      refine ⟨(by show 1 ≤ sizeLine; decide), fun p hp => ?_⟩
      walk_at "rs"
      refine ⟨p, _, _, rfl, rfl, upd_same, (by show -(2 ^ 63 : Int) ≤ 1 + cell % 16; omega), (by show 1 + cell % 16 < (2 ^ 63 : Int); omega), (by rw [sizeLine_eq]; show 1 * (1 + cell % 16).toNat ≤ _; omega), fun q hq => ?_⟩
      refine k q (List.replicate (1 + cell % 16).toNat 1) _ (same_upd (same_new hp) (Same.free (same_new hp) hq)) (by rw [upd_same]; simp) ⟨by rw [List.length_replicate]; omega, by rw [List.length_replicate]; omega, fun x hx => ?_⟩
      rw [(List.mem_replicate.mp hx).2]
      decide
    · walk_at "rs"
      refine ⟨_, _, _, rfl, by omega, by omega, by decide, by decide, fun p row H1 s1 hrow hlen hb hp => ?_⟩
      refine ⟨p, rfl, ⟨_, SqL.of hrow⟩, fun D hD => ?_⟩
      have nDp : D ≠ p := (ne_of_none hrow hD).symm
      refine lc_list (K := K) (a := p) (xs := row.map V.int) (fun i H2 => Same H1 H2 ∧ H2 D = some (.lst (((row.take i).map (1 + ·)).map V.int))) ⟨same_new hD, upd_same⟩ (fun i H2 _ ⟨s2, _⟩ => SqL.of (s2 _ _ hrow)) ?_ ?_
      · rintro i x H2 hx ⟨s2, hd⟩
        have hi : i < row.length := by
          have e := (List.getElem?_eq_some_iff.mp hx).1
          rwa [List.length_map] at e
        rw [at_ints hi] at hx
        cases hx
        refine ⟨rfl, ?_⟩
        walk_at "rs"
        refine ⟨_, hd, by simp only [List.length_map, List.length_take]; exact small1000 (by omega), same_upd s2 hD, ?_⟩
        rw [upd_same, List.take_add_one, List.getElem?_eq_getElem hi, List.getD_eq_getElem?_getD, List.getElem?_eq_getElem hi]
        simp only [Option.toList_some, Option.getD_some, List.map_append, List.map_cons, List.map_nil]
      · rintro H2 ⟨s2, hd⟩
        have e : row.take (row.map V.int).length = row := by rw [List.length_map, List.take_length]
        rw [e] at hd
        refine k D _ H2 (fun b o z => s2 _ _ (s1 _ _ z)) hd ⟨by rw [List.length_map]; omega, by rw [List.length_map]; omega, fun x hx => ?_⟩
        obtain ⟨y, hy, rfl⟩ := List.mem_map.mp hx
        have := hb y hy
        omega
theorem ok_law_weight (T : Txt K mg a) : ∃ fd, FnOk P w K mg base CX0 1 a.d_law_weight fd ["weights", "members"] (spWeight K) ∧ Binds K fd ["weights", "members"] [] := by
  obtain ⟨fd, F, b⟩ := T.d_law_weight.F
  refine ⟨fd, F.ok sc_law_weight (fun vs H Q E h => ?_) (fun cdv A outer s H vs Q E hr h => ?_), b⟩
  · obtain ⟨_, _, _, _, rfl, _⟩ := h
    rfl
  · obtain ⟨p, q, ws, ms, rfl, hp, hq, hlen, k⟩ := h
    refine ⟨_, (pss_one (ps_ret (pe_callB (cr_sum rfl) (by rfl) T.n_sum (by decide +kernel) (pa_cons (pe_lc (own := [("k", 2)]) (g := (gName 2)) rfl sc_law_weight.nd (pi_range1 rfl T.n_range (pa_cons (pe_callB call_len_seq (by rfl) T.n_len PySem.boot_len (pa_cons (pv 0) pa_nil)) pa_nil)) (blkOk_by (own := [("k", 2)]) (N := sc_law_weight_N) (sc := defScope s_law_weight) (by decide +kernel)) (fun _ _ _ _ _ => (pg_name (i := 2) sc_law_weight.nd rfl (Or.inl rfl))) (fun _ _ _ _ _ => (pts_one (pt_cmpR (r := rIn K false) op_in_seq (pv 2) (pv 1) (by rfl)))) (fun _ _ _ _ _ => (pe_ix (r := rIxL K) ix_list (pv 0) (pv 2) (fun _ _ => rfl)))) pa_nil)))), ?_⟩
    walk_at "rs"
    refine ⟨p, _, rfl, .inl hp, ?_⟩
    walk_at "rs"
    have hN : ((ws.map V.int).length : Int) = ws.length := by rw [List.length_map]
    refine ⟨(by show -(2 ^ 62 : Int) ≤ _; omega), (by show _ < (2 ^ 62 : Int); omega), fun D hD => ?_⟩
    refine lc_range (lo := 0) (n := (((ws.map V.int).length : Int)).toNat) (fun i H2 => Same H H2 ∧ H2 D = some (.lst ((pick ws (fun k => decide (k ∈ ms)) i).map V.int))) ⟨same_new hD, upd_same⟩ ?_ ?_
    · rintro i H2 hi ⟨s2, hd⟩
      have hi' : i < ws.length := by omega
      have fit : ((pick ws (fun k => decide (k ∈ ms)) i).map V.int).length < sizeLine := by
        have := pick_len ws (fun k => decide (k ∈ ms)) i
        rw [List.length_map]
        exact small1000 (by omega)
      refine ⟨rfl, ?_⟩
      walk_at "rs"
      refine ⟨q, _, rfl, .inl (s2.seq hq), rfl, flat_ints ms, ?_⟩
      rw [if_neg Bool.false_ne_true, inV_ints]
      walk_at "rs"
      refine ite2 (fun c1 => ?_) (fun c1 => ?_)
      · walk_at "rs"
        refine ⟨p, _, _, .int (ws.getD i 0), rfl, rfl, s2.seq hp, at_of (j := i) (by omega) (at_ints hi'), ?_⟩
        refine ⟨_, hd, fit, same_upd s2 hD, ?_⟩
        rw [upd_same, pick]
        have c1' : decide ((i : Int) ∈ ms) = true := by simpa using c1
        rw [if_pos c1']
        simp
      · refine ⟨s2, ?_⟩
        have c1' : ¬ decide ((i : Int) ∈ ms) = true := by simpa using c1
        rw [hd, pick, if_neg c1']
    · rintro H2 ⟨s2, hd⟩
      rw [hN, Int.toNat_natCast] at hd
      walk_at "rs"
      exact ⟨D, _, rfl, SqL.of hd, k H2 s2⟩
theorem ok_first_wrong (T : Txt K mg a) : ∃ fd, FnOk P w K mg base CX0 1 a.d_first_wrong fd ["weights"] (spFirst K) ∧ Binds K fd ["weights"] [] := by
  obtain ⟨fd, F, b⟩ := T.d_first_wrong.F
  refine ⟨fd, F.ok sc_first_wrong (fun vs H Q E h => ?_) (fun cdv A outer s H vs Q E hr h => ?_), b⟩
  · obtain ⟨_, _, rfl, _⟩ := h
    rfl
  · obtain ⟨p, ws, rfl, hp, gw, k⟩ := h
    refine ⟨_, (pss_cons (ps_for PassesOwn.never rfl (pi_enum (by rfl) T.n_enumerate (pa_cons (pv 0) pa_nil)) (pg_tup rfl (pgs_cons (pg_name (i := 1) sc_first_wrong.nd rfl (Or.inl rfl)) (pgs_cons (pg_name (i := 2) sc_first_wrong.nd rfl (Or.inl rfl)) pgs_nil)))
      (pss_one (ps_if (PW.pt (pw_or (pt_cmpR op_ge (pv 1) (pe_glob (v := (.int 16)) rfl T.c_MOST_MEMBERS.choose_spec ⟨_, rfl⟩) (nomark _)) (pw_or (pt_cmpR op_lt (pv 2) pe_int (nomark _)) (pw_or1 (pt_cmpR op_gt (pv 2) (pe_glob (v := (.int 1000000000000)) rfl T.c_MOST_WEIGHT.choose_spec ⟨_, rfl⟩) (nomark _))))))
        (pss_one (ps_ret (pv 1)))
        pss_nil)))
      (pss_cons (ps_if (pt_cmpR op_eq (pe_callB call_len_seq (by rfl) T.n_len PySem.boot_len (pa_cons (pv 0) pa_nil)) pe_int (nomark _))
      (pss_one (ps_ret pe_int))
      pss_nil)
      (pss_one (ps_ret pe_non)))), ?_⟩
    walk_at "rs"
    refine ⟨p, _, rfl, hp, ?_⟩
    refine for_enumL (K := K) (a := p) (ys := ws.map V.int) (fun i σ H2 => ∃ v1 v2 : Option V, σ = [some (.ref p), v1, v2] ∧ Same H H2) ⟨_, _, rfl, Same.refl H⟩ (fun i σ H2 _ ⟨_, _, _, s2⟩ => s2.seq hp) ?_ ?_
    · rintro i y σ H2 q hy ⟨v1, v2, rfl, s2⟩ hq
      have hi : i < ws.length := by
        have e := (List.getElem?_eq_some_iff.mp hy).1
        rwa [List.length_map] at e
      rw [at_ints hi] at hy
      cases hy
      have g1 := gw.2.2 _ (getD_mem hi)
      have g2 := gw.2.1
      walk_at "rs"
      refine ⟨q, _, rfl, SqT.of upd_same, rfl, ?_⟩
      refine ⟨_, _, rfl, _, _, rfl, rfl, ?_⟩
      walk_at "rs"
      refine ite2 (fun c1 => ?_) (fun c1 => ?_)
      · exfalso
        have := of_decide_eq_true c1
        omega
      walk_at "rs"
      refine ite2 (fun c2 => ?_) (fun c2 => ?_)
      · exfalso
        have := of_decide_eq_true c2
        omega
      walk_at "rs"
      refine ite2 (fun c3 => ?_) (fun c3 => ?_)
      · exfalso
        have := of_decide_eq_true c3
        omega
      exact ⟨_, _, rfl, same_upd s2 (s2.free hq)⟩
    · rintro σ H2 ⟨v1, v2, rfl, s2⟩
      walk_at "rs"
      refine ⟨p, _, rfl, .inl (s2.seq hp), ?_⟩
      walk_at "rs"
      refine ite2 (fun c1 => ?_) (fun c1 => ?_)
      · exfalso
        have g0 := gw.1
        simp at c1
        simp [c1] at g0
      exact k H2 s2
theorem ok_Committee_init (T : Txt K mg a) : ∃ fd, FnOk P w K mg base CX0 2 a.d_Committee_init fd ["self", "weights"] (spInit K a.C_Committee) ∧ Binds K fd ["self", "weights"] [] := by
  obtain ⟨fd, F, b⟩ := T.d_Committee_init.F
  obtain ⟨fd_first_wrong, G_first_wrong, b_first_wrong⟩ := ok_first_wrong (P := P) (w := w) (base := base) T
  refine ⟨fd, F.ok sc_Committee_init (fun vs H Q E h => ?_) (fun cdv A outer s H vs Q E hr h => ?_), b⟩
  · obtain ⟨_, _, _, _, rfl, _⟩ := h
    rfl
  · obtain ⟨p, dx, l, ws, rfl, hp, hl, gw, k⟩ := h
    refine ⟨_, (pss_cons (ps_set (i := 2) sc_Committee_init.nd rfl (Or.inl rfl) (pe_call G_first_wrong (hr.mono (by decide)) rfl T.d_first_wrong.g T.d_first_wrong.kp b_first_wrong .nil pass0 (pa_cons (pv 1) pa_nil)))
      (pss_cons (ps_if (pt_cmpR op_notN (pv 2) pe_non (nomark _))
      (pss_one ps_never)
      pss_nil)
      (pss_cons (ps_fld (pv 0) (pe_callTy call_tuple_of (by rfl) T.n_tuple (by decide +kernel) (pa_cons (pv 1) pa_nil)) rfl)
      (pss_cons (ps_fld (pv 0) (pe_callB call_len_seq (by rfl) T.n_len PySem.boot_len (pa_cons (pe_fld (pv 0) rfl) pa_nil)) rfl)
      (pss_one (ps_fld (pv 0) (pe_callB (cr_sumT rfl) (by rfl) T.n_sum (by decide +kernel) (pa_cons (pe_fld (pv 0) rfl) pa_nil)) rfl)))))), ?_⟩
    walk_at "rs"
    refine ⟨l, ws, rfl, hl, gw, fun H1 s1 => ?_⟩
    walk_at "rs"
    have hp1 := s1 _ _ hp
    refine ⟨l, _, rfl, .inl ⟨s1.seq hl, fun t ht => ?_⟩⟩
    have npt : p ≠ t := ne_of_none hp1 ht
    have hp2 : (upd H1 t (.tup (ws.map V.int))) p = some (.ins a.C_Committee dx []) := by rw [upd_ne npt]; exact hp1
    walk_at "rs"
    refine ⟨p, _, dx, [], rfl, hp2, T.cl_Committee, T.a_Committee_weights, (by show 0 < 1000; decide), ?_⟩
    have ht3 : ∀ o : HO, (upd (upd H1 t (.tup (ws.map V.int))) p o) t = some (.tup (ws.map V.int)) := fun o => by rw [upd_ne npt.symm, upd_same]
    walk_at "rs"
    refine ⟨p, _, dx, _, .ref t, rfl, upd_same, T.cl_Committee, T.a_Committee_weights, by rw [lookup_putF, if_pos rfl], ?_⟩
    walk_at "rs"
    refine ⟨t, _, rfl, .inr (SqT.of (ht3 _)), ?_⟩
    walk_at "rs"
    refine ⟨p, _, dx, _, rfl, upd_same, T.cl_Committee, T.a_Committee_size, (by show 1 < 1000; decide), ?_⟩
    rw [upd_upd]
    walk_at "rs"
    refine ⟨p, _, dx, _, .ref t, rfl, upd_same, T.cl_Committee, T.a_Committee_weights, by rw [lookup_putF, if_neg ne_ws, lookup_putF, if_pos rfl], ?_⟩
    walk_at "rs"
    refine ⟨t, ws, rfl, SqT.of (ht3 _), ?_⟩
    walk_at "rs"
    refine ⟨p, _, dx, _, rfl, upd_same, T.cl_Committee, T.a_Committee_total, (Nat.lt_of_le_of_lt (length_putF _ _ _) (Nat.lt_of_le_of_lt (Nat.add_le_add_right (length_putF _ _ _) 1) (by show 2 < 1000; decide))), ?_⟩
    rw [upd_upd, List.length_map]
    exact k _ ⟨dx, t, upd_same, ht3 _⟩ fun b o e hb => by
      rw [upd_ne hb, upd_ne (ne_of_none (s1 _ _ e) ht)]
      exact s1 _ _ e
theorem ok_Committee_weight_of (T : Txt K mg a) : ∃ fd, FnOk P w K mg base CX0 1 a.d_Committee_weight_of fd ["self", "members"] (spWof K a.C_Committee) ∧ Binds K fd ["self", "members"] [] := by
  obtain ⟨fd, F, b⟩ := T.d_Committee_weight_of.F
  refine ⟨fd, F.ok sc_Committee_weight_of (fun vs H Q E h => ?_) (fun cdv A outer s H vs Q E hr h => ?_), b⟩
  · obtain ⟨_, _, _, _, rfl, _⟩ := h
    rfl
  · obtain ⟨p, l, ws, ms, rfl, ⟨dx, t, hp, ht⟩, hlen, hl, hms, k⟩ := h
    refine ⟨_, (pss_cons (ps_set (i := 2) sc_Committee_weight_of.nd rfl (Or.inr rfl) (pe_callTy (cr_set rfl) (by rfl) T.n_set (by decide +kernel) (pa_cons (pv 1) pa_nil)))
      (pss_one (ps_ret (pe_callB (cr_sum rfl) (by rfl) T.n_sum (by decide +kernel) (pa_cons (pe_lc (own := [("member", 3), ("weight", 4)]) (g := (gTup K 2 (gCons (gName 3) (gCons (gName 4) gNil)))) rfl sc_Committee_weight_of.nd (pi_enumT (by rfl) T.n_enumerate (pa_cons (pe_fld (pv 0) rfl) pa_nil)) (blkOk_by (own := [("member", 3), ("weight", 4)]) (N := sc_Committee_weight_of_N) (sc := defScope s_Committee_weight_of) (by decide +kernel)) (fun _ _ _ _ _ => (pg_tup rfl (pgs_cons (pg_name (i := 3) sc_Committee_weight_of.nd rfl (Or.inl rfl)) (pgs_cons (pg_name (i := 4) sc_Committee_weight_of.nd rfl (Or.inl rfl)) pgs_nil)))) (fun _ _ _ _ _ => (pts_one (pt_cmpR op_in_set (pv 3) (pv 2) (by rfl)))) (fun _ _ _ _ _ => (pv 4))) pa_nil))))), ?_⟩
    walk_at "rs"
    refine ⟨l, ms, rfl, hl, hms, fun S n hS => ?_⟩
    have nS : ∀ q o, H q = some o → (upd H S (.set (fun k => decide (k ∈ ms)) n)) q = some o := same_new hS
    walk_at "rs"
    refine ⟨p, _, dx, _, .ref t, rfl, nS _ _ hp, T.cl_Committee, T.a_Committee_weights, cfs_w _ _, ?_⟩
    walk_at "rs"
    refine ⟨t, _, rfl, SqT.of (nS _ _ ht), fun D hD => ?_⟩
    generalize eH : upd H S (.set (fun k => decide (k ∈ ms)) n) = H1 at nS hD
    have hS1 : H1 S = some (.set (fun k => decide (k ∈ ms)) n) := by rw [← eH, upd_same]
    refine lc_enumT (K := K) (a := t) (ys := ws.map V.int) (fun i H2 => Same H1 H2 ∧ H2 D = some (.lst ((pick ws (fun k => decide (k ∈ ms)) i).map V.int))) ⟨same_new hD, upd_same⟩ (fun i H2 _ ⟨s2, _⟩ => SqT.of (s2 _ _ (nS _ _ ht))) ?_ ?_
    · rintro i y H2 q hy ⟨s2, hd⟩ hq
      have hi : i < ws.length := by
        have e := (List.getElem?_eq_some_iff.mp hy).1
        rwa [List.length_map] at e
      rw [at_ints hi] at hy
      cases hy
      have fit : ((pick ws (fun k => decide (k ∈ ms)) i).map V.int).length < sizeLine := by
        have := pick_len ws (fun k => decide (k ∈ ms)) i
        rw [List.length_map]
        exact small1000 (by omega)
      have s3 : Same H2 (upd H2 q (.tup [V.int (i : Nat), V.int (ws.getD i 0)])) := same_new hq
      refine ⟨q, _, rfl, SqT.of upd_same, rfl, ?_⟩
      refine ⟨_, _, rfl, _, _, rfl, rfl, rfl, ?_⟩
      walk_at "rs"
      refine ⟨_, S, _, n, rfl, rfl, s3 _ _ (s2 _ _ hS1), ?_⟩
      rw [if_neg Bool.false_ne_true]
      walk_at "rs"
      refine ite2 (fun c1 => ?_) (fun c1 => ?_)
      · walk_at "rs"
        refine ⟨_, s3 _ _ hd, fit, same_upd (fun b o z => s3 _ _ (s2 _ _ z)) hD, ?_⟩
        rw [upd_same, pick, if_pos c1]
        simp
      · refine ⟨fun b o z => s3 _ _ (s2 _ _ z), ?_⟩
        rw [s3 _ _ hd, pick, if_neg c1]
    · rintro H2 ⟨s2, hd⟩
      rw [List.length_map] at hd
      walk_at "rs"
      exact ⟨D, _, rfl, SqL.of hd, k H2 fun b o z => s2 _ _ (nS _ _ z)⟩
theorem ok_Committee_is_quorum (T : Txt K mg a) : ∃ fd, FnOk P w K mg base CX0 2 a.d_Committee_is_quorum fd ["self", "members"] (spQuorum K a.C_Committee) ∧ Binds K fd ["self", "members"] [] := by
  obtain ⟨fd, F, b⟩ := T.d_Committee_is_quorum.F
  obtain ⟨fd_Committee_weight_of, G_Committee_weight_of, b_Committee_weight_of⟩ := ok_Committee_weight_of (P := P) (w := w) (base := base) T
  refine ⟨fd, F.ok sc_Committee_is_quorum (fun vs H Q E h => ?_) (fun cdv A outer s H vs Q E hr h => ?_), b⟩
  · obtain ⟨_, _, _, _, rfl, _⟩ := h
    rfl
  · obtain ⟨p, l, ws, ms, rfl, hc, hlen, hl, hms, k⟩ := h
    obtain ⟨dx, t, hp, ht⟩ := id hc
    refine ⟨_, (pss_one (ps_ret (pe_cmpR op_gt (pe_op op_mul pe_int (pe_meth (pv 0) T.cl_Committee T.me_Committee_weight_of G_Committee_weight_of (hr.mono (by decide)) b_Committee_weight_of .nil pass0 (pa_cons (pv 1) pa_nil))) (pe_op op_mul pe_int (pe_fld (pv 0) rfl)) (nomark _)))), ?_⟩
    walk_at "rs"
    refine ⟨p, dx, _, rfl, hp, cfs_no _ _ (by decide +kernel) (by decide +kernel) (by decide +kernel), ?_⟩
    walk_at "rs"
    refine ⟨p, l, ws, ms, rfl, hc, hlen, hl, hms, fun H1 s1 => ?_⟩
    walk_at "rs"
    refine ⟨p, _, dx, _, _, rfl, s1 _ _ hp, T.cl_Committee, T.a_Committee_total, cfs_t _ _, ?_⟩
    walk_at "rs"
    exact k H1 s1
theorem ok_Committee_is_third (T : Txt K mg a) : ∃ fd, FnOk P w K mg base CX0 2 a.d_Committee_is_third fd ["self", "members"] (spThird K a.C_Committee) ∧ Binds K fd ["self", "members"] [] := by
  obtain ⟨fd, F, b⟩ := T.d_Committee_is_third.F
  obtain ⟨fd_Committee_weight_of, G_Committee_weight_of, b_Committee_weight_of⟩ := ok_Committee_weight_of (P := P) (w := w) (base := base) T
  refine ⟨fd, F.ok sc_Committee_is_third (fun vs H Q E h => ?_) (fun cdv A outer s H vs Q E hr h => ?_), b⟩
  · obtain ⟨_, _, _, _, rfl, _⟩ := h
    rfl
  · obtain ⟨p, l, ws, ms, rfl, hc, hlen, hl, hms, k⟩ := h
    obtain ⟨dx, t, hp, ht⟩ := id hc
    refine ⟨_, (pss_one (ps_ret (pe_cmpR op_gt (pe_op op_mul pe_int (pe_meth (pv 0) T.cl_Committee T.me_Committee_weight_of G_Committee_weight_of (hr.mono (by decide)) b_Committee_weight_of .nil pass0 (pa_cons (pv 1) pa_nil))) (pe_fld (pv 0) rfl) (nomark _)))), ?_⟩
    walk_at "rs"
    refine ⟨p, dx, _, rfl, hp, cfs_no _ _ (by decide +kernel) (by decide +kernel) (by decide +kernel), ?_⟩
    walk_at "rs"
    refine ⟨p, l, ws, ms, rfl, hc, hlen, hl, hms, fun H1 s1 => ?_⟩
    walk_at "rs"
    refine ⟨p, _, dx, _, _, rfl, s1 _ _ hp, T.cl_Committee, T.a_Committee_total, cfs_t _ _, ?_⟩
    walk_at "rs"
    exact k H1 s1
/-! ### the law -/
theorem good_pos {ws : List Int} (gw : GoodW ws) (k : Nat) : 0 ≤ ws.getD k 0 := by
  rcases Nat.lt_or_ge k ws.length with h | h
  · have := gw.2.2 _ (getD_mem h)
    omega
  · rw [List.getD_eq_getElem?_getD, List.getElem?_eq_none h]
    exact Int.le_refl _
/-- lists of ints at some addresses -/
def RefsAt (H : Hp) (rs : List Addr) (mss : List (List Int)) : Prop := rs.length = mss.length ∧ ∀ (j : Nat) (r : Addr), rs[j]? = some r → ∃ ms, mss[j]? = some ms ∧ H r = some (.lst (ms.map V.int)) ∧ ms.length ≤ 16
theorem ok_law {f : Addr} {fd : FuncData} (F : Fun K "law" "law" s_law f fd) (T : Txt K mg a) : FnOk P w K mg base CX0 5 f fd ["script"] (spLaw K) := by
  obtain ⟨fd_law_weights, G_law_weights, b_law_weights⟩ := ok_law_weights (P := P) (w := w) (base := base) T
  obtain ⟨fd_Committee_init, G_Committee_init, b_Committee_init⟩ := ok_Committee_init (P := P) (w := w) (base := base) T
  obtain ⟨fd_law_cell, G_law_cell, b_law_cell⟩ := ok_law_cell (P := P) (w := w) (base := base) T
  obtain ⟨fd_law_row, G_law_row, b_law_row⟩ := ok_law_row (P := P) (w := w) (base := base) T
  obtain ⟨fd_Committee_is_quorum, G_Committee_is_quorum, b_Committee_is_quorum⟩ := ok_Committee_is_quorum (P := P) (w := w) (base := base) T
  obtain ⟨fd_Committee_is_third, G_Committee_is_third, b_Committee_is_third⟩ := ok_Committee_is_third (P := P) (w := w) (base := base) T
  obtain ⟨fd_law_weight, G_law_weight, b_law_weight⟩ := ok_law_weight (P := P) (w := w) (base := base) T
  refine F.ok sc_law (fun vs H Q E h => ?_) (fun cdv A outer s H vs Q E hr h => ?_)
  · obtain ⟨_, _, rfl, _⟩ := h
    rfl
  · obtain ⟨l, ns, rfl, hS, hl, k⟩ := h
    refine ⟨_, (pss_cons (ps_set (i := 1) sc_law.nd rfl (Or.inl rfl) (pe_call G_law_weights (hr.mono (by decide)) rfl T.d_law_weights.g T.d_law_weights.kp b_law_weights .nil pass0 (pa_cons (pe_call G_law_cell (hr.mono (by decide)) rfl T.d_law_cell.g T.d_law_cell.kp b_law_cell .nil pass0 (pa_cons (pv 0) (pa_cons pe_int pa_nil))) (pa_cons pe_int pa_nil))))
      (pss_cons (ps_set (i := 2) sc_law.nd rfl (Or.inl rfl) (pe_make T.m_Committee G_Committee_init (hr.mono (by decide)) (by rfl) T.g_Committee b_Committee_init .nil pass0 (pa_cons (pe_callTy call_list_of (by rfl) T.n_list (by decide +kernel) (pa_cons (pv 1) pa_nil)) pa_nil)))
      (pss_cons (ps_set (i := 3) sc_law.nd rfl (Or.inr rfl) (pe_lst pa_nil))
      (pss_cons (ps_for PassesOwn.never rfl (pi_tup (pe_tup (pa_cons pe_int (pa_cons pe_int pa_nil)))) (pg_name (i := 4) sc_law.nd rfl (Or.inl rfl))
      (pss_cons (ps_set (i := 5) sc_law.nd rfl (Or.inr rfl) (pe_call G_law_row (hr.mono (by decide)) rfl T.d_law_row.g T.d_law_row.kp b_law_row .nil pass0 (pa_cons (pe_call G_law_cell (hr.mono (by decide)) rfl T.d_law_cell.g T.d_law_cell.kp b_law_cell .nil pass0 (pa_cons (pv 0) (pa_cons (pv 4) pa_nil))) (pa_cons (pe_callB call_len_seq (by rfl) T.n_len PySem.boot_len (pa_cons (pv 1) pa_nil)) (pa_cons pe_int pa_nil)))))
        (pss_one (ps_expr (pe_bm PySem.F.plainAttrs_list PySem.F.slot_list_append PySem.F.type_list_append mt_append (pv 3) (pa_cons (pe_lc (own := [("k", 10)]) (g := (gName 10)) rfl sc_law.nd (pi_range1 rfl T.n_range (pa_cons (pe_callB call_len_seq (by rfl) T.n_len PySem.boot_len (pa_cons (pv 1) pa_nil)) pa_nil)) (blkOk_by (own := [("k", 10)]) (N := sc_law_N) (sc := defScope s_law) (by decide +kernel)) (fun _ _ _ _ _ => (pg_name (i := 10) sc_law.nd rfl (Or.inl rfl))) (fun _ _ _ _ _ => (pts_one (pt_cmpR op_gt (pe_ix (r := rIxL K) ix_list (pv 5) (pv 10) (fun _ _ => rfl)) (pe_op op_mod (pe_callTy call_int1 (by rfl) T.n_int (by decide +kernel) (pa_cons (pe_call G_law_cell (hr.mono (by decide)) rfl T.d_law_cell.g T.d_law_cell.kp b_law_cell .nil pass0 (pa_cons (pv 0) (pa_cons pe_int pa_nil))) pa_nil)) pe_int) (nomark _)))) (fun _ _ _ _ _ => (pv 10))) pa_nil))))))
      (pss_cons (ps_setLc (i := 6) (own := [("k", 10)]) (g := (gName 10)) rfl sc_law.nd rfl rfl (sw_true rfl rfl rfl (by decide +kernel)) (pi_list (pe_ix ix_list (pv 3) pe_int (fun _ _ => rfl))) (blkOk_by (own := [("k", 10)]) (N := sc_law_N) (sc := defScope s_law) (by decide +kernel)) (fun _ _ _ _ _ => (pg_name (i := 10) sc_law.nd rfl (Or.inl rfl))) (fun _ _ _ _ _ => (pts_one (pt_cmpR (r := rIn K false) op_in_seq (pv 10) (pe_ix (r := rIxL K) ix_list (pv 3) pe_int (fun _ _ => rfl)) (by rfl)))) (fun _ _ _ _ _ => (pv 10)))
      (C8.pss_cut (ps_if (PW.pt (pw_and (pt_val (pe_meth (pv 2) T.cl_Committee T.me_Committee_is_quorum G_Committee_is_quorum (hr.mono (by decide)) b_Committee_is_quorum .nil pass0 (pa_cons (pe_ix ix_list (pv 3) pe_int (fun _ _ => rfl)) pa_nil))) (pw_and (pt_val (pe_meth (pv 2) T.cl_Committee T.me_Committee_is_quorum G_Committee_is_quorum (hr.mono (by decide)) b_Committee_is_quorum .nil pass0 (pa_cons (pe_ix ix_list (pv 3) pe_int (fun _ _ => rfl)) pa_nil))) (pw_and1 (pt_not (pt_val (pe_meth (pv 2) T.cl_Committee T.me_Committee_is_third G_Committee_is_third (hr.mono (by decide)) b_Committee_is_third .nil pass0 (pa_cons (pv 6) pa_nil))))))))
      (pss_one (ps_ret pe_bl))
      pss_nil)
      (pss_cons (ps_for PassesOwn.never rfl (pi_list (pv 3)) (pg_name (i := 7) sc_law.nd rfl (Or.inr rfl))
      (pss_cons (ps_setLc (i := 8) (own := [("k", 10)]) (g := (gName 10)) rfl sc_law.nd rfl rfl (sw_true rfl rfl rfl (by decide +kernel)) (pi_range1 rfl T.n_range (pa_cons (pe_callB call_len_seq (by rfl) T.n_len PySem.boot_len (pa_cons (pv 1) pa_nil)) pa_nil)) (blkOk_by (own := [("k", 10)]) (N := sc_law_N) (sc := defScope s_law) (by decide +kernel)) (fun _ _ _ _ _ => (pg_name (i := 10) sc_law.nd rfl (Or.inl rfl))) (fun _ _ _ _ _ => (pts_one (pt_cmpR (r := rIn K true) op_notIn_seq (pv 10) (pv 7) (by rfl)))) (fun _ _ _ _ _ => (pv 10)))
        (pss_cons (ps_set (i := 9) sc_law.nd rfl (Or.inl rfl) (pe_cmpR op_lt (pe_op op_mul pe_int (pe_call G_law_weight (hr.mono (by decide)) rfl T.d_law_weight.g T.d_law_weight.kp b_law_weight .nil pass0 (pa_cons (pv 1) (pa_cons (pv 8) pa_nil)))) (pe_callB (cr_sum rfl) (by rfl) T.n_sum (by decide +kernel) (pa_cons (pv 1) pa_nil)) (nomark _)))
        (C8.pss_cut (ps_if (PW.pt (pw_and (pt_cmpR op_isnot_bl (pe_meth (pv 2) T.cl_Committee T.me_Committee_is_quorum G_Committee_is_quorum (hr.mono (by decide)) b_Committee_is_quorum .nil pass0 (pa_cons (pv 7) pa_nil)) pe_bl (nomark _)) (pw_and1 (pt_val (pv 9)))))
        (pss_one (ps_ret pe_bl))
        pss_nil)
        (pss_one (ps_if (PW.pt (pw_and (pt_cmpR op_isnot_bl (pe_meth (pv 2) T.cl_Committee T.me_Committee_is_quorum G_Committee_is_quorum (hr.mono (by decide)) b_Committee_is_quorum .nil pass0 (pa_cons (pv 7) pa_nil)) pe_bl (nomark _)) (pw_and1 (pt_not (pt_val (pv 9))))))
        (pss_one (ps_ret pe_bl))
        pss_nil))))))
      (pss_one (ps_ret pe_bl))))))))), ?_⟩
    walk_at "rs"
    -- weights, committee, lists
    refine ⟨l, ns, 0, rfl, hS, hl, by decide, ?_⟩
    walk_at "rs"
    intro pw ws H1 s1 hw gw
    have wlen := gw.2.1
    walk_at "rs"
    refine ⟨pw, _, rfl, .inl (SqL.of hw), fun q hq => ?_⟩
    intro x dx nx ndx nex
    have sq : Same H1 (upd H1 q (.lst (ws.map V.int))) := same_new hq
    refine ⟨x, dx, q, ws, rfl, upd_same, SqL.of (by rw [upd_ne (ne_of_none upd_same nx), upd_ne (ne_of_none upd_same ndx), upd_same]), gw, fun H2 hc kp => ⟨rfl, ?_⟩⟩
    have s2 : Same H1 H2 := sq.trans (Same.made nx ndx kp)
    walk_at "rs"
    refine ⟨(by show 0 ≤ sizeLine; decide), fun pl hpl => ?_⟩
    walk_at "rs"
    refine ⟨(by show 2 ≤ sizeLine; decide), fun t ht => ?_⟩
    have hS2 : SqL K H2 l (ns.map V.int) := (s1.trans s2).seq hS
    have hw2 := s2 _ _ hw
    have s3 : Same H2 (upd (upd H2 pl (.lst [])) t (.tup [V.int 1, V.int 2])) := (same_new hpl).trans (same_new ht)
    have ntp : pl ≠ t := ne_of_none upd_same ht
    refine ⟨t, rfl, ⟨_, SqT.of upd_same⟩, for_tup (K := K) (a := t) (xs := [V.int 1, V.int 2]) (fun i σ H3 => ∃ (rs : List Addr) (mss : List (List Int)) (v4 v5 : Option V),
      σ = [some (.ref l), some (.ref pw), some (.ref x), some (.ref pl), v4, v5, none, none, none, none, none] ∧ Same H2 H3 ∧ H3 t = some (.tup [V.int 1, V.int 2]) ∧ H3 pl = some (.lst (rs.map V.ref)) ∧ RefsAt H3 rs mss ∧ rs.length = i)
      ⟨[], [], _, _, rfl, s3, upd_same, by rw [upd_ne ntp, upd_same]; rfl, ⟨rfl, fun j r h => by simp at h⟩, rfl⟩ (fun i σ H3 _ ⟨_, _, _, _, _, _, z, _⟩ => SqT.of z) ?_ ?_⟩
    · rintro i y σ H3 hy ⟨rs, mss, v4, v5, rfl, s4, ht3, hpl3, hrs, hi⟩
      have i2 : i < 2 := (List.getElem?_eq_some_iff.mp hy).1
      obtain ⟨z, rfl, hz⟩ : ∃ z : Int, y = V.int z ∧ 0 ≤ z := by
        match i, hy with
        | 0, hy =>
          cases hy
          exact ⟨1, rfl, by decide⟩
        | 1, hy =>
          cases hy
          exact ⟨2, rfl, by decide⟩
        | i + 2, hy => simp at hy
      walk_at "rs"
      refine ⟨l, ns, z, rfl, s4.seq hS2, hl, hz, ?_⟩
      walk_at "rs"
      refine ⟨pw, _, rfl, .inl (SqL.of (s4 _ _ hw2)), ?_⟩
      walk_at "rs"
      refine ⟨_, _, 6, rfl, by rw [List.length_map]; omega, by rw [List.length_map]; omega, by decide, by decide, fun pd row H4 s5 hrow rlen hb hpd => ?_⟩
      walk_at "rs"
      refine ⟨.inl ⟨rfl, _, SqL.of (s5 _ _ hpl3)⟩, ?_⟩
      walk_at "rs"
      refine ⟨pw, _, rfl, .inl (SqL.of (s5 _ _ (s4 _ _ hw2))), ?_⟩
      walk_at "rs"
      have hN : ((ws.map V.int).length : Int) = ws.length := by rw [List.length_map]
      refine ⟨(by show -(2 ^ 62 : Int) ≤ _; omega), (by show _ < (2 ^ 62 : Int); omega), fun D hD => ?_⟩
      have rlen' : row.length = ws.length := by rw [rlen]; omega
      refine lc_range (lo := 0) (n := (((ws.map V.int).length : Int)).toNat) (fun j H5 => Same H4 H5 ∧ ∃ acc : List Int, H5 D = some (.lst (acc.map V.int)) ∧ acc.length ≤ j) ⟨same_new hD, [], upd_same, Nat.le_refl _⟩ ?_ ?_
      · rintro j H5 hj ⟨s6, acc, hd, hacc⟩
        have hj' : j < row.length := by omega
        refine ⟨rfl, ?_⟩
        walk_at "rs"
        refine ⟨pd, _, _, .int (row.getD j 0), rfl, rfl, SqL.of (s6 _ _ hrow), at_of (j := j) (by omega) (at_ints hj'), ?_⟩
        walk_at "rs"
        refine ⟨l, ns, 3, rfl, s6.seq (s5.seq (s4.seq hS2)), hl, by decide, ?_⟩
        walk_at "rs"
        refine ite2 (fun c1 => ?_) (fun c1 => ?_)
        · walk_at "rs"
          refine ⟨_, hd, by rw [List.length_map]; exact small1000 (by omega), same_upd s6 hD, acc ++ [(j : Int)], by rw [upd_same]; simp, by simp; omega⟩
        · exact ⟨s6, acc, hd, by omega⟩
      · rintro H5 ⟨s6, acc, hd, hacc⟩
        have npD : pl ≠ D := ne_of_none (s5 _ _ hpl3) hD
        have hpl5 := s6 _ _ (s5 _ _ hpl3)
        walk_at "rs"
        refine ⟨pl, _, _, rfl, rfl, hpl5, by rw [List.length_map]; exact small1000 (by omega), ?_⟩
        have s7 : Same H2 (upd H5 pl (.lst (rs.map V.ref ++ [V.ref D]))) := same_upd (fun b o z => s6 _ _ (s5 _ _ (s4 _ _ z))) hpl
        refine ⟨rs ++ [D], mss ++ [acc], _, _, rfl, s7, ?_, ?_, ?_, ?_⟩
        · rw [upd_ne ntp.symm]
          exact s6 _ _ (s5 _ _ ht3)
        · rw [upd_same]
          simp
        · refine ⟨by rw [List.length_append, List.length_append, hrs.1]; rfl, fun j r hr' => ?_⟩
          rcases Nat.lt_or_ge j rs.length with hjl | hjl
          · rw [List.getElem?_append_left hjl] at hr'
            obtain ⟨ms, h1, h2, h3⟩ := hrs.2 j r hr'
            have nr : r ≠ pl := ne_of h2 hpl3 (by
              intro e
              injection e with e
              cases rs with
              | nil => simp at hjl
              | cons r0 rs => cases ms with
                | nil => cases e
                | cons m0 ms => cases e)
            exact ⟨ms, by rw [List.getElem?_append_left (by rw [← hrs.1]; exact hjl)]; exact h1, by rw [upd_ne nr]; exact s6 _ _ (s5 _ _ h2), h3⟩
          · rw [List.getElem?_append_right hjl] at hr'
            have e0 : j - rs.length = 0 := by
              rcases Nat.eq_zero_or_pos (j - rs.length) with e | e
              · exact e
              · rw [List.getElem?_eq_none (by simp; omega)] at hr'
                cases hr'
            rw [e0] at hr'
            cases hr'
            refine ⟨acc, by rw [List.getElem?_append_right (by rw [← hrs.1]; exact hjl), ← hrs.1, e0]; rfl, by rw [upd_ne npD.symm]; exact hd, by omega⟩
        · rw [List.length_append, hi]
          rfl
    · rintro σ H3 ⟨rs, mss, v4, v5, rfl, s4, ht3, hpl3, hrs, hi⟩
      obtain ⟨r0, r1, rfl⟩ : ∃ r0 r1, rs = [r0, r1] := by
        match rs, hi with
        | [r0, r1], _ => exact ⟨r0, r1, rfl⟩
      obtain ⟨m0, e0, hr0, len0⟩ := hrs.2 0 r0 rfl
      obtain ⟨m1, e1, hr1, len1⟩ := hrs.2 1 r1 rfl
      have hc3 : CommAt a.C_Committee H3 x ws := hc.same s4
      have hw3 := s4 _ _ hw2
      have hS3 := s4.seq hS2
      -- common
      walk_at "rs"
      refine ⟨pl, _, _, .ref r0, rfl, rfl, SqL.of hpl3, rfl, r0, rfl, ⟨_, SqL.of hr0⟩, fun D hD => ?_⟩
      refine lc_list (K := K) (a := r0) (xs := m0.map V.int) (fun i H4 => Same H3 H4 ∧ H4 D = some (.lst (((m0.take i).filter fun k => decide (k ∈ m1)).map V.int))) ⟨same_new hD, upd_same⟩ (fun i H4 _ ⟨s5, _⟩ => SqL.of (s5 _ _ hr0)) ?_ ?_
      · rintro i y H4 hy ⟨s5, hd⟩
        have hi' : i < m0.length := by
          have e := (List.getElem?_eq_some_iff.mp hy).1
          rwa [List.length_map] at e
        rw [at_ints hi'] at hy
        cases hy
        have fit : (((m0.take i).filter fun k => decide (k ∈ m1)).map V.int).length < sizeLine := by
          have := List.length_filter_le (fun k => decide (k ∈ m1)) (m0.take i)
          rw [List.length_take] at this
          rw [List.length_map]
          exact small1000 (by omega)
        have et : m0.take (i + 1) = m0.take i ++ [m0.getD i 0] := by
          rw [List.take_add_one, List.getElem?_eq_getElem hi', List.getD_eq_getElem?_getD, List.getElem?_eq_getElem hi']
          rfl
        refine ⟨rfl, ?_⟩
        walk_at "rs"
        refine ⟨pl, _, _, .ref r1, rfl, rfl, SqL.of (s5 _ _ hpl3), rfl, ?_⟩
        refine ⟨r1, _, rfl, .inl (SqL.of (s5 _ _ hr1)), rfl, flat_ints m1, ?_⟩
        rw [if_neg Bool.false_ne_true, inV_ints]
        walk_at "rs"
        refine ite2 (fun c1 => ?_) (fun c1 => ?_)
        · walk_at "rs"
          refine ⟨_, hd, fit, same_upd s5 hD, ?_⟩
          rw [upd_same, et, List.filter_append, List.filter_cons_of_pos (by exact c1)]
          simp
        · refine ⟨s5, ?_⟩
          rw [hd, et, List.filter_append, List.filter_cons_of_neg (by exact c1)]
          simp
      · rintro H4 ⟨s5, hd⟩
        rw [List.length_map, List.take_length] at hd
        have hc4 := hc3.same s5
        obtain ⟨dc, tc, hx4, htc4⟩ := id hc4
        have pos := good_pos gw
        have lc : (m0.filter fun k => decide (k ∈ m1)).length ≤ 1000 := by
          have := List.length_filter_le (fun k => decide (k ∈ m1)) m0
          omega
        walk_at "rs"
        refine ⟨fun σ' H' => σ' = [some (.ref l), some (.ref pw), some (.ref x), some (.ref pl), v4, v5, some (.ref D), none, none, none, none] ∧ Same H4 H', ?_, ?_⟩
        · walk_at "rs"
          refine ⟨x, dc, _, rfl, hx4, cfs_no _ _ (by decide +kernel) (by decide +kernel) (by decide +kernel), ?_⟩
          walk_at "rs"
          refine ⟨pl, _, _, .ref r0, rfl, rfl, SqL.of (s5 _ _ hpl3), rfl, ?_⟩
          refine ⟨x, r0, ws, m0, rfl, hc4, wlen, SqL.of (s5 _ _ hr0), by omega, fun H5 s6 => ?_⟩
          walk_at "rs"
          refine ite2 (fun c1 => ?_) (fun c1 => ?_)
          · walk_at "rs"
            refine ⟨x, dc, _, rfl, s6 _ _ hx4, cfs_no _ _ (by decide +kernel) (by decide +kernel) (by decide +kernel), ?_⟩
            walk_at "rs"
            refine ⟨pl, _, _, .ref r1, rfl, rfl, SqL.of (s6 _ _ (s5 _ _ hpl3)), rfl, ?_⟩
            refine ⟨x, r1, ws, m1, rfl, hc4.same s6, wlen, SqL.of (s6 _ _ (s5 _ _ hr1)), by omega, fun H6 s7 => ?_⟩
            walk_at "rs"
            refine ite2 (fun c2 => ?_) (fun c2 => ?_)
            · walk_at "rs"
              refine ⟨x, dc, _, rfl, s7 _ _ (s6 _ _ hx4), cfs_no _ _ (by decide +kernel) (by decide +kernel) (by decide +kernel), ?_⟩
              walk_at "rs"
              refine ⟨x, D, ws, _, rfl, (hc4.same s6).same s7, wlen, SqL.of (s7 _ _ (s6 _ _ hd)), lc, fun H7 s8 => ?_⟩
              walk_at "rs"
              refine ite2 (fun c3 => ?_) (fun c3 => ?_)
              · exfalso
                have d1 := of_decide_eq_true c1
                have d2 := of_decide_eq_true c2
                have d3 : ¬ ws.sum < 3 * wOf ws (m0.filter fun k => decide (k ∈ m1)) := by simpa using c3
                have := wOf_common ws m0 m1 pos
                omega
              · exact ⟨rfl, fun b o z => s8 _ _ (s7 _ _ (s6 _ _ z))⟩
            · exact ⟨rfl, fun b o z => s7 _ _ (s6 _ _ z)⟩
          · exact ⟨rfl, s6⟩
        · rintro σ' H5 ⟨rfl, s6⟩
          have hpl5 := s6 _ _ (s5 _ _ hpl3)
          walk_at "rs"
          refine ⟨⟨_, SqL.of hpl5⟩, for_list (K := K) (a := pl) (xs := [V.ref r0, V.ref r1]) (fun _ σ H6 => ∃ v7 v8 v9 : Option V, σ = [some (.ref l), some (.ref pw), some (.ref x), some (.ref pl), v4, v5, some (.ref D), v7, v8, v9, none] ∧ Same H5 H6)
            ⟨_, _, _, rfl, Same.refl H5⟩ (fun _ _ _ _ ⟨_, _, _, _, s7⟩ => SqL.of (s7 _ _ hpl5)) ?_ ?_⟩
          · rintro j y σ H6 hy ⟨v7, v8, v9, rfl, s7⟩
            obtain ⟨r, ms, rfl, hr6, lenr⟩ : ∃ (r : Addr) (ms : List Int), y = V.ref r ∧ H6 r = some (.lst (ms.map V.int)) ∧ ms.length ≤ 16 := by
              match j, hy with
              | 0, hy =>
                cases hy
                exact ⟨r0, m0, rfl, s7 _ _ (s6 _ _ (s5 _ _ hr0)), len0⟩
              | 1, hy =>
                cases hy
                exact ⟨r1, m1, rfl, s7 _ _ (s6 _ _ (s5 _ _ hr1)), len1⟩
              | j + 2, hy => simp at hy
            have hw6 := s7 _ _ (s6 _ _ (s5 _ _ hw3))
            have hc6 := ((hc4.same s6).same s7)
            have hN : ((ws.map V.int).length : Int) = ws.length := by rw [List.length_map]
            walk_at "rs"
            refine ⟨pw, _, rfl, .inl (SqL.of hw6), ?_⟩
            walk_at "rs"
            refine ⟨(by show -(2 ^ 62 : Int) ≤ _; omega), (by show _ < (2 ^ 62 : Int); omega), fun G hG => ?_⟩
            refine lc_range (lo := 0) (n := (((ws.map V.int).length : Int)).toNat) (fun i H7 => Same H6 H7 ∧ H7 G = some (.lst ((sel (fun k => !decide (k ∈ ms)) i).map V.int))) ⟨same_new hG, upd_same⟩ ?_ ?_
            · rintro i H7 hi7 ⟨s8, hg⟩
              have fit : ((sel (fun k => !decide (k ∈ ms)) i).map V.int).length < sizeLine := by
                have := sel_len (fun k => !decide (k ∈ ms)) i
                rw [List.length_map]
                exact small1000 (by omega)
              refine ⟨rfl, ?_⟩
              walk_at "rs"
              refine ⟨r, _, rfl, .inl (SqL.of (s8 _ _ hr6)), rfl, flat_ints ms, ?_⟩
              rw [if_pos rfl, inV_ints]
              walk_at "rs"
              have e0 : (0 : Int) + (i : Int) = (i : Int) := Int.zero_add _
              rw [e0]
              refine ite2 (fun c1 => ?_) (fun c1 => ?_)
              · walk_at "rs"
                refine ⟨_, hg, fit, same_upd s8 hG, ?_⟩
                rw [upd_same, sel, if_pos c1]
                simp
              · refine ⟨s8, ?_⟩
                rw [hg, sel, if_neg c1]
            · rintro H7 ⟨s8, hg⟩
              rw [hN, Int.toNat_natCast] at hg
              have hc7 := hc6.same s8
              walk_at "rs"
              refine ⟨pw, G, ws, _, rfl, SqL.of (s8 _ _ hw6), SqL.of hg, wlen, fun H8 s9 => ?_⟩
              have rest := wOf_rest ws ms
              walk_at "rs"
              refine ⟨pw, ws, rfl, SqL.of (s9 _ _ (s8 _ _ hw6)), ?_⟩
              have hc8 := hc7.same s9
              obtain ⟨dc8, tc8, hx8, htc8⟩ := id hc8
              have same9 : decide (3 * wOf ws (sel (fun k => !decide (k ∈ ms)) ws.length) < ws.sum) = decide (2 * ws.sum < 3 * wOf ws ms) := by
                rw [Bool.eq_iff_iff, decide_eq_true_iff, decide_eq_true_iff]
                omega
              walk_at "rs"
              refine ⟨fun σ' H' => σ' = [some (.ref l), some (.ref pw), some (.ref x), some (.ref pl), v4, v5, some (.ref D), some (.ref r), some (.ref G), some (.bl (decide (2 * ws.sum < 3 * wOf ws ms))), none] ∧ Same H8 H', ?_, ?_⟩
              · dsimp only
                rw [same9]
                walk_at "rs"
                refine ⟨x, dc8, _, rfl, hx8, cfs_no _ _ (by decide +kernel) (by decide +kernel) (by decide +kernel), ?_⟩
                walk_at "rs"
                refine ⟨x, r, ws, ms, rfl, hc8, wlen, SqL.of (s9 _ _ (s8 _ _ hr6)), by omega, fun H9 s10 => ?_⟩
                walk_at "rs"
                refine ite2 (fun c1 => ?_) (fun c1 => ?_)
                · walk_at "rs"
                  refine ite2 (fun c2 => ?_) (fun c2 => ?_)
                  · exfalso
                    rw [c2] at c1
                    exact absurd c1 (by decide)
                  · exact ⟨rfl, s10⟩
                · exact ⟨rfl, s10⟩
              · rintro σ' H9 ⟨rfl, s10⟩
                walk_at "rs"
                refine ⟨x, dc8, _, rfl, s10 _ _ hx8, cfs_no _ _ (by decide +kernel) (by decide +kernel) (by decide +kernel), ?_⟩
                walk_at "rs"
                refine ⟨x, r, ws, ms, rfl, hc8.same s10, wlen, SqL.of (s10 _ _ (s9 _ _ (s8 _ _ hr6))), by omega, fun H10 s11 => ?_⟩
                have back : Same H5 H10 := fun b o z => s11 _ _ (s10 _ _ (s9 _ _ (s8 _ _ (s7 _ _ z))))
                walk_at "rs"
                refine ite2 (fun c1 => ?_) (fun c1 => ?_)
                · walk_at "rs"
                  refine ite2 (fun c2 => ?_) (fun c2 => ?_)
                  · exfalso
                    cases hb : decide (2 * ws.sum < 3 * wOf ws ms)
                    · rw [hb] at c1
                      exact absurd c1 (by decide)
                    · rw [hb] at c2
                      exact absurd c2 (by decide)
                  · exact ⟨_, _, _, rfl, back⟩
                · exact ⟨_, _, _, rfl, back⟩
          · rintro σ H6 ⟨v7, v8, v9, rfl, s7⟩
            walk_at "rs"
            exact k _
end

theorem all_mk {l : PySem.W.OpenLaw} {w : World} {K : PySem.W.Frag} {h : Heap} {mg : Str → Option Value} {fa : Addr} (X : K.In h) (G : h.Ns mainGlobals mg) (hfa : mg "law" = some (.ref fa))
    {t_MOST_MEMBERS : Tok} {t_MOST_WEIGHT : Tok} {C_Committee : Addr} {f_law_cell : Addr} {od_law_cell an_law_cell : Option Addr} {sl_law_cell : Array (Option Value)} {oc_law_cell kV_law_cell dc_law_cell pm_law_cell cd_law_cell ct_law_cell : Value} {f_law_row : Addr} {od_law_row an_law_row : Option Addr} {sl_law_row : Array (Option Value)} {oc_law_row kV_law_row dc_law_row pm_law_row cd_law_row ct_law_row : Value} {f_law_weights : Addr} {od_law_weights an_law_weights : Option Addr} {sl_law_weights : Array (Option Value)} {oc_law_weights kV_law_weights dc_law_weights pm_law_weights cd_law_weights ct_law_weights : Value} {f_law_weight : Addr} {od_law_weight an_law_weight : Option Addr} {sl_law_weight : Array (Option Value)} {oc_law_weight kV_law_weight dc_law_weight pm_law_weight cd_law_weight ct_law_weight : Value} {f_first_wrong : Addr} {od_first_wrong an_first_wrong : Option Addr} {sl_first_wrong : Array (Option Value)} {oc_first_wrong kV_first_wrong dc_first_wrong pm_first_wrong cd_first_wrong ct_first_wrong : Value} {f_Committee_init : Addr} {od_Committee_init an_Committee_init : Option Addr} {sl_Committee_init : Array (Option Value)} {oc_Committee_init kV_Committee_init dc_Committee_init pm_Committee_init cd_Committee_init ct_Committee_init : Value} {f_Committee_weight_of : Addr} {od_Committee_weight_of an_Committee_weight_of : Option Addr} {sl_Committee_weight_of : Array (Option Value)} {oc_Committee_weight_of kV_Committee_weight_of dc_Committee_weight_of pm_Committee_weight_of cd_Committee_weight_of ct_Committee_weight_of : Value} {f_Committee_is_quorum : Addr} {od_Committee_is_quorum an_Committee_is_quorum : Option Addr} {sl_Committee_is_quorum : Array (Option Value)} {oc_Committee_is_quorum kV_Committee_is_quorum dc_Committee_is_quorum pm_Committee_is_quorum cd_Committee_is_quorum ct_Committee_is_quorum : Value} {f_Committee_is_third : Addr} {od_Committee_is_third an_Committee_is_third : Option Addr} {sl_Committee_is_third : Array (Option Value)} {oc_Committee_is_third kV_Committee_is_third dc_Committee_is_third pm_Committee_is_third cd_Committee_is_third ct_Committee_is_third : Value} {f_law : Addr} {od_law an_law : Option Addr} {sl_law : Array (Option Value)} {oc_law kV_law dc_law pm_law cd_law ct_law : Value}
    (c_MOST_MEMBERS : PySem.W.nsIn K mainGlobals "MOST_MEMBERS" = some (some (.int 16 t_MOST_MEMBERS)))
    (c_MOST_WEIGHT : PySem.W.nsIn K mainGlobals "MOST_WEIGHT" = some (some (.int 1000000000000 t_MOST_WEIGHT)))
    (n_len : PySem.W.nsIn K mainGlobals "len" = some none)
    (n_range : PySem.W.nsIn K mainGlobals "range" = some none)
    (n_int : PySem.W.nsIn K mainGlobals "int" = some none)
    (n_sum : PySem.W.nsIn K mainGlobals "sum" = some none)
    (n_enumerate : PySem.W.nsIn K mainGlobals "enumerate" = some none)
    (n_set : PySem.W.nsIn K mainGlobals "set" = some none)
    (n_tuple : PySem.W.nsIn K mainGlobals "tuple" = some none)
    (n_list : PySem.W.nsIn K mainGlobals "list" = some none)
    (g_Committee : PySem.W.nsIn K mainGlobals "Committee" = some (some (.ref C_Committee)))
    (a_law_cell : PySem.W.nsIn K mainGlobals "_law_cell" = some (some (.ref f_law_cell)))
    (l_law_cell : K.lookup f_law_cell = some ⟨oc_law_cell, od_law_cell, .func (PySem.W.fnOf "_law_cell" "_law_cell" (defArgs s_law_cell) (defBody s_law_cell) (defScope s_law_cell) .none kV_law_cell dc_law_cell pm_law_cell an_law_cell cd_law_cell ct_law_cell), sl_law_cell⟩)
    (q_law_cell : PySem.W.codeIn K cd_law_cell "_law_cell" = true)
    (k_law_cell : PySem.W.keepIn K (.ref f_law_cell) = true)
    (a_law_row : PySem.W.nsIn K mainGlobals "_law_row" = some (some (.ref f_law_row)))
    (l_law_row : K.lookup f_law_row = some ⟨oc_law_row, od_law_row, .func (PySem.W.fnOf "_law_row" "_law_row" (defArgs s_law_row) (defBody s_law_row) (defScope s_law_row) .none kV_law_row dc_law_row pm_law_row an_law_row cd_law_row ct_law_row), sl_law_row⟩)
    (q_law_row : PySem.W.codeIn K cd_law_row "_law_row" = true)
    (k_law_row : PySem.W.keepIn K (.ref f_law_row) = true)
    (a_law_weights : PySem.W.nsIn K mainGlobals "_law_weights" = some (some (.ref f_law_weights)))
    (l_law_weights : K.lookup f_law_weights = some ⟨oc_law_weights, od_law_weights, .func (PySem.W.fnOf "_law_weights" "_law_weights" (defArgs s_law_weights) (defBody s_law_weights) (defScope s_law_weights) .none kV_law_weights dc_law_weights pm_law_weights an_law_weights cd_law_weights ct_law_weights), sl_law_weights⟩)
    (q_law_weights : PySem.W.codeIn K cd_law_weights "_law_weights" = true)
    (k_law_weights : PySem.W.keepIn K (.ref f_law_weights) = true)
    (a_law_weight : PySem.W.nsIn K mainGlobals "_law_weight" = some (some (.ref f_law_weight)))
    (l_law_weight : K.lookup f_law_weight = some ⟨oc_law_weight, od_law_weight, .func (PySem.W.fnOf "_law_weight" "_law_weight" (defArgs s_law_weight) (defBody s_law_weight) (defScope s_law_weight) .none kV_law_weight dc_law_weight pm_law_weight an_law_weight cd_law_weight ct_law_weight), sl_law_weight⟩)
    (q_law_weight : PySem.W.codeIn K cd_law_weight "_law_weight" = true)
    (k_law_weight : PySem.W.keepIn K (.ref f_law_weight) = true)
    (a_first_wrong : PySem.W.nsIn K mainGlobals "_first_wrong" = some (some (.ref f_first_wrong)))
    (l_first_wrong : K.lookup f_first_wrong = some ⟨oc_first_wrong, od_first_wrong, .func (PySem.W.fnOf "_first_wrong" "_first_wrong" (defArgs s_first_wrong) (defBody s_first_wrong) (defScope s_first_wrong) .none kV_first_wrong dc_first_wrong pm_first_wrong an_first_wrong cd_first_wrong ct_first_wrong), sl_first_wrong⟩)
    (q_first_wrong : PySem.W.codeIn K cd_first_wrong "_first_wrong" = true)
    (k_first_wrong : PySem.W.keepIn K (.ref f_first_wrong) = true)
    (a_Committee_init : PySem.W.findIn K (.ref C_Committee) "__init__" = some (some (.ref f_Committee_init)))
    (i_Committee_init : PySem.W.isFn K (.ref f_Committee_init) = true)
    (l_Committee_init : K.lookup f_Committee_init = some ⟨oc_Committee_init, od_Committee_init, .func (PySem.W.fnOf "__init__" "Committee.__init__" (defArgs s_Committee_init) (defBody s_Committee_init) (defScope s_Committee_init) .none kV_Committee_init dc_Committee_init pm_Committee_init an_Committee_init cd_Committee_init ct_Committee_init), sl_Committee_init⟩)
    (q_Committee_init : PySem.W.codeIn K cd_Committee_init "Committee.__init__" = true)
    (k_Committee_init : PySem.W.keepIn K (.ref f_Committee_init) = true)
    (a_Committee_weight_of : PySem.W.findIn K (.ref C_Committee) "weight_of" = some (some (.ref f_Committee_weight_of)))
    (i_Committee_weight_of : PySem.W.isFn K (.ref f_Committee_weight_of) = true)
    (l_Committee_weight_of : K.lookup f_Committee_weight_of = some ⟨oc_Committee_weight_of, od_Committee_weight_of, .func (PySem.W.fnOf "weight_of" "Committee.weight_of" (defArgs s_Committee_weight_of) (defBody s_Committee_weight_of) (defScope s_Committee_weight_of) .none kV_Committee_weight_of dc_Committee_weight_of pm_Committee_weight_of an_Committee_weight_of cd_Committee_weight_of ct_Committee_weight_of), sl_Committee_weight_of⟩)
    (q_Committee_weight_of : PySem.W.codeIn K cd_Committee_weight_of "Committee.weight_of" = true)
    (k_Committee_weight_of : PySem.W.keepIn K (.ref f_Committee_weight_of) = true)
    (a_Committee_is_quorum : PySem.W.findIn K (.ref C_Committee) "is_quorum" = some (some (.ref f_Committee_is_quorum)))
    (i_Committee_is_quorum : PySem.W.isFn K (.ref f_Committee_is_quorum) = true)
    (l_Committee_is_quorum : K.lookup f_Committee_is_quorum = some ⟨oc_Committee_is_quorum, od_Committee_is_quorum, .func (PySem.W.fnOf "is_quorum" "Committee.is_quorum" (defArgs s_Committee_is_quorum) (defBody s_Committee_is_quorum) (defScope s_Committee_is_quorum) .none kV_Committee_is_quorum dc_Committee_is_quorum pm_Committee_is_quorum an_Committee_is_quorum cd_Committee_is_quorum ct_Committee_is_quorum), sl_Committee_is_quorum⟩)
    (q_Committee_is_quorum : PySem.W.codeIn K cd_Committee_is_quorum "Committee.is_quorum" = true)
    (k_Committee_is_quorum : PySem.W.keepIn K (.ref f_Committee_is_quorum) = true)
    (a_Committee_is_third : PySem.W.findIn K (.ref C_Committee) "is_third" = some (some (.ref f_Committee_is_third)))
    (i_Committee_is_third : PySem.W.isFn K (.ref f_Committee_is_third) = true)
    (l_Committee_is_third : K.lookup f_Committee_is_third = some ⟨oc_Committee_is_third, od_Committee_is_third, .func (PySem.W.fnOf "is_third" "Committee.is_third" (defArgs s_Committee_is_third) (defBody s_Committee_is_third) (defScope s_Committee_is_third) .none kV_Committee_is_third dc_Committee_is_third pm_Committee_is_third an_Committee_is_third cd_Committee_is_third ct_Committee_is_third), sl_Committee_is_third⟩)
    (q_Committee_is_third : PySem.W.codeIn K cd_Committee_is_third "Committee.is_third" = true)
    (k_Committee_is_third : PySem.W.keepIn K (.ref f_Committee_is_third) = true)
    (a_law : PySem.W.nsIn K mainGlobals "law" = some (some (.ref f_law)))
    (l_law : K.lookup f_law = some ⟨oc_law, od_law, .func (PySem.W.fnOf "law" "law" (defArgs s_law) (defBody s_law) (defScope s_law) .none kV_law dc_law pm_law an_law cd_law ct_law), sl_law⟩)
    (q_law : PySem.W.codeIn K cd_law "law" = true)
    (k_law : PySem.W.keepIn K (.ref f_law) = true)
    (pg_Committee : PySem.W.plainGet K C_Committee Str.empty = true)
    (hd_Committee : PySem.W.hasDictIn K C_Committee = true)
    (po_Committee : PySem.W.plainOver K C_Committee = true)
    (sa_Committee : PySem.W.findIn K (.ref C_Committee) "__setattr__" = some (some (.builtin "object.__setattr__")))
    (mk_Committee : PySem.W.makesIn K C_Committee = true)
    (kc_Committee : PySem.W.keepIn K (.ref C_Committee) = true)
    (no_Committee_weights : PySem.W.findIn K (.ref C_Committee) "weights" = some none)
    (no_Committee_size : PySem.W.findIn K (.ref C_Committee) "size" = some none)
    (no_Committee_total : PySem.W.findIn K (.ref C_Committee) "total" = some none) :
    ∃ fd : FuncData, (∀ (s : Shared) (v : Value), BindsTo s fd ⟨[v], []⟩ [("script", v)]) ∧ ∀ base : Heap, K.In base → base.Ns mainGlobals mg → FnOk l.prog w K mg base CX0 5 fa fd ["script"] (spLaw K) := by
  have e := hfa.symm.trans (PySem.W.mg_of X G a_law)
  cases e
  have T : Txt K mg ⟨C_Committee, f_law_cell, f_law_row, f_law_weights, f_law_weight, f_first_wrong, f_Committee_init, f_Committee_weight_of, f_Committee_is_quorum, f_Committee_is_third⟩ := {
    n_len := mg_no X G n_len
    n_range := mg_no X G n_range
    n_int := mg_no X G n_int
    n_sum := mg_no X G n_sum
    n_enumerate := mg_no X G n_enumerate
    n_set := mg_no X G n_set
    n_tuple := mg_no X G n_tuple
    n_list := mg_no X G n_list
    c_MOST_MEMBERS := ⟨_, PySem.W.mg_of X G c_MOST_MEMBERS⟩
    c_MOST_WEIGHT := ⟨_, PySem.W.mg_of X G c_MOST_WEIGHT⟩
    g_Committee := PySem.W.mg_of X G g_Committee
    cl_Committee := ⟨pg_Committee, hd_Committee, po_Committee, sa_Committee⟩
    kc_Committee := kc_Committee
    mk_Committee := mk_Committee
    a_Committee_weights := no_Committee_weights
    a_Committee_size := no_Committee_size
    a_Committee_total := no_Committee_total
    d_law_cell := ⟨def_mk l_law_cell q_law_cell k_law_cell (fun _ _ _ _ _ _ us hl => match us, hl with | [_, _], _ => rfl), PySem.W.mg_of X G a_law_cell, k_law_cell⟩
    d_law_row := ⟨def_mk l_law_row q_law_row k_law_row (fun _ _ _ _ _ _ us hl => match us, hl with | [_, _, _], _ => rfl), PySem.W.mg_of X G a_law_row, k_law_row⟩
    d_law_weights := ⟨def_mk l_law_weights q_law_weights k_law_weights (fun _ _ _ _ _ _ us hl => match us, hl with | [_, _], _ => rfl), PySem.W.mg_of X G a_law_weights, k_law_weights⟩
    d_law_weight := ⟨def_mk l_law_weight q_law_weight k_law_weight (fun _ _ _ _ _ _ us hl => match us, hl with | [_, _], _ => rfl), PySem.W.mg_of X G a_law_weight, k_law_weight⟩
    d_first_wrong := ⟨def_mk l_first_wrong q_first_wrong k_first_wrong (fun _ _ _ _ _ _ us hl => match us, hl with | [_], _ => rfl), PySem.W.mg_of X G a_first_wrong, k_first_wrong⟩
    d_Committee_init := ⟨def_mk l_Committee_init q_Committee_init k_Committee_init (fun _ _ _ _ _ _ us hl => match us, hl with | [_, _], _ => rfl), a_Committee_init, i_Committee_init, k_Committee_init⟩
    d_Committee_weight_of := ⟨def_mk l_Committee_weight_of q_Committee_weight_of k_Committee_weight_of (fun _ _ _ _ _ _ us hl => match us, hl with | [_, _], _ => rfl), a_Committee_weight_of, i_Committee_weight_of, k_Committee_weight_of⟩
    d_Committee_is_quorum := ⟨def_mk l_Committee_is_quorum q_Committee_is_quorum k_Committee_is_quorum (fun _ _ _ _ _ _ us hl => match us, hl with | [_, _], _ => rfl), a_Committee_is_quorum, i_Committee_is_quorum, k_Committee_is_quorum⟩
    d_Committee_is_third := ⟨def_mk l_Committee_is_third q_Committee_is_third k_Committee_is_third (fun _ _ _ _ _ _ us hl => match us, hl with | [_, _], _ => rfl), a_Committee_is_third, i_Committee_is_third, k_Committee_is_third⟩ }
  have F5 := fun_mk (st := s_law) l_law q_law k_law
  exact ⟨PySem.W.fnOf "law" "law" (defArgs s_law) (defBody s_law) (defScope s_law) .none kV_law dc_law pm_law an_law cd_law ct_law, fun s v => .of_eq rfl, fun base _ _ => ok_law F5 T⟩
theorem walk {l : PySem.W.OpenLaw} {q : Program} {loose : List Str} {XP : (Str → Option Value) → Heap → Prop} {YP : World → Heap → Prop} {d : DefRec} {K : Params → PySem.W.Frag} (hn : l.most = some 63) (hdf : d.params.defaults = [])
    (hY : ∀ (w : World) (h : Heap), YP w h → (K w.params).In h)
    (F : ∀ (w : World) (mg : Str → Option Value) (fa : Addr) (h : Heap), (K w.params).In h → h.Ns mainGlobals mg → mg d.name = some (.ref fa) →
      ∃ fd : FuncData, (∀ (s : Shared) (u : Value), BindsTo s fd ⟨[u], []⟩ [("script", u)]) ∧ ∀ base : Heap, (K w.params).In base → base.Ns mainGlobals mg → FnOk l.prog w (K w.params) mg base CX0 5 fa fd ["script"] (spLaw (K w.params))) :
    PySem.W.WalkO q loose XP YP l.row.toRowW d [] (fun f vs => PySem.call f vs) :=
  L2.walk_of (n := 63) (k := 5) (x := "script") (CX := fun _ => CX0) (sp := fun w => spLaw (K w.params)) hn (by decide) hdf ⟨rfl, by decide, by decide⟩ hY F (fun _ _ a ns hl _ hS => ⟨a, ns, rfl, hS, hl, fun _ => rfl⟩) fun _ _ _ _ _ z => z
end Toy
open PySem PySem.W PyProof.Rows
set_option maxRecDepth 100000 in
set_option maxHeartbeats 0 in
theorem PySem.Challenge.cw_tribunal_k01_two_quorums_meet_in_a_third_holds : PySem.Challenge.rw_tribunal_k01_two_quorums_meet_in_a_third.Holds := by
  w_on; o_law; k_head; (case hw => w_witness2)
  k_fill
  refine Toy.walk (l := PySem.Challenge.rw_tribunal_k01_two_quorums_meet_in_a_third) rfl rfl (fun w h Y => PySem.W.kIn_of Y) ?F
  case F =>
    intro w mg fa h KX G hmg
    refine' Toy.all_mk KX G hmg ?c_MOST_MEMBERS ?c_MOST_WEIGHT ?n_len ?n_range ?n_int ?n_sum ?n_enumerate ?n_set ?n_tuple ?n_list ?g_Committee ?a_law_cell ?l_law_cell ?q_law_cell ?k_law_cell ?a_law_row ?l_law_row ?q_law_row ?k_law_row ?a_law_weights ?l_law_weights ?q_law_weights ?k_law_weights ?a_law_weight ?l_law_weight ?q_law_weight ?k_law_weight ?a_first_wrong ?l_first_wrong ?q_first_wrong ?k_first_wrong ?a_Committee_init ?i_Committee_init ?l_Committee_init ?q_Committee_init ?k_Committee_init ?a_Committee_weight_of ?i_Committee_weight_of ?l_Committee_weight_of ?q_Committee_weight_of ?k_Committee_weight_of ?a_Committee_is_quorum ?i_Committee_is_quorum ?l_Committee_is_quorum ?q_Committee_is_quorum ?k_Committee_is_quorum ?a_Committee_is_third ?i_Committee_is_third ?l_Committee_is_third ?q_Committee_is_third ?k_Committee_is_third ?a_law ?l_law ?q_law ?k_law ?pg_Committee ?hd_Committee ?po_Committee ?sa_Committee ?mk_Committee ?kc_Committee ?no_Committee_weights ?no_Committee_size ?no_Committee_total
    (case c_MOST_MEMBERS => k_is)
    (case c_MOST_WEIGHT => k_is)
    (case n_len => k_is)
    (case n_range => k_is)
    (case n_int => k_is)
    (case n_sum => k_is)
    (case n_enumerate => k_is)
    (case n_set => k_is)
    (case n_tuple => k_is)
    (case n_list => k_is)
    (case g_Committee => k_is)
    (case a_law_cell => k_is)
    (case l_law_cell => k_is)
    (case q_law_cell => k_is)
    (case k_law_cell => k_is)
    (case a_law_row => k_is)
    (case l_law_row => k_is)
    (case q_law_row => k_is)
    (case k_law_row => k_is)
    (case a_law_weights => k_is)
    (case l_law_weights => k_is)
    (case q_law_weights => k_is)
    (case k_law_weights => k_is)
    (case a_law_weight => k_is)
    (case l_law_weight => k_is)
    (case q_law_weight => k_is)
    (case k_law_weight => k_is)
    (case a_first_wrong => k_is)
    (case l_first_wrong => k_is)
    (case q_first_wrong => k_is)
    (case k_first_wrong => k_is)
    (case a_Committee_init => k_is)
    (case i_Committee_init => k_is)
    (case l_Committee_init => k_is)
    (case q_Committee_init => k_is)
    (case k_Committee_init => k_is)
    (case a_Committee_weight_of => k_is)
    (case i_Committee_weight_of => k_is)
    (case l_Committee_weight_of => k_is)
    (case q_Committee_weight_of => k_is)
    (case k_Committee_weight_of => k_is)
    (case a_Committee_is_quorum => k_is)
    (case i_Committee_is_quorum => k_is)
    (case l_Committee_is_quorum => k_is)
    (case q_Committee_is_quorum => k_is)
    (case k_Committee_is_quorum => k_is)
    (case a_Committee_is_third => k_is)
    (case i_Committee_is_third => k_is)
    (case l_Committee_is_third => k_is)
    (case q_Committee_is_third => k_is)
    (case k_Committee_is_third => k_is)
    (case a_law => k_is)
    (case l_law => k_is)
    (case q_law => k_is)
    (case k_law => k_is)
    (case pg_Committee => k_is)
    (case hd_Committee => k_is)
    (case po_Committee => k_is)
    (case sa_Committee => k_is)
    (case mk_Committee => k_is)
    (case kc_Committee => k_is)
    (case no_Committee_weights => k_is)
    (case no_Committee_size => k_is)
    (case no_Committee_total => k_is)
