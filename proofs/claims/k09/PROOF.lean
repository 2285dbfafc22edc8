import PyProof.Rows.All
import Wide.All
import OpenK.AllK
import Wide.FinOn
import HandS.ForMost
import HandS.IsInst
import HandS.Evl
import HandS.ClsMeth
import HandS.MakeKwOnly
import HandS.TryOnly
import HandS.ExcOwn
import HandS.ExcIs
import HandS.ExcCtx
import HandS.HotCalls
import HandS.WordsExc
import HandS.Conv
import HandS.FStr
import HandS.RaiseMore
import HandS.Style
import HandS.Small
import HandS.More
import HandS.Star
import KE.GoesMore
import HandS.Walk
import PySem.Challenge.RW_lotsandties_k09_pieces_free_each_block_o
set_option Elab.async false
set_option linter.all false
set_option maxRecDepth 100000
set_option maxHeartbeats 4000000
namespace Rg
open PySem PySem.Spec PyProof.Rows L2
/-! ### heaps -/
theorem same_upd {H : Hp} {p : Addr} {o : HO} (h : H p = none) : Same H (upd H p o) := fun b x e => by
  rw [upd_ne (ne_of_none e h)]
  exact e
theorem upd_id {H : Hp} {p : Addr} {o : HO} (h : H p = some o) : upd H p o = H := by
  funext b
  by_cases e : b = p
  · rw [e, upd_same, h]
  · rw [upd_ne e]
theorem yes_ {σ : L2.St} {H : Hp} {A B : Hp → Prop} (h : A H) : tYes σ H fun b H3 => if b = true then A H3 else B H3 := by
  show if true = true then A H else B H
  rw [if_pos rfl]
  exact h
/-- what is free behind a store was free, and is another place -/
theorem un {H : Hp} {a b : Addr} {o : HO} (e : upd H a o b = none) : H b = none := by
  by_cases z : b = a
  · rw [z, upd_same] at e; cases e
  · rw [upd_ne z] at e; exact e
theorem unn {H : Hp} {a b : Addr} {o : HO} (e : upd H a o b = none) : b ≠ a := fun z => by
  rw [z, upd_same] at e; cases e
theorem unn' {H : Hp} {a b : Addr} {o : HO} (e : upd H a o b = none) : a ≠ b := fun z => unn e z.symm
theorem upd_comm {H : Hp} {p q : Addr} {o o' : HO} (h : p ≠ q) : upd (upd H p o) q o' = upd (upd H q o') p o := by
  funext b
  by_cases e : b = p
  · rw [e, upd_same, upd_ne h, upd_same]
  · by_cases e2 : b = q
    · rw [e2, upd_same, upd_ne h.symm, upd_same]
    · rw [upd_ne e2, upd_ne e, upd_ne e, upd_ne e2]
theorem upd_app {H : Hp} {p : Addr} {fs : List Int} {x : Int} : upd (upd H p (.lst (fs.map V.int))) p (.lst (fs.map V.int ++ [V.int x])) = upd H p (.lst ((fs ++ [x]).map V.int)) := by
  rw [upd_upd, List.map_append]
  rfl
/-- kept but for what stands at S -/
def Kp (S : List Addr) (H H' : Hp) : Prop := ∀ x o, H x = some o → x ∉ S → H' x = some o
theorem Kp.refl {S : List Addr} {H : Hp} : Kp S H H := fun _ _ e _ => e
theorem Kp.new {S : List Addr} {H H1 : Hp} {a : Addr} {o : HO} (k : Kp S H H1) (h : H1 a = none) : Kp S H (upd H1 a o) := fun x u e n => by
  rw [upd_ne (ne_of_none (k x u e n) h)]
  exact k x u e n
theorem Kp.own {S : List Addr} {H H1 : Hp} {a : Addr} {o : HO} (k : Kp S H H1) (h : a ∈ S) : Kp S H (upd H1 a o) := fun x u e n => by
  have z : x ≠ a := fun z => by rw [z] at n; exact n h
  rw [upd_ne z]
  exact k x u e n
theorem Kp.own1 {p : Addr} {H H1 : Hp} {o : HO} (k : Kp [p] H H1) : Kp [p] H (upd H1 p o) := k.own (by simp)
theorem Kp.trans {S : List Addr} {H H1 H2 : Hp} (a : Kp S H H1) (b : Kp S H1 H2) : Kp S H H2 := fun x o e n => b x o (a x o e n) n
theorem Kp.same {S : List Addr} {H H1 H2 : Hp} (a : Kp S H H1) (b : Same H1 H2) : Kp S H H2 := fun x o e n => b x o (a x o e n)
theorem Kp.of {S : List Addr} {H H1 : Hp} (b : Same H H1) : Kp S H H1 := fun x o e _ => b x o e
theorem Kp.mono {S S' : List Addr} {H H1 : Hp} (a : Kp S H H1) (h : ∀ x, x ∈ S → x ∈ S') : Kp S' H H1 := fun x o e n => a x o e fun z => n (h x z)
theorem Kp.free {S : List Addr} {H H1 : Hp} {x : Addr} (a : Kp S H H1) (n : x ∉ S) (h : H1 x = none) : H x = none := by
  cases q : H x with
  | none => rfl
  | some o => rw [a x o q n] at h; cases h
theorem Kp.at1 {p x : Addr} {H H' : Hp} {o : HO} (k : Kp [p] H H') (e : H x = some o) (n : x ≠ p) : H' x = some o := k x o e (by simp [n])
theorem Kp.ret {a : Addr} {S : List Addr} {H H' : Hp} {o : HO} (k : Kp (a :: S) H H') (h : H a = none) : Kp S H H' := fun x u e n => k x u e (by
  intro z
  rcases List.mem_cons.mp z with z | z
  · rw [z, h] at e; cases e
  · exact n z)
theorem own_f {H H' : Hp} {p : Addr} {o : HO} (h : upd H p o = H') : H' p = some o ∧ Kp [p] H H' ∧ ∀ x, H' x = none → H x = none ∧ x ≠ p := by
  subst h
  exact ⟨upd_same, Kp.refl.own1, fun x e => ⟨un e, unn e⟩⟩
theorem new_f {H H' : Hp} {a : Addr} {o : HO} (h : upd H a o = H') (n : H a = none) : H' a = some o ∧ Same H H' ∧ ∀ x, H' x = none → H x = none ∧ x ≠ a := by
  subst h
  exact ⟨upd_same, same_upd n, fun x e => ⟨un e, unn e⟩⟩
/-- a whole-number constant of the module -/
theorem pe_gc {X : Cx} {x : Str} {n : Int} {pos : Pos} (hm : ∃ t, X.mg x = some (.int n t)) (hg : Gl X x := by rfl) (hd : (x == ("__debug__" : Str)) = false := by decide) : PE X (.Name x pos) (tC (.int n)) :=
  let ⟨t, h⟩ := hm
  pe_glob hg h ⟨t, rfl⟩ hd
/-- a text constant of the module -/
theorem pe_gs {X : Cx} {x z : Str} {pos : Pos} (hm : ∃ t, X.mg x = some (.str z t)) (hg : Gl X x := by rfl) (hd : (x == ("__debug__" : Str)) = false := by decide) : PE X (.Name x pos) (tC (.str z)) :=
  let ⟨t, h⟩ := hm
  pe_glob hg h ⟨t, rfl⟩ hd
/-- C.f, C a class of the module, f a value of the class -/
theorem pe_cv {X : Cx} {x f : Str} {C : Addr} {mc : Value} {v : V} {p pos : Pos} (hm : X.mg x = some (.ref C)) (r : ClX.CRead X.K C mc) (k : ∃ u, ClX.CVal X.K C mc f v u) (hg : Gl X x := by rfl) (hd : (x == ("__debug__" : Str)) = false := by decide)
    (hb : attributeBase (.Name x p) f X.env (eval (.Name x p) X.env) = eval (.Name x p) X.env := by rfl) : PE X (.Attribute (.Name x p) f pos) (tC v) := by
  obtain ⟨u, k⟩ := k
  have := (ClX.pe_cval (pos := pos) (pe_glob (X := X) (x := x) (v := .ref C) (u := .ref C) (pos := p) hg hm rfl hd) hb)
  exact ⟨fun pins s σ H Q I h => this.run pins s σ H Q I ⟨C, mc, v, u, rfl, r, k, h⟩⟩
/-! ### the same rules with the written part named (inside a comprehension) -/
section
variable {X : Cx} {K : PySem.W.Frag}
def rListOf (K : PySem.W.Frag) : List V → Hp → VK → Prop := fun xs H Q => ∃ p ys, xs = [.ref p] ∧ (SqL K H p ys ∨ SqT K H p ys) ∧ ∀ l, H l = none → Q (.ref l) (upd H l (.lst ys))
theorem pe_listof {e : Expr} {te : TE} {p pos : Pos} (he : PE X e te) (hm : X.mg "list" = none) (hK : X.K = K := by rfl) (hg : Gl X "list" := by rfl) (hs : starEach [e] X.env = (false, eval e X.env) :: starEach [] X.env := by rfl) : PE X (.Call (.Name "list" p) [e] [] pos) (tCB (rListOf K) (tCons te tNil)) := by
  subst hK
  exact pe_callTy call_list_of hg hm (by decide +kernel) (pa_cons he pa_nil hs) (he := hs)
theorem pe_fldK {e : Expr} {f : Str} {pos : Pos} {ta : TE} (he : PE X e ta) (hb : attributeBase e f X.env (eval e X.env) = eval e X.env) (hK : X.K = K := by rfl) : PE X (.Attribute e f pos) (tFld K ta f) := by
  subst hK
  exact pe_fld he hb
theorem pe_ixK {a b : Expr} {pos : Pos} {ta tb : TE} (ha : PE X a ta) (hb : PE X b tb) (hs : PlainIx b) (hK : X.K = K := by rfl) : PE X (.Subscript a b pos) (tOp (rIxL K) ta tb) := by
  subst hK
  exact pe_ix ix_list ha hb hs
theorem pe_lenK {e : Expr} {te : TE} {p pos : Pos} (he : PE X e te) (hm : X.mg "len" = none) (hK : X.K = K := by rfl) (hg : Gl X "len" := by rfl) (hs : starEach [e] X.env = (false, eval e X.env) :: starEach [] X.env := by rfl) : PE X (.Call (.Name "len" p) [e] [] pos) (tCB (fun xs H Q => ∃ p ys, xs = [.ref p] ∧ (SqL K H p ys ∨ SqT K H p ys) ∧ Q (.int ys.length) H) (tCons te tNil)) := by
  subst hK
  exact pe_callB call_len_seq hg hm (by decide +kernel) (pa_cons he pa_nil hs) (he := hs)
end
/-! ### static methods, called off the class -/
structure SMet (K : PySem.W.Frag) (C : Addr) (mc : Value) (m : Str) (g : Addr) : Prop where
  ex : ∃ p, PySem.W.findCls K (.ref C) mc m = some (.get (.builtin "staticmethod.__get__") (.ref p) .none (.ref C)) ∧ (∃ rest, PySem.W.recIn K p "staticmethod" = some (.ref g :: rest)) ∧ PySem.W.keepIn K (.ref g) = true
/-- C.m(e, ..), C the class at C, m a static method -/
def tSMeth (sp : Sp) (dvs : List V) (E : XK) (t : TA) : TE := fun σ H Q => t σ H fun vs H2 => sp (vs ++ dvs) H2 Q E
section
variable {X : Cx} {CX : CXT} {k : Nat} {C g : Addr} {mc : Value} {sp : Sp} {E : XK} {x : Str} {e : Expr} {es : List Expr} {m : Str} {p pos apos : Pos} {t : TA} {pl : Sem Bool} {fd : FuncData} {ps : List Str} {ds : List Value} {dvs : List V}
theorem pe_smeth (hmx : X.mg x = some (.ref C)) (r : ClX.CRead X.K C mc) (c : SMet X.K C mc m g) (F : FnOk X.prog X.w X.K X.mg X.base CX k g fd ps sp) (hr : Room k X.A) (hb : Binds X.K fd ps ds) (hd : Vals dvs ds) (hx : Passes CX X E) (ha : PA X (e :: es) t) (hg : Gl X x := by rfl) (hdb : (x == ("__debug__" : Str)) = false := by decide)
    (hst : starEach (e :: es) X.env = (false, eval e X.env) :: starEach es X.env := by rfl) (hpl : (backTo pos (starEach es X.env)).any (·.1) = false := by rfl)
    (ht : eval (.Call (.Attribute (.Name x p) m apos) (e :: es) [] pos) X.env = (do
      let ov ← eval (.Name x p) X.env
      standAt apos.atName
      let (f, first) ← holding [ov] (getMethod ov m pl)
      callWith pos f first (backTo pos (starEach (e :: es) X.env)) (backToKw pos (keywordEach [] X.env))) := by rfl) :
    PE X (.Call (.Attribute (.Name x p) m apos) (e :: es) [] pos) (tSMeth sp dvs E t) := by
  obtain ⟨q, at_, ⟨rest, hp⟩, hk⟩ := c.ex
  refine ⟨fun pins s σ H Q I h => ?_⟩
  refine PySem.W.methodCall_KW (pl := pl) (ld_glob I hg hmx ?_ hdb) ht
  refine PySem.W.method_cls I.kIn r.ga (PySem.W.cls_bind I.kIn r.rd at_ ?_)
  refine wpAny_call (PySem.W.sm_get (s := { s with toks := s.toks + 1 }) I.kIn hp (PySem.W.handed_on rfl ?_))
  refine PySem.W.callWith_K (f := .ref g) (first := []) (h₀ := X.base) I.ok.mod.kin hk (thn (ha.run pos pins _ σ H _ (I.tok _) h) fun us s1 ⟨vs, H1, I1, r1, q1⟩ => ⟨I1.kIn, ?_⟩) hst hpl
  exact run_fn F hr hb hd hx I1 r1 q1
end
/-! ### errors -/
theorem exm_sub {K : PySem.W.Frag} {D S : Addr} (h1 : PySem.W.subIn K (.ref S) (.type "BaseException") = some true) (h2 : PySem.W.isClsIn K S = true) (h3 : PySem.W.typeIn K (.ref S) = some (.type "type")) (h4 : PySem.W.subIn K (.ref D) (.ref S) = some true) :
    PySem.W.exmOne K (.ref D) (.ref S) = some true := by
  have e1 : (PySem.W.subIn K (.ref S) (.type "BaseException") == some true) = true := by rw [h1] <;> rfl
  have e2 : ((PySem.W.clsIn K S).isSome && PySem.W.typeIn K (.ref S) == some (.type "type")) = true := by
    have h2' : (PySem.W.clsIn K S).isSome = true := h2
    rw [h2', h3] <;> rfl
  show (if (PySem.W.subIn K (.ref S) (.type "BaseException") == some true) = true then (if ((PySem.W.clsIn K S).isSome && PySem.W.typeIn K (.ref S) == some (.type "type")) = true then PySem.W.subIn K (.ref D) (.ref S) else none) else none) = some true
  rw [if_pos e1, if_pos e2]
  exact h4
theorem kit_sub {K : PySem.W.Frag} {D S : Addr} {b : Bool} (hne : D ≠ S) (h2 : PySem.W.isClsIn K S = true) (h3 : PySem.W.typeIn K (.ref S) = some (.type "type")) (h4 : PySem.W.subIn K (.ref D) (.ref S) = some b) :
    PySem.W.kitOne K (.ref D) (.ref S) = some b := by
  have e2 : ((PySem.W.clsIn K S).isSome && PySem.W.typeIn K (.ref S) == some (.type "type")) = true := by
    have h2' : (PySem.W.clsIn K S).isSome = true := h2
    rw [h2', h3] <;> rfl
  unfold PySem.W.kitOne
  rw [if_neg (by intro z; exact hne (Value.ref.inj (beq_iff_eq.mp z)))]
  show (if ((PySem.W.clsIn K S).isSome && PySem.W.typeIn K (.ref S) == some (.type "type")) = true then PySem.W.subIn K (.ref D) (.ref S) else none) = some b
  rw [if_pos e2]
  exact h4
/-- a suite that is come to by an error of the class at D alone (no fields of its own) -/
def tOnly (cls : Value) (d : Option Addr) (D : Addr) (t : TS) : TS := fun E σ H => cls = .ref D ∧ d = none ∧ t E σ H
theorem pss_only {X : Cx} {sts : List Stmt} {t : TS} {cls : Value} {d : Option Addr} {D : Addr} (h : cls = .ref D → d = none → PSs X sts t) : PSs X sts (tOnly cls d D t) :=
  ⟨fun pins s σ H E I hh => (h hh.1 hh.2.1).run pins s σ H E I hh.2.2⟩
theorem kit_self {K : PySem.W.Frag} {D : Addr} : PySem.W.kitOne K (.ref D) (.ref D) = some true := by
  unfold PySem.W.kitOne
  rw [if_pos (beq_self_eq_true _)]
theorem dec_iv (a d : Int) : decide (V.int a = V.int d) = decide (a = d) := by
  by_cases e : a = d
  · subst e; simp
  · rw [decide_eq_false e, decide_eq_false fun q => e (V.int.inj q)]
end Rg
namespace Rg
open PySem PySem.Spec PyProof.Rows L2
/-! ### an error that a suite holds, handed to a def of one's own -/
section
variable {prog : Program} {w : World} {A : Around} {E : Value → Shared → Prop} {s : Shared}
/-- a walk over a list comes to its end while an error is handled -/
theorem list_end_hot {it l x1 : Addr} {i : Nat} {items} {Q : Option Value → Shared → Prop} (hot : HotX.HotAt A x1 s.heap) (hit : s.heap.IsListIter it l i) (hl : s.heap.IsList l items) (hx : items[i]? = none)
    (hQ : ∀ h', Heap.ExtBut it s.heap h' → Q none { s with heap := h' }) : wpAny (model prog w) A (pyNext (.ref it)) Q E s := by
  obtain ⟨hh, o1, vs1, h1, d1, c1⟩ := hot; obtain ⟨o, ho, hc, hd⟩ := id hit
  obtain ⟨ol, hol, _, nl, hdl⟩ := hl; unfold pyNext
  have ni : it ≠ x1 := fun z => by
    rw [← z, ho] at h1
    cases h1
    rw [hd] at d1
    cases d1
    simp at c1
  refine wpAny_bind (wpAny_attempt (wpAny_callSpecial?_slot (name := Str.ofString "__next__") hit.typeIs slot_listiter_next (wpAny_call_entry slot_listiter_next hit.typeIs entry_listiter_next ?_ (args_listiter_next _))))
  refine (show wpAny _ _ (field (.ref it) 0 >>= _) _ _ s from ?_); refine wpAny_bind (wpAny_field ho hd (x := .ref l) rfl ?_)
  refine (show wpAny _ _ (if (Value.ref l == Value.none) = true then _ else _) _ _ s from ?_); rw [if_neg (show ¬ ((Value.ref l == Value.none) = true) from Bool.false_ne_true)]
  refine (show wpAny _ _ (field (.ref it) 1 >>= _) _ _ s from ?_); refine wpAny_bind (wpAny_field ho hd (x := .int i 0) rfl ?_)
  refine (show wpAny _ _ (seqItems? (.ref l) >>= _) _ _ s from ?_); refine wpAny_bind (wpAny_seqItems hol hdl ?_)
  simp only [Int.toNat_natCast, hx]; refine wpAny_bind (wpAny_rule (wpAny_bind (wpAny_setField ho hd (by simp) ?_)))
  refine (show wpAny _ _ (newExc (.type "StopIteration") [] >>= _) _ _ _ from ?_); refine wpAny_bind ?_
  simp only [newExc, newTuple]; refine wpAny_bind (wpAny_newObj_type ?_ (by size_fits))
  refine wpAny_bind (m := firstArgMember _ _) (wpAny_of_eq (a := Value.none) (by first | rfl | (simp only [firstArgMember]; rfl)) ?_); refine wpAny_newObj_type ?_ (by size_fits)
  have g1 : ∀ f : Obj → Obj, (s.heap.update it f).get? x1 = some o1 := fun f => by rw [Heap.get?_update_other _ _ ni]; exact h1
  refine HotX.raiseNew_hot ⟨hh, o1, vs1, Heap.get?_push_of_some _ (Heap.get?_push_of_some _ (g1 _)), d1, c1⟩ (Nat.ne_of_lt (Heap.lt_size (Heap.get?_push_of_some _ (g1 _)))) (Heap.get?_push_size _ rfl) rfl (by first | (simp; done) | (simp; omega) | (simp only [Array.size_append]; simp; omega)) ?_
  refine wpAny_bind (wpAny_isInstance (T := "StopIteration") (b := true) ⟨_, Heap.get?_update_self _ (Heap.get?_push_size _ rfl) rfl, rfl⟩ isSubtype_stop ?_); refine wpAny_pure (hQ _ fun b o' nb e => ?_)
  have e2 : ∀ f oo, ((s.heap.update it f).push oo).get? b = some o' := fun f oo => (Heap.SameBut.update ..).extBut.push _ b o' nb e
  rw [Heap.get?_update_other _ _ (Nat.ne_of_gt (Heap.lt_size (e2 _ _)))]; exact Heap.get?_push_of_some _ (e2 _ _)
end
/-- the turns of a walk over a list while an error is handled -/
theorem turn_listH {P : Program} {w : World} {K : PySem.W.Frag} {tg : Expr} (a it : Addr) : L2H.TurnH P w K tg (Itl K a) [it] it (fun i h => h.IsListIter it a i) where
  mem := by simp
  obj := fun i h st b hb => (turn_list (P := P) (w := w) (K := K) (tg := tg) a it).obj i h st b hb
  keep := fun i h h' st k => (turn_list (P := P) (w := w) (K := K) (tg := tg) a it).keep i h h' st k
  item := by
    intro X hP hw hK hc i pins s σ H E I hf st hg; subst hP hw hK
    obtain ⟨xs, x, hq, hx⟩ := hg; obtain ⟨its, rv, p, hz⟩ := I.list hq
    obtain ⟨u, hu, ru⟩ := rv.get hx; obtain ⟨f0, f1, f2, f3, f4, f5⟩ := hf it (by simp)
    refine wpAny_pyNext_list_item st p.isList (x := u) (by simpa using hu) fun h' st' sb => ?_
    have I1 : Inv X pins σ H { s with heap := h' } := I.turned (t' := s.toks) (fun b o hb e => (sb.2 b hb).trans e) f0 f1 f3 f4 f5
    obtain ⟨o, e, c, d⟩ := id st'
    exact ⟨u, rfl, go_of (s := { s with heap := h' }) e c d (by decide) ⟨x, H, I1, ru, ⟨rfl, fun ys hy => by rw [I.list_inj hy hq]; exact hx⟩, st', fun b hb => (hf b hb).1⟩⟩
  done := by
    intro X hP hw hK hc i pins s σ H E I hf st hg; subst hP hw hK
    obtain ⟨xs, hq, hx⟩ := hg; obtain ⟨its, rv, p, hz⟩ := I.list hq
    obtain ⟨f0, f1, f2, f3, f4, f5⟩ := hf it (by simp); obtain ⟨x1, hot⟩ := hc.at I
    have hl := rv.length
    exact list_end_hot hot st p.isList (by simp; omega) fun h' eb => ⟨rfl, I.turned (t' := s.toks) (fun b o hb e => eb b o hb e) f0 f1 f3 f4 f5⟩
  self := fun _ _ _ _ _ st h => wpAny_pyIter_listiter st h
theorem pi_listH {X : Cx} {tg l : Expr} {tl : TE} (hl : PE X l tl) : L2H.PIH X tg l (iList X.K tl) := by
  refine ⟨fun pins s σ H R I h => thn (hl.run pins s σ H _ I h) fun v s1 ⟨x, H1, I1, r1, q1⟩ => ?_⟩
  obtain ⟨a, e, ⟨xs, hq⟩, q⟩ := q1; subst e; cases r1
  obtain ⟨its, rv, p, hz⟩ := I1.list hq; refine wpAny_pyIter_list p.isList ?_
  refine ⟨s1.heap.objs.size, [s1.heap.objs.size], _, _, H1, rfl, I1.kept (t' := s1.toks) (fun b o e => Heap.get?_push_of_some _ e), turn_listH a _, ⟨_, Heap.get?_push_size _ rfl, rfl, rfl⟩, fun b hb => ?_, q⟩
  have e : b = s1.heap.objs.size := by simpa using hb
  subst e; exact I1.fpOk (Nat.le_refl _) (I1.hok.fresh (Nat.le_refl _))
/-- a def that is called with the error that a suite holds (of the class at D) and lets nothing out -/
structure FnE (P : Program) (w : World) (K : PySem.W.Frag) (mg : Str → Option Value) (base : Heap) (k : Nat) (f : Addr) (fd : FuncData) (ps : List Str) (D : Addr) (sp : Addr → Sp) : Prop where
  len : ∀ a vs H Q E, sp a vs H Q E → vs.length = ps.length
  run : ∀ (A : Around) (outer : List Env) (s : Shared) (H : Hp) (args : Args) (us : List Value) (vs : List V) (Q : VK) (E : XK) (p : Addr × Obj), L2H.RoomH k A → L2H.Hot1 A p → Zc (.ref D) none p.2 → L2H.PinOk outer H s p → Env0 P w K mg base A outer s H →
    BindsTo s fd args (ps.zip us) → Vals vs us → sp p.1 vs H Q E → codeAny (model P w) A (.call (.ref f) args) (CR CX0 outer P w H s Q E) s
section
variable {P : Program} {w : World} {K : PySem.W.Frag} {mg : Str → Option Value} {base : Heap}
theorem _root_.L2.Fun.okE {x qual : Str} {st : Stmt} {f D : Addr} {fd : FuncData} {N ps : List Str} {k : Nat} {sp : Addr → Sp} (F : Fun K x qual st f fd) (S : FnScope N ps (defScope st)) (len : ∀ a vs H Q E, sp a vs H Q E → vs.length = ps.length)
    (hbody : ∀ (cdv : Value) (A : Around) (outer : List Env) (s : Shared) (H : Hp) (vs : List V) (Q : VK) (E : XK) (p : Addr × Obj), L2H.Hot1 A p → Zc (.ref D) none p.2 → L2H.RoomH k (A.deeper (envOfC qual (defScope st) s.heap.objs.size f cdv)) → sp p.1 vs H Q E →
      ∃ t, PSs (L2H.cxH CX0 P w K mg base N qual (defScope st) f cdv A outer s H E p) (defBody st) t ∧ t { nx := fun _ H' => Q .non H', rt := Q } (L2.start N vs) H) : FnE P w K mg base (k + 1) f fd ps D sp := by
  obtain ⟨oc, od, kV, doc, pm, an, cdv, ct, osl, rfl, lk, hcd⟩ := F.ex
  refine ⟨len, fun A outer s H args us vs Q E p hr hot hz hpin e0 hb r hsp => ?_⟩
  have hl := len _ _ _ _ _ hsp; have KX : K.In s.heap := e0.mod.kin.keeps fun b o e => (e0.bs b o e).1
  have lim : s.heap.NoLimit := e0.mod.nolimit.keeps fun b o e => (e0.bs b o e).1; have bb := hb
  have hkind : ∀ y ∈ ps.zip us, (defScope st).names.lookup y.1 = some .local ∨ ((defScope st).names.lookup y.1 = some .cell ∧ ((cellsFrom (s.heap.objs.size + 1) (defScope st).names []).lookup y.1).isSome = true) := fun ⟨n, v⟩ hy =>
    (S.par n (List.of_mem_zip hy).1).elim .inl fun q => .inr ⟨q, PySem.W.cellsFrom_some _ _ _ (.inl q)⟩
  refine codeAny_call_function hr.depth (KX _ _ lk) rfl S.co S.gen rfl (PySem.W.codeRec_of KX hcd) (bb _ _ _ _ (wpAny_newFunctionEnv_cells S.kind hkind fun env he s1 x => ?_))
  subst he; refine ⟨lim.keeps x.toInCall.keep, codeAny_func ?_⟩
  obtain ⟨t, ht, hq⟩ := hbody cdv A outer s H vs Q E p hot hz (hr.deeper _) hsp
  have I := L2H.inv_startH (CX := CX0) (E := E) S hpin e0 hl r x
  refine wpAny_mono (ht.run [] s1 (L2.start N vs) H _ I hq) (fun fl s' hs => ?_) fun _ _ hs => hs
  cases fl with
  | ret u => exact hs.elim fun v ⟨σ', H', J, rv, q⟩ => ⟨v, H', J.os, J.bare, J.base, J.hok, rv, q⟩
  | next => exact hs.elim fun σ' ⟨H', J, q⟩ => ⟨V.non, H', J.os, J.bare, J.base, J.hok, rfl, q⟩
  | brk => exact hs.elim fun _ ⟨_, _, q⟩ => q.elim
  | cont => exact hs.elim fun _ ⟨_, _, q⟩ => q.elim
end
section
variable {X : Cx} {k : Nat} {f D : Addr} {fd : FuncData} {ps : List Str} {sp : Addr → Sp} {x : Str} {q pos : Pos} {e : Expr} {es : List Expr} {t : TA}
/-- f(e, ..), f a def for the error at a -/
def tCallE (sp : Addr → Sp) (a : Addr) (t : TA) : TE := fun σ H Q => t σ H fun vs H1 => sp a vs H1 Q E0
theorem pe_callE (F : FnE X.prog X.w X.K X.mg X.base k f fd ps D sp) (hr : L2H.RoomH k X.A) {p : Addr × Obj} (hot : L2H.Hot1 X.A p) (hz : Zc (.ref D) none p.2) (hp : p ∈ X.pn) (hg : Gl X x) (hm : X.mg x = some (.ref f)) (hk : PySem.W.keepIn X.K (.ref f) = true) (hb : Binds X.K fd ps [])
    (ha : PA X (e :: es) t) (hdb : (x == ("__debug__" : Str)) = false := by decide) (he : starEach (e :: es) X.env = (false, eval e X.env) :: starEach es X.env := by rfl) (hpl : (backTo pos (starEach es X.env)).any (·.1) = false := by rfl) :
    PE X (.Call (.Name x q) (e :: es) [] pos) (tCallE sp p.1 t) := by
  refine ⟨fun pins s σ H Q I h => wpAny_Call_Name_kw (ld_glob I hg hm ?_ hdb)⟩
  refine PySem.W.callWith_K (h₀ := X.base) I.ok.mod.kin hk (thn (ha.run pos pins s σ H _ I h) fun us s1 ⟨vs, H1, I1, r, q⟩ => ⟨I1.kIn, ?_⟩) he hpl
  have hl : us.length = ps.length := by rw [← r.length]; exact F.len _ _ _ _ _ q
  have b := hb s1 us I1.kIn (by rw [List.append_nil]; exact hl)
  rw [List.append_nil] at b
  have P1 := I1.pin p (List.mem_append_left _ hp)
  have hpin : L2H.PinOk X.stack H1 s1 p := ⟨P1.1, P1.2.1, fun hm' => (List.mem_cons.mp (I1.stkSub p.1 hm')).elim P1.2.2.1 P1.2.2.2.1, P1.2.2.2.2⟩
  refine wpAny_call (codeAny_mono (F.run X.A X.stack s1 H1 ⟨us, []⟩ us vs Q E0 p hr hot hz hpin I1.env0 b r q) fun r' s' hq => ?_)
  cases r' with
  | error e => exact False.elim hq
  | ok fl =>
    cases fl with
    | ret u => exact I1.after hq
    | _ => exact False.elim hq
/-- isinstance of the error that is handled, in whatever def it is asked -/
theorem call_isP {a D : Addr} {oe : Obj} (C : ExcC X.K D) (hz : Zc (.ref D) none oe) (hf : ∃ vs, oe.data = .fields vs) (hp : (a, oe) ∈ X.pn) : CallR X (.builtin "isinstance") (rIsE X.K D a) := by
  rintro pins s σ H xs us Q I r ⟨c, cv, b, rfl, hcv, e, q⟩
  obtain ⟨vs, hv⟩ := hf
  cases r with
  | cons rx rr =>
    cases rr with
    | cons rt rr =>
      cases rr; cases rx
      have ec := hcv _ rt
      subst ec
      have hget := (I.pin (a, oe) (List.mem_append_left _ hp)).1
      have J : PySem.W.InstAt s.heap a oe D none := by
        obtain ⟨oc, od, oda, osl⟩ := oe
        obtain ⟨h1, h2⟩ := hz
        subst hv
        cases h1
        cases h2
        exact ⟨hget, rfl, rfl, trivial⟩
      exact PySem.W.kia_one (PySem.W.handS_kitx_exc C.hg C.hk C.hs C.hd C.ha C.hn C.ht C.hm) I.kIn J e (fun z => nomatch z) fun tk => ⟨.bl b, H, I.kept (t' := tk) fun _ _ z => z, rfl, q⟩
end
/-! ### defs that raise: the error's context is told to be None -/
section
variable {P : Program} {w : World} {K : PySem.W.Frag} {mg : Str → Option Value} {base : Heap}
theorem _root_.L2.Fun.okN {x qual : Str} {st : Stmt} {f : Addr} {fd : FuncData} {N ps : List Str} {k : Nat} {sp : Sp} (F : Fun K x qual st f fd) (S : FnScope N ps (defScope st)) (len : ∀ vs H Q E, sp vs H Q E → vs.length = ps.length)
    (hbody : ∀ (cdv : Value) (A : Around) (outer : List Env) (s : Shared) (H : Hp) (vs : List V) (Q : VK) (E : XK), Room k (A.deeper (envOfC qual (defScope st) s.heap.objs.size f cdv)) → sp vs H Q E →
      ∃ t, PSs (cxOf (L2N.CX P w) P w K mg base N qual (defScope st) f cdv A outer s H E) (defBody st) t ∧ t { nx := fun _ H' => Q .non H', rt := Q } (L2.start N vs) H) : FnOk P w K mg base (L2N.CX P w) (k + 1) f fd ps sp := by
  obtain ⟨oc, od, kV, doc, pm, an, cdv, ct, osl, rfl, lk, hcd⟩ := F.ex
  exact fn_of lk hcd S len fun A outer s H vs Q E hr hsp => hbody cdv A outer s H vs Q E hr hsp
theorem takes0N {X : Cx} : L2N.Takes X (fun _ _ _ _ => False) := fun _ _ x => by
  obtain ⟨_, _, _, _, _, _, _, _, _, _, _, _, _, _, _, _, z⟩ := x
  cases z
end
section
variable {X : Cx} {C : Addr} {bmB : List Value} {B newId initId : String}
/-- X(e) -/
theorem pmk_own1N {x : Str} {e : Expr} {ta : TE} {p pos : Pos} (F : ExcBaseFacts B newId initId bmB) (q : PySem.W.excIn X.K C bmB newId = true) (gC : X.mg x = some (.ref C)) (kC : PySem.W.keepIn X.K (.ref C) = true) (r : Raises X (.ref C)) (hg : Gl X x) (he : PE X e ta)
    (hs : starEach [e] X.env = (false, eval e X.env) :: starEach [] X.env := by rfl) (hdb : (x == ("__debug__" : Str)) = false := by decide) : L2N.PMk X (.Call (.Name x p) [e] [] pos) (fun σ H Q => ta σ H fun _ H1 => Q (.ref C) none H1) := by
  intro pins s σ H Q I h; refine wpAny_Call_Name_kw (ld_glob I hg gC ?_ hdb)
  refine PySem.W.callWith_K (h₀ := X.base) I.ok.mod.kin kC ?_ hs (by rfl); rw [hs]
  refine (show wpAny _ _ (spliced ((false, eval e X.env) :: backTo pos (starEach [] X.env))) _ _ s from ?_)
  refine Calls.spliced_cons (thn (he.run pins s σ H _ I h) fun u s1 ⟨v, H1, I1, r1, q1⟩ => Calls.spliced_nil ⟨I1.kIn, ?_⟩)
  refine (show wpAny _ _ (call (.ref C) [u]) _ _ _ from ?_)
  obtain ⟨bm, N, nm, qn, bs, hdct, sn, sub, ab, col, dd, k0, k1, k2, k3, k5, mN, hC, hN, hni, T⟩ := exc_obj I1.kIn q
  exact wpAny_call_exc_subT F T hC hN hni (fun h' e' hm => L2N.mk_of I1 hm r q1 (I1.hok.gone hm.new)) (by show 1 ≤ sizeLine; rw [sizeLine_eq]; omega)
end
/-! ### which class an error is of -/
theorem kit_subT {K : PySem.W.Frag} {D S : Addr} (h2 : PySem.W.isClsIn K S = true) (h3 : PySem.W.typeIn K (.ref S) = some (.type "type")) (h4 : PySem.W.subIn K (.ref D) (.ref S) = some true) : PySem.W.kitOne K (.ref D) (.ref S) = some true := by
  by_cases e : D = S
  · subst e
    exact kit_self
  · exact kit_sub e h2 h3 h4
theorem kit_blt {K : PySem.W.Frag} {D : Addr} {b : String} {r : Bool} (hm : PySem.W.kitMeta b = true) (h : PySem.W.subIn K (.ref D) (.type b) = some r) : PySem.W.kitOne K (.ref D) (.type b) = some r := by
  unfold PySem.W.kitOne
  rw [if_neg (by intro z; exact nomatch (beq_iff_eq.mp z))]
  unfold PySem.W.kitCls
  simpa [hm] using h
theorem takeB {α : Type} {l : List α} {i : Nat} {x : α} (h : l[i]? = some x) : l.take (i + 1) = l.take i ++ [x] := by
  rw [List.take_succ, h]
  rfl
/-! ### unpacking a tuple while an error is handled -/
section
variable {prog : Program} {w : World} {A : Around} {E : Value → Shared → Prop} {s : Shared}
theorem tup_end_hot {it l x1 : Addr} {i : Nat} {items} {Q : Option Value → Shared → Prop} (hot : HotX.HotAt A x1 s.heap) (hit : IsTupIter s.heap it l i) (hl : IsTup s.heap l items) (hx : items[i]? = none)
    (hQ : ∀ h', Heap.ExtBut it s.heap h' → Q none { s with heap := h' }) : wpAny (model prog w) A (pyNext (.ref it)) Q E s := by
  obtain ⟨hh, o1, vs1, h1, d1, c1⟩ := hot; obtain ⟨o, ho, hc, hd⟩ := id hit
  obtain ⟨ol, hol, _, nl, hdl⟩ := hl; unfold pyNext
  have ni : it ≠ x1 := fun z => by
    rw [← z, ho] at h1
    cases h1
    rw [hd] at d1
    cases d1
    simp at c1
  refine wpAny_bind (wpAny_attempt (wpAny_callSpecial?_slot (name := Str.ofString "__next__") hit.typeIs slot_tupleiter_next (wpAny_call_entry slot_tupleiter_next hit.typeIs entry_tupleiter_next ?_ (args_tupleiter_next _))))
  refine (show wpAny _ _ (field (.ref it) 0 >>= _) _ _ s from ?_); refine wpAny_bind (wpAny_field ho hd (x := .ref l) rfl ?_)
  refine (show wpAny _ _ (if (Value.ref l == Value.none) = true then _ else _) _ _ s from ?_); rw [if_neg (show ¬ ((Value.ref l == Value.none) = true) from Bool.false_ne_true)]
  refine (show wpAny _ _ (field (.ref it) 1 >>= _) _ _ s from ?_); refine wpAny_bind (wpAny_field ho hd (x := .int i 0) rfl ?_)
  refine (show wpAny _ _ (seqItems? (.ref l) >>= _) _ _ s from ?_); refine wpAny_bind (wpAny_seqItems hol hdl ?_)
  simp only [Int.toNat_natCast, hx]; refine wpAny_bind (wpAny_rule (wpAny_bind (wpAny_setField ho hd (by simp) ?_)))
  refine (show wpAny _ _ (newExc (.type "StopIteration") [] >>= _) _ _ _ from ?_); refine wpAny_bind ?_
  simp only [newExc, newTuple]; refine wpAny_bind (wpAny_newObj_type ?_ (by size_fits))
  refine wpAny_bind (m := firstArgMember _ _) (wpAny_of_eq (a := Value.none) (by first | rfl | (simp only [firstArgMember]; rfl)) ?_); refine wpAny_newObj_type ?_ (by size_fits)
  have g1 : ∀ f : Obj → Obj, (s.heap.update it f).get? x1 = some o1 := fun f => by rw [Heap.get?_update_other _ _ ni]; exact h1
  refine HotX.raiseNew_hot ⟨hh, o1, vs1, Heap.get?_push_of_some _ (Heap.get?_push_of_some _ (g1 _)), d1, c1⟩ (Nat.ne_of_lt (Heap.lt_size (Heap.get?_push_of_some _ (g1 _)))) (Heap.get?_push_size _ rfl) rfl (by first | (simp; done) | (simp; omega) | (simp only [Array.size_append]; simp; omega)) ?_
  refine wpAny_bind (wpAny_isInstance (T := "StopIteration") (b := true) ⟨_, Heap.get?_update_self _ (Heap.get?_push_size _ rfl) rfl, rfl⟩ isSubtype_stop ?_); refine wpAny_pure (hQ _ fun b o' nb e => ?_)
  have e2 : ∀ f oo, ((s.heap.update it f).push oo).get? b = some o' := fun f oo => (Heap.SameBut.update ..).extBut.push _ b o' nb e
  rw [Heap.get?_update_other _ _ (Nat.ne_of_gt (Heap.lt_size (e2 _ _)))]; exact Heap.get?_push_of_some _ (e2 _ _)
theorem unpack_hot {t x1 : Addr} {items : Array Value} {Q : List Value → Shared → Prop} (hot : HotX.HotAt A x1 s.heap) (ht : IsTup s.heap t items)
    (hQ : ∀ h', Heap.ExtBut s.heap.objs.size s.heap h' → Q items.toList { s with heap := h' }) : wpAny (model prog w) A (unpackItems (.ref t) items.size none) Q E s := by
  have hlt : t ≠ s.heap.objs.size := ht.elim fun o ho => Nat.ne_of_lt (Heap.lt_size ho.1)
  have hx : x1 ≠ s.heap.objs.size := hot.2.elim fun o ho => ho.elim fun _ h => Nat.ne_of_lt (Heap.lt_size h.1)
  unfold unpackItems notIterableAtAll; refine wpAny_bind (wpAny_bind (wpAny_specialOf ht.typeIs slot_tuple_iter.lookup (wpAny_pure ?_)))
  simp only [Bool.false_eq_true, if_false]; refine wpAny_bind (wpAny_holding (iter_tuple ht (wpAny_bind (wpAny_holding (draw_tuple hlt items.size 0 _ _ ⟨_, Heap.get?_push_size _ rfl, rfl, rfl⟩ (ht.push _) (by omega) fun h₁ hit₁ hs₁ => ?_)))))
  have hall : List.take items.size (List.drop 0 items.toList) = items.toList := by rw [List.drop_zero]; exact List.take_of_length_le (by simp)
  rw [hall, if_neg (by simp)]
  have ht₁ := (ht.push { cls := .type "tuple_iterator", data := .fields #[.ref t, .int 0 0] }).extBut hs₁.extBut hlt
  have hot₁ : HotX.HotAt A x1 h₁ := hot.2.elim fun o ho => ho.elim fun vv h => ⟨hot.1, o, vv, hs₁.extBut x1 o hx (Heap.get?_push_of_some _ h.1), h.2.1, h.2.2⟩
  refine wpAny_bind (wpAny_holding (tup_end_hot hot₁ hit₁ ht₁ (by simp) fun h₂ he₂ => ?_))
  simp only [Option.isSome_none, Bool.false_eq_true, if_false]; exact wpAny_pure (hQ h₂ fun b o hb e => he₂ b o hb (hs₁.extBut b o hb (Heap.get?_push_of_some _ e)))
end
/-- (a, b, ..) = a tuple, while an error is handled -/
theorem pg_tupH {X : Cx} {pos : Pos} {es : List Expr} {k : Nat} {t : TGs} {n : Nat} (hc : L2H.HotC X) (h : PGs X es t) (hn : (assignEach es X.env).length = n := by rfl) (hst : (assignEach es X.env).findIdx? (·.1) = none := by rfl) : PG X (.Tuple es k pos) (gTup X.K n t) := by
  refine ⟨fun pins s σ H v u Q I r hw => ?_⟩
  obtain ⟨a, xs, e1, hq, hl, hw⟩ := hw; subst e1; cases r
  obtain ⟨its, rv, ht, hz⟩ := I.tuple hq; obtain ⟨x1, hot⟩ := hc.at I
  rw [assign_Tuple]; refine wpAny_bind (wpAny_standAt ?_); unfold unpack
  rw [show (assignEach es X.env).length = its.toArray.size by simp [hn, ← hl, rv.length], hst]
  refine wpAny_bind (wpAny_holding (unpack_hot hot ht fun h' hx => ?_))
  have I1 : Inv X pins σ H { s with heap := h' } := I.kept (t' := s.toks) fun b o e => hx b o (Nat.ne_of_lt (Heap.lt_size e)) e
  exact h.run pins _ σ H xs _ Q I1 (by simpa using rv) hw
/-- a def that may raise, called where it does not -/
theorem passLN {X : Cx} : Passes (L2N.CX X.prog X.w) X E0 := fun _ _ _ _ _ _ _ h => by
  obtain ⟨_, _, _, _, _, _, _, _, _, _, _, _, z⟩ := h
  exact False.elim z
end Rg
namespace K09
open PySem PySem.Spec PyProof.Rows L2 Rg
def top (i : Nat) : Stmt := PySem.Challenge.pw_lotsandties_k09_pieces_free_each_block_o.main.body.getD i (.Pass ⟨0, 0, 0, 0⟩)
abbrev s_node_cell : Stmt := top 39
abbrev s_put_node_cell : Stmt := top 40
abbrev s_place_block : Stmt := top 44
abbrev s_put_place : Stmt := top 45
abbrev s_drop_block_of_places : Stmt := top 46
abbrev s_drop_place : Stmt := top 47
abbrev s_held_blocks : Stmt := top 48
abbrev s_taken_behind : Stmt := top 51
abbrev s_unfinished : Stmt := top 52
abbrev s_put_size : Stmt := top 53
abbrev s_set_size : Stmt := top 54
abbrev s_free_piece : Stmt := top 55
abbrev s_read_word : Stmt := top 59
abbrev s_read_words : Stmt := top 60
abbrev s_file_words : Stmt := top 61
abbrev s_Lfeed : Stmt := top 63
abbrev s_Lpick : Stmt := top 64
abbrev s_Lsame : Stmt := top 65
abbrev s_Lstate : Stmt := top 66
abbrev s_Lerror : Stmt := top 67
abbrev s_Lbase : Stmt := top 68
abbrev s_Lclaim : Stmt := top 69
abbrev s_Lheld : Stmt := top 70
abbrev s_Lplace : Stmt := top 71
abbrev s_Lput : Stmt := top 72
abbrev s_Lfile : Stmt := top 73
abbrev s_Lspare : Stmt := top 74
abbrev s_Lgive : Stmt := top 75
abbrev s_Lsettle : Stmt := top 76
abbrev s_Ldrop : Stmt := top 77
abbrev s_Lwords : Stmt := top 78
abbrev s_Lclear : Stmt := top 79
abbrev s_Lpiece : Stmt := top 80
abbrev s_Lunfinished : Stmt := top 81
abbrev s_Lblocks : Stmt := top 82
abbrev s_Lkept : Stmt := top 83
abbrev s_Lmodel : Stmt := top 84
abbrev s_Lcall : Stmt := top 85
abbrev s_Lrun : Stmt := top 86
abbrev s_Llooks : Stmt := top 87
abbrev s_Ldeeds : Stmt := top 88
abbrev s_law : Stmt := top 89
abbrev s_Plan___init__ : Stmt := inClass (top 37) 6
abbrev s_Plan_map_place : Stmt := inClass (top 37) 9
abbrev s_Plan_node_block : Stmt := inClass (top 37) 10
abbrev s_Plan_data_blocks : Stmt := inClass (top 37) 11
abbrev s_Image___init__ : Stmt := inClass (top 57) 0
abbrev s_Image_begin : Stmt := inClass (top 57) 3
abbrev s_Image_settle : Stmt := inClass (top 57) 4
abbrev s_Image_twin : Stmt := inClass (top 57) 5
abbrev s_Image_give : Stmt := inClass (top 57) 7
abbrev s_Image__put_block : Stmt := inClass (top 57) 8
abbrev s_Image_free_blocks : Stmt := inClass (top 57) 9
abbrev s_Image_kind : Stmt := inClass (top 57) 10
abbrev s_Image_of_cells : Stmt := inClass (top 57) 2
theorem sc_node_cell : FnScope ["image", "n", "field"] ["image", "n", "field"] (defScope s_node_cell) := ⟨rfl, rfl, rfl, by decide +kernel, rfl, by decide +kernel, by decide +kernel⟩
theorem sc_put_node_cell : FnScope ["image", "n", "field", "value"] ["image", "n", "field", "value"] (defScope s_put_node_cell) := ⟨rfl, rfl, rfl, by decide +kernel, rfl, by decide +kernel, by decide +kernel⟩
theorem sc_place_block : FnScope ["image", "n", "o", "block"] ["image", "n", "o"] (defScope s_place_block) := ⟨rfl, rfl, rfl, by decide +kernel, rfl, by decide +kernel, by decide +kernel⟩
theorem sc_put_place : FnScope ["image", "n", "o", "x"] ["image", "n", "o", "x"] (defScope s_put_place) := ⟨rfl, rfl, rfl, by decide +kernel, rfl, by decide +kernel, by decide +kernel⟩
theorem sc_drop_block_of_places : FnScope ["image", "n", "block"] ["image", "n"] (defScope s_drop_block_of_places) := ⟨rfl, rfl, rfl, by decide +kernel, rfl, by decide +kernel, by decide +kernel⟩
theorem sc_drop_place : FnScope ["image", "n", "o", "x"] ["image", "n", "o"] (defScope s_drop_place) := ⟨rfl, rfl, rfl, by decide +kernel, rfl, by decide +kernel, by decide +kernel⟩
theorem sc_held_blocks : FnScope ["image", "nodes", "held", "n", "blocks", "o", "x"] ["image", "nodes"] (defScope s_held_blocks) := ⟨rfl, rfl, rfl, by decide +kernel, rfl, by decide +kernel, by decide +kernel⟩
theorem sc_taken_behind : FnScope ["image", "n", "size", "o"] ["image", "n"] (defScope s_taken_behind) := ⟨rfl, rfl, rfl, by decide +kernel, rfl, by decide +kernel, by decide +kernel⟩
theorem sc_unfinished : FnScope ["image", "n"] ["image", "n"] (defScope s_unfinished) := ⟨rfl, rfl, rfl, by decide +kernel, rfl, by decide +kernel, by decide +kernel⟩
theorem sc_put_size : FnScope ["image", "n", "size", "end", "x", "cell"] ["image", "n", "size"] (defScope s_put_size) := ⟨rfl, rfl, rfl, by decide +kernel, rfl, by decide +kernel, by decide +kernel⟩
theorem sc_set_size : FnScope ["image", "n", "size"] ["image", "n", "size"] (defScope s_set_size) := ⟨rfl, rfl, rfl, by decide +kernel, rfl, by decide +kernel, by decide +kernel⟩
theorem sc_free_piece : FnScope ["image", "n", "dropped", "o"] ["image", "n"] (defScope s_free_piece) := ⟨rfl, rfl, rfl, by decide +kernel, rfl, by decide +kernel, by decide +kernel⟩
theorem sc_read_word : FnScope ["image", "n", "at", "x"] ["image", "n", "at"] (defScope s_read_word) := ⟨rfl, rfl, rfl, by decide +kernel, rfl, by decide +kernel, by decide +kernel⟩
theorem sc_read_words : FnScope ["image", "n", "at", "count", "cell"] ["image", "n", "at", "count"] (defScope s_read_words) := ⟨rfl, rfl, rfl, by decide +kernel, rfl, by decide +kernel, by decide +kernel⟩
theorem sc_file_words : FnScope ["image", "n"] ["image", "n"] (defScope s_file_words) := ⟨rfl, rfl, rfl, by decide +kernel, rfl, by decide +kernel, by decide +kernel⟩
theorem sc_Lfeed : FnScope ["_law_script", "_law_feed_here", "_law_cell", "_law_rest", "_law_k"] ["_law_script"] (defScope s_Lfeed) := ⟨rfl, rfl, rfl, by decide +kernel, rfl, by decide +kernel, by decide +kernel⟩
theorem sc_Lpick : FnScope ["_law_feed_here", "_law_limit"] ["_law_feed_here", "_law_limit"] (defScope s_Lpick) := ⟨rfl, rfl, rfl, by decide +kernel, rfl, by decide +kernel, by decide +kernel⟩
theorem sc_Lsame : FnScope ["_law_actual", "_law_due", "_law_k"] ["_law_actual", "_law_due"] (defScope s_Lsame) := ⟨rfl, rfl, rfl, by decide +kernel, rfl, by decide +kernel, by decide +kernel⟩
theorem sc_Lstate : FnScope ["_law_image", "_law_handles", "_law_n", "_law_row"] ["_law_image"] (defScope s_Lstate) := ⟨rfl, rfl, rfl, by decide +kernel, rfl, by decide +kernel, by decide +kernel⟩
theorem sc_Lerror : FnScope ["_law_e", "_law_told", "_law_name", "_law_holds"] ["_law_e"] (defScope s_Lerror) := ⟨rfl, rfl, rfl, by decide +kernel, rfl, by decide +kernel, by decide +kernel⟩
theorem sc_Lbase : FnScope ["_law_rows", "_law_x"] [] (defScope s_Lbase) := ⟨rfl, rfl, rfl, by decide +kernel, rfl, by decide +kernel, by decide +kernel⟩
theorem sc_Lclaim : FnScope ["_law_rows", "_law_x", "_law_kind", "_law_owner", "_law_maps", "_law_sums"] ["_law_rows", "_law_x", "_law_kind", "_law_owner"] (defScope s_Lclaim) := ⟨rfl, rfl, rfl, by decide +kernel, rfl, by decide +kernel, by decide +kernel⟩
theorem sc_Lheld : FnScope ["_law_rows", "_law_x"] ["_law_rows"] (defScope s_Lheld) := ⟨rfl, rfl, rfl, by decide +kernel, rfl, by decide +kernel, by decide +kernel⟩
theorem sc_Lplace : FnScope ["_law_rows", "_law_n", "_law_o", "_law_node"] ["_law_rows", "_law_n", "_law_o"] (defScope s_Lplace) := ⟨rfl, rfl, rfl, by decide +kernel, rfl, by decide +kernel, by decide +kernel⟩
theorem sc_Lput : FnScope ["_law_rows", "_law_n", "_law_o", "_law_x", "_law_node", "_law_table"] ["_law_rows", "_law_n", "_law_o", "_law_x"] (defScope s_Lput) := ⟨rfl, rfl, rfl, by decide +kernel, rfl, by decide +kernel, by decide +kernel⟩
theorem sc_Lfile : FnScope ["_law_rows", "_law_feed_here", "_law_n", "_law_spare_here", "_law_code", "_law_mask", "_law_spot", "_law_owner", "_law_node", "_law_last", "_law_o", "_law_held_here", "_law_x", "_law_c"] ["_law_rows", "_law_feed_here", "_law_n", "_law_spare_here"] (defScope s_Lfile) := ⟨rfl, rfl, rfl, by decide +kernel, rfl, by decide +kernel, by decide +kernel⟩
theorem sc_Lspare : FnScope ["_law_feed_here", "_law_start", "_law_step", "_law_k"] ["_law_feed_here"] (defScope s_Lspare) := ⟨rfl, rfl, rfl, by decide +kernel, rfl, by decide +kernel, by decide +kernel⟩
theorem sc_Lgive : FnScope ["_law_world", "_law_x", "_law_owner", "_law_rows", "_law_held_here", "_law_stamps", "_law_serial", "_law_maps", "_law_sums"] ["_law_world", "_law_x", "_law_owner"] (defScope s_Lgive) := ⟨rfl, rfl, rfl, by decide +kernel, rfl, by decide +kernel, by decide +kernel⟩
theorem sc_Lsettle : FnScope ["_law_world", "_law_elder", "_law_rows", "_law_held_here", "_law_stamps", "_law_serial", "_law_x"] ["_law_world", "_law_elder"] (defScope s_Lsettle) := ⟨rfl, rfl, rfl, by decide +kernel, rfl, by decide +kernel, by decide +kernel⟩
theorem sc_Ldrop : FnScope ["_law_world", "_law_n", "_law_o", "_law_rows", "_law_node", "_law_x"] ["_law_world", "_law_n", "_law_o"] (defScope s_Ldrop) := ⟨rfl, rfl, rfl, by decide +kernel, rfl, by decide +kernel, by decide +kernel⟩
theorem sc_Lwords : FnScope ["_law_rows", "_law_n", "_law_words_here", "_law_cell", "_law_x"] ["_law_rows", "_law_n"] (defScope s_Lwords) := ⟨rfl, rfl, rfl, by decide +kernel, rfl, by decide +kernel, by decide +kernel⟩
theorem sc_Lclear : FnScope ["_law_rows", "_law_n", "_law_size", "_law_x", "_law_row", "_law_c"] ["_law_rows", "_law_n", "_law_size"] (defScope s_Lclear) := ⟨rfl, rfl, rfl, by decide +kernel, rfl, by decide +kernel, by decide +kernel⟩
theorem sc_Lpiece : FnScope ["_law_world", "_law_n", "_law_rows", "_law_size", "_law_freed", "_law_k", "_law_o"] ["_law_world", "_law_n"] (defScope s_Lpiece) := ⟨rfl, rfl, rfl, by decide +kernel, rfl, by decide +kernel, by decide +kernel⟩
theorem sc_Lunfinished : FnScope ["_law_rows", "_law_n", "_law_o"] ["_law_rows", "_law_n"] (defScope s_Lunfinished) := ⟨rfl, rfl, rfl, by decide +kernel, rfl, by decide +kernel, by decide +kernel⟩
theorem sc_Lblocks : FnScope ["_law_rows", "_law_n", "_law_blocks_here", "_law_o", "_law_x"] ["_law_rows", "_law_n"] (defScope s_Lblocks) := ⟨rfl, rfl, rfl, by decide +kernel, rfl, by decide +kernel, by decide +kernel⟩
theorem sc_Lkept : FnScope ["_law_world"] ["_law_world"] (defScope s_Lkept) := ⟨rfl, rfl, rfl, by decide +kernel, rfl, by decide +kernel, by decide +kernel⟩
theorem sc_Lmodel : FnScope ["_law_world", "_law_deed", "_law_rows", "_law_node"] ["_law_world", "_law_deed"] (defScope s_Lmodel) := ⟨rfl, rfl, rfl, by decide +kernel, rfl, by decide +kernel, by decide +kernel⟩
theorem sc_Lcall : FnScope ["_law_image", "_law_deed", "_law_e"] ["_law_image", "_law_deed"] (defScope s_Lcall) := ⟨rfl, rfl, rfl, by decide +kernel, rfl, by decide +kernel, by decide +kernel⟩
theorem sc_Lrun : FnScope ["_law_image", "_law_world", "_law_deed", "_law_before", "_law_trial", "_law_row", "_law_due", "_law_actual", "_law_refused", "_law_k"] ["_law_image", "_law_world", "_law_deed"] (defScope s_Lrun) := ⟨rfl, rfl, rfl, by decide +kernel, rfl, by decide +kernel, by decide +kernel⟩
theorem sc_Llooks : FnScope ["_law_image", "_law_rows", "_law_at", "_law_count", "_law_n", "_law_words_here", "_law_o", "_law_told", "_law_free", "_law_x"] ["_law_image", "_law_rows", "_law_at", "_law_count"] (defScope s_Llooks) := ⟨rfl, rfl, rfl, by decide +kernel, rfl, by decide +kernel, by decide +kernel⟩
theorem sc_Ldeeds : FnScope ["_law_feed_here", "_law_deeds_here", "_law_k", "_law_code", "_law_size", "_law_deed", "_law_n", "_law_below"] ["_law_feed_here"] (defScope s_Ldeeds) := ⟨rfl, rfl, rfl, by decide +kernel, rfl, by decide +kernel, by decide +kernel⟩
theorem sc_law : FnScope ["_law_script", "_law_feed_here", "_law_rows", "_law_spare_here", "_law_image", "_law_row", "_law_world", "_law_deed", "_law_at", "_law_count", "_law_n", "_law_words_here"] ["_law_script"] (defScope s_law) := ⟨rfl, rfl, rfl, by decide +kernel, rfl, by decide +kernel, by decide +kernel⟩
theorem sc_Plan___init__ : FnScope ["self", "blocks", "nodes", "slots"] ["self", "blocks", "nodes", "slots"] (defScope s_Plan___init__) := ⟨rfl, rfl, rfl, by decide +kernel, rfl, by decide +kernel, by decide +kernel⟩
theorem sc_Plan_map_place : FnScope ["self", "x"] ["self", "x"] (defScope s_Plan_map_place) := ⟨rfl, rfl, rfl, by decide +kernel, rfl, by decide +kernel, by decide +kernel⟩
theorem sc_Plan_node_block : FnScope ["self", "n"] ["self", "n"] (defScope s_Plan_node_block) := ⟨rfl, rfl, rfl, by decide +kernel, rfl, by decide +kernel, by decide +kernel⟩
theorem sc_Plan_data_blocks : FnScope ["self"] ["self"] (defScope s_Plan_data_blocks) := ⟨rfl, rfl, rfl, by decide +kernel, rfl, by decide +kernel, by decide +kernel⟩
theorem sc_Image___init__ : FnScope ["self", "plan", "_"] ["self", "plan"] (defScope s_Image___init__) := ⟨rfl, rfl, rfl, by decide +kernel, rfl, by decide +kernel, by decide +kernel⟩
theorem sc_Image_begin : FnScope ["self", "wish", "barred"] ["self", "wish", "barred"] (defScope s_Image_begin) := ⟨rfl, rfl, rfl, by decide +kernel, rfl, by decide +kernel, by decide +kernel⟩
theorem sc_Image_settle : FnScope ["self", "before", "x", "changed"] ["self", "before"] (defScope s_Image_settle) := ⟨rfl, rfl, rfl, by decide +kernel, rfl, by decide +kernel, by decide +kernel⟩
theorem sc_Image_twin : FnScope ["self", "other", "row"] ["self"] (defScope s_Image_twin) := ⟨rfl, rfl, rfl, by decide +kernel, rfl, by decide +kernel, by decide +kernel⟩
theorem sc_Image_give : FnScope ["self", "x", "owner"] ["self", "x", "owner"] (defScope s_Image_give) := ⟨rfl, rfl, rfl, by decide +kernel, rfl, by decide +kernel, by decide +kernel⟩
theorem sc_Image__put_block : FnScope ["self", "x", "kind", "serial", "block", "cell"] ["self", "x", "kind", "serial"] (defScope s_Image__put_block) := ⟨rfl, rfl, rfl, by decide +kernel, rfl, by decide +kernel, by decide +kernel⟩
theorem sc_Image_free_blocks : FnScope ["self", "x"] ["self"] (defScope s_Image_free_blocks) := ⟨rfl, rfl, rfl, by decide +kernel, rfl, by decide +kernel, by decide +kernel⟩
theorem sc_Image_kind : FnScope ["self", "x", "block", "cell", "kind"] ["self", "x"] (defScope s_Image_kind) := ⟨rfl, rfl, rfl, by decide +kernel, rfl, by decide +kernel, by decide +kernel⟩
theorem sc_Image_of_cells : FnScope ["plan", "rows", "image", "row", "x"] ["plan", "rows"] (defScope s_Image_of_cells) := ⟨rfl, rfl, rfl, by decide +kernel, rfl, by decide +kernel, by decide +kernel⟩

structure Tx (K : PySem.W.Frag) (mg : Str → Option Value) where
  f_node_cell : Addr
  fd_node_cell : FuncData
  F_node_cell : Fun K "node_cell" "node_cell" s_node_cell f_node_cell fd_node_cell
  mg_node_cell : mg "node_cell" = some (.ref f_node_cell)
  f_put_node_cell : Addr
  fd_put_node_cell : FuncData
  F_put_node_cell : Fun K "put_node_cell" "put_node_cell" s_put_node_cell f_put_node_cell fd_put_node_cell
  mg_put_node_cell : mg "put_node_cell" = some (.ref f_put_node_cell)
  f_place_block : Addr
  fd_place_block : FuncData
  F_place_block : Fun K "place_block" "place_block" s_place_block f_place_block fd_place_block
  mg_place_block : mg "place_block" = some (.ref f_place_block)
  f_put_place : Addr
  fd_put_place : FuncData
  F_put_place : Fun K "put_place" "put_place" s_put_place f_put_place fd_put_place
  mg_put_place : mg "put_place" = some (.ref f_put_place)
  f_drop_block_of_places : Addr
  fd_drop_block_of_places : FuncData
  F_drop_block_of_places : Fun K "_drop_block_of_places" "_drop_block_of_places" s_drop_block_of_places f_drop_block_of_places fd_drop_block_of_places
  mg_drop_block_of_places : mg "_drop_block_of_places" = some (.ref f_drop_block_of_places)
  f_drop_place : Addr
  fd_drop_place : FuncData
  F_drop_place : Fun K "drop_place" "drop_place" s_drop_place f_drop_place fd_drop_place
  mg_drop_place : mg "drop_place" = some (.ref f_drop_place)
  f_held_blocks : Addr
  fd_held_blocks : FuncData
  F_held_blocks : Fun K "held_blocks" "held_blocks" s_held_blocks f_held_blocks fd_held_blocks
  mg_held_blocks : mg "held_blocks" = some (.ref f_held_blocks)
  f_taken_behind : Addr
  fd_taken_behind : FuncData
  F_taken_behind : Fun K "_taken_behind" "_taken_behind" s_taken_behind f_taken_behind fd_taken_behind
  mg_taken_behind : mg "_taken_behind" = some (.ref f_taken_behind)
  f_unfinished : Addr
  fd_unfinished : FuncData
  F_unfinished : Fun K "unfinished" "unfinished" s_unfinished f_unfinished fd_unfinished
  mg_unfinished : mg "unfinished" = some (.ref f_unfinished)
  f_put_size : Addr
  fd_put_size : FuncData
  F_put_size : Fun K "put_size" "put_size" s_put_size f_put_size fd_put_size
  mg_put_size : mg "put_size" = some (.ref f_put_size)
  f_set_size : Addr
  fd_set_size : FuncData
  F_set_size : Fun K "set_size" "set_size" s_set_size f_set_size fd_set_size
  mg_set_size : mg "set_size" = some (.ref f_set_size)
  f_free_piece : Addr
  fd_free_piece : FuncData
  F_free_piece : Fun K "free_piece" "free_piece" s_free_piece f_free_piece fd_free_piece
  mg_free_piece : mg "free_piece" = some (.ref f_free_piece)
  f_read_word : Addr
  fd_read_word : FuncData
  F_read_word : Fun K "_read_word" "_read_word" s_read_word f_read_word fd_read_word
  mg_read_word : mg "_read_word" = some (.ref f_read_word)
  f_read_words : Addr
  fd_read_words : FuncData
  F_read_words : Fun K "read_words" "read_words" s_read_words f_read_words fd_read_words
  mg_read_words : mg "read_words" = some (.ref f_read_words)
  f_file_words : Addr
  fd_file_words : FuncData
  F_file_words : Fun K "file_words" "file_words" s_file_words f_file_words fd_file_words
  mg_file_words : mg "file_words" = some (.ref f_file_words)
  f_Lfeed : Addr
  fd_Lfeed : FuncData
  F_Lfeed : Fun K "_law_feed" "_law_feed" s_Lfeed f_Lfeed fd_Lfeed
  mg_Lfeed : mg "_law_feed" = some (.ref f_Lfeed)
  f_Lpick : Addr
  fd_Lpick : FuncData
  F_Lpick : Fun K "_law_pick" "_law_pick" s_Lpick f_Lpick fd_Lpick
  mg_Lpick : mg "_law_pick" = some (.ref f_Lpick)
  f_Lsame : Addr
  fd_Lsame : FuncData
  F_Lsame : Fun K "_law_same" "_law_same" s_Lsame f_Lsame fd_Lsame
  mg_Lsame : mg "_law_same" = some (.ref f_Lsame)
  f_Lstate : Addr
  fd_Lstate : FuncData
  F_Lstate : Fun K "_law_state" "_law_state" s_Lstate f_Lstate fd_Lstate
  mg_Lstate : mg "_law_state" = some (.ref f_Lstate)
  f_Lerror : Addr
  fd_Lerror : FuncData
  F_Lerror : Fun K "_law_error" "_law_error" s_Lerror f_Lerror fd_Lerror
  mg_Lerror : mg "_law_error" = some (.ref f_Lerror)
  f_Lbase : Addr
  fd_Lbase : FuncData
  F_Lbase : Fun K "_law_base" "_law_base" s_Lbase f_Lbase fd_Lbase
  mg_Lbase : mg "_law_base" = some (.ref f_Lbase)
  f_Lclaim : Addr
  fd_Lclaim : FuncData
  F_Lclaim : Fun K "_law_claim" "_law_claim" s_Lclaim f_Lclaim fd_Lclaim
  mg_Lclaim : mg "_law_claim" = some (.ref f_Lclaim)
  f_Lheld : Addr
  fd_Lheld : FuncData
  F_Lheld : Fun K "_law_held" "_law_held" s_Lheld f_Lheld fd_Lheld
  mg_Lheld : mg "_law_held" = some (.ref f_Lheld)
  f_Lplace : Addr
  fd_Lplace : FuncData
  F_Lplace : Fun K "_law_place" "_law_place" s_Lplace f_Lplace fd_Lplace
  mg_Lplace : mg "_law_place" = some (.ref f_Lplace)
  f_Lput : Addr
  fd_Lput : FuncData
  F_Lput : Fun K "_law_put" "_law_put" s_Lput f_Lput fd_Lput
  mg_Lput : mg "_law_put" = some (.ref f_Lput)
  f_Lfile : Addr
  fd_Lfile : FuncData
  F_Lfile : Fun K "_law_file" "_law_file" s_Lfile f_Lfile fd_Lfile
  mg_Lfile : mg "_law_file" = some (.ref f_Lfile)
  f_Lspare : Addr
  fd_Lspare : FuncData
  F_Lspare : Fun K "_law_spare" "_law_spare" s_Lspare f_Lspare fd_Lspare
  mg_Lspare : mg "_law_spare" = some (.ref f_Lspare)
  f_Lgive : Addr
  fd_Lgive : FuncData
  F_Lgive : Fun K "_law_give" "_law_give" s_Lgive f_Lgive fd_Lgive
  mg_Lgive : mg "_law_give" = some (.ref f_Lgive)
  f_Lsettle : Addr
  fd_Lsettle : FuncData
  F_Lsettle : Fun K "_law_settle" "_law_settle" s_Lsettle f_Lsettle fd_Lsettle
  mg_Lsettle : mg "_law_settle" = some (.ref f_Lsettle)
  f_Ldrop : Addr
  fd_Ldrop : FuncData
  F_Ldrop : Fun K "_law_drop" "_law_drop" s_Ldrop f_Ldrop fd_Ldrop
  mg_Ldrop : mg "_law_drop" = some (.ref f_Ldrop)
  f_Lwords : Addr
  fd_Lwords : FuncData
  F_Lwords : Fun K "_law_words" "_law_words" s_Lwords f_Lwords fd_Lwords
  mg_Lwords : mg "_law_words" = some (.ref f_Lwords)
  f_Lclear : Addr
  fd_Lclear : FuncData
  F_Lclear : Fun K "_law_clear" "_law_clear" s_Lclear f_Lclear fd_Lclear
  mg_Lclear : mg "_law_clear" = some (.ref f_Lclear)
  f_Lpiece : Addr
  fd_Lpiece : FuncData
  F_Lpiece : Fun K "_law_piece" "_law_piece" s_Lpiece f_Lpiece fd_Lpiece
  mg_Lpiece : mg "_law_piece" = some (.ref f_Lpiece)
  f_Lunfinished : Addr
  fd_Lunfinished : FuncData
  F_Lunfinished : Fun K "_law_unfinished" "_law_unfinished" s_Lunfinished f_Lunfinished fd_Lunfinished
  mg_Lunfinished : mg "_law_unfinished" = some (.ref f_Lunfinished)
  f_Lblocks : Addr
  fd_Lblocks : FuncData
  F_Lblocks : Fun K "_law_blocks" "_law_blocks" s_Lblocks f_Lblocks fd_Lblocks
  mg_Lblocks : mg "_law_blocks" = some (.ref f_Lblocks)
  f_Lkept : Addr
  fd_Lkept : FuncData
  F_Lkept : Fun K "_law_kept" "_law_kept" s_Lkept f_Lkept fd_Lkept
  mg_Lkept : mg "_law_kept" = some (.ref f_Lkept)
  f_Lmodel : Addr
  fd_Lmodel : FuncData
  F_Lmodel : Fun K "_law_model" "_law_model" s_Lmodel f_Lmodel fd_Lmodel
  mg_Lmodel : mg "_law_model" = some (.ref f_Lmodel)
  f_Lcall : Addr
  fd_Lcall : FuncData
  F_Lcall : Fun K "_law_call" "_law_call" s_Lcall f_Lcall fd_Lcall
  mg_Lcall : mg "_law_call" = some (.ref f_Lcall)
  f_Lrun : Addr
  fd_Lrun : FuncData
  F_Lrun : Fun K "_law_run" "_law_run" s_Lrun f_Lrun fd_Lrun
  mg_Lrun : mg "_law_run" = some (.ref f_Lrun)
  f_Llooks : Addr
  fd_Llooks : FuncData
  F_Llooks : Fun K "_law_looks" "_law_looks" s_Llooks f_Llooks fd_Llooks
  mg_Llooks : mg "_law_looks" = some (.ref f_Llooks)
  f_Ldeeds : Addr
  fd_Ldeeds : FuncData
  F_Ldeeds : Fun K "_law_deeds" "_law_deeds" s_Ldeeds f_Ldeeds fd_Ldeeds
  mg_Ldeeds : mg "_law_deeds" = some (.ref f_Ldeeds)
  f_law : Addr
  fd_law : FuncData
  F_law : Fun K "law" "law" s_law f_law fd_law
  mg_law : mg "law" = some (.ref f_law)
  f_Plan___init__ : Addr
  fd_Plan___init__ : FuncData
  F_Plan___init__ : Fun K "__init__" "Plan.__init__" s_Plan___init__ f_Plan___init__ fd_Plan___init__
  f_Plan_map_place : Addr
  fd_Plan_map_place : FuncData
  F_Plan_map_place : Fun K "map_place" "Plan.map_place" s_Plan_map_place f_Plan_map_place fd_Plan_map_place
  f_Plan_node_block : Addr
  fd_Plan_node_block : FuncData
  F_Plan_node_block : Fun K "node_block" "Plan.node_block" s_Plan_node_block f_Plan_node_block fd_Plan_node_block
  f_Plan_data_blocks : Addr
  fd_Plan_data_blocks : FuncData
  F_Plan_data_blocks : Fun K "data_blocks" "Plan.data_blocks" s_Plan_data_blocks f_Plan_data_blocks fd_Plan_data_blocks
  f_Image___init__ : Addr
  fd_Image___init__ : FuncData
  F_Image___init__ : Fun K "__init__" "Image.__init__" s_Image___init__ f_Image___init__ fd_Image___init__
  f_Image_begin : Addr
  fd_Image_begin : FuncData
  F_Image_begin : Fun K "begin" "Image.begin" s_Image_begin f_Image_begin fd_Image_begin
  f_Image_settle : Addr
  fd_Image_settle : FuncData
  F_Image_settle : Fun K "settle" "Image.settle" s_Image_settle f_Image_settle fd_Image_settle
  f_Image_twin : Addr
  fd_Image_twin : FuncData
  F_Image_twin : Fun K "twin" "Image.twin" s_Image_twin f_Image_twin fd_Image_twin
  f_Image_give : Addr
  fd_Image_give : FuncData
  F_Image_give : Fun K "give" "Image.give" s_Image_give f_Image_give fd_Image_give
  f_Image__put_block : Addr
  fd_Image__put_block : FuncData
  F_Image__put_block : Fun K "_put_block" "Image._put_block" s_Image__put_block f_Image__put_block fd_Image__put_block
  f_Image_free_blocks : Addr
  fd_Image_free_blocks : FuncData
  F_Image_free_blocks : Fun K "free_blocks" "Image.free_blocks" s_Image_free_blocks f_Image_free_blocks fd_Image_free_blocks
  f_Image_kind : Addr
  fd_Image_kind : FuncData
  F_Image_kind : Fun K "kind" "Image.kind" s_Image_kind f_Image_kind fd_Image_kind
  f_Image_of_cells : Addr
  fd_Image_of_cells : FuncData
  F_Image_of_cells : Fun K "of_cells" "Image.of_cells" s_Image_of_cells f_Image_of_cells fd_Image_of_cells
  C_Plan : Addr
  mg_Plan : mg "Plan" = some (.ref C_Plan)
  cl_Plan : Cls K C_Plan
  na_Plan_blocks : NoAttr K C_Plan "blocks"
  na_Plan_nodes : NoAttr K C_Plan "nodes"
  na_Plan_slots : NoAttr K C_Plan "slots"
  na_Plan_maps : NoAttr K C_Plan "maps"
  na_Plan_first_node : NoAttr K C_Plan "first_node"
  na_Plan_first_data : NoAttr K C_Plan "first_data"
  mk_Plan : Mk K C_Plan f_Plan___init__
  mc_Plan : Value
  cr_Plan : ClX.CRead K C_Plan mc_Plan
  cv_Plan_WIDTH : ∃ u, ClX.CVal K C_Plan mc_Plan "WIDTH" (.int 8) u
  cv_Plan_LONGEST : ∃ u, ClX.CVal K C_Plan mc_Plan "LONGEST" (.int 80) u
  cv_Plan_FREE : ∃ u, ClX.CVal K C_Plan mc_Plan "FREE" (.int 0) u
  cv_Plan_LOGGED : ∃ u, ClX.CVal K C_Plan mc_Plan "LOGGED" (.int 1) u
  cv_Plan_PLAIN : ∃ u, ClX.CVal K C_Plan mc_Plan "PLAIN" (.int 2) u
  con_Plan_WIDTH : ∃ u, Con K C_Plan "WIDTH" (.int 8) u
  C_Image : Addr
  mg_Image : mg "Image" = some (.ref C_Image)
  cl_Image : Cls K C_Image
  na_Image_plan : NoAttr K C_Image "plan"
  na_Image_cells : NoAttr K C_Image "cells"
  na_Image_holdings : NoAttr K C_Image "holdings"
  na_Image_stamps : NoAttr K C_Image "stamps"
  na_Image_handles : NoAttr K C_Image "handles"
  na_Image_serial : NoAttr K C_Image "serial"
  na_Image_wish : NoAttr K C_Image "wish"
  na_Image_barred : NoAttr K C_Image "barred"
  mk_Image : Mk K C_Image f_Image___init__
  mc_Image : Value
  cr_Image : ClX.CRead K C_Image mc_Image
  m_Plan_map_place : Meth K C_Plan "map_place" f_Plan_map_place
  m_Plan_node_block : Meth K C_Plan "node_block" f_Plan_node_block
  m_Plan_data_blocks : Meth K C_Plan "data_blocks" f_Plan_data_blocks
  m_Image_begin : Meth K C_Image "begin" f_Image_begin
  m_Image_settle : Meth K C_Image "settle" f_Image_settle
  m_Image_twin : Meth K C_Image "twin" f_Image_twin
  m_Image_give : Meth K C_Image "give" f_Image_give
  m_Image__put_block : Meth K C_Image "_put_block" f_Image__put_block
  m_Image_free_blocks : Meth K C_Image "free_blocks" f_Image_free_blocks
  m_Image_kind : Meth K C_Image "kind" f_Image_kind
  sm_Image_of_cells : SMet K C_Image mc_Image "of_cells" f_Image_of_cells
  C_StoreError : Addr
  mg_StoreError : mg "StoreError" = some (.ref C_StoreError)
  be_StoreError : PySem.W.subIn K (.ref C_StoreError) (.type "BaseException") = some true
  te_StoreError : PySem.W.typeIn K (.ref C_StoreError) = some (.type "type")
  ie_StoreError : PySem.W.isClsIn K C_StoreError = true
  C_BadText : Addr
  mg_BadText : mg "BadText" = some (.ref C_BadText)
  be_BadText : PySem.W.subIn K (.ref C_BadText) (.type "BaseException") = some true
  te_BadText : PySem.W.typeIn K (.ref C_BadText) = some (.type "type")
  ie_BadText : PySem.W.isClsIn K C_BadText = true
  C_BadValue : Addr
  mg_BadValue : mg "BadValue" = some (.ref C_BadValue)
  be_BadValue : PySem.W.subIn K (.ref C_BadValue) (.type "BaseException") = some true
  te_BadValue : PySem.W.typeIn K (.ref C_BadValue) = some (.type "type")
  ie_BadValue : PySem.W.isClsIn K C_BadValue = true
  C_Refused : Addr
  mg_Refused : mg "Refused" = some (.ref C_Refused)
  be_Refused : PySem.W.subIn K (.ref C_Refused) (.type "BaseException") = some true
  te_Refused : PySem.W.typeIn K (.ref C_Refused) = some (.type "type")
  ie_Refused : PySem.W.isClsIn K C_Refused = true
  C_NotNow : Addr
  mg_NotNow : mg "NotNow" = some (.ref C_NotNow)
  be_NotNow : PySem.W.subIn K (.ref C_NotNow) (.type "BaseException") = some true
  te_NotNow : PySem.W.typeIn K (.ref C_NotNow) = some (.type "type")
  ie_NotNow : PySem.W.isClsIn K C_NotNow = true
  C_NotLet : Addr
  mg_NotLet : mg "NotLet" = some (.ref C_NotLet)
  be_NotLet : PySem.W.subIn K (.ref C_NotLet) (.type "BaseException") = some true
  te_NotLet : PySem.W.typeIn K (.ref C_NotLet) = some (.type "type")
  ie_NotLet : PySem.W.isClsIn K C_NotLet = true
  C_FolderFull : Addr
  mg_FolderFull : mg "FolderFull" = some (.ref C_FolderFull)
  be_FolderFull : PySem.W.subIn K (.ref C_FolderFull) (.type "BaseException") = some true
  te_FolderFull : PySem.W.typeIn K (.ref C_FolderFull) = some (.type "type")
  ie_FolderFull : PySem.W.isClsIn K C_FolderFull = true
  C_NodesFull : Addr
  mg_NodesFull : mg "NodesFull" = some (.ref C_NodesFull)
  be_NodesFull : PySem.W.subIn K (.ref C_NodesFull) (.type "BaseException") = some true
  te_NodesFull : PySem.W.typeIn K (.ref C_NodesFull) = some (.type "type")
  ie_NodesFull : PySem.W.isClsIn K C_NodesFull = true
  C_BlocksFull : Addr
  mg_BlocksFull : mg "BlocksFull" = some (.ref C_BlocksFull)
  be_BlocksFull : PySem.W.subIn K (.ref C_BlocksFull) (.type "BaseException") = some true
  te_BlocksFull : PySem.W.typeIn K (.ref C_BlocksFull) = some (.type "type")
  ie_BlocksFull : PySem.W.isClsIn K C_BlocksFull = true
  C_OverQuota : Addr
  mg_OverQuota : mg "OverQuota" = some (.ref C_OverQuota)
  be_OverQuota : PySem.W.subIn K (.ref C_OverQuota) (.type "BaseException") = some true
  te_OverQuota : PySem.W.typeIn K (.ref C_OverQuota) = some (.type "type")
  ie_OverQuota : PySem.W.isClsIn K C_OverQuota = true
  C_TooLong : Addr
  mg_TooLong : mg "TooLong" = some (.ref C_TooLong)
  be_TooLong : PySem.W.subIn K (.ref C_TooLong) (.type "BaseException") = some true
  te_TooLong : PySem.W.typeIn K (.ref C_TooLong) = some (.type "type")
  ie_TooLong : PySem.W.isClsIn K C_TooLong = true
  xe_TooLong : PySem.W.excIn K C_TooLong [.type "ValueError", .type "Exception", .type "BaseException", .type "object"] "ValueError.__new__" = true
  ke_TooLong : PySem.W.keepIn K (.ref C_TooLong) = true
  ec_TooLong : ExcC K C_TooLong
  C_Unfinished : Addr
  mg_Unfinished : mg "Unfinished" = some (.ref C_Unfinished)
  be_Unfinished : PySem.W.subIn K (.ref C_Unfinished) (.type "BaseException") = some true
  te_Unfinished : PySem.W.typeIn K (.ref C_Unfinished) = some (.type "type")
  ie_Unfinished : PySem.W.isClsIn K C_Unfinished = true
  xe_Unfinished : PySem.W.excIn K C_Unfinished [.type "ValueError", .type "Exception", .type "BaseException", .type "object"] "ValueError.__new__" = true
  ke_Unfinished : PySem.W.keepIn K (.ref C_Unfinished) = true
  ec_Unfinished : ExcC K C_Unfinished
  C_ListFull : Addr
  mg_ListFull : mg "ListFull" = some (.ref C_ListFull)
  be_ListFull : PySem.W.subIn K (.ref C_ListFull) (.type "BaseException") = some true
  te_ListFull : PySem.W.typeIn K (.ref C_ListFull) = some (.type "type")
  ie_ListFull : PySem.W.isClsIn K C_ListFull = true
  sub_TooLong_StoreError : PySem.W.subIn K (.ref C_TooLong) (.ref C_StoreError) = some true
  sub_TooLong_BadText : PySem.W.subIn K (.ref C_TooLong) (.ref C_BadText) = some false
  sub_TooLong_BadValue : PySem.W.subIn K (.ref C_TooLong) (.ref C_BadValue) = some false
  sub_TooLong_Refused : PySem.W.subIn K (.ref C_TooLong) (.ref C_Refused) = some true
  sub_TooLong_NotNow : PySem.W.subIn K (.ref C_TooLong) (.ref C_NotNow) = some false
  sub_TooLong_NotLet : PySem.W.subIn K (.ref C_TooLong) (.ref C_NotLet) = some false
  sub_TooLong_FolderFull : PySem.W.subIn K (.ref C_TooLong) (.ref C_FolderFull) = some false
  sub_TooLong_NodesFull : PySem.W.subIn K (.ref C_TooLong) (.ref C_NodesFull) = some false
  sub_TooLong_BlocksFull : PySem.W.subIn K (.ref C_TooLong) (.ref C_BlocksFull) = some false
  sub_TooLong_OverQuota : PySem.W.subIn K (.ref C_TooLong) (.ref C_OverQuota) = some false
  sub_TooLong_TooLong : PySem.W.subIn K (.ref C_TooLong) (.ref C_TooLong) = some true
  sub_TooLong_Unfinished : PySem.W.subIn K (.ref C_TooLong) (.ref C_Unfinished) = some false
  sub_TooLong_ListFull : PySem.W.subIn K (.ref C_TooLong) (.ref C_ListFull) = some false
  sub_Unfinished_StoreError : PySem.W.subIn K (.ref C_Unfinished) (.ref C_StoreError) = some true
  sub_Unfinished_BadText : PySem.W.subIn K (.ref C_Unfinished) (.ref C_BadText) = some false
  sub_Unfinished_BadValue : PySem.W.subIn K (.ref C_Unfinished) (.ref C_BadValue) = some false
  sub_Unfinished_Refused : PySem.W.subIn K (.ref C_Unfinished) (.ref C_Refused) = some true
  sub_Unfinished_NotNow : PySem.W.subIn K (.ref C_Unfinished) (.ref C_NotNow) = some false
  sub_Unfinished_NotLet : PySem.W.subIn K (.ref C_Unfinished) (.ref C_NotLet) = some false
  sub_Unfinished_FolderFull : PySem.W.subIn K (.ref C_Unfinished) (.ref C_FolderFull) = some false
  sub_Unfinished_NodesFull : PySem.W.subIn K (.ref C_Unfinished) (.ref C_NodesFull) = some false
  sub_Unfinished_BlocksFull : PySem.W.subIn K (.ref C_Unfinished) (.ref C_BlocksFull) = some false
  sub_Unfinished_OverQuota : PySem.W.subIn K (.ref C_Unfinished) (.ref C_OverQuota) = some false
  sub_Unfinished_TooLong : PySem.W.subIn K (.ref C_Unfinished) (.ref C_TooLong) = some false
  sub_Unfinished_Unfinished : PySem.W.subIn K (.ref C_Unfinished) (.ref C_Unfinished) = some true
  sub_Unfinished_ListFull : PySem.W.subIn K (.ref C_Unfinished) (.ref C_ListFull) = some false
  bsub_TooLong_ValueError : PySem.W.subIn K (.ref C_TooLong) (.type "ValueError") = some true
  bsub_Unfinished_ValueError : PySem.W.subIn K (.ref C_Unfinished) (.type "ValueError") = some true
  c_SUMS_BLOCK : ∃ t, mg "SUMS_BLOCK" = some (.int 0 t)
  c_KIND : ∃ t, mg "KIND" = some (.int 0 t)
  c_SIZE : ∃ t, mg "SIZE" = some (.int 2 t)
  c_OWNER : ∃ t, mg "OWNER" = some (.int 3 t)
  c_FIRST_PLACE : ∃ t, mg "FIRST_PLACE" = some (.int 4 t)
  c_PLACES : ∃ t, mg "PLACES" = some (.int 6 t)
  c_FILE : ∃ t, mg "FILE" = some (.int 1 t)
  c_LEAST_BLOCKS : ∃ t, mg "LEAST_BLOCKS" = some (.int 8 t)
  c_MOST_BLOCKS : ∃ t, mg "MOST_BLOCKS" = some (.int 64 t)
  c_LEAST_NODES : ∃ t, mg "LEAST_NODES" = some (.int 2 t)
  c_MOST_NODES : ∃ t, mg "MOST_NODES" = some (.int 16 t)
  c_MOST_SLOTS : ∃ t, mg "MOST_SLOTS" = some (.int 200 t)
  c_LEAST_DATA : ∃ t, mg "LEAST_DATA" = some (.int 2 t)
  c_FIRST_MAP : ∃ t, mg "FIRST_MAP" = some (.int 2 t)
  c_PLACE_COUNT : ∃ t, mg "PLACE_COUNT" = some (.int 10 t)
  c_NODE_PLACES : ∃ t, mg "NODE_PLACES" = some (.int 2 t)
  c_MOST_PIECE : ∃ t, mg "MOST_PIECE" = some (.int 2 t)
  b_ValueError : mg "ValueError" = none
  b_abs : mg "abs" = none
  b_any : mg "any" = none
  b_bool : mg "bool" = none
  b_dict : mg "dict" = none
  b_int : mg "int" = none
  b_isinstance : mg "isinstance" = none
  b_len : mg "len" = none
  b_list : mg "list" = none
  b_min : mg "min" = none
  b_range : mg "range" = none
  b_reversed : mg "reversed" = none
  b_sorted : mg "sorted" = none
  b_str : mg "str" = none
  b_sum : mg "sum" = none
  b_tuple : mg "tuple" = none

section
variable {P : Program} {w : World} {K : PySem.W.Frag} {mg : Str → Option Value} {base : Heap}
theorem b_node_cell (T : Tx K mg) : Binds K T.fd_node_cell ["image", "n", "field"] [] := T.F_node_cell.binds (ps := ["image", "n", "field"]) fun _ _ _ _ _ _ us hl => match us, hl with | [_, _, _], _ => rfl
theorem b_put_node_cell (T : Tx K mg) : Binds K T.fd_put_node_cell ["image", "n", "field", "value"] [] := T.F_put_node_cell.binds (ps := ["image", "n", "field", "value"]) fun _ _ _ _ _ _ us hl => match us, hl with | [_, _, _, _], _ => rfl
theorem b_place_block (T : Tx K mg) : Binds K T.fd_place_block ["image", "n", "o"] [] := T.F_place_block.binds (ps := ["image", "n", "o"]) fun _ _ _ _ _ _ us hl => match us, hl with | [_, _, _], _ => rfl
theorem b_put_place (T : Tx K mg) : Binds K T.fd_put_place ["image", "n", "o", "x"] [] := T.F_put_place.binds (ps := ["image", "n", "o", "x"]) fun _ _ _ _ _ _ us hl => match us, hl with | [_, _, _, _], _ => rfl
theorem b_drop_block_of_places (T : Tx K mg) : Binds K T.fd_drop_block_of_places ["image", "n"] [] := T.F_drop_block_of_places.binds (ps := ["image", "n"]) fun _ _ _ _ _ _ us hl => match us, hl with | [_, _], _ => rfl
theorem b_drop_place (T : Tx K mg) : Binds K T.fd_drop_place ["image", "n", "o"] [] := T.F_drop_place.binds (ps := ["image", "n", "o"]) fun _ _ _ _ _ _ us hl => match us, hl with | [_, _, _], _ => rfl
theorem b_taken_behind (T : Tx K mg) : Binds K T.fd_taken_behind ["image", "n"] [] := T.F_taken_behind.binds (ps := ["image", "n"]) fun _ _ _ _ _ _ us hl => match us, hl with | [_, _], _ => rfl
theorem b_unfinished (T : Tx K mg) : Binds K T.fd_unfinished ["image", "n"] [] := T.F_unfinished.binds (ps := ["image", "n"]) fun _ _ _ _ _ _ us hl => match us, hl with | [_, _], _ => rfl
theorem b_put_size (T : Tx K mg) : Binds K T.fd_put_size ["image", "n", "size"] [] := T.F_put_size.binds (ps := ["image", "n", "size"]) fun _ _ _ _ _ _ us hl => match us, hl with | [_, _, _], _ => rfl
theorem b_set_size (T : Tx K mg) : Binds K T.fd_set_size ["image", "n", "size"] [] := T.F_set_size.binds (ps := ["image", "n", "size"]) fun _ _ _ _ _ _ us hl => match us, hl with | [_, _, _], _ => rfl
theorem b_free_piece (T : Tx K mg) : Binds K T.fd_free_piece ["image", "n"] [] := T.F_free_piece.binds (ps := ["image", "n"]) fun _ _ _ _ _ _ us hl => match us, hl with | [_, _], _ => rfl
theorem b_read_word (T : Tx K mg) : Binds K T.fd_read_word ["image", "n", "at"] [] := T.F_read_word.binds (ps := ["image", "n", "at"]) fun _ _ _ _ _ _ us hl => match us, hl with | [_, _, _], _ => rfl
theorem b_read_words (T : Tx K mg) : Binds K T.fd_read_words ["image", "n", "at", "count"] [] := T.F_read_words.binds (ps := ["image", "n", "at", "count"]) fun _ _ _ _ _ _ us hl => match us, hl with | [_, _, _, _], _ => rfl
theorem b_file_words (T : Tx K mg) : Binds K T.fd_file_words ["image", "n"] [] := T.F_file_words.binds (ps := ["image", "n"]) fun _ _ _ _ _ _ us hl => match us, hl with | [_, _], _ => rfl
theorem b_Lfeed (T : Tx K mg) : Binds K T.fd_Lfeed ["_law_script"] [] := T.F_Lfeed.binds (ps := ["_law_script"]) fun _ _ _ _ _ _ us hl => match us, hl with | [_], _ => rfl
theorem b_Lpick (T : Tx K mg) : Binds K T.fd_Lpick ["_law_feed_here", "_law_limit"] [] := T.F_Lpick.binds (ps := ["_law_feed_here", "_law_limit"]) fun _ _ _ _ _ _ us hl => match us, hl with | [_, _], _ => rfl
theorem b_Lsame (T : Tx K mg) : Binds K T.fd_Lsame ["_law_actual", "_law_due"] [] := T.F_Lsame.binds (ps := ["_law_actual", "_law_due"]) fun _ _ _ _ _ _ us hl => match us, hl with | [_, _], _ => rfl
theorem b_Lstate (T : Tx K mg) : Binds K T.fd_Lstate ["_law_image"] [] := T.F_Lstate.binds (ps := ["_law_image"]) fun _ _ _ _ _ _ us hl => match us, hl with | [_], _ => rfl
theorem b_Lerror (T : Tx K mg) : Binds K T.fd_Lerror ["_law_e"] [] := T.F_Lerror.binds (ps := ["_law_e"]) fun _ _ _ _ _ _ us hl => match us, hl with | [_], _ => rfl
theorem b_Lbase (T : Tx K mg) : Binds K T.fd_Lbase [] [] := T.F_Lbase.binds (ps := []) fun _ _ _ _ _ _ us hl => match us, hl with | [], _ => rfl
theorem b_Lclaim (T : Tx K mg) : Binds K T.fd_Lclaim ["_law_rows", "_law_x", "_law_kind", "_law_owner"] [] := T.F_Lclaim.binds (ps := ["_law_rows", "_law_x", "_law_kind", "_law_owner"]) fun _ _ _ _ _ _ us hl => match us, hl with | [_, _, _, _], _ => rfl
theorem b_Lheld (T : Tx K mg) : Binds K T.fd_Lheld ["_law_rows"] [] := T.F_Lheld.binds (ps := ["_law_rows"]) fun _ _ _ _ _ _ us hl => match us, hl with | [_], _ => rfl
theorem b_Lplace (T : Tx K mg) : Binds K T.fd_Lplace ["_law_rows", "_law_n", "_law_o"] [] := T.F_Lplace.binds (ps := ["_law_rows", "_law_n", "_law_o"]) fun _ _ _ _ _ _ us hl => match us, hl with | [_, _, _], _ => rfl
theorem b_Lput (T : Tx K mg) : Binds K T.fd_Lput ["_law_rows", "_law_n", "_law_o", "_law_x"] [] := T.F_Lput.binds (ps := ["_law_rows", "_law_n", "_law_o", "_law_x"]) fun _ _ _ _ _ _ us hl => match us, hl with | [_, _, _, _], _ => rfl
theorem b_Lfile (T : Tx K mg) : Binds K T.fd_Lfile ["_law_rows", "_law_feed_here", "_law_n", "_law_spare_here"] [] := T.F_Lfile.binds (ps := ["_law_rows", "_law_feed_here", "_law_n", "_law_spare_here"]) fun _ _ _ _ _ _ us hl => match us, hl with | [_, _, _, _], _ => rfl
theorem b_Lspare (T : Tx K mg) : Binds K T.fd_Lspare ["_law_feed_here"] [] := T.F_Lspare.binds (ps := ["_law_feed_here"]) fun _ _ _ _ _ _ us hl => match us, hl with | [_], _ => rfl
theorem b_Lgive (T : Tx K mg) : Binds K T.fd_Lgive ["_law_world", "_law_x", "_law_owner"] [] := T.F_Lgive.binds (ps := ["_law_world", "_law_x", "_law_owner"]) fun _ _ _ _ _ _ us hl => match us, hl with | [_, _, _], _ => rfl
theorem b_Lsettle (T : Tx K mg) : Binds K T.fd_Lsettle ["_law_world", "_law_elder"] [] := T.F_Lsettle.binds (ps := ["_law_world", "_law_elder"]) fun _ _ _ _ _ _ us hl => match us, hl with | [_, _], _ => rfl
theorem b_Ldrop (T : Tx K mg) : Binds K T.fd_Ldrop ["_law_world", "_law_n", "_law_o"] [] := T.F_Ldrop.binds (ps := ["_law_world", "_law_n", "_law_o"]) fun _ _ _ _ _ _ us hl => match us, hl with | [_, _, _], _ => rfl
theorem b_Lwords (T : Tx K mg) : Binds K T.fd_Lwords ["_law_rows", "_law_n"] [] := T.F_Lwords.binds (ps := ["_law_rows", "_law_n"]) fun _ _ _ _ _ _ us hl => match us, hl with | [_, _], _ => rfl
theorem b_Lclear (T : Tx K mg) : Binds K T.fd_Lclear ["_law_rows", "_law_n", "_law_size"] [] := T.F_Lclear.binds (ps := ["_law_rows", "_law_n", "_law_size"]) fun _ _ _ _ _ _ us hl => match us, hl with | [_, _, _], _ => rfl
theorem b_Lpiece (T : Tx K mg) : Binds K T.fd_Lpiece ["_law_world", "_law_n"] [] := T.F_Lpiece.binds (ps := ["_law_world", "_law_n"]) fun _ _ _ _ _ _ us hl => match us, hl with | [_, _], _ => rfl
theorem b_Lunfinished (T : Tx K mg) : Binds K T.fd_Lunfinished ["_law_rows", "_law_n"] [] := T.F_Lunfinished.binds (ps := ["_law_rows", "_law_n"]) fun _ _ _ _ _ _ us hl => match us, hl with | [_, _], _ => rfl
theorem b_Lblocks (T : Tx K mg) : Binds K T.fd_Lblocks ["_law_rows", "_law_n"] [] := T.F_Lblocks.binds (ps := ["_law_rows", "_law_n"]) fun _ _ _ _ _ _ us hl => match us, hl with | [_, _], _ => rfl
theorem b_Lkept (T : Tx K mg) : Binds K T.fd_Lkept ["_law_world"] [] := T.F_Lkept.binds (ps := ["_law_world"]) fun _ _ _ _ _ _ us hl => match us, hl with | [_], _ => rfl
theorem b_Lmodel (T : Tx K mg) : Binds K T.fd_Lmodel ["_law_world", "_law_deed"] [] := T.F_Lmodel.binds (ps := ["_law_world", "_law_deed"]) fun _ _ _ _ _ _ us hl => match us, hl with | [_, _], _ => rfl
theorem b_Lcall (T : Tx K mg) : Binds K T.fd_Lcall ["_law_image", "_law_deed"] [] := T.F_Lcall.binds (ps := ["_law_image", "_law_deed"]) fun _ _ _ _ _ _ us hl => match us, hl with | [_, _], _ => rfl
theorem b_Lrun (T : Tx K mg) : Binds K T.fd_Lrun ["_law_image", "_law_world", "_law_deed"] [] := T.F_Lrun.binds (ps := ["_law_image", "_law_world", "_law_deed"]) fun _ _ _ _ _ _ us hl => match us, hl with | [_, _, _], _ => rfl
theorem b_Llooks (T : Tx K mg) : Binds K T.fd_Llooks ["_law_image", "_law_rows", "_law_at", "_law_count"] [] := T.F_Llooks.binds (ps := ["_law_image", "_law_rows", "_law_at", "_law_count"]) fun _ _ _ _ _ _ us hl => match us, hl with | [_, _, _, _], _ => rfl
theorem b_Ldeeds (T : Tx K mg) : Binds K T.fd_Ldeeds ["_law_feed_here"] [] := T.F_Ldeeds.binds (ps := ["_law_feed_here"]) fun _ _ _ _ _ _ us hl => match us, hl with | [_], _ => rfl
theorem b_law (T : Tx K mg) : Binds K T.fd_law ["_law_script"] [] := T.F_law.binds (ps := ["_law_script"]) fun _ _ _ _ _ _ us hl => match us, hl with | [_], _ => rfl
theorem b_Plan_map_place (T : Tx K mg) : Binds K T.fd_Plan_map_place ["self", "x"] [] := T.F_Plan_map_place.binds (ps := ["self", "x"]) fun _ _ _ _ _ _ us hl => match us, hl with | [_, _], _ => rfl
theorem b_Plan_node_block (T : Tx K mg) : Binds K T.fd_Plan_node_block ["self", "n"] [] := T.F_Plan_node_block.binds (ps := ["self", "n"]) fun _ _ _ _ _ _ us hl => match us, hl with | [_, _], _ => rfl
theorem b_Plan_data_blocks (T : Tx K mg) : Binds K T.fd_Plan_data_blocks ["self"] [] := T.F_Plan_data_blocks.binds (ps := ["self"]) fun _ _ _ _ _ _ us hl => match us, hl with | [_], _ => rfl
theorem b_Image___init__ (T : Tx K mg) : Binds K T.fd_Image___init__ ["self", "plan"] [] := T.F_Image___init__.binds (ps := ["self", "plan"]) fun _ _ _ _ _ _ us hl => match us, hl with | [_, _], _ => rfl
theorem b_Image_begin (T : Tx K mg) : Binds K T.fd_Image_begin ["self", "wish", "barred"] [] := T.F_Image_begin.binds (ps := ["self", "wish", "barred"]) fun _ _ _ _ _ _ us hl => match us, hl with | [_, _, _], _ => rfl
theorem b_Image_settle (T : Tx K mg) : Binds K T.fd_Image_settle ["self", "before"] [] := T.F_Image_settle.binds (ps := ["self", "before"]) fun _ _ _ _ _ _ us hl => match us, hl with | [_, _], _ => rfl
theorem b_Image_twin (T : Tx K mg) : Binds K T.fd_Image_twin ["self"] [] := T.F_Image_twin.binds (ps := ["self"]) fun _ _ _ _ _ _ us hl => match us, hl with | [_], _ => rfl
theorem b_Image_give (T : Tx K mg) : Binds K T.fd_Image_give ["self", "x", "owner"] [] := T.F_Image_give.binds (ps := ["self", "x", "owner"]) fun _ _ _ _ _ _ us hl => match us, hl with | [_, _, _], _ => rfl
theorem b_Image__put_block (T : Tx K mg) : Binds K T.fd_Image__put_block ["self", "x", "kind", "serial"] [] := T.F_Image__put_block.binds (ps := ["self", "x", "kind", "serial"]) fun _ _ _ _ _ _ us hl => match us, hl with | [_, _, _, _], _ => rfl
theorem b_Image_free_blocks (T : Tx K mg) : Binds K T.fd_Image_free_blocks ["self"] [] := T.F_Image_free_blocks.binds (ps := ["self"]) fun _ _ _ _ _ _ us hl => match us, hl with | [_], _ => rfl
theorem b_Image_kind (T : Tx K mg) : Binds K T.fd_Image_kind ["self", "x"] [] := T.F_Image_kind.binds (ps := ["self", "x"]) fun _ _ _ _ _ _ us hl => match us, hl with | [_, _], _ => rfl
theorem b_Image_of_cells (T : Tx K mg) : Binds K T.fd_Image_of_cells ["plan", "rows"] [] := T.F_Image_of_cells.binds (ps := ["plan", "rows"]) fun _ _ _ _ _ _ us hl => match us, hl with | [_, _], _ => rfl
end
end K09
namespace K09
open PySem PySem.Spec PyProof.Rows L2 Rg
section
variable {P : Program} {w : World} {K : PySem.W.Frag} {mg : Str → Option Value} {base : Heap}
/-! ### _law_pick -/
def sp_Lpick : Sp := fun vs H Q _ => ∃ (p : Addr) (fs : List Int) (lim : Int), vs = [.ref p, .int lim] ∧ H p = some (.lst (fs.map V.int)) ∧ 0 < lim ∧
  ∀ (r : Int) (fs' : List Int), 0 ≤ r → r < lim → fs'.length ≤ fs.length → Q (.int r) (upd H p (.lst (fs'.map V.int)))
theorem ok_Lpick (T : Tx K mg) : FnOk P w K mg base CX0 1 T.f_Lpick T.fd_Lpick ["_law_feed_here", "_law_limit"] sp_Lpick := by
  refine T.F_Lpick.ok sc_Lpick (fun vs H Q E h => ?_) (fun cdv A outer s H vs Q E hr h => ?_)
  · obtain ⟨p, fs, lim, rfl, _⟩ := h
    rfl
  · obtain ⟨p, fs, lim, rfl, hp, hl, k⟩ := h
    refine ⟨_, (pss_cons (ps_if (pt_cmpR op_eq (pe_callB call_len_seq rfl T.b_len (by decide +kernel) (pa_cons (pv 0) pa_nil)) pe_int (nomark _))
        (pss_one (ps_ret pe_int))
        pss_nil)
      (pss_one (ps_ret (pe_op op_mod (pe_callTy call_int1 rfl T.b_int (by decide +kernel) (pa_cons (pe_bm PySem.F.plainAttrs_list PySem.F.slot_list_pop PySem.F.type_list_pop mt_popAt (pv 0) (pa_cons pe_int pa_nil)) pa_nil)) (pv 1))))), ?_⟩
    refine ⟨_, rfl, p, fs.map V.int, rfl, .inl (.inl (.inl hp)), rfl, _, rfl, ite2 (fun e => ?_) (fun e => ?_)⟩
    · have := k 0 fs (Int.le_refl _) hl (Nat.le_refl _)
      rw [upd_id hp] at this
      exact this
    · cases fs with
      | nil => exact absurd (decide_eq_true rfl) e
      | cons x r =>
        refine ⟨.ref p, rfl, .inl ⟨rfl, _, .inl (.inl hp)⟩, p, _, 0, 0, .int x, rfl, rfl, hp, by decide, by decide, ?_, rfl, .inl ⟨x, rfl, ?_⟩⟩
        · rw [List.length_map]; simp [seqIndex?]
        · refine ⟨.int lim, rfl, _, _, rfl, rfl, hl, ?_⟩
          exact k _ r (Int.emod_nonneg _ (by omega)) (Int.emod_lt_of_pos _ hl) (by simp)

/-! ### _law_feed -/
def sp_Lfeed (K : PySem.W.Frag) : Sp := fun vs H Q _ => ∃ (a : Addr) (ns : List Int), vs = [.ref a] ∧ SqL K H a (ns.map V.int) ∧ ns.length ≤ 63 ∧
  ∀ (H' : Hp) (p : Addr) (fs : List Int), Same H H' → H p = none → H' p = some (.lst (fs.map V.int)) → fs.length ≤ 5000 → Q (.ref p) H'
theorem ok_Lfeed (T : Tx K mg) : FnOk P w K mg base CX0 1 T.f_Lfeed T.fd_Lfeed ["_law_script"] (sp_Lfeed K) := by
  refine T.F_Lfeed.ok sc_Lfeed (fun vs H Q E h => ?_) (fun cdv A outer s H vs Q E hr h => ?_)
  · obtain ⟨_, _, rfl, _⟩ := h; rfl
  · obtain ⟨a, ns, rfl, hS, hlen, k⟩ := h
    refine ⟨_, (pss_cons (ps_set (i := 1) sc_Lfeed.nd rfl (.inl rfl) (pe_lst pa_nil))
      (pss_cons (ps_for PassesOwn.never rfl (pi_list (pv 0)) (pg_name (i := 2) sc_Lfeed.nd rfl (.inl rfl))
        (pss_cons (ps_set (i := 3) sc_Lfeed.nd rfl (.inl rfl) (pe_callB call_abs rfl T.b_abs (by decide +kernel) (pa_cons (pv 2) pa_nil)))
        (Evl.pss_cut (ps_if (pt_cmpR op_lt (pv 3) (pe_op op_pow pe_int pe_int) (nomark _))
          (pss_cons (ps_set (i := 3) sc_Lfeed.nd rfl (.inl rfl) (pe_op op_mod (pe_callTy call_int1 rfl T.b_int (by decide +kernel) (pa_cons (pe_op op_add (pe_op op_mul (pv 3) pe_int) pe_int) pa_nil)) pe_int))
          (pss_cons (ps_expr (pe_bm PySem.F.plainAttrs_list PySem.F.slot_list_append PySem.F.type_list_append mt_append (pv 1) (pa_cons (pe_op op_mod (pe_callTy call_int1 rfl T.b_int (by decide +kernel) (pa_cons (pe_op op_add (pe_op op_mul (pv 3) pe_int) pe_int) pa_nil)) pe_int) pa_nil)))
          (pss_one (ps_set (i := 3) sc_Lfeed.nd rfl (.inl rfl) pe_int))))
          pss_nil)
        (pss_one (ps_for PassesOwn.never rfl (pi_range1 rfl T.b_range (pa_cons pe_int pa_nil)) (pg_name (i := 4) sc_Lfeed.nd rfl (.inl rfl))
          (pss_one (ps_if (pt_cmpR op_gt (pv 3) pe_int (nomark _))
            (pss_cons (ps_expr (pe_bm PySem.F.plainAttrs_list PySem.F.slot_list_append PySem.F.type_list_append mt_append (pv 1) (pa_cons (pe_op op_mod (pe_callTy call_int1 rfl T.b_int (by decide +kernel) (pa_cons (pv 3) pa_nil)) pe_int) pa_nil)))
            (pss_one (ps_set (i := 3) sc_Lfeed.nd rfl (.inl rfl) (pe_op op_fdiv (pv 3) pe_int))))
            pss_nil)))))))
      (pss_one (ps_ret (pv 1))))), ?_⟩
    refine ⟨Nat.zero_le _, fun p np => ?_⟩
    have s0 : Same H (upd H p (.lst [])) := same_upd np
    have npa : ∀ H2, SqL K H2 a (ns.map V.int) → True := fun _ _ => trivial
    refine ⟨_, rfl, a, rfl, ⟨_, s0.seq hS⟩, for_list (K := K) (a := a) (xs := ns.map V.int) (fun i σ H2 => ∃ (fs : List Int) (v2 v3 v4 : Option V), σ = [some (.ref a), some (.ref p), v2, v3, v4] ∧ H2 = upd H p (.lst (fs.map V.int)) ∧ fs.length ≤ 61 * i)
      ⟨[], none, none, none, rfl, rfl, Nat.zero_le _⟩ (fun i σ H2 _ ⟨_, _, _, _, _, e, _⟩ => by rw [e]; exact (same_upd np).seq hS) ?_ ?_⟩
    · rintro i y σ H2 hi ⟨fs, v2, v3, v4, rfl, rfl, hl⟩
      have hil : i < 63 := by
        have := (List.getElem?_eq_some_iff.mp hi).1
        rw [List.length_map] at this
        omega
      obtain ⟨z, rfl⟩ : ∃ z, y = V.int z := by
        rw [List.getElem?_map] at hi
        cases e : ns[i]? with
        | none => rw [e] at hi; cases hi
        | some z => rw [e] at hi; exact ⟨z, (Option.some.inj hi).symm⟩
      refine ⟨_, rfl, z, rfl, ?_⟩
      refine ⟨fun σ' H' => ∃ (fs : List Int) (R : Int) (v4 : Option V), σ' = [some (.ref a), some (.ref p), some (.int z), some (.int R), v4] ∧ H' = upd H p (.lst (fs.map V.int)) ∧ 0 ≤ R ∧ fs.length ≤ 61 * i + 1, ?_, ?_⟩
      · have hz : 0 ≤ (if z < 0 then -z else z) := by split <;> omega
        refine ⟨_, rfl, _, _, rfl, rfl, ⟨by decide, by decide, by decide⟩, _, _, rfl, rfl, _, rfl, ite2 (fun e => ?_) (fun e => ?_)⟩
        · have e1 : (if z < 0 then -z else z) < 10 ^ 18 := of_decide_eq_true e
          refine ⟨_, rfl, _, _, rfl, rfl, .inl ⟨by omega, by omega⟩, _, _, rfl, rfl, .inl ⟨_, rfl, _, _, rfl, rfl, (by show (0 : Int) < _; decide), ?_⟩⟩
          refine ⟨.ref p, rfl, .inl ⟨rfl, _, .inl (.inl upd_same)⟩, _, rfl, _, _, rfl, rfl, .inr ⟨by decide, by decide⟩, _, _, rfl, rfl, .inl ⟨_, rfl, _, _, rfl, rfl, (by show (0 : Int) < _; decide), p, _, _, rfl, rfl, upd_same, ?_, ?_⟩⟩
          · rw [List.length_map]; exact Nat.lt_of_lt_of_le (Nat.lt_succ_of_le hl) (by unfold sizeLine; omega)
          · exact ⟨fs ++ [_], 0, v4, rfl, upd_app, Int.le_refl _, by rw [List.length_append]; simp; omega⟩
        · exact ⟨fs, _, v4, rfl, rfl, hz, by omega⟩
      · rintro σ' H' ⟨fs, R, v4, rfl, rfl, hR, hl⟩
        refine ⟨60, rfl, by decide, by decide, for_range (lo := 0) (n := 60) (fun j σ' H' => ∃ (fs : List Int) (R : Int) (v4 : Option V), σ' = [some (.ref a), some (.ref p), some (.int z), some (.int R), v4] ∧ H' = upd H p (.lst (fs.map V.int)) ∧ 0 ≤ R ∧ fs.length ≤ 61 * i + 1 + j)
          ⟨fs, R, v4, rfl, rfl, hR, hl⟩ ?_ ?_⟩
        · rintro j σ' H' hj ⟨fs, R, v4, rfl, rfl, hR, hl⟩
          refine ⟨_, rfl, _, _, rfl, rfl, _, rfl, ite2 (fun e => ?_) (fun e => ?_)⟩
          · refine ⟨.ref p, rfl, .inl ⟨rfl, _, .inl (.inl upd_same)⟩, _, rfl, .inl ⟨_, rfl, _, _, rfl, rfl, (by show (0 : Int) < _; decide), p, _, _, rfl, rfl, upd_same, ?_, ?_⟩⟩
            · rw [List.length_map]; exact Nat.lt_of_lt_of_le (Nat.lt_succ_of_le hl) (by unfold sizeLine; omega)
            · refine ⟨_, rfl, _, _, rfl, rfl, ⟨by decide, by decide⟩, fs ++ [_], _, _, rfl, upd_app, Int.ediv_nonneg hR (by decide), by rw [List.length_append]; simp; omega⟩
          · exact ⟨fs, R, _, rfl, rfl, hR, by omega⟩
        · rintro σ' H' ⟨fs, R, v4, rfl, rfl, hR, hl⟩
          exact ⟨fs, _, _, _, rfl, rfl, by omega⟩
    · rintro σ H2 ⟨fs, v2, v3, v4, rfl, rfl, hl⟩
      rw [List.length_map] at hl
      exact ⟨_, rfl, k _ p fs (same_upd np) np upd_same (by omega)⟩
end
end K09
namespace K09
open PySem PySem.Spec PyProof.Rows L2 Rg
section
variable {P : Program} {w : World} {K : PySem.W.Frag} {mg : Str → Option Value} {base : Heap}
/-! ### plans -/
def planF (b n s : Int) : List (Str × V) := [("blocks", .int b), ("nodes", .int n), ("slots", .int s), ("maps", .int ((b + 8 - 1) / 8)), ("first_node", .int (2 + (b + 8 - 1) / 8)), ("first_data", .int (2 + (b + 8 - 1) / 8 + n))]
structure PlanAt (C : Addr) (H : Hp) (p : Addr) (b n s : Int) : Prop where
  ob : ∃ dx, H p = some (.ins C dx (planF b n s))
  b1 : 8 ≤ b
  b2 : b ≤ 64
  n1 : 2 ≤ n
  n2 : n ≤ 16
  s1 : b < s
  s2 : s ≤ 200
  d : 2 ≤ b - (2 + (b + 8 - 1) / 8 + n)
theorem PlanAt.same {C : Addr} {H H' : Hp} {p : Addr} {b n s : Int} (e : Same H H') (h : PlanAt C H p b n s) : PlanAt C H' p b n s :=
  let ⟨dx, z⟩ := h.ob
  ⟨⟨dx, e _ _ z⟩, h.b1, h.b2, h.n1, h.n2, h.s1, h.s2, h.d⟩
theorem PlanAt.of {C : Addr} {H H' : Hp} {p : Addr} {b n s : Int} (h : PlanAt C H p b n s) (e : ∀ o, H p = some o → H' p = some o) : PlanAt C H' p b n s :=
  let ⟨dx, z⟩ := h.ob
  ⟨⟨dx, e _ z⟩, h.b1, h.b2, h.n1, h.n2, h.s1, h.s2, h.d⟩
def sp_Plan_init (C : Addr) : Sp := fun vs H Q _ => ∃ (p dx : Addr) (b n s : Int), vs = [.ref p, .int b, .int n, .int s] ∧ H p = some (.ins C dx []) ∧ 8 ≤ b ∧ b ≤ 64 ∧ 2 ≤ n ∧ n ≤ 16 ∧ b < s ∧ s ≤ 200 ∧ 2 ≤ b - (2 + (b + 8 - 1) / 8 + n) ∧
  Q .non (upd H p (.ins C dx (planF b n s)))
theorem ok_Plan_init (T : Tx K mg) : FnOk P w K mg base CX0 1 T.f_Plan___init__ T.fd_Plan___init__ ["self", "blocks", "nodes", "slots"] (sp_Plan_init T.C_Plan) := by
  refine T.F_Plan___init__.ok sc_Plan___init__ (fun vs H Q E h => ?_) (fun cdv A outer s H vs Q E hr h => ?_)
  · obtain ⟨_, _, _, _, _, rfl, _⟩ := h; rfl
  · obtain ⟨p, dx, b, n, sl, rfl, hp, h1, h2, h3, h4, h5, h6, h7, k⟩ := h
    refine ⟨_, (pss_cons (ps_if (pt_not (pt_chain op_le op_le (pe_gc T.c_LEAST_BLOCKS) (pv 1) (pe_gc T.c_MOST_BLOCKS)))
        (pss_one ps_never)
        pss_nil)
      (pss_cons (ps_if (pt_not (pt_chain op_le op_le (pe_gc T.c_LEAST_NODES) (pv 2) (pe_gc T.c_MOST_NODES)))
        (pss_one ps_never)
        pss_nil)
      (pss_cons (ps_if (pt_not (pt_chain op_lt op_le (pv 1) (pv 3) (pe_gc T.c_MOST_SLOTS)))
        (pss_one ps_never)
        pss_nil)
      (pss_cons (ps_fld (pv 0) (pv 1) rfl)
      (pss_cons (ps_fld (pv 0) (pv 2) rfl)
      (pss_cons (ps_fld (pv 0) (pv 3) rfl)
      (pss_cons (ps_fld (pv 0) (pe_op op_fdiv (pe_op op_sub (pe_op op_add (pv 1) (pe_con (pv 0) rfl)) pe_int) (pe_con (pv 0) rfl)) rfl)
      (pss_cons (ps_fld (pv 0) (pe_op op_add (pe_gc T.c_FIRST_MAP) (pe_fld (pv 0) rfl)) rfl)
      (pss_cons (ps_fld (pv 0) (pe_op op_add (pe_fld (pv 0) rfl) (pv 2)) rfl)
      (pss_one (ps_if (pt_cmpR op_lt (pe_op op_sub (pv 1) (pe_fld (pv 0) rfl)) (pe_gc T.c_LEAST_DATA) (nomark _))
        (pss_one ps_never)
        pss_nil))))))))))), ?_⟩
    obtain ⟨uW, cW⟩ := T.con_Plan_WIDTH
    refine ⟨_, rfl, _, _, rfl, rfl, _, rfl, ?_⟩
    rw [decide_eq_true h1]
    refine iteT ⟨_, _, rfl, rfl, _, rfl, ?_⟩
    rw [decide_eq_true h2]
    refine iteF ⟨_, rfl, _, _, rfl, rfl, _, rfl, ?_⟩
    rw [decide_eq_true h3]
    refine iteT ⟨_, _, rfl, rfl, _, rfl, ?_⟩
    rw [decide_eq_true h4]
    refine iteF ⟨_, rfl, _, rfl, _, _, rfl, rfl, _, rfl, ?_⟩
    rw [decide_eq_true h5]
    refine iteT ⟨_, _, rfl, rfl, _, rfl, ?_⟩
    rw [decide_eq_true h6]
    refine iteF ⟨_, rfl, _, rfl, p, _, dx, _, rfl, hp, T.cl_Plan, T.na_Plan_blocks, (by show 0 < 1000; decide), ?_⟩
    refine ⟨_, rfl, _, rfl, p, _, dx, _, rfl, upd_same, T.cl_Plan, T.na_Plan_nodes, (by show 1 < 1000; decide), ?_⟩
    refine ⟨_, rfl, _, rfl, p, _, dx, _, rfl, upd_same, T.cl_Plan, T.na_Plan_slots, (by show 2 < 1000; decide), ?_⟩
    refine ⟨_, rfl, _, rfl, p, _, dx, _, _, _, rfl, upd_same, T.cl_Plan, cW, rfl, _, _, rfl, rfl, _, _, rfl, rfl, _, rfl, p, _, dx, _, _, _, rfl, upd_same, T.cl_Plan, cW, rfl, _, _, rfl, rfl, ⟨by decide, by decide⟩, ?_⟩
    refine ⟨_, rfl, p, _, dx, _, rfl, upd_same, T.cl_Plan, T.na_Plan_maps, (by show 3 < 1000; decide), ?_⟩
    refine ⟨_, rfl, p, _, dx, _, _, rfl, upd_same, T.cl_Plan, T.na_Plan_maps, rfl, _, _, rfl, rfl, _, rfl, p, _, dx, _, rfl, upd_same, T.cl_Plan, T.na_Plan_first_node, (by show 4 < 1000; decide), ?_⟩
    refine ⟨_, rfl, p, _, dx, _, _, rfl, upd_same, T.cl_Plan, T.na_Plan_first_node, rfl, _, rfl, _, _, rfl, rfl, _, rfl, p, _, dx, _, rfl, upd_same, T.cl_Plan, T.na_Plan_first_data, (by show 5 < 1000; decide), ?_⟩
    refine ⟨_, rfl, _, rfl, p, _, dx, _, _, rfl, upd_same, T.cl_Plan, T.na_Plan_first_data, rfl, _, _, rfl, rfl, _, _, rfl, rfl, _, rfl, ?_⟩
    rw [decide_eq_false (by omega)]
    refine iteF ?_
    rw [upd_upd, upd_upd, upd_upd, upd_upd, upd_upd]
    exact k
/-- the call Plan(b, nodes=n, slots=s) -/
theorem kb_Plan (T : Tx K mg) : KBn K T.fd_Plan___init__ ["self", "blocks", "nodes", "slots"] 2 ["nodes", "slots"] (fun us ws => us ++ ws) (fun us ws => us ++ ws) := by
  obtain ⟨oc, od, kV, doc, pm, an, cdv, ct, osl, e, lk, hcd⟩ := T.F_Plan___init__.ex
  refine ⟨fun s us ws _ l1 l2 => ?_, fun r1 r2 => r1.append r2⟩
  rw [e]
  match us, ws, l1, l2 with
  | [_, _], [_, _], _, _ => exact .of_eq rfl
def sp_map_place (C : Addr) : Sp := fun vs H Q _ => ∃ (p : Addr) (b n s x : Int), vs = [.ref p, .int x] ∧ PlanAt C H p b n s ∧ ∀ t, H t = none → Q (.ref t) (upd H t (.tup [.int (2 + x / 8), .int (x % 8)]))
theorem ok_Plan_map_place (T : Tx K mg) : FnOk P w K mg base CX0 1 T.f_Plan_map_place T.fd_Plan_map_place ["self", "x"] (sp_map_place T.C_Plan) := by
  refine T.F_Plan_map_place.ok sc_Plan_map_place (fun vs H Q E h => ?_) (fun cdv A outer s H vs Q E hr h => ?_)
  · obtain ⟨_, _, _, _, _, rfl, _⟩ := h; rfl
  · obtain ⟨p, b, n, sl, x, rfl, hP, k⟩ := h
    obtain ⟨dx, hp⟩ := hP.ob
    obtain ⟨uW, cW⟩ := T.con_Plan_WIDTH
    refine ⟨_, (pss_one (ps_ret (pe_tup (pa_cons (pe_op op_add (pe_gc T.c_FIRST_MAP) (pe_op op_fdiv (pv 1) (pe_con (pv 0) rfl))) (pa_cons (pe_op op_mod (pv 1) (pe_con (pv 0) rfl)) pa_nil))))), ?_⟩
    refine ⟨_, rfl, _, rfl, p, _, dx, _, _, _, rfl, hp, T.cl_Plan, cW, rfl, _, _, rfl, rfl, ⟨by decide, by decide⟩, _, _, rfl, rfl, _, rfl, _, rfl, p, _, dx, _, _, _, rfl, hp, T.cl_Plan, cW, rfl, _, _, rfl, rfl, (by show (0 : Int) < _; decide), (by show 2 ≤ sizeLine; decide), k⟩
def sp_node_block (C : Addr) : Sp := fun vs H Q _ => ∃ (p : Addr) (b n s x : Int), vs = [.ref p, .int x] ∧ PlanAt C H p b n s ∧ Q (.int (2 + (b + 8 - 1) / 8 + x - 1)) H
theorem ok_Plan_node_block (T : Tx K mg) : FnOk P w K mg base CX0 1 T.f_Plan_node_block T.fd_Plan_node_block ["self", "n"] (sp_node_block T.C_Plan) := by
  refine T.F_Plan_node_block.ok sc_Plan_node_block (fun vs H Q E h => ?_) (fun cdv A outer s H vs Q E hr h => ?_)
  · obtain ⟨_, _, _, _, _, rfl, _⟩ := h; rfl
  · obtain ⟨p, b, n, sl, x, rfl, hP, k⟩ := h
    obtain ⟨dx, hp⟩ := hP.ob
    refine ⟨_, (pss_one (ps_ret (pe_op op_sub (pe_op op_add (pe_fld (pv 0) rfl) (pv 1)) pe_int))), ?_⟩
    exact ⟨_, rfl, p, _, dx, _, _, rfl, hp, T.cl_Plan, T.na_Plan_first_node, rfl, _, rfl, _, _, rfl, rfl, _, _, rfl, rfl, k⟩
end
end K09
namespace K09
open PySem PySem.Spec PyProof.Rows L2 Rg
/-! ### a list of lists of ints -/
structure Grid (H : Hp) (ca : Addr) (rs : List Addr) (M : List (List Int)) : Prop where
  out : H ca = some (.lst (rs.map V.ref))
  len : rs.length = M.length
  row : ∀ (i : Nat) (r : Addr) (m : List Int), rs[i]? = some r → M[i]? = some m → H r = some (.lst (m.map V.int))
  nd : rs.Nodup
  nin : ca ∉ rs
theorem Grid.held {H : Hp} {ca : Addr} {rs : List Addr} {M : List (List Int)} (G : Grid H ca rs M) {r : Addr} (h : r ∈ rs) : ∃ o, H r = some o := by
  obtain ⟨i, hi, e⟩ := List.getElem_of_mem h
  have hm : i < M.length := by rw [← G.len]; exact hi
  exact ⟨_, G.row i r M[i] (by rw [List.getElem?_eq_getElem hi, e]) (List.getElem?_eq_getElem hm)⟩
theorem Grid.same {H H' : Hp} {ca : Addr} {rs : List Addr} {M : List (List Int)} (G : Grid H ca rs M) (s : Same H H') : Grid H' ca rs M :=
  ⟨s _ _ G.out, G.len, fun i r m a b => s _ _ (G.row i r m a b), G.nd, G.nin⟩
/-- kept where it stands -/
theorem Grid.keep {H H' : Hp} {ca : Addr} {rs : List Addr} {M : List (List Int)} (G : Grid H ca rs M) (h : ∀ b o, b = ca ∨ b ∈ rs → H b = some o → H' b = some o) : Grid H' ca rs M :=
  ⟨h _ _ (.inl rfl) G.out, G.len, fun i r m a b => h _ _ (.inr (List.mem_of_getElem? a)) (G.row i r m a b), G.nd, G.nin⟩
theorem Grid.get {H : Hp} {ca : Addr} {rs : List Addr} {M : List (List Int)} (G : Grid H ca rs M) {i : Nat} {m : List Int} (h : M[i]? = some m) : ∃ r, rs[i]? = some r ∧ H r = some (.lst (m.map V.int)) ∧ r ≠ ca := by
  have hi : i < rs.length := by rw [G.len]; exact (List.getElem?_eq_some_iff.mp h).1
  refine ⟨rs[i], List.getElem?_eq_getElem hi, G.row i _ m (List.getElem?_eq_getElem hi) h, fun e => G.nin ?_⟩
  rw [← e]
  exact List.getElem_mem hi
/-- one row stored anew -/
theorem Grid.put {H : Hp} {ca : Addr} {rs : List Addr} {M : List (List Int)} (G : Grid H ca rs M) {i : Nat} {r : Addr} {m : List Int} (hr : rs[i]? = some r) : Grid (upd H r (.lst (m.map V.int))) ca rs (M.set i m) := by
  have hi : i < rs.length := (List.getElem?_eq_some_iff.mp hr).1
  have hir : rs[i] = r := (List.getElem?_eq_some_iff.mp hr).2
  have rin : r ∈ rs := List.mem_of_getElem? hr
  refine ⟨?_, by rw [List.length_set]; exact G.len, fun j q m' hj hm => ?_, G.nd, G.nin⟩
  · rw [upd_ne (fun e => G.nin (by rw [e]; exact rin))]
    exact G.out
  · by_cases e : i = j
    · subst e
      rw [hr] at hj
      cases hj
      rw [List.getElem?_set_self (by rw [← G.len]; exact hi)] at hm
      cases hm
      exact upd_same
    · rw [List.getElem?_set_ne e] at hm
      have hq : q ≠ r := fun z => by
        subst z
        have hjl : j < rs.length := (List.getElem?_eq_some_iff.mp hj).1
        have := (List.getElem?_eq_some_iff.mp hj).2
        exact e ((List.getElem_inj G.nd).mp (hir.trans this.symm))
      rw [upd_ne hq]
      exact G.row j q m' hj hm
theorem map_set {α β : Type} (f : α → β) (l : List α) (i : Nat) (x : α) : (l.map f).set i (f x) = (l.set i x).map f := by
  rw [List.map_set]
/-- a grid that is new -/
structure NewGrid (H0 H : Hp) (D : Addr) (qs : List Addr) (M : List (List Int)) : Prop where
  grid : Grid H D qs M
  fresh : ∀ q ∈ qs, H0 q = none
  freshD : H0 D = none
  same : Same H0 H
theorem NewGrid.start {H0 H : Hp} {D : Addr} (s : Same H0 H) (hD : H0 D = none) (hn : H D = none) : NewGrid H0 (upd H D (.lst [])) D [] [] :=
  ⟨⟨by rw [upd_same]; rfl, rfl, fun i r m a _ => by simp at a, List.nodup_nil, by simp⟩, fun q h => (by cases h), hD, s.trans (same_upd hn)⟩
theorem NewGrid.snoc {H0 H H1 : Hp} {D : Addr} {qs : List Addr} {M : List (List Int)} {p : Addr} {m : List Int} (G : NewGrid H0 H D qs M) (s : Same H H1) (hp : H p = none) (h1 : H1 p = some (.lst (m.map V.int))) :
    NewGrid H0 (upd H1 D (.lst (qs.map V.ref ++ [V.ref p]))) D (qs ++ [p]) (M ++ [m]) := by
  have pD : p ≠ D := fun e => by
    rw [e, G.grid.out] at hp
    cases hp
  have pq : p ∉ qs := fun h => by
    obtain ⟨o, z⟩ := G.grid.held h
    rw [hp] at z
    cases z
  refine ⟨⟨by rw [upd_same, List.map_append]; rfl, by simp [G.grid.len], fun i r m' hi hm => ?_, ?_, ?_⟩, ?_, G.freshD, ?_⟩
  · by_cases e : i < qs.length
    · rw [List.getElem?_append_left e] at hi
      rw [List.getElem?_append_left (by rw [← G.grid.len]; exact e)] at hm
      have hr : r ∈ qs := List.mem_of_getElem? hi
      rw [upd_ne (fun z => G.grid.nin (by rw [← z]; exact hr))]
      exact s _ _ (G.grid.row i r m' hi hm)
    · have hi2 : i = qs.length := by
        have := (List.getElem?_eq_some_iff.mp hi).1
        simp at this
        omega
      subst hi2
      rw [List.getElem?_append_right (Nat.le_refl _)] at hi
      rw [G.grid.len, List.getElem?_append_right (Nat.le_refl _)] at hm
      simp at hi hm
      subst hi hm
      rw [upd_ne pD]
      exact h1
  · exact List.nodup_append.mpr ⟨G.grid.nd, by simp, fun a ha b hb => by simp at hb; subst hb; exact fun e => pq (e ▸ ha)⟩
  · simp
    exact ⟨G.grid.nin, fun e => pD e.symm⟩
  · intro q hq
    rcases List.mem_append.mp hq with h | h
    · exact G.fresh q h
    · simp at h
      subst h
      exact G.same.free hp
  · intro b o e
    rw [upd_ne (ne_of_none e G.freshD)]
    exact s _ _ (G.same _ _ e)
theorem NewGrid.nin0 {H0 H : Hp} {D : Addr} {qs : List Addr} {M : List (List Int)} (G : NewGrid H0 H D qs M) {b : Addr} {o : HO} (h : H0 b = some o) : b ≠ D ∧ b ∉ qs :=
  ⟨ne_of_none h G.freshD, fun z => by rw [G.fresh b z] at h; cases h⟩
end K09
namespace K09
open PySem PySem.Spec PyProof.Rows L2 Rg
/-! ### images -/
structure IA where
  (dx pl ca : Addr) (rs : List Addr) (ho st hd ba : Addr)
structure IV where
  (M : List (List Int)) (ho st : List Int) (hd : List (Int × Int)) (se wi : Int) (ba : List Int)
def imgF (A : IA) (v : IV) : List (Str × V) := [("plan", .ref A.pl), ("cells", .ref A.ca), ("holdings", .ref A.ho), ("stamps", .ref A.st), ("handles", .ref A.hd), ("serial", .int v.se), ("wish", .int v.wi), ("barred", .ref A.ba)]
def hdK (h : List (Int × Int)) : List (Key × V) := h.map fun p => (Sum.inl p.1, V.int p.2)
structure ImgAt (CI CP : Addr) (H : Hp) (im : Addr) (A : IA) (v : IV) (b n s : Int) : Prop where
  ob : H im = some (.ins CI A.dx (imgF A v))
  pl : PlanAt CP H A.pl b n s
  gr : Grid H A.ca A.rs v.M
  ho : H A.ho = some (.lst (v.ho.map V.int))
  st : H A.st = some (.lst (v.st.map V.int))
  hd : H A.hd = some (.dK (hdK v.hd))
  ba : H A.ba = some (.tup (v.ba.map V.int))
  n1 : A.ho ∉ A.rs
  n2 : A.st ∉ A.rs
  n3 : A.ho ≠ A.st
  n4 : A.ca ≠ A.ho
  n5 : A.ca ≠ A.st
  d0 : (v.M.length : Int) = b
  d1 : ∀ m ∈ v.M, m.length = 8
  d2 : (v.ho.length : Int) = b
  d3 : (v.st.length : Int) = b
/-- where an image may be changed -/
def IA.foot (A : IA) (im : Addr) : List Addr := im :: A.ca :: A.ho :: A.st :: A.hd :: A.rs
/-- its parts are new -/
structure IA.New (A : IA) (H0 : Hp) : Prop where
  ca : H0 A.ca = none
  rs : ∀ q ∈ A.rs, H0 q = none
  ho : H0 A.ho = none
  st : H0 A.st = none
  hd : H0 A.hd = none
theorem ImgAt.keep {CI CP : Addr} {H H' : Hp} {im : Addr} {A : IA} {v : IV} {b n s : Int} (I : ImgAt CI CP H im A v b n s) (h : ∀ x o, H x = some o → H' x = some o) : ImgAt CI CP H' im A v b n s :=
  { I with ob := h _ _ I.ob, pl := I.pl.same h, gr := I.gr.same h, ho := h _ _ I.ho, st := h _ _ I.st, hd := h _ _ I.hd, ba := h _ _ I.ba }
theorem rep_flat {α : Type} (n : Nat) (x : α) : (List.replicate n [x]).flatten = List.replicate n x := by
  induction n with
  | zero => rfl
  | succ n ih => rw [List.replicate_succ, List.flatten_cons, ih, List.replicate_succ]; rfl
theorem rep_map (n : Nat) (x : Int) : (List.replicate n (V.int x)) = (List.replicate n x).map V.int := by rw [List.map_replicate]
def zeroV (b : Int) : IV := ⟨List.replicate b.toNat (List.replicate 8 0), List.replicate b.toNat 0, List.replicate b.toNat 0, [], 0, 0, []⟩
section
variable {P : Program} {w : World} {K : PySem.W.Frag} {mg : Str → Option Value} {base : Heap}
def sp_Image_init (CI CP : Addr) : Sp := fun vs H Q _ => ∃ (p dx pl : Addr) (b n s : Int), vs = [.ref p, .ref pl] ∧ H p = some (.ins CI dx []) ∧ PlanAt CP H pl b n s ∧
  ∀ (H' : Hp) (A : IA), (∀ x o, H x = some o → x ≠ p → H' x = some o) → ImgAt CI CP H' p A (zeroV b) b n s → A.New H → A.pl = pl → Q .non H'
theorem ok_Image_init (T : Tx K mg) : FnOk P w K mg base CX0 1 T.f_Image___init__ T.fd_Image___init__ ["self", "plan"] (sp_Image_init T.C_Image T.C_Plan) := by
  refine T.F_Image___init__.ok sc_Image___init__ (fun vs H Q E h => ?_) (fun cdv A outer s H vs Q E hr h => ?_)
  · obtain ⟨_, _, _, _, _, _, rfl, _⟩ := h; rfl
  · obtain ⟨p, dx, pl, b, n, sl, rfl, hp, hP, k⟩ := h
    refine ⟨_, (pss_cons (ps_fld (pv 0) (pv 1) rfl)
      (pss_cons (ps_fld (pv 0) (pe_lc rfl (own := [("_", 2)]) (g := gName 2) (tt := tYes) sc_Image___init__.nd (pi_range1 rfl T.b_range (pa_cons (pe_fld (pv 1) rfl) pa_nil)) (blkOk_by (N := ["self", "plan", "_"]) (sc := defScope s_Image___init__) (by decide +kernel)) (fun _ _ _ _ _ => pg_name (i := 2) sc_Image___init__.nd rfl (Or.inl rfl)) (fun _ _ _ _ _ => pts_nil) (fun _ _ _ _ _ => (pe_op op_rep (pe_lst (pa_cons pe_int pa_nil)) (pe_cv T.mg_Plan T.cr_Plan T.cv_Plan_WIDTH)))) rfl)
      (pss_cons (ps_fld (pv 0) (pe_op op_rep (pe_lst (pa_cons pe_int pa_nil)) (pe_fld (pv 1) rfl)) rfl)
      (pss_cons (ps_fld (pv 0) (pe_op op_rep (pe_lst (pa_cons pe_int pa_nil)) (pe_fld (pv 1) rfl)) rfl)
      (pss_cons (ps_fld (pv 0) pe_dnewK rfl)
      (pss_cons (ps_fld (pv 0) pe_int rfl)
      (pss_cons (ps_fld (pv 0) pe_int rfl)
      (pss_one (ps_fld (pv 0) (pe_tup pa_nil) rfl))))))))), ?_⟩
    obtain ⟨dxp, hpl⟩ := hP.ob
    have hb1 := hP.b1
    have hb2 := hP.b2
    have nppl : pl ≠ p := fun e => by
      rw [e, hp] at hpl
      have := HO.ins.inj (Option.some.inj hpl)
      have := this.2.2
      simp [planF] at this
    -- self.plan = plan
    refine ⟨_, rfl, _, rfl, p, _, dx, _, rfl, hp, T.cl_Image, T.na_Image_plan, (by show 0 < 1000; decide), ?_⟩
    generalize hH1 : upd H p _ = H1
    obtain ⟨e1, k1, n1⟩ := own_f hH1
    have pl1 := k1.at1 hpl nppl
    -- self.cells = [[0] * Plan.WIDTH for _ in range(plan.blocks)]
    refine ⟨_, rfl, pl, _, dxp, _, _, rfl, pl1, T.cl_Plan, T.na_Plan_blocks, rfl, b, rfl, by omega, by omega, fun D hD => ?_⟩
    refine lc_range (lo := 0) (n := b.toNat) (fun i H' => ∃ qs, NewGrid H1 H' D qs (List.replicate i (List.replicate 8 0)))
      ⟨[], NewGrid.start (Same.refl _) hD hD⟩ ?_ ?_
    · rintro i H' hi ⟨qs, G⟩
      refine ⟨rfl, ?_⟩
      refine yes_ ?_
      refine ⟨by show 1 ≤ sizeLine; decide, fun l hl => ?_⟩
      refine ⟨l, 8, _, rfl, rfl, upd_same, by decide, by decide, by show 1 * 8 ≤ sizeLine; decide, fun q hq => ?_⟩
      have hq0 : H' q = none := un hq
      have hlD : H' D = some (.lst (qs.map V.ref)) := G.grid.out
      have hq1 : (upd (upd H' l (.lst [V.int 0])) q (.lst (List.replicate (8 : Int).toNat [V.int 0]).flatten)) q = some (.lst ((List.replicate 8 (0 : Int)).map V.int)) := by rw [upd_same]; rfl
      have sm : Same H' (upd (upd H' l (.lst [V.int 0])) q (.lst (List.replicate (8 : Int).toNat [V.int 0]).flatten)) := (same_upd hl).trans (same_upd hq)
      refine ⟨_, sm _ _ hlD, ?_, qs ++ [q], ?_⟩
      · rw [List.length_map, G.grid.len, List.length_replicate]
        exact small1000 (by omega)
      · rw [List.replicate_succ']
        exact G.snoc sm hq0 hq1
    rintro H2 ⟨qs, G⟩
    have e2 := G.same _ _ e1
    have pl2 := G.same _ _ pl1
    have npD : p ≠ D := ne_of_none e1 G.freshD
    refine ⟨_, rfl, p, _, dx, _, rfl, e2, T.cl_Image, T.na_Image_cells, (by show 1 < 1000; decide), ?_⟩
    generalize hH3 : upd H2 p _ = H3
    obtain ⟨e3, k3, n3⟩ := own_f hH3
    have pl3 := k3.at1 pl2 nppl
    -- self.holdings = [0] * plan.blocks
    refine ⟨by show 1 ≤ sizeLine; decide, fun l hl => ?_⟩
    generalize hH4 : upd H3 l _ = H4
    obtain ⟨e4, s4, n4⟩ := new_f hH4 hl
    have pl4 := s4 _ _ pl3
    refine ⟨_, rfl, pl, _, dxp, _, _, rfl, pl4, T.cl_Plan, T.na_Plan_blocks, rfl, l, b, _, rfl, rfl, e4, by omega, by omega, (by show 1 * b.toNat ≤ sizeLine; exact Nat.le_of_lt (small1000 (by omega))), fun ho hho => ?_⟩
    rw [rep_flat, rep_map]
    generalize hH5 : upd H4 ho _ = H5
    obtain ⟨e5, s5, n5⟩ := new_f hH5 hho
    refine ⟨_, rfl, p, _, dx, _, rfl, s5 _ _ (s4 _ _ e3), T.cl_Image, T.na_Image_holdings, (by show 2 < 1000; decide), ?_⟩
    generalize hH6 : upd H5 p _ = H6
    obtain ⟨e6, k6, n6⟩ := own_f hH6
    have pl6 := k6.at1 (s5 _ _ pl4) nppl
    have nho : ho ≠ p := (ne_of_none (s4 _ _ e3) hho).symm
    have ho6 := k6.at1 e5 nho
    -- self.stamps = [0] * plan.blocks
    refine ⟨by show 1 ≤ sizeLine; decide, fun l2 hl2 => ?_⟩
    generalize hH7 : upd H6 l2 _ = H7
    obtain ⟨e7, s7, n7⟩ := new_f hH7 hl2
    refine ⟨_, rfl, pl, _, dxp, _, _, rfl, s7 _ _ pl6, T.cl_Plan, T.na_Plan_blocks, rfl, l2, b, _, rfl, rfl, e7, by omega, by omega, (by show 1 * b.toNat ≤ sizeLine; exact Nat.le_of_lt (small1000 (by omega))), fun st hst => ?_⟩
    rw [rep_flat, rep_map]
    generalize hH8 : upd H7 st _ = H8
    obtain ⟨e8, s8, n8⟩ := new_f hH8 hst
    refine ⟨_, rfl, p, _, dx, _, rfl, s8 _ _ (s7 _ _ e6), T.cl_Image, T.na_Image_stamps, (by show 3 < 1000; decide), ?_⟩
    generalize hH9 : upd H8 p _ = H9
    obtain ⟨e9, k9, n9⟩ := own_f hH9
    have nst : st ≠ p := (ne_of_none (s7 _ _ e6) hst).symm
    have nsth : st ≠ ho := (ne_of_none (s7 _ _ ho6) hst).symm
    have st9 := k9.at1 e8 nst
    have ho9 := k9.at1 (s8 _ _ (s7 _ _ ho6)) nho
    -- self.handles = {}; serial, wish, barred
    intro hd hhd
    generalize hH10 : upd H9 hd _ = H10
    obtain ⟨e10, s10, n10⟩ := new_f hH10 hhd
    have nhd : hd ≠ p := (ne_of_none e9 hhd).symm
    refine ⟨_, rfl, p, _, dx, _, rfl, s10 _ _ e9, T.cl_Image, T.na_Image_handles, (by show 4 < 1000; decide), ?_⟩
    generalize hH11 : upd H10 p _ = H11
    obtain ⟨e11, k11, n11⟩ := own_f hH11
    refine ⟨_, rfl, p, _, dx, _, rfl, e11, T.cl_Image, T.na_Image_serial, (by show 5 < 1000; decide), ?_⟩
    generalize hH12 : upd H11 p _ = H12
    obtain ⟨e12, k12, n12⟩ := own_f hH12
    refine ⟨_, rfl, p, _, dx, _, rfl, e12, T.cl_Image, T.na_Image_wish, (by show 6 < 1000; decide), ?_⟩
    generalize hH13 : upd H12 p _ = H13
    obtain ⟨e13, k13, n13⟩ := own_f hH13
    refine ⟨by show 0 ≤ sizeLine; decide, fun ba hba => ?_⟩
    generalize hH14 : upd H13 ba _ = H14
    obtain ⟨e14, s14, n14⟩ := new_f hH14 hba
    have nba : ba ≠ p := (ne_of_none e13 hba).symm
    refine ⟨_, rfl, p, _, dx, _, rfl, s14 _ _ e13, T.cl_Image, T.na_Image_barred, (by show 7 < 1000; decide), ?_⟩
    generalize hH15 : upd H14 p _ = H15
    obtain ⟨e15, k15, n15⟩ := own_f hH15
    -- what stands
    have k10 : Kp [p] H10 H15 := (((k11.trans k12).trans k13).same s14).trans k15
    have k2 : Kp [p] H2 H15 := ((((((k3.same s4).same s5).trans k6).same s7).same s8).trans (k9.same s10)).trans k10
    have k0 : Kp [p] H H15 := (k1.same G.same).trans k2
    have f_ho : H2 ho = none := (n3 _ (n4 _ hho).1).1
    have f_st : H2 st = none := (n3 _ (n4 _ (n5 _ (n6 _ (n7 _ hst).1).1).1).1).1
    have f_hd : H2 hd = none := (n3 _ (n4 _ (n5 _ (n6 _ (n7 _ (n8 _ (n9 _ hhd).1).1).1).1).1).1).1
    have fr : ∀ x, H2 x = none → H x = none := fun x e => (n1 _ (G.same.free e)).1
    have qp : ∀ q ∈ qs, q ≠ p := fun q hq e => by
      have := G.fresh q hq
      rw [e, e1] at this
      cases this
    have qn : ∀ x, H2 x = none → x ∉ qs := fun x e hq => by
      obtain ⟨o, z⟩ := G.grid.held hq
      rw [e] at z
      cases z
    refine k _ ⟨dx, pl, D, qs, ho, st, hd, ba⟩ (fun x o e ne => k0.at1 e ne)
      ⟨e15, hP.of fun o e => k0.at1 e nppl, G.grid.keep fun x o hx e => k2.at1 e ?_, k10.at1 (s10 _ _ ho9) nho, k10.at1 (s10 _ _ st9) nst, k10.at1 e10 nhd, k15.at1 e14 nba, qn _ f_ho, qn _ f_st, nsth.symm, ne_of_none G.grid.out f_ho, ne_of_none G.grid.out f_st, ?_, ?_, ?_, ?_⟩
      ⟨(n1 _ G.freshD).1, fun q hq => (n1 _ (G.fresh q hq)).1, fr _ f_ho, fr _ f_st, fr _ f_hd⟩ rfl
    · rcases hx with rfl | hx
      · exact npD.symm
      · exact qp x hx
    · show ((List.replicate b.toNat (List.replicate 8 (0 : Int))).length : Int) = b
      rw [List.length_replicate]
      omega
    · intro m hm
      rw [List.eq_of_mem_replicate hm]
      rfl
    · show ((List.replicate b.toNat (0 : Int)).length : Int) = b
      rw [List.length_replicate]
      omega
    · show ((List.replicate b.toNat (0 : Int)).length : Int) = b
      rw [List.length_replicate]
      omega
end
end K09
namespace K09
open PySem PySem.Spec PyProof.Rows L2 Rg
def cellAt (M : List (List Int)) (i j : Nat) : Int := ((M[i]?.getD [])[j]?).getD 0
theorem cellAt_of {M : List (List Int)} {i j : Nat} {m : List Int} {x : Int} (h : M[i]? = some m) (hj : m[j]? = some x) : cellAt M i j = x := by
  unfold cellAt
  rw [h]
  show (m[j]?).getD 0 = x
  rw [hj]
  rfl
def kindOf (b n : Int) (M : List (List Int)) (x : Int) : Int :=
  if x < 2 + (b + 8 - 1) / 8 + n then 1 else if cellAt M (2 + x / 8).toNat (x % 8).toNat = 1 ∨ cellAt M (2 + x / 8).toNat (x % 8).toNat = 2 then cellAt M (2 + x / 8).toNat (x % 8).toNat else 0
section
variable {P : Program} {w : World} {K : PySem.W.Frag} {mg : Str → Option Value} {base : Heap}
def sp_Image_kind (CI CP : Addr) : Sp := fun vs H Q _ => ∃ (im : Addr) (A : IA) (v : IV) (b n s x : Int), vs = [.ref im, .int x] ∧ ImgAt CI CP H im A v b n s ∧ 0 ≤ x ∧ x < b ∧
  ∀ H', Same H H' → Q (.int (kindOf b n v.M x)) H'
theorem ok_Image_kind (T : Tx K mg) : FnOk P w K mg base CX0 2 T.f_Image_kind T.fd_Image_kind ["self", "x"] (sp_Image_kind T.C_Image T.C_Plan) := by
  refine T.F_Image_kind.ok sc_Image_kind (fun vs H Q E h => ?_) (fun cdv A0 outer s H vs Q E hr h => ?_)
  · obtain ⟨_, _, _, _, _, _, _, rfl, _⟩ := h; rfl
  · obtain ⟨im, A, v, b, n, sl, x, rfl, I, hx0, hxb, k⟩ := h
    refine ⟨_, (pss_cons (ps_if (pt_cmpR op_lt (pv 1) (pe_fld (pe_fld (pv 0) rfl) rfl) (nomark _))
        (pss_one (ps_ret (pe_cv T.mg_Plan T.cr_Plan T.cv_Plan_LOGGED)))
        pss_nil)
      (pss_cons (ps_asg (pe_meth (pe_fld (pv 0) rfl) T.cl_Plan T.m_Plan_map_place (ok_Plan_map_place T) hr (b_Plan_map_place T) .nil pass0 (pa_cons (pv 1) pa_nil)) (pg_tup rfl (pgs_cons (pg_name (i := 2) sc_Image_kind.nd rfl (.inl rfl)) (pgs_cons (pg_name (i := 3) sc_Image_kind.nd rfl (.inl rfl)) pgs_nil))))
      (pss_cons (ps_set (i := 4) sc_Image_kind.nd rfl (.inl rfl) (pe_ix ix_list (pe_ix ix_list (pe_fld (pv 0) rfl) (pv 2) (fun _ _ => rfl)) (pv 3) (fun _ _ => rfl)))
      (pss_one (ps_ret (pe_ifExp (pt_cmpR op_in_seq (pv 4) (pe_tup (pa_cons (pe_cv T.mg_Plan T.cr_Plan T.cv_Plan_LOGGED) (pa_cons (pe_cv T.mg_Plan T.cr_Plan T.cv_Plan_PLAIN) pa_nil))) rfl) (pv 4) (pe_cv T.mg_Plan T.cr_Plan T.cv_Plan_FREE))))))), ?_⟩
    obtain ⟨dxp, hpl⟩ := I.pl.ob
    have b1 := I.pl.b1
    have b2 := I.pl.b2
    have n1 := I.pl.n1
    refine ⟨_, rfl, _, rfl, im, _, _, _, _, rfl, I.ob, T.cl_Image, T.na_Image_plan, rfl, A.pl, _, dxp, _, _, rfl, hpl, T.cl_Plan, T.na_Plan_first_data, rfl, _, _, rfl, rfl, _, rfl, ite2 (fun e => ?_) (fun e => ?_)⟩
    · have e' := of_decide_eq_true e
      have := k H (Same.refl _)
      unfold kindOf at this
      rw [if_pos e'] at this
      exact this
    · have e' : ¬ x < 2 + (b + 8 - 1) / 8 + n := fun z => e (decide_eq_true z)
      -- the cell
      have d0 := I.d0
      have hi : (2 + x / 8).toNat < v.M.length := by omega
      obtain ⟨r, hr1, hr2, _⟩ := I.gr.get (List.getElem?_eq_getElem hi)
      have hj : (x % 8).toNat < (v.M[(2 + x / 8).toNat]).length := by
        rw [I.d1 _ (List.getElem_mem hi)]
        omega
      have hc : cellAt v.M (2 + x / 8).toNat (x % 8).toNat = (v.M[(2 + x / 8).toNat])[(x % 8).toNat] := cellAt_of (List.getElem?_eq_getElem hi) (List.getElem?_eq_getElem hj)
      refine ⟨_, rfl, im, _, _, _, _, rfl, I.ob, T.cl_Image, T.na_Image_plan, rfl, A.pl, dxp, _, rfl, hpl, rfl, _, rfl, A.pl, b, n, sl, x, rfl, I.pl, fun t ht => ?_⟩
      have st := same_upd (o := .tup [.int (2 + x / 8), .int (x % 8)]) ht
      refine ⟨t, _, rfl, .inl (.inl upd_same), rfl, _, _, rfl, _, _, rfl, rfl, ?_⟩
      refine ⟨_, rfl, im, _, _, _, _, rfl, st _ _ I.ob, T.cl_Image, T.na_Image_cells, rfl, _, rfl, A.ca, _, _, .ref r, rfl, rfl, .inl (.inl (st _ _ I.gr.out)), at_of (j := (2 + x / 8).toNat) (by omega) (by rw [List.getElem?_map, hr1]; rfl), _, rfl, r, _, _, _, rfl, rfl, .inl (.inl (st _ _ hr2)), at_of (j := (x % 8).toNat) (by omega) (by rw [List.getElem?_map, List.getElem?_eq_getElem hj]; rfl), ?_⟩
      refine ⟨_, rfl, (by show 2 ≤ sizeLine; decide), fun t2 ht2 => ?_⟩
      have st2 := same_upd (o := .tup [.int 1, .int 2]) ht2
      have kk := k _ (st.trans st2)
      unfold kindOf at kk
      rw [if_neg e', hc] at kk
      generalize (v.M[(2 + x / 8).toNat])[(x % 8).toNat] = c at kk ⊢
      refine ⟨t2, _, rfl, .inr (.inl (.inl upd_same)), rfl, rfl, _, rfl, ite2 (fun q => ?_) (fun q => ?_)⟩
      · have hq : c = 1 ∨ c = 2 := by
          simp [inV, eqV] at q
          omega
        rw [if_pos hq] at kk
        exact ⟨_, rfl, kk⟩
      · have hq : ¬ (c = 1 ∨ c = 2) := fun z => q (by
          simp [inV, eqV]
          omega)
        rw [if_neg hq] at kk
        exact kk
end
end K09
namespace K09
open PySem PySem.Spec PyProof.Rows L2 Rg
theorem mem_set_of {α : Type} {l : List α} {i : Nat} {x y : α} (h : y ∈ l.set i x) : y = x ∨ y ∈ l := by
  rcases List.mem_or_eq_of_mem_set h with h | h
  · exact .inr h
  · exact .inl h
theorem nodup_set {α : Type} : ∀ {l : List α} {i : Nat} {x : α}, l.Nodup → x ∉ l → (l.set i x).Nodup
  | [], _, _, h, _ => by simp
  | y :: l, 0, x, h, n => by
    rw [List.set_cons_zero]
    rw [List.nodup_cons] at h ⊢
    exact ⟨fun z => n (List.mem_cons_of_mem _ z), h.2⟩
  | y :: l, i + 1, x, h, n => by
    rw [List.set_cons_succ]
    rw [List.nodup_cons] at h ⊢
    refine ⟨fun z => ?_, nodup_set h.2 fun z => n (List.mem_cons_of_mem _ z)⟩
    rcases mem_set_of z with e | e
    · exact n (by rw [e]; exact List.mem_cons_self)
    · exact h.1 e
/-- a row replaced by a new one -/
theorem Grid.swap {H H1 : Hp} {ca : Addr} {rs : List Addr} {M : List (List Int)} {i : Nat} {q : Addr} {m : List Int} (G : Grid H ca rs M) (s1 : Same H H1) (hq : H q = none) (h1 : H1 q = some (.lst (m.map V.int))) :
    Grid (upd H1 ca (.lst ((rs.map V.ref).set i (V.ref q)))) ca (rs.set i q) (M.set i m) := by
  have qr : q ∉ rs := fun h => by
    obtain ⟨o, z⟩ := G.held h
    rw [hq] at z
    cases z
  have qc : q ≠ ca := fun e => by
    rw [e, G.out] at hq
    cases hq
  refine ⟨by rw [upd_same, ← List.map_set], by rw [List.length_set, List.length_set]; exact G.len, fun j r m' hj hm => ?_, nodup_set G.nd qr, fun z => ?_⟩
  · by_cases e : i = j
    · subst e
      have hi : i < rs.length := by
        have := (List.getElem?_eq_some_iff.mp hj).1
        rw [List.length_set] at this
        exact this
      rw [List.getElem?_set_self hi] at hj
      rw [List.getElem?_set_self (by rw [← G.len]; exact hi)] at hm
      cases hj
      cases hm
      rw [upd_ne qc]
      exact h1
    · rw [List.getElem?_set_ne e] at hj hm
      rw [upd_ne fun z => G.nin (by rw [← z]; exact List.mem_of_getElem? hj)]
      exact s1 _ _ (G.row j r m' hj hm)
  · rcases mem_set_of z with e | e
    · exact qc e.symm
    · exact G.nin e
section
variable {CI CP : Addr} {H : Hp} {im : Addr} {A : IA} {v : IV} {b n s : Int}
theorem ImgAt.fresh_n (I : ImgAt CI CP H im A v b n s) {q : Addr} (hq : H q = none) : q ≠ im ∧ q ≠ A.ca ∧ q ≠ A.ho ∧ q ≠ A.st ∧ q ≠ A.hd ∧ q ∉ A.rs :=
  ⟨(ne_of_none I.ob hq).symm, (ne_of_none I.gr.out hq).symm, (ne_of_none I.ho hq).symm, (ne_of_none I.st hq).symm, (ne_of_none I.hd hq).symm, fun h => by
    obtain ⟨o, z⟩ := I.gr.held h
    rw [hq] at z
    cases z⟩
/-- image.cells[i] = a new row -/
theorem ImgAt.swap {H1 : Hp} {i : Nat} {q : Addr} {m : List Int} (I : ImgAt CI CP H im A v b n s) (s1 : Same H H1) (hq : H q = none) (h1 : H1 q = some (.lst (m.map V.int))) (hm : m.length = 8) :
    ImgAt CI CP (upd H1 A.ca (.lst ((A.rs.map V.ref).set i (V.ref q)))) im { A with rs := A.rs.set i q } { v with M := v.M.set i m } b n s := by
  obtain ⟨f1, f2, f3, f4, f5, f6⟩ := I.fresh_n hq
  obtain ⟨dxp, hpl⟩ := I.pl.ob
  have oc := I.gr.out
  refine { ob := ?_, pl := I.pl.of fun o e => ?_, gr := I.gr.swap s1 hq h1, ho := ?_, st := ?_, hd := ?_, ba := ?_, n1 := fun z => ?_, n2 := fun z => ?_, n3 := I.n3, n4 := I.n4, n5 := I.n5, d0 := ?_, d1 := fun m' hm' => ?_, d2 := I.d2, d3 := I.d3 }
  · rw [upd_ne (ne_of I.ob oc (by intro z; cases z))]; exact s1 _ _ I.ob
  · rw [upd_ne (ne_of hpl oc (by intro z; cases z))]; exact s1 _ _ e
  · rw [upd_ne I.n4.symm]; exact s1 _ _ I.ho
  · rw [upd_ne I.n5.symm]; exact s1 _ _ I.st
  · rw [upd_ne (ne_of I.hd oc (by intro z; cases z))]; exact s1 _ _ I.hd
  · rw [upd_ne (ne_of I.ba oc (by intro z; cases z))]; exact s1 _ _ I.ba
  · rcases mem_set_of z with e | e
    · exact f3 e.symm
    · exact I.n1 e
  · rcases mem_set_of z with e | e
    · exact f4 e.symm
    · exact I.n2 e
  · show ((v.M.set i m).length : Int) = b
    rw [List.length_set]
    exact I.d0
  · rcases mem_set_of hm' with e | e
    · rw [e]; exact hm
    · exact I.d1 _ e
/-- image.holdings[i] = x -/
theorem ImgAt.putHo {i : Nat} {x : Int} (I : ImgAt CI CP H im A v b n s) : ImgAt CI CP (upd H A.ho (.lst ((v.ho.map V.int).set i (V.int x)))) im A { v with ho := v.ho.set i x } b n s := by
  obtain ⟨dxp, hpl⟩ := I.pl.ob
  have oc := I.ho
  refine { I with ob := ?_, pl := I.pl.of fun o e => ?_, gr := I.gr.keep fun y o hy e => ?_, ho := by rw [upd_same, ← List.map_set], st := ?_, hd := ?_, ba := ?_, d2 := ?_ }
  · rw [upd_ne (ne_of I.ob oc (by intro z; cases z))]; exact I.ob
  · rw [upd_ne (ne_of hpl oc (by intro z; cases z))]; exact e
  · rw [upd_ne]
    · exact e
    · rcases hy with rfl | hy
      · exact I.n4
      · exact fun z => I.n1 (z ▸ hy)
  · rw [upd_ne I.n3.symm]; exact I.st
  · rw [upd_ne (ne_of I.hd oc (by intro z; cases z))]; exact I.hd
  · rw [upd_ne (ne_of I.ba oc (by intro z; cases z))]; exact I.ba
  · show ((v.ho.set i x).length : Int) = b
    rw [List.length_set]
    exact I.d2
/-- image.stamps[i] = x -/
theorem ImgAt.putSt {i : Nat} {x : Int} (I : ImgAt CI CP H im A v b n s) : ImgAt CI CP (upd H A.st (.lst ((v.st.map V.int).set i (V.int x)))) im A { v with st := v.st.set i x } b n s := by
  obtain ⟨dxp, hpl⟩ := I.pl.ob
  have oc := I.st
  refine { I with ob := ?_, pl := I.pl.of fun o e => ?_, gr := I.gr.keep fun y o hy e => ?_, st := by rw [upd_same, ← List.map_set], ho := ?_, hd := ?_, ba := ?_, d3 := ?_ }
  · rw [upd_ne (ne_of I.ob oc (by intro z; cases z))]; exact I.ob
  · rw [upd_ne (ne_of hpl oc (by intro z; cases z))]; exact e
  · rw [upd_ne]
    · exact e
    · rcases hy with rfl | hy
      · exact I.n5
      · exact fun z => I.n2 (z ▸ hy)
  · rw [upd_ne I.n3]; exact I.ho
  · rw [upd_ne (ne_of I.hd oc (by intro z; cases z))]; exact I.hd
  · rw [upd_ne (ne_of I.ba oc (by intro z; cases z))]; exact I.ba
  · show ((v.st.set i x).length : Int) = b
    rw [List.length_set]
    exact I.d3
/-- one row changed: image.cells[i][j] = x and the like -/
theorem ImgAt.putRow {i : Nat} {r : Addr} {m : List Int} (I : ImgAt CI CP H im A v b n s) (hr : A.rs[i]? = some r) (hm : m.length = 8) : ImgAt CI CP (upd H r (.lst (m.map V.int))) im A { v with M := v.M.set i m } b n s := by
  obtain ⟨dxp, hpl⟩ := I.pl.ob
  have rin : r ∈ A.rs := List.mem_of_getElem? hr
  have hi : i < v.M.length := by rw [← I.gr.len]; exact (List.getElem?_eq_some_iff.mp hr).1
  have oc := I.gr.row i r _ hr (List.getElem?_eq_getElem hi)
  refine { I with ob := ?_, pl := I.pl.of fun o e => ?_, gr := I.gr.put hr, st := ?_, ho := ?_, hd := ?_, ba := ?_, d0 := ?_, d1 := fun m' hm' => ?_ }
  · rw [upd_ne (ne_of I.ob oc (by intro z; cases z))]; exact I.ob
  · rw [upd_ne (ne_of hpl oc (by intro z; cases z))]; exact e
  · rw [upd_ne (fun z : A.ho = r => I.n1 (by rw [z]; exact rin))]; exact I.ho
  · rw [upd_ne (fun z : A.st = r => I.n2 (by rw [z]; exact rin))]; exact I.st
  · rw [upd_ne (ne_of I.hd oc (by intro z; cases z))]; exact I.hd
  · rw [upd_ne (ne_of I.ba oc (by intro z; cases z))]; exact I.ba
  · show ((v.M.set i m).length : Int) = b
    rw [List.length_set]
    exact I.d0
  · rcases mem_set_of hm' with e | e
    · rw [e]; exact hm
    · exact I.d1 _ e
end
end K09
namespace K09
open PySem PySem.Spec PyProof.Rows L2 Rg
/-- what of_cells makes of the rows, the blocks before i looked at -/
def ofM (b n : Int) (R : List (List Int)) (i : Nat) : List (List Int) := (List.range b.toNat).map fun x => if x < i ∧ kindOf b n R x = 0 then List.replicate 8 0 else R[x]?.getD []
def ofH (b n : Int) (R : List (List Int)) (i : Nat) : List Int := (List.range b.toNat).map fun x => if x < i ∧ ¬ kindOf b n R x = 0 then 1 else 0
def ofV (b n : Int) (R : List (List Int)) (i : Nat) : IV := ⟨ofM b n R i, ofH b n R i, ofH b n R i, [], 1, 0, []⟩
theorem kindOf_fix {b n : Int} {R : List (List Int)} {x : Int} (h : x < 2 + (b + 8 - 1) / 8 + n) : kindOf b n R x = 1 := by
  unfold kindOf
  rw [if_pos h]
theorem cellAt_congr {M R : List (List Int)} {i j : Nat} (h : M[i]? = R[i]?) : cellAt M i j = cellAt R i j := by
  unfold cellAt
  rw [h]
theorem kindOf_congr {b n : Int} {M R : List (List Int)} {x : Int} (hn : 0 ≤ n) (h0 : 0 ≤ x) (hb : x < b) (h : ∀ y : Nat, (y : Int) < 2 + (b + 8 - 1) / 8 + n → M[y]? = R[y]?) : kindOf b n M x = kindOf b n R x := by
  unfold kindOf
  rw [cellAt_congr (h (2 + x / 8).toNat (by omega))]
theorem ofM_get {b n : Int} {R : List (List Int)} {i x : Nat} (hx : x < b.toNat) : (ofM b n R i)[x]? = some (if x < i ∧ kindOf b n R x = 0 then List.replicate 8 0 else R[x]?.getD []) := by
  unfold ofM
  rw [List.getElem?_map, List.getElem?_range hx]
  rfl
theorem ofM_fix {b n : Int} {R : List (List Int)} {i y : Nat} (hR : (R.length : Int) = b) (hb : 2 + (b + 8 - 1) / 8 + n ≤ b) (hy : (y : Int) < 2 + (b + 8 - 1) / 8 + n) : (ofM b n R i)[y]? = R[y]? := by
  rw [ofM_get (by omega), kindOf_fix hy, if_neg (fun z => by simp at z), List.getElem?_eq_getElem (show y < R.length by omega)]
  rfl
theorem ofM_zero {b n : Int} {R : List (List Int)} (hR : (R.length : Int) = b) : ofM b n R 0 = R := by
  apply List.ext_getElem?
  intro x
  by_cases hx : x < b.toNat
  · rw [ofM_get hx, if_neg (fun z => by simp at z), List.getElem?_eq_getElem (show x < R.length by omega)]
    rfl
  · rw [List.getElem?_eq_none (by unfold ofM; simp; omega), List.getElem?_eq_none (by omega)]
theorem ofM_succ {b n : Int} {R : List (List Int)} {i : Nat} (hi : i < b.toNat) : ofM b n R (i + 1) = if kindOf b n R i = 0 then (ofM b n R i).set i (List.replicate 8 0) else ofM b n R i := by
  apply List.ext_getElem?
  intro x
  by_cases hx : x < b.toNat
  · rw [ofM_get hx]
    by_cases hk : kindOf b n R i = 0
    · rw [if_pos hk]
      by_cases e : i = x
      · subst e
        rw [List.getElem?_set_self (by unfold ofM; simp; omega), if_pos ⟨Nat.lt_succ_self _, hk⟩]
      · rw [List.getElem?_set_ne e, ofM_get hx]
        by_cases h : x < i
        · simp only [show (x < i + 1) ↔ (x < i) by omega]
        · simp only [show (x < i + 1) ↔ (x < i) by omega]
    · rw [if_neg hk, ofM_get hx]
      by_cases e : i = x
      · subst e
        rw [if_neg (fun z => hk z.2), if_neg (fun z => hk z.2)]
      · simp only [show (x < i + 1) ↔ (x < i) by omega]
  · have l1 : (ofM b n R (i + 1)).length = b.toNat := by unfold ofM; simp
    have l2 : (ofM b n R i).length = b.toNat := by unfold ofM; simp
    rw [List.getElem?_eq_none (by omega)]
    split
    · rw [List.getElem?_eq_none (by rw [List.length_set]; omega)]
    · rw [List.getElem?_eq_none (by omega)]
theorem ofH_get {b n : Int} {R : List (List Int)} {i x : Nat} (hx : x < b.toNat) : (ofH b n R i)[x]? = some (if x < i ∧ ¬ kindOf b n R x = 0 then 1 else 0) := by
  unfold ofH
  rw [List.getElem?_map, List.getElem?_range hx]
  rfl
theorem ofH_zero {b n : Int} {R : List (List Int)} : ofH b n R 0 = List.replicate b.toNat 0 := by
  apply List.ext_getElem?
  intro x
  by_cases hx : x < b.toNat
  · rw [ofH_get hx, if_neg (fun z => by simp at z), List.getElem?_replicate, if_pos hx]
  · rw [List.getElem?_eq_none (by unfold ofH; simp; omega), List.getElem?_eq_none (by simp; omega)]
theorem ofH_succ {b n : Int} {R : List (List Int)} {i : Nat} (hi : i < b.toNat) : ofH b n R (i + 1) = if kindOf b n R i = 0 then ofH b n R i else (ofH b n R i).set i 1 := by
  apply List.ext_getElem?
  intro x
  by_cases hx : x < b.toNat
  · rw [ofH_get hx]
    by_cases hk : kindOf b n R i = 0
    · rw [if_pos hk, ofH_get hx]
      by_cases e : i = x
      · subst e
        rw [if_neg (fun z => z.2 hk), if_neg (fun z => z.2 hk)]
      · simp only [show (x < i + 1) ↔ (x < i) by omega]
    · rw [if_neg hk]
      by_cases e : i = x
      · subst e
        rw [List.getElem?_set_self (by unfold ofH; simp; omega), if_pos ⟨Nat.lt_succ_self _, hk⟩]
      · rw [List.getElem?_set_ne e, ofH_get hx]
        simp only [show (x < i + 1) ↔ (x < i) by omega]
  · have l1 : (ofH b n R (i + 1)).length = b.toNat := by unfold ofH; simp
    have l2 : (ofH b n R i).length = b.toNat := by unfold ofH; simp
    rw [List.getElem?_eq_none (by omega)]
    split
    · rw [List.getElem?_eq_none (by omega)]
    · rw [List.getElem?_eq_none (by rw [List.length_set]; omega)]
section
variable {P : Program} {w : World} {K : PySem.W.Frag} {mg : Str → Option Value} {base : Heap}
def sp_of_cells (CI CP : Addr) : Sp := fun vs H Q _ => ∃ (pl ra : Addr) (rr : List Addr) (R : List (List Int)) (b n s : Int), vs = [.ref pl, .ref ra] ∧ PlanAt CP H pl b n s ∧ Grid H ra rr R ∧ (R.length : Int) = b ∧ (∀ m ∈ R, m.length = 8) ∧
  ∀ (H' : Hp) (im : Addr) (A : IA), Same H H' → H im = none → ImgAt CI CP H' im A (ofV b n R b.toNat) b n s → A.New H → A.pl = pl → Q (.ref im) H'
theorem ok_of_cells (T : Tx K mg) : FnOk P w K mg base CX0 3 T.f_Image_of_cells T.fd_Image_of_cells ["plan", "rows"] (sp_of_cells T.C_Image T.C_Plan) := by
  refine T.F_Image_of_cells.ok sc_Image_of_cells (fun vs H Q E h => ?_) (fun cdv A0 outer s H vs Q E hr h => ?_)
  · obtain ⟨_, _, _, _, _, _, _, rfl, _⟩ := h; rfl
  · obtain ⟨pl, ra, rr, R, b, n, sl, rfl, hP, GR, hR, hR8, k⟩ := h
    have hr2 : Room 2 _ := hr.mono (by decide)
    refine ⟨_, (pss_cons (ps_set (i := 2) sc_Image_of_cells.nd rfl (.inl rfl) (pe_make T.mk_Image (ok_Image_init T) hr2 rfl T.mg_Image (b_Image___init__ T) .nil pass0 (pa_cons (pv 0) pa_nil)))
      (pss_cons (ps_fld (pv 2) (pe_lc rfl (own := [("row", 3)]) (g := gName 3) (tt := tYes) sc_Image_of_cells.nd (pi_list (pv 1)) (blkOk_by (N := ["plan", "rows", "image", "row", "x"]) (sc := defScope s_Image_of_cells) (by decide +kernel)) (fun _ _ _ _ _ => pg_name (i := 3) sc_Image_of_cells.nd rfl (Or.inl rfl)) (fun _ _ _ _ _ => pts_nil) (fun _ _ _ _ _ => (pe_listof (K := K) (pv 3) T.b_list))) rfl)
      (pss_cons (ps_fld (pv 2) pe_int rfl)
      (pss_cons (ps_for PassesOwn.never rfl (pi_range1 rfl T.b_range (pa_cons (pe_fld (pv 0) rfl) pa_nil)) (pg_name (i := 4) sc_Image_of_cells.nd rfl (.inl rfl))
        (pss_one (ps_if (pt_cmpR op_eq (pe_meth (pv 2) T.cl_Image T.m_Image_kind (ok_Image_kind T) hr2 (b_Image_kind T) .nil pass0 (pa_cons (pv 4) pa_nil)) (pe_cv T.mg_Plan T.cr_Plan T.cv_Plan_FREE) (nomark _))
          (pss_one (ps_asg (pe_op op_rep (pe_lst (pa_cons pe_int pa_nil)) (pe_cv T.mg_Plan T.cr_Plan T.cv_Plan_WIDTH)) (pg_sub (pe_fld (pv 2) rfl) (pv 4) set_list)))
          (pss_cons (ps_asg pe_int (pg_sub (pe_fld (pv 2) rfl) (pv 4) set_list))
          (pss_one (ps_asg pe_int (pg_sub (pe_fld (pv 2) rfl) (pv 4) set_list)))))))
      (pss_one (ps_ret (pv 2))))))), ?_⟩
    obtain ⟨dxp, hpl⟩ := hP.ob
    have hb1 := hP.b1
    have hb2 := hP.b2
    have hd := hP.d
    have hn1 := hP.n1
    -- image = Image(plan)
    refine ⟨_, rfl, fun x dx nx ndx nex => ?_⟩
    have s1 : Same H (upd (upd H dx (.own x)) x (.ins T.C_Image dx [])) := (same_upd ndx).trans (same_upd (by rw [upd_ne nex.symm]; exact nx))
    refine ⟨x, dx, pl, b, n, sl, rfl, upd_same, hP.same s1, fun H1 A1 k1 I1 N1 eA => ⟨rfl, ?_⟩⟩
    have k1' : ∀ y o, H y = some o → H1 y = some o := fun y o e => k1 y o (s1 _ _ e) (ne_of_none e nx)
    have xs1 : ∀ y, (upd (upd H dx (.own x)) x (.ins T.C_Image dx [])) y = none → H y = none := fun y e => un (un e)
    -- image.cells = [list(row) for row in rows]
    refine ⟨_, rfl, ra, rfl, ⟨_, .of (k1' _ _ GR.out)⟩, fun D hD => ?_⟩
    refine lc_list (K := K) (a := ra) (xs := rr.map V.ref) (fun i H' => ∃ qs, NewGrid H1 H' D qs (R.take i))
      ⟨[], NewGrid.start (Same.refl _) hD hD⟩ (fun i H' _ ⟨qs, G⟩ => .of (G.same _ _ (k1' _ _ GR.out))) ?_ ?_
    · rintro i y H' hi ⟨qs, G⟩
      have hil : i < rr.length := by
        have := (List.getElem?_eq_some_iff.mp hi).1
        rw [List.length_map] at this
        exact this
      rw [List.getElem?_map, List.getElem?_eq_getElem hil] at hi
      have hi : V.ref rr[i] = y := Option.some.inj hi
      subst hi
      have hiR : i < R.length := by rw [← GR.len]; exact hil
      have hrow := G.same _ _ (k1' _ _ (GR.row i rr[i] R[i] (List.getElem?_eq_getElem hil) (List.getElem?_eq_getElem hiR)))
      refine ⟨rfl, ?_⟩
      refine yes_ ?_
      refine ⟨_, rfl, rr[i], _, rfl, .inl (.of hrow), fun q hq => ?_⟩
      refine ⟨_, by rw [upd_ne (ne_of_none G.grid.out hq)]; exact G.grid.out, ?_, qs ++ [q], ?_⟩
      · rw [List.length_map, G.grid.len, List.length_take]
        exact small1000 (by omega)
      · rw [List.take_succ, List.getElem?_eq_getElem hiR]
        exact G.snoc (same_upd hq) hq upd_same
    rintro H2 ⟨qs, G⟩
    rw [List.length_map, GR.len, List.take_length] at G
    have I2 : ImgAt T.C_Image T.C_Plan H2 x A1 (zeroV b) b n sl := I1.keep G.same
    refine ⟨_, rfl, x, _, _, _, rfl, I2.ob, T.cl_Image, T.na_Image_cells, (by show 8 < 1000; decide), ?_⟩
    generalize hH3 : upd H2 x _ = H3
    obtain ⟨e3, k3, n3⟩ := own_f hH3
    refine ⟨_, rfl, x, _, _, _, rfl, e3, T.cl_Image, T.na_Image_serial, (by show 8 < 1000; decide), ?_⟩
    generalize hH4 : upd H3 x _ = H4
    obtain ⟨e4, k4, n4⟩ := own_f hH4
    have k24 : Kp [x] H2 H4 := k3.trans k4
    have kx : ∀ y o, H2 y = some o → y ≠ x → H4 y = some o := fun y o e ne => k24.at1 e ne
    have npl : pl ≠ x := ne_of_none hpl nx
    have pl2 : H2 A1.pl = some (.ins T.C_Plan dxp (planF b n sl)) := by rw [eA]; exact G.same _ _ (k1' _ _ hpl)
    have xD : x ≠ D := ne_of_none I1.ob G.freshD
    have xq : x ∉ qs := (G.nin0 I1.ob).2
    have I4 : ImgAt T.C_Image T.C_Plan H4 x { A1 with ca := D, rs := qs } (ofV b n R 0) b n sl := by
      refine { ob := e4, pl := I2.pl.of fun o e => kx _ _ e (by show A1.pl ≠ x; rw [eA]; exact npl), gr := ?_, ho := ?_, st := ?_, hd := ?_, ba := ?_, n1 := (G.nin0 I1.ho).2, n2 := (G.nin0 I1.st).2, n3 := I1.n3, n4 := (G.nin0 I1.ho).1.symm, n5 := (G.nin0 I1.st).1.symm, d0 := ?_, d1 := ?_, d2 := ?_, d3 := ?_ }
      · show Grid H4 D qs (ofM b n R 0)
        rw [ofM_zero hR]
        refine G.grid.keep fun y o hy e => kx _ _ e ?_
        rcases hy with rfl | hy
        · exact xD.symm
        · exact fun z => xq (by rw [← z]; exact hy)
      · show H4 A1.ho = some (.lst ((ofH b n R 0).map V.int))
        rw [ofH_zero]
        exact kx _ _ I2.ho (ne_of I2.ho I2.ob (by intro z; cases z))
      · show H4 A1.st = some (.lst ((ofH b n R 0).map V.int))
        rw [ofH_zero]
        exact kx _ _ I2.st (ne_of I2.st I2.ob (by intro z; cases z))
      · exact kx _ _ I2.hd (ne_of I2.hd I2.ob (by intro z; cases z))
      · exact kx _ _ I2.ba (ne_of I2.ba I2.ob (by intro z; cases z))
      · show ((ofM b n R 0).length : Int) = b
        rw [ofM_zero hR]
        exact hR
      · show ∀ m ∈ ofM b n R 0, m.length = 8
        rw [ofM_zero hR]
        exact hR8
      · show ((ofH b n R 0).length : Int) = b
        rw [ofH_zero, List.length_replicate]
        omega
      · show ((ofH b n R 0).length : Int) = b
        rw [ofH_zero, List.length_replicate]
        omega
    have N0 : ∀ y, H1 y = none → H y = none := fun y e => by
      cases q : H y with
      | none => rfl
      | some o => rw [k1' y o q] at e; cases e
    have N4 : ({ A1 with ca := D, rs := qs } : IA).New H := ⟨N0 _ G.freshD, fun q hq => N0 _ (G.fresh q hq), xs1 _ N1.ho, xs1 _ N1.st, xs1 _ N1.hd⟩
    have S4 : Same H H4 := fun y o e => kx _ _ (G.same _ _ (k1' _ _ e)) (ne_of_none e nx)
    -- for x in range(plan.blocks)
    have hpl4 : H4 pl = some (.ins T.C_Plan dxp (planF b n sl)) := S4 _ _ hpl
    refine ⟨_, rfl, pl, _, dxp, _, _, rfl, hpl4, T.cl_Plan, T.na_Plan_blocks, rfl, b, rfl, by omega, by omega, for_range (lo := 0) (n := b.toNat) (fun i σ H' => ∃ (A : IA) (u3 u4 : Option V), σ = [some (.ref pl), some (.ref ra), some (.ref x), u3, u4] ∧ ImgAt T.C_Image T.C_Plan H' x A (ofV b n R i) b n sl ∧ Same H H' ∧ A.New H ∧ A.pl = pl)
      ⟨_, _, _, rfl, I4, S4, N4, eA⟩ ?_ ?_⟩
    · rintro i σ H' hi ⟨A, u3, u4, rfl, I, S, N, eA⟩
      have hib : (i : Int) < b := by omega
      refine ⟨_, rfl, x, _, _, rfl, I.ob, rfl, _, rfl, x, A, ofV b n R i, b, n, sl, _, rfl, I, by omega, by omega, fun H5 s5 => ?_⟩
      have ek : kindOf b n (ofV b n R i).M (0 + (i : Int)) = kindOf b n R i := by
        rw [show (0 : Int) + (i : Int) = i by omega]
        exact kindOf_congr (by omega) (by omega) hib fun y hy => ofM_fix hR (by omega) hy
      rw [ek]
      have I5 := I.keep s5
      have S5 := S.trans s5
      refine ⟨rfl, _, rfl, ite2 (fun e => ?_) (fun e => ?_)⟩
      · have hk : kindOf b n R i = 0 := V.int.inj (of_decide_eq_true e)
        refine ⟨by show 1 ≤ sizeLine; decide, fun l hl => ?_⟩
        refine ⟨l, 8, _, rfl, rfl, upd_same, by decide, by decide, by show 1 * 8 ≤ sizeLine; decide, fun q hq => ?_⟩
        have sm : Same H5 (upd (upd H5 l (.lst [V.int 0])) q (.lst (List.replicate (8 : Int).toNat [V.int 0]).flatten)) := (same_upd hl).trans (same_upd hq)
        have hq5 : H5 q = none := un hq
        have hq1 : (upd (upd H5 l (.lst [V.int 0])) q (.lst (List.replicate (8 : Int).toNat [V.int 0]).flatten)) q = some (.lst ((List.replicate 8 (0 : Int)).map V.int)) := by rw [upd_same]; rfl
        generalize hH6 : upd (upd H5 l (.lst [V.int 0])) q (.lst (List.replicate (8 : Int).toNat [V.int 0]).flatten) = H6 at sm hq1 ⊢
        refine ⟨_, rfl, x, _, _, _, _, rfl, sm _ _ I5.ob, T.cl_Image, T.na_Image_cells, rfl, _, rfl, A.ca, _, _, i, rfl, rfl, sm _ _ I5.gr.out, ?_, ?_⟩
        · unfold ixN
          rw [if_pos (by omega), List.length_map, if_pos (by rw [I5.gr.len]; show (0 : Int) + i < (ofM b n R i).length; unfold ofM; simp; omega)]
          congr 1
          omega
        · refine ⟨{ A with rs := A.rs.set i q }, u3, _, rfl, ?_, ?_, ⟨N.ca, fun z hz => ?_, N.ho, N.st, N.hd⟩, eA⟩
          rotate_left
          · exact fun y o e => by
              rw [upd_ne (ne_of_none e N.ca)]
              exact sm _ _ (S5 _ _ e)
          · rcases mem_set_of hz with e | e
            · rw [e]; exact S5.free hq5
            · exact N.rs z e
          · have := I5.swap (i := i) sm hq5 hq1 (by rfl)
            unfold ofV at this ⊢
            dsimp only at this ⊢
            rw [ofM_succ (by omega), if_pos hk, ofH_succ (by omega), if_pos hk]
            exact this
      · have hk : ¬ kindOf b n R i = 0 := fun z => e (by rw [z]; exact decide_eq_true rfl)
        have ix : ∀ (xs : List V), xs.length = b.toNat → ixN xs.length (0 + (i : Int)) = some i := fun xs hx => by
          unfold ixN
          rw [if_pos (by omega), if_pos (by omega)]
          congr 1
          omega
        have lh : ((ofH b n R i).map V.int).length = b.toNat := by unfold ofH; simp
        refine ⟨_, rfl, x, _, _, _, _, rfl, I5.ob, T.cl_Image, T.na_Image_holdings, rfl, _, rfl, A.ho, _, _, i, rfl, rfl, I5.ho, ix _ lh, ?_⟩
        have I6 := I5.putHo (i := i) (x := 1)
        refine ⟨_, rfl, x, _, _, _, _, rfl, I6.ob, T.cl_Image, T.na_Image_stamps, rfl, _, rfl, A.st, _, _, i, rfl, rfl, I6.st, ix _ lh, ?_⟩
        have I7 := I6.putSt (i := i) (x := 1)
        refine ⟨_, u3, _, rfl, ?_, ?_, N, eA⟩
        · unfold ofV at I7 ⊢
          dsimp only at I7 ⊢
          rw [ofM_succ (by omega), if_neg hk, ofH_succ (by omega), if_neg hk]
          exact I7
        · exact fun y o e => by
            rw [upd_ne (ne_of_none e N.st), upd_ne (ne_of_none e N.ho)]
            exact S5 _ _ e
    · rintro σ H' ⟨A, u3, u4, rfl, I, S, N, eA⟩
      exact ⟨_, rfl, k H' x A S nx I N eA⟩
end
end K09
namespace K09
open PySem PySem.Spec PyProof.Rows L2 Rg
def setC (M : List (List Int)) (i j : Nat) (x : Int) : List (List Int) := M.set i ((M[i]?.getD []).set j x)
theorem setC_len {M : List (List Int)} {i j : Nat} {x : Int} : (setC M i j x).length = M.length := by
  unfold setC
  rw [List.length_set]
theorem setC_at {M : List (List Int)} {i j : Nat} {x : Int} {m : List Int} (h : M[i]? = some m) : (setC M i j x)[i]? = some (m.set j x) := by
  have hi := (List.getElem?_eq_some_iff.mp h).1
  unfold setC
  rw [List.getElem?_set_self hi, h]
  rfl
theorem ImgAt.setC {CI CP : Addr} {H : Hp} {im : Addr} {A : IA} {v : IV} {b n s : Int} (I : ImgAt CI CP H im A v b n s) {i j : Nat} {x : Int} {r : Addr} {m : List Int} (hr : A.rs[i]? = some r) (hm : v.M[i]? = some m) :
    ImgAt CI CP (upd H r (.lst ((m.map V.int).set j (V.int x)))) im A { v with M := setC v.M i j x } b n s := by
  have h8 : m.length = 8 := I.d1 m (List.mem_of_getElem? hm)
  have := I.putRow (m := m.set j x) hr (by rw [List.length_set]; exact h8)
  rw [List.map_set] at this
  unfold K09.setC
  rw [hm]
  exact this
/-- the index i of a list of a known length -/
theorem ixN_nat {n : Nat} {z : Int} {i : Nat} (e : z = i) (h : i < n) : ixN n z = some i := by
  subst e
  unfold ixN
  rw [if_pos (by omega), if_pos (by omega)]
  rfl
def zerosM (b : Int) : List (List Int) := List.replicate b.toNat (List.replicate 8 0)
def fmM (b : Int) : Nat → List (List Int)
  | 0 => zerosM b
  | k + 1 => setC (fmM b k) (2 + k / 8) (k % 8) 1
def freshM (b n : Int) : List (List Int) :=
  let r := (2 + (b + 8 - 1) / 8).toNat
  setC (setC (setC (fmM b (r + n.toNat)) r 0 2) r 1 1) r 7 1
section
variable {P : Program} {w : World} {K : PySem.W.Frag} {mg : Str → Option Value} {base : Heap}
def sp_fresh (CI CP : Addr) : Sp := fun vs H Q _ => ∃ (pl : Addr) (b n s : Int), vs = [.ref pl] ∧ PlanAt CP H pl b n s ∧
  ∀ (H' : Hp) (im : Addr) (A : IA), Same H H' → H im = none → ImgAt CI CP H' im A (ofV b n (freshM b n) b.toNat) b n s → A.New H → A.pl = pl → Q (.ref im) H'
end
end K09
namespace K09
open PySem PySem.Spec PyProof.Rows L2 Rg
section
variable {P : Program} {w : World} {K : PySem.W.Frag} {mg : Str → Option Value} {base : Heap}
def sp_twin (CI CP : Addr) : Sp := fun vs H Q _ => ∃ (im : Addr) (A : IA) (v : IV) (b n s : Int), vs = [.ref im] ∧ ImgAt CI CP H im A v b n s ∧
  ∀ (H' : Hp) (im' : Addr) (A' : IA), Same H H' → H im' = none → ImgAt CI CP H' im' A' v b n s → A'.New H → A'.pl = A.pl → A'.ba = A.ba → Q (.ref im') H'
theorem ok_twin (T : Tx K mg) : FnOk P w K mg base CX0 3 T.f_Image_twin T.fd_Image_twin ["self"] (sp_twin T.C_Image T.C_Plan) := by
  refine T.F_Image_twin.ok sc_Image_twin (fun vs H Q E h => ?_) (fun cdv A0 outer s H vs Q E hr h => ?_)
  · obtain ⟨_, _, _, _, _, _, rfl, _⟩ := h; rfl
  · obtain ⟨im, A, v, b, n, sl, rfl, I, k⟩ := h
    refine ⟨_, (pss_cons (ps_set (i := 1) sc_Image_twin.nd rfl (.inl rfl) (pe_make T.mk_Image (ok_Image_init T) hr rfl T.mg_Image (b_Image___init__ T) .nil pass0 (pa_cons (pe_fld (pv 0) rfl) pa_nil)))
      (pss_cons (ps_fld (pv 1) (pe_lc rfl (own := [("row", 2)]) (g := gName 2) (tt := tYes) sc_Image_twin.nd (pi_list (pe_fld (pv 0) rfl)) (blkOk_by (N := ["self", "other", "row"]) (sc := defScope s_Image_twin) (by decide +kernel)) (fun _ _ _ _ _ => pg_name (i := 2) sc_Image_twin.nd rfl (Or.inl rfl)) (fun _ _ _ _ _ => pts_nil) (fun _ _ _ _ _ => (pe_listof (K := K) (pv 2) T.b_list))) rfl)
      (pss_cons (ps_fld (pv 1) (pe_listof (K := K) (pe_fld (pv 0) rfl) T.b_list) rfl)
      (pss_cons (ps_fld (pv 1) (pe_listof (K := K) (pe_fld (pv 0) rfl) T.b_list) rfl)
      (pss_cons (ps_fld (pv 1) (pe_callTy call_dictD rfl T.b_dict (by decide +kernel) (pa_cons (pe_fld (pv 0) rfl) pa_nil)) rfl)
      (pss_cons (ps_fld (pv 1) (pe_fld (pv 0) rfl) rfl)
      (pss_cons (ps_fld (pv 1) (pe_fld (pv 0) rfl) rfl)
      (pss_cons (ps_fld (pv 1) (pe_fld (pv 0) rfl) rfl)
      (pss_one (ps_ret (pv 1))))))))))), ?_⟩
    obtain ⟨dxp, hpl⟩ := I.pl.ob
    have hb1 := I.pl.b1
    have hb2 := I.pl.b2
    -- other = Image(self.plan)
    refine ⟨_, rfl, im, _, _, _, _, rfl, I.ob, T.cl_Image, T.na_Image_plan, rfl, fun x dx nx ndx nex => ?_⟩
    have s1 : Same H (upd (upd H dx (.own x)) x (.ins T.C_Image dx [])) := (same_upd ndx).trans (same_upd (by rw [upd_ne nex.symm]; exact nx))
    refine ⟨x, dx, A.pl, b, n, sl, rfl, upd_same, I.pl.same s1, fun H1 A1 k1 I1 N1 eA => ⟨rfl, ?_⟩⟩
    have S1 : Same H H1 := fun y o e => k1 y o (s1 _ _ e) (ne_of_none e nx)
    have J1 := I.keep S1
    -- other.cells
    refine ⟨_, rfl, im, _, _, _, _, rfl, J1.ob, T.cl_Image, T.na_Image_cells, rfl, A.ca, rfl, ⟨_, .of J1.gr.out⟩, fun D hD => ?_⟩
    refine lc_list (K := K) (a := A.ca) (xs := A.rs.map V.ref) (fun i H' => ∃ qs, NewGrid H1 H' D qs (v.M.take i))
      ⟨[], NewGrid.start (Same.refl _) hD hD⟩ (fun i H' _ ⟨qs, G⟩ => .of (G.same _ _ J1.gr.out)) ?_ ?_
    · rintro i y H' hi ⟨qs, G⟩
      have hil : i < A.rs.length := by
        have := (List.getElem?_eq_some_iff.mp hi).1
        rw [List.length_map] at this
        exact this
      rw [List.getElem?_map, List.getElem?_eq_getElem hil] at hi
      have hi : V.ref A.rs[i] = y := Option.some.inj hi
      subst hi
      have hiR : i < v.M.length := by rw [← J1.gr.len]; exact hil
      have hrow := G.same _ _ (J1.gr.row i A.rs[i] v.M[i] (List.getElem?_eq_getElem hil) (List.getElem?_eq_getElem hiR))
      have d0 := I.d0
      refine ⟨rfl, ?_⟩
      refine yes_ ?_
      refine ⟨_, rfl, A.rs[i], _, rfl, .inl (.of hrow), fun q hq => ?_⟩
      refine ⟨_, by rw [upd_ne (ne_of_none G.grid.out hq)]; exact G.grid.out, ?_, qs ++ [q], ?_⟩
      · rw [List.length_map, G.grid.len, List.length_take]
        exact small1000 (by omega)
      · rw [List.take_succ, List.getElem?_eq_getElem hiR]
        exact G.snoc (same_upd hq) hq upd_same
    rintro H2 ⟨qs, G⟩
    rw [List.length_map, J1.gr.len, List.take_length] at G
    have I2 : ImgAt T.C_Image T.C_Plan H2 x A1 (zeroV b) b n sl := I1.keep G.same
    have J2 := J1.keep G.same
    have nix : im ≠ x := ne_of_none I.ob nx
    refine ⟨_, rfl, x, _, _, _, rfl, I2.ob, T.cl_Image, T.na_Image_cells, (by show 8 < 1000; decide), ?_⟩
    generalize hH3 : upd H2 x _ = H3
    obtain ⟨e3, k3, n3⟩ := own_f hH3
    have o3 := k3.at1 J2.ob nix
    have nxho : A.ho ≠ x := ne_of_none I.ho nx
    have nxst : A.st ≠ x := ne_of_none I.st nx
    have nxhd : A.hd ≠ x := ne_of_none I.hd nx
    -- other.holdings
    refine ⟨_, rfl, im, _, _, _, _, rfl, o3, T.cl_Image, T.na_Image_holdings, rfl, A.ho, _, rfl, .inl (.of (k3.at1 J2.ho nxho)), fun ho hho => ?_⟩
    generalize hH4 : upd H3 ho _ = H4
    obtain ⟨e4, s4, n4⟩ := new_f hH4 hho
    refine ⟨_, rfl, x, _, _, _, rfl, s4 _ _ e3, T.cl_Image, T.na_Image_holdings, (by show 8 < 1000; decide), ?_⟩
    generalize hH5 : upd H4 x _ = H5
    obtain ⟨e5, k5, n5⟩ := own_f hH5
    have o5 := k5.at1 (s4 _ _ o3) nix
    have nhox : ho ≠ x := (ne_of_none e3 hho).symm
    have ho5 := k5.at1 e4 nhox
    -- other.stamps
    refine ⟨_, rfl, im, _, _, _, _, rfl, o5, T.cl_Image, T.na_Image_stamps, rfl, A.st, _, rfl, .inl (.of (k5.at1 (s4 _ _ (k3.at1 J2.st nxst)) nxst)), fun st hst => ?_⟩
    generalize hH6 : upd H5 st _ = H6
    obtain ⟨e6, s6, n6⟩ := new_f hH6 hst
    refine ⟨_, rfl, x, _, _, _, rfl, s6 _ _ e5, T.cl_Image, T.na_Image_stamps, (by show 8 < 1000; decide), ?_⟩
    generalize hH7 : upd H6 x _ = H7
    obtain ⟨e7, k7, n7⟩ := own_f hH7
    have o7 := k7.at1 (s6 _ _ o5) nix
    have nstx : st ≠ x := (ne_of_none e5 hst).symm
    have nstho : st ≠ ho := (ne_of_none ho5 hst).symm
    have st7 := k7.at1 e6 nstx
    have ho7 := k7.at1 (s6 _ _ ho5) nhox
    -- other.handles
    have hd7 := k7.at1 (s6 _ _ (k5.at1 (s4 _ _ (k3.at1 J2.hd nxhd)) nxhd)) nxhd
    refine ⟨_, rfl, im, _, _, _, _, rfl, o7, T.cl_Image, T.na_Image_handles, rfl, A.hd, _, rfl, .inl hd7, fun hd hhd => ?_⟩
    generalize hH8 : upd H7 hd _ = H8
    obtain ⟨e8, s8, n8⟩ := new_f hH8 hhd
    refine ⟨_, rfl, x, _, _, _, rfl, s8 _ _ e7, T.cl_Image, T.na_Image_handles, (by show 8 < 1000; decide), ?_⟩
    generalize hH9 : upd H8 x _ = H9
    obtain ⟨e9, k9, n9⟩ := own_f hH9
    have nhdx : hd ≠ x := (ne_of_none e7 hhd).symm
    have o9 := k9.at1 (s8 _ _ o7) nix
    -- serial, wish, barred
    refine ⟨_, rfl, im, _, _, _, _, rfl, o9, T.cl_Image, T.na_Image_serial, rfl, _, rfl, x, _, _, _, rfl, e9, T.cl_Image, T.na_Image_serial, (by show 8 < 1000; decide), ?_⟩
    generalize hH10 : upd H9 x _ = H10
    obtain ⟨e10, k10, n10⟩ := own_f hH10
    refine ⟨_, rfl, im, _, _, _, _, rfl, k10.at1 o9 nix, T.cl_Image, T.na_Image_wish, rfl, _, rfl, x, _, _, _, rfl, e10, T.cl_Image, T.na_Image_wish, (by show 8 < 1000; decide), ?_⟩
    generalize hH11 : upd H10 x _ = H11
    obtain ⟨e11, k11, n11⟩ := own_f hH11
    refine ⟨_, rfl, im, _, _, _, _, rfl, k11.at1 (k10.at1 o9 nix) nix, T.cl_Image, T.na_Image_barred, rfl, _, rfl, x, _, _, _, rfl, e11, T.cl_Image, T.na_Image_barred, (by show 8 < 1000; decide), ?_⟩
    generalize hH12 : upd H11 x _ = H12
    obtain ⟨e12, k12, n12⟩ := own_f hH12
    have k9' : Kp [x] H9 H12 := (k10.trans k11).trans k12
    have k2' : Kp [x] H2 H12 := (((((k3.same s4).trans k5).same s6).trans k7).same s8).trans (k9.trans k9')
    have S12 : Same H H12 := fun y o e => k2'.at1 (G.same _ _ (S1 _ _ e)) (ne_of_none e nx)
    have N1' : ∀ y, H1 y = none → H y = none := fun y e => S1.free e
    have f_ho : H2 ho = none := (n3 _ hho).1
    have f_st : H2 st = none := (n3 _ (n4 _ (n5 _ hst).1).1).1
    have f_hd : H2 hd = none := (n3 _ (n4 _ (n5 _ (n6 _ (n7 _ hhd).1).1).1).1).1
    have fr : ∀ y, H2 y = none → H y = none := fun y e => N1' _ (G.same.free e)
    have xD : x ≠ D := ne_of_none I1.ob G.freshD
    have xq : x ∉ qs := (G.nin0 I1.ob).2
    have qn : ∀ y, H2 y = none → y ∉ qs := fun y e hq => by
      obtain ⟨o, z⟩ := G.grid.held hq
      rw [e] at z
      cases z
    refine ⟨_, rfl, k H12 x ⟨A1.dx, A1.pl, D, qs, ho, st, hd, A.ba⟩ S12 nx
      { ob := e12, pl := ?_, gr := G.grid.keep fun y o hy e => k2'.at1 e ?_, ho := k9'.at1 (k9.at1 (s8 _ _ ho7) nhox) nhox, st := k9'.at1 (k9.at1 (s8 _ _ st7) nstx) nstx, hd := k9'.at1 (k9.at1 e8 nhdx) nhdx, ba := S12 _ _ I.ba, n1 := qn _ f_ho, n2 := qn _ f_st, n3 := nstho.symm, n4 := ne_of_none G.grid.out f_ho, n5 := ne_of_none G.grid.out f_st, d0 := I.d0, d1 := I.d1, d2 := I.d2, d3 := I.d3 }
      ⟨N1' _ G.freshD, fun q hq => N1' _ (G.fresh q hq), fr _ f_ho, fr _ f_st, fr _ f_hd⟩ eA rfl⟩
    · show PlanAt T.C_Plan H12 A1.pl b n sl
      rw [eA]
      exact I.pl.same S12
    · rcases hy with rfl | hy
      · exact xD.symm
      · exact fun z => xq (by rw [← z]; exact hy)
end
end K09
namespace K09
open PySem PySem.Spec PyProof.Rows L2 Rg
/-- what an image is read from -/
def IA.reads (A : IA) (im : Addr) : List Addr := im :: A.pl :: A.ca :: A.ho :: A.st :: A.hd :: A.ba :: A.rs
section
variable {CI CP : Addr} {H : Hp} {im : Addr} {A : IA} {v : IV} {b n s : Int}
theorem ImgAt.keepF {H' : Hp} (I : ImgAt CI CP H im A v b n s) (h : ∀ x o, x ∈ A.reads im → H x = some o → H' x = some o) : ImgAt CI CP H' im A v b n s :=
  { I with ob := h _ _ (by simp [IA.reads]) I.ob, pl := I.pl.of fun o e => h _ _ (by simp [IA.reads]) e, gr := I.gr.keep fun x o hx e => h _ _ (by rcases hx with rfl | hx <;> simp [IA.reads, *]) e, ho := h _ _ (by simp [IA.reads]) I.ho, st := h _ _ (by simp [IA.reads]) I.st, hd := h _ _ (by simp [IA.reads]) I.hd, ba := h _ _ (by simp [IA.reads]) I.ba }
theorem ImgAt.held (I : ImgAt CI CP H im A v b n s) {x : Addr} (h : x ∈ A.reads im) : ∃ o, H x = some o := by
  obtain ⟨dxp, hpl⟩ := I.pl.ob
  simp only [IA.reads, List.mem_cons] at h
  rcases h with rfl | rfl | rfl | rfl | rfl | rfl | rfl | h
  · exact ⟨_, I.ob⟩
  · exact ⟨_, hpl⟩
  · exact ⟨_, I.gr.out⟩
  · exact ⟨_, I.ho⟩
  · exact ⟨_, I.st⟩
  · exact ⟨_, I.hd⟩
  · exact ⟨_, I.ba⟩
  · exact I.gr.held h
/-- the fields of begin -/
theorem ImgAt.beg {t : Addr} {se wi : Int} {bs : List Int} (I : ImgAt CI CP H im A v b n s) (ht : H t = some (.tup (bs.map V.int))) :
    ImgAt CI CP (upd H im (.ins CI A.dx (imgF { A with ba := t } { v with se := se, wi := wi, ba := bs }))) im { A with ba := t } { v with se := se, wi := wi, ba := bs } b n s := by
  obtain ⟨dxp, hpl⟩ := I.pl.ob
  have oc := I.ob
  refine { I with ob := upd_same, pl := I.pl.of fun o e => ?_, gr := I.gr.keep fun y o hy e => ?_, ho := ?_, st := ?_, hd := ?_, ba := ?_ }
  · rw [upd_ne (fun z : A.pl = im => ?_)]
    · exact e
    · rw [z, oc] at hpl
      have := HO.ins.inj (Option.some.inj hpl)
      have := this.2.2
      simp [planF, imgF] at this
  · rw [upd_ne]
    · exact e
    · rcases hy with rfl | hy
      · exact ne_of I.gr.out oc (by intro z; cases z)
      · rintro rfl
        obtain ⟨i, hi, e2⟩ := List.getElem_of_mem hy
        have hm : i < v.M.length := by rw [← I.gr.len]; exact hi
        have := I.gr.row i y v.M[i] (by rw [List.getElem?_eq_getElem hi, e2]) (List.getElem?_eq_getElem hm)
        rw [oc] at this
        cases this
  · rw [upd_ne (ne_of I.ho oc (by intro z; cases z))]; exact I.ho
  · rw [upd_ne (ne_of I.st oc (by intro z; cases z))]; exact I.st
  · rw [upd_ne (ne_of I.hd oc (by intro z; cases z))]; exact I.hd
  · rw [upd_ne (ne_of ht oc (by intro z; cases z))]; exact ht
end
/-- places that stand apart, each with what it holds -/
structure Fr (L : List (Addr × HO)) (H : Hp) : Prop where
  at_ : ∀ p ∈ L, H p.1 = some p.2
  nd : (L.map (·.1)).Nodup
theorem Fr.get {L : List (Addr × HO)} {H : Hp} (F : Fr L H) (i : Nat) {a : Addr} {o : HO} (h : L[i]? = some (a, o)) : H a = some o := F.at_ _ (List.mem_of_getElem? h)
theorem Fr.keep {L : List (Addr × HO)} {H H' : Hp} (F : Fr L H) (h : ∀ p ∈ L, ∀ o, H p.1 = some o → H' p.1 = some o) : Fr L H' := ⟨fun p hp => h p hp _ (F.at_ p hp), F.nd⟩
theorem Fr.same {L : List (Addr × HO)} {H H' : Hp} (F : Fr L H) (h : Same H H') : Fr L H' := F.keep fun _ _ _ e => h _ _ e
theorem Fr.put {L : List (Addr × HO)} {H : Hp} (F : Fr L H) (i : Nat) {a : Addr} {o o' : HO} (h : L[i]? = some (a, o)) : Fr (L.set i (a, o')) (upd H a o') := by
  have hi : i < L.length := (List.getElem?_eq_some_iff.mp h).1
  have e : (L.set i (a, o')).map (·.1) = L.map (·.1) := by
    apply List.ext_getElem?
    intro j
    rw [List.getElem?_map, List.getElem?_map]
    by_cases q : i = j
    · subst q
      rw [List.getElem?_set_self hi, h]
      rfl
    · rw [List.getElem?_set_ne q]
  refine ⟨fun p hp => ?_, by rw [e]; exact F.nd⟩
  obtain ⟨j, hj, ej⟩ := List.getElem_of_mem hp
  by_cases q : i = j
  · subst q
    rw [List.getElem_set_self] at ej
    rw [← ej]
    exact upd_same
  · rw [List.getElem_set_ne q] at ej
    have hjl : j < L.length := by rw [List.length_set] at hj; exact hj
    have hpL : p ∈ L := by rw [← ej]; exact List.getElem_mem hjl
    rw [upd_ne]
    · exact F.at_ p hpL
    · intro z
      have n1 : (L.map (·.1))[i]? = some a := by rw [List.getElem?_map, h]; rfl
      have n2 : (L.map (·.1))[j]? = some a := by rw [List.getElem?_map, List.getElem?_eq_getElem hjl, ej, ← z]; rfl
      have il : i < (L.map (·.1)).length := by rw [List.length_map]; exact hi
      have jl : j < (L.map (·.1)).length := by rw [List.length_map]; exact hjl
      rw [List.getElem?_eq_getElem il] at n1
      rw [List.getElem?_eq_getElem jl] at n2
      exact q ((List.getElem_inj F.nd).mp ((Option.some.inj n1).trans (Option.some.inj n2).symm))
theorem Fr.held {L : List (Addr × HO)} {H : Hp} (F : Fr L H) {a : Addr} (h : H a = none) : ∀ p ∈ L, p.1 ≠ a := fun p hp z => by
  have := F.at_ p hp
  rw [z, h] at this
  cases this
/-- one more, at a new place -/
theorem Fr.cons {L : List (Addr × HO)} {H : Hp} (F : Fr L H) {a : Addr} {o : HO} (h : H a = none) : Fr ((a, o) :: L) (upd H a o) := by
  refine ⟨fun p hp => ?_, ?_⟩
  · rcases List.mem_cons.mp hp with rfl | hp
    · exact upd_same
    · rw [upd_ne (F.held h p hp)]
      exact F.at_ p hp
  · rw [List.map_cons, List.nodup_cons]
    refine ⟨fun z => ?_, F.nd⟩
    obtain ⟨p, hp, e⟩ := List.mem_map.mp z
    exact F.held h p hp e
theorem Fr.nil {H : Hp} : Fr [] H := ⟨fun _ h => absurd h List.not_mem_nil, List.nodup_nil⟩
/-- an image, and places apart from it -/
structure SI (CI CP : Addr) (H : Hp) (im : Addr) (A : IA) (v : IV) (b n s : Int) (L : List (Addr × HO)) : Prop where
  I : ImgAt CI CP H im A v b n s
  F : Fr L H
  ap : ∀ p ∈ L, p.1 ∉ A.reads im
section
variable {CI CP : Addr} {H : Hp} {im : Addr} {A : IA} {v : IV} {b n s : Int} {L : List (Addr × HO)}
theorem SI.same {H' : Hp} (S : SI CI CP H im A v b n s L) (h : Same H H') : SI CI CP H' im A v b n s L := ⟨S.I.keep h, S.F.same h, S.ap⟩
theorem SI.put (S : SI CI CP H im A v b n s L) (i : Nat) {a : Addr} {o o' : HO} (h : L[i]? = some (a, o)) : SI CI CP (upd H a o') im A v b n s (L.set i (a, o')) := by
  have ha := S.ap _ (List.mem_of_getElem? h)
  refine ⟨S.I.keepF fun x q hx e => ?_, S.F.put i h, fun p hp => ?_⟩
  · rw [upd_ne fun z => ha (by rw [← z]; exact hx)]
    exact e
  · rcases mem_set_of hp with e | e
    · rw [e]; exact ha
    · exact S.ap p e
/-- the image changed, at its own places -/
theorem SI.img {H' : Hp} {A' : IA} {v' : IV} (S : SI CI CP H im A v b n s L) (I' : ImgAt CI CP H' im A' v' b n s) (k : Kp (A.reads im) H H') (hr : ∀ x ∈ A'.reads im, x ∈ A.reads im ∨ H x = none) : SI CI CP H' im A' v' b n s L :=
  ⟨I', S.F.keep fun p hp o e => k _ _ e (S.ap p hp), fun p hp z => by
    rcases hr _ z with e | e
    · exact S.ap p hp e
    · exact S.F.held e p hp rfl⟩
end
section
variable {X : Cx}
def rGetL (K : PySem.W.Frag) : V → V → Hp → VK → Prop := fun x y H Q => ∃ p xs j v, x = .ref p ∧ y = .int ((j : Nat) : Int) ∧ SqL K H p xs ∧ xs[j]? = some v ∧ Q v H
theorem get_list : PGet X (rGetL X.K) := by
  intro pins s σ H o i ov iv Q I ro ri h
  obtain ⟨p, xs, j, v, rfl, rfl, hq, he, q⟩ := h
  cases ro
  obtain ⟨t, rfl⟩ := ri
  obtain ⟨its, r, pl, hz⟩ := I.list hq
  obtain ⟨w, ew, rw'⟩ := r.get he
  have hn := line63
  have hl := r.length
  have hj := (List.getElem?_eq_some_iff.mp he).1
  exact wpAny_getItem_list pl.isList (by omega) (by omega) (by simpa using ew) ⟨v, H, I, rw', q⟩
end
section
variable {P : Program} {w : World} {K : PySem.W.Frag} {mg : Str → Option Value} {base : Heap}
/-! ### begin -/
def sp_begin (CI CP : Addr) : Sp := fun vs H Q _ => ∃ (im : Addr) (A : IA) (v : IV) (b n s wi : Int) (q : Addr) (bs : List Int), vs = [.ref im, .int wi, .ref q] ∧ ImgAt CI CP H im A v b n s ∧ (H q = some (.lst (bs.map V.int)) ∨ H q = some (.tup (bs.map V.int))) ∧
  ∀ (H' : Hp) (t : Addr), ImgAt CI CP H' im { A with ba := t } { v with se := v.se + 1, wi := wi, ba := bs } b n s → Kp [im] H H' → (H t = none ∨ t = q) → Q .non H'
theorem ok_begin (T : Tx K mg) : FnOk P w K mg base CX0 1 T.f_Image_begin T.fd_Image_begin ["self", "wish", "barred"] (sp_begin T.C_Image T.C_Plan) := by
  refine T.F_Image_begin.ok sc_Image_begin (fun vs H Q E h => ?_) (fun cdv A0 outer s H vs Q E hr h => ?_)
  · obtain ⟨_, _, _, _, _, _, _, _, _, rfl, _⟩ := h; rfl
  · obtain ⟨im, A, v, b, n, sl, wi, q, bs, rfl, I, hq, k⟩ := h
    refine ⟨_, (pss_cons (ps_fldaug (pv 0) pe_int in_add)
      (pss_cons (ps_fld (pv 0) (pv 1) rfl)
      (pss_one (ps_fld (pv 0) (pe_callTy call_tuple_of rfl T.b_tuple (by decide +kernel) (pa_cons (pv 2) pa_nil)) rfl)))), ?_⟩
    refine ⟨_, rfl, im, _, _, _, _, rfl, I.ob, T.cl_Image, T.na_Image_serial, rfl, _, _, rfl, rfl, _, _, I.ob, (by show 8 < 1000; decide), ?_⟩
    refine ⟨_, rfl, _, rfl, im, _, _, _, rfl, upd_same, T.cl_Image, T.na_Image_wish, (by show 8 < 1000; decide), ?_⟩
    rw [upd_upd]
    have k0 : ∀ o, Kp [im] H (upd H im o) := fun o => Kp.refl.own1
    have qn : q ≠ im := fun z => by
      rw [z, I.ob] at hq
      rcases hq with e | e <;> cases e
    refine ⟨_, rfl, q, bs.map V.int, rfl, ?_⟩
    rcases hq with hq | hq
    · refine .inl ⟨.of ((k0 _).at1 hq qn), fun t ht => ?_⟩
      refine ⟨_, rfl, im, _, A.dx, _, rfl, (by rw [upd_ne (unn' ht), upd_same]), T.cl_Image, T.na_Image_barred, (by show 8 < 1000; decide), ?_⟩
      have ti := unn' ht
      have t0 := un ht
      have e1 : ∀ o1 o2 o3, upd (upd (upd H im o1) t o2) im o3 = upd (upd H t o2) im o3 := fun o1 o2 o3 => by
        rw [upd_comm ti, upd_upd]
      rw [e1]
      exact k _ t ((I.keep (same_upd t0)).beg upd_same) ((Kp.of (same_upd t0)).own1) (.inl t0)
    · refine .inr ⟨.of ((k0 _).at1 hq qn), ?_⟩
      refine ⟨_, rfl, im, _, A.dx, _, rfl, upd_same, T.cl_Image, T.na_Image_barred, (by show 8 < 1000; decide), ?_⟩
      rw [upd_upd]
      exact k _ q (I.beg hq) (k0 _) (.inr rfl)
/-! ### data_blocks, free_blocks, identity -/
def rng (lo : Int) (n : Nat) : List Int := (List.range n).map fun i => lo + (i : Nat)
theorem rng_succ {lo : Int} {n : Nat} : rng lo (n + 1) = rng lo n ++ [lo + n] := by
  unfold rng
  rw [List.range_succ, List.map_append]
  rfl
theorem rng_len {lo : Int} {n : Nat} : (rng lo n).length = n := by unfold rng; simp
theorem rng_get {lo : Int} {n i : Nat} (h : i < n) : (rng lo n)[i]? = some (lo + i) := by
  unfold rng
  rw [List.getElem?_map, List.getElem?_range h]
  rfl
theorem rng_mem {lo x : Int} {n : Nat} (h : x ∈ rng lo n) : lo ≤ x ∧ x < lo + n := by
  unfold rng at h
  obtain ⟨i, hi, e⟩ := List.mem_map.mp h
  rw [List.mem_range] at hi
  omega
theorem rgV_rng (a b : Int) : rgV a b = (rng a (b - a).toNat).map V.int := by
  unfold rgV rng
  rw [List.map_map]
  rfl
def sp_data_blocks (CP : Addr) : Sp := fun vs H Q _ => ∃ (p : Addr) (b n s : Int), vs = [.ref p] ∧ PlanAt CP H p b n s ∧ ∀ q, H q = none → Q (.ref q) (upd H q (.lst ((rng (2 + (b + 8 - 1) / 8 + n) (b - (2 + (b + 8 - 1) / 8 + n)).toNat).map V.int)))
theorem ok_data_blocks (T : Tx K mg) : FnOk P w K mg base CX0 1 T.f_Plan_data_blocks T.fd_Plan_data_blocks ["self"] (sp_data_blocks T.C_Plan) := by
  refine T.F_Plan_data_blocks.ok sc_Plan_data_blocks (fun vs H Q E h => ?_) (fun cdv A0 outer s H vs Q E hr h => ?_)
  · obtain ⟨_, _, _, _, rfl, _⟩ := h; rfl
  · obtain ⟨p, b, n, sl, rfl, hP, k⟩ := h
    refine ⟨_, (pss_one (ps_ret (pe_listRg rfl rfl T.b_list (prg_2 rfl T.b_range (pe_fld (pv 0) rfl) (pe_fld (pv 0) rfl))))), ?_⟩
    obtain ⟨dxp, hpl⟩ := hP.ob
    have b1 := hP.b1
    have b2 := hP.b2
    have n1 := hP.n1
    have n2 := hP.n2
    refine ⟨_, rfl, p, _, dxp, _, _, rfl, hpl, T.cl_Plan, T.na_Plan_first_data, rfl, _, rfl, p, _, dxp, _, _, rfl, hpl, T.cl_Plan, T.na_Plan_blocks, rfl, _, _, rfl, rfl, ⟨by omega, by omega, by omega, by omega, by omega⟩, fun q hq => ?_⟩
    rw [rgV_rng]
    exact k q hq
def fdOf (b n : Int) : Int := 2 + (b + 8 - 1) / 8 + n
/-- the free data blocks -/
def freeL (b n : Int) (M : List (List Int)) : List Int := (rng (fdOf b n) (b - fdOf b n).toNat).filter fun x => decide (kindOf b n M x = 0)
def sp_free_blocks (CI CP : Addr) : Sp := fun vs H Q _ => ∃ (im : Addr) (A : IA) (v : IV) (b n s : Int), vs = [.ref im] ∧ ImgAt CI CP H im A v b n s ∧ ∀ H' p, Same H H' → H p = none → H' p = some (.lst ((freeL b n v.M).map V.int)) → Q (.ref p) H'
theorem filt_len {l : List Int} {p : Int → Bool} {m : Nat} (h : l.length ≤ m) : (l.filter p).length ≤ m := Nat.le_trans (List.length_filter_le _ _) h
theorem take_get {l : List Int} {i : Nat} {x : Int} (h : l[i]? = some x) : l.take (i + 1) = l.take i ++ [x] := by
  rw [List.take_succ, h]
  rfl
theorem ok_free_blocks (T : Tx K mg) : FnOk P w K mg base CX0 3 T.f_Image_free_blocks T.fd_Image_free_blocks ["self"] (sp_free_blocks T.C_Image T.C_Plan) := by
  refine T.F_Image_free_blocks.ok sc_Image_free_blocks (fun vs H Q E h => ?_) (fun cdv A0 outer s H vs Q E hr h => ?_)
  · obtain ⟨_, _, _, _, _, _, rfl, _⟩ := h; rfl
  · obtain ⟨im, A, v, b, n, sl, rfl, I, k⟩ := h
    have hr1 : Room 1 _ := hr.mono (by decide)
    refine ⟨_, (pss_one (ps_ret (pe_lc rfl (own := [("x", 1)]) (g := gName 1) (tt := _) sc_Image_free_blocks.nd (pi_list (pe_meth0 (pe_fld (pv 0) rfl) T.cl_Plan T.m_Plan_data_blocks (ok_data_blocks T) hr1 (b_Plan_data_blocks T) .nil pass0)) (blkOk_by (N := ["self", "x"]) (sc := defScope s_Image_free_blocks) (by decide +kernel)) (fun _ _ _ _ _ => pg_name (i := 1) sc_Image_free_blocks.nd rfl (Or.inl rfl)) (fun _ _ _ _ _ => pts_one (pt_cmpR op_eq (pe_meth (pv 0) T.cl_Image T.m_Image_kind (ok_Image_kind T) hr (b_Image_kind T) .nil pass0 (pa_cons (pv 1) pa_nil)) (pe_cv T.mg_Plan T.cr_Plan T.cv_Plan_FREE) (nomark _))) (fun _ _ _ _ _ => (pv 1))))), ?_⟩
    obtain ⟨dxp, hpl⟩ := I.pl.ob
    have b1 := I.pl.b1
    have b2 := I.pl.b2
    have n1 := I.pl.n1
    refine ⟨_, rfl, im, _, _, _, _, rfl, I.ob, T.cl_Image, T.na_Image_plan, rfl, A.pl, dxp, _, rfl, hpl, rfl, A.pl, b, n, sl, rfl, I.pl, fun q hq => ?_⟩
    have sq := same_upd (o := .lst ((rng (2 + (b + 8 - 1) / 8 + n) (b - (2 + (b + 8 - 1) / 8 + n)).toNat).map V.int)) hq
    refine ⟨q, rfl, ⟨_, .of upd_same⟩, fun D hD => ?_⟩
    have hD0 := un hD
    have nqD : q ≠ D := unn' hD
    refine lc_list (K := K) (a := q) (xs := (rng (2 + (b + 8 - 1) / 8 + n) (b - (2 + (b + 8 - 1) / 8 + n)).toNat).map V.int) (fun i H' => Same H H' ∧ H' q = some (.lst ((rng (2 + (b + 8 - 1) / 8 + n) (b - (2 + (b + 8 - 1) / 8 + n)).toNat).map V.int)) ∧ H' D = some (.lst ((((rng (2 + (b + 8 - 1) / 8 + n) (b - (2 + (b + 8 - 1) / 8 + n)).toNat).take i).filter fun x => decide (kindOf b n v.M x = 0)).map V.int)))
      ⟨sq.trans (same_upd hD), by rw [upd_ne nqD, upd_same], upd_same⟩ (fun i H' _ ⟨_, e, _⟩ => .of e) ?_ ?_
    · rintro i y H' hi ⟨S, e1, e2⟩
      rw [List.getElem?_map] at hi
      obtain ⟨x, hx, rfl⟩ := Option.map_eq_some_iff.mp hi
      have hm := rng_mem (List.mem_of_getElem? hx)
      refine ⟨rfl, ?_⟩
      refine ⟨_, rfl, im, _, _, rfl, S _ _ I.ob, rfl, _, rfl, im, A, v, b, n, sl, x, rfl, I.keep S, by omega, by omega, fun H2 S2 => ?_⟩
      refine ⟨rfl, _, rfl, ?_⟩
      rw [dec_iv]
      by_cases hk : kindOf b n v.M x = 0
      · rw [decide_eq_true hk]
        refine iteT ⟨_, rfl, _, S2 _ _ e2, ?_, fun a o z => ?_, ?_, ?_⟩
        · rw [List.length_map]
          have := filt_len (p := fun x => decide (kindOf b n v.M x = 0)) (List.length_take_le i (rng (2 + (b + 8 - 1) / 8 + n) (b - (2 + (b + 8 - 1) / 8 + n)).toNat))
          have hl := (List.getElem?_eq_some_iff.mp hx).1
          rw [rng_len] at hl
          exact small1000 (by omega)
        · rw [upd_ne (ne_of_none z hD0)]
          exact S2 _ _ (S _ _ z)
        · rw [upd_ne nqD]
          exact S2 _ _ e1
        · rw [upd_same, take_get hx, List.filter_append, List.map_append]
          rw [List.filter_cons, if_pos (by exact decide_eq_true hk)]
          rfl
      · rw [decide_eq_false hk]
        refine iteF ⟨S.trans S2, S2 _ _ e1, ?_⟩
        rw [take_get hx, List.filter_append, List.filter_cons, if_neg (by simpa using hk)]
        rw [List.filter_nil, List.append_nil]
        exact S2 _ _ e2
    · rintro H' ⟨S, e1, e2⟩
      rw [List.length_map, List.take_length] at e2
      exact k H' D S hD0 e2
end
end K09
namespace K09
open PySem PySem.Spec PyProof.Rows L2 Rg
/-! ### lists of ints and lists of such lists, compared -/
def dI (ns : List Int) : PyData := .list (ns.map PyData.int)
def dG (M : List (List Int)) : PyData := .list (M.map dI)
theorem dpAllI {K : PySem.W.Frag} {H : Hp} : ∀ ns : List Int, DpAll K H (ns.map V.int) (ns.map PyData.int)
  | [] => .nil
  | n :: ns => .cons (.int n) (dpAllI ns)
theorem dpI {K : PySem.W.Frag} {H : Hp} {a : Addr} {ns : List Int} (h : H a = some (.lst (ns.map V.int))) : Dp K H (.ref a) (dI ns) := .lst (.of h) (dpAllI ns)
theorem dpAllG {K : PySem.W.Frag} {H : Hp} : ∀ (rs : List Addr) (M : List (List Int)), rs.length = M.length → (∀ (i : Nat) (r : Addr) (m : List Int), rs[i]? = some r → M[i]? = some m → H r = some (.lst (m.map V.int))) → DpAll K H (rs.map V.ref) (M.map dI)
  | [], [], _, _ => .nil
  | r :: rs, m :: M, hl, h => .cons (dpI (h 0 r m rfl rfl)) (dpAllG rs M (by simpa using hl) fun i q n a b => h (i + 1) q n (by simpa using a) (by simpa using b))
  | [], _ :: _, hl, _ => by simp at hl
  | _ :: _, [], hl, _ => by simp at hl
theorem dpG {K : PySem.W.Frag} {H : Hp} {ca : Addr} {rs : List Addr} {M : List (List Int)} (G : Grid H ca rs M) : Dp K H (.ref ca) (dG M) := .lst (.of G.out) (dpAllG rs M G.len G.row)
theorem canI : ∀ ns : List Int, PyData.canLayAll0 (ns.map PyData.int) = true
  | [] => rfl
  | n :: ns => by
    show (PyData.canLay0 (.int n) && PyData.canLayAll0 (ns.map PyData.int)) = true
    rw [canI ns]
    rfl
theorem canG : ∀ M : List (List Int), PyData.canLayAll0 (M.map dI) = true
  | [] => rfl
  | m :: M => by
    show (PyData.canLayAll0 (m.map PyData.int) && PyData.canLayAll0 (M.map dI)) = true
    rw [canI, canG M]
    rfl
theorem depI : ∀ ns : List Int, PyData.depthAll (ns.map PyData.int) = 0
  | [] => rfl
  | n :: ns => by
    show max (PyData.depth (.int n)) (PyData.depthAll (ns.map PyData.int)) = 0
    rw [depI ns]
    rfl
theorem depG : ∀ M : List (List Int), PyData.depthAll (M.map dI) ≤ 1
  | [] => Nat.zero_le _
  | m :: M => by
    show max (PyData.depthAll (m.map PyData.int) + 1) (PyData.depthAll (M.map dI)) ≤ 1
    rw [depI m]
    have := depG M
    omega
theorem shI (ns : List Int) : SeqAt.shaped (dI ns) = true := by
  unfold SeqAt.shaped dI
  rw [Bool.and_eq_true]
  refine ⟨canI ns, decide_eq_true ?_⟩
  show PyData.depthAll (ns.map PyData.int) + 1 ≤ 64
  rw [depI ns]
  decide
theorem shG (M : List (List Int)) : SeqAt.shaped (dG M) = true := by
  unfold SeqAt.shaped dG
  rw [Bool.and_eq_true]
  refine ⟨canG M, decide_eq_true ?_⟩
  show PyData.depthAll (M.map dI) + 1 ≤ 64
  have := depG M
  omega
theorem eqI (ns : List Int) : PyData.eqv (dI ns) (dI ns) = true := SeqAt.eqv_refl _ (canI ns)
theorem eqvAllI : ∀ a b : List Int, PyData.eqvAll (a.map PyData.int) (b.map PyData.int) = decide (a = b)
  | [], [] => by simp [PyData.eqvAll]
  | [], _ :: _ => by simp [PyData.eqvAll]
  | _ :: _, [] => by simp [PyData.eqvAll]
  | x :: a, y :: b => by
    rw [List.map_cons, List.map_cons, PyData.eqvAll, eqvAllI a b]
    by_cases e : x = y
    · subst e
      by_cases f : a = b
      · subst f; simp [PyData.eqv]
      · simp [PyData.eqv, f]
    · simp [PyData.eqv, e]
theorem eqvI (a b : List Int) : PyData.eqv (dI a) (dI b) = decide (a = b) := by
  unfold dI
  rw [PyData.eqv]
  exact eqvAllI a b
end K09
namespace K09
open PySem PySem.Spec PyProof.Rows L2 Rg
/-! ### settle -/
/-- block x gets a new stamp -/
def Chg (b n : Int) (M M0 : List (List Int)) (ho : List Int) (se : Int) (x : Nat) : Prop := (kindOf b n M x ≠ 0 ∧ M[x]? ≠ M0[x]?) ∨ ho[x]? = some se
instance {b n : Int} {M M0 : List (List Int)} {ho : List Int} {se : Int} {x : Nat} : Decidable (Chg b n M M0 ho se x) := by unfold Chg; infer_instance
def setl (b n : Int) (M M0 : List (List Int)) (ho : List Int) (se : Int) (st : List Int) : Nat → List Int
  | 0 => st
  | i + 1 => if Chg b n M M0 ho se i then (setl b n M M0 ho se st i).set i se else setl b n M M0 ho se st i
theorem setl_len {b n : Int} {M M0 : List (List Int)} {ho : List Int} {se : Int} {st : List Int} : ∀ i, (setl b n M M0 ho se st i).length = st.length
  | 0 => rfl
  | i + 1 => by
    unfold setl
    split
    · rw [List.length_set]; exact setl_len i
    · exact setl_len i
theorem setl_succ {b n : Int} {M M0 : List (List Int)} {ho : List Int} {se : Int} {st : List Int} {i : Nat} : setl b n M M0 ho se st (i + 1) = if Chg b n M M0 ho se i then (setl b n M M0 ho se st i).set i se else setl b n M M0 ho se st i := rfl
theorem setl_get {b n : Int} {M M0 : List (List Int)} {ho : List Int} {se : Int} {st : List Int} {x : Nat} (hx : x < st.length) : ∀ i, (setl b n M M0 ho se st i)[x]? = if x < i ∧ Chg b n M M0 ho se x then some se else st[x]?
  | 0 => by rw [if_neg (by omega)]; rfl
  | i + 1 => by
    have ih := setl_get (b := b) (n := n) (M := M) (M0 := M0) (ho := ho) (se := se) hx i
    unfold setl
    by_cases c : Chg b n M M0 ho se i
    · rw [if_pos c]
      by_cases e : i = x
      · subst e
        rw [List.getElem?_set_self (by rw [setl_len]; exact hx), if_pos ⟨Nat.lt_succ_self _, c⟩]
      · rw [List.getElem?_set_ne e, ih]
        simp only [show (x < i + 1) ↔ (x < i) by omega]
    · rw [if_neg c, ih]
      by_cases e : i = x
      · subst e
        rw [if_neg (fun z => c z.2), if_neg (fun z => c z.2)]
      · simp only [show (x < i + 1) ↔ (x < i) by omega]
section
variable {P : Program} {w : World} {K : PySem.W.Frag} {mg : Str → Option Value} {base : Heap}
def sp_settle (CI CP : Addr) : Sp := fun vs H Q _ => ∃ (im : Addr) (A : IA) (v : IV) (b n s : Int) (im0 : Addr) (A0 : IA) (v0 : IV), vs = [.ref im, .ref im0] ∧ ImgAt CI CP H im A v b n s ∧ ImgAt CI CP H im0 A0 v0 b n s ∧ A.st ∉ A0.reads im0 ∧
  ∀ H', ImgAt CI CP H' im A { v with st := setl b n v.M v0.M v.ho v.se v.st b.toNat } b n s → Kp [A.st] H H' → Q .non H'
theorem ok_settle (T : Tx K mg) : FnOk P w K mg base CX0 3 T.f_Image_settle T.fd_Image_settle ["self", "before"] (sp_settle T.C_Image T.C_Plan) := by
  refine T.F_Image_settle.ok sc_Image_settle (fun vs H Q E h => ?_) (fun cdv A1 outer s H vs Q E hr h => ?_)
  · obtain ⟨_, _, _, _, _, _, _, _, _, rfl, _⟩ := h; rfl
  · obtain ⟨im, A, v, b, n, sl, im0, A0, v0, rfl, I, I0, hap, k⟩ := h
    refine ⟨_, (pss_one (ps_for PassesOwn.never rfl (pi_range1 rfl T.b_range (pa_cons (pe_fld (pe_fld (pv 0) rfl) rfl) pa_nil)) (pg_name (i := 2) sc_Image_settle.nd rfl (.inl rfl))
        (Evl.pss_cut (ps_set (i := 3) sc_Image_settle.nd rfl (.inl rfl) (pe_and (pe_cmpR op_ne (pe_meth (pv 0) T.cl_Image T.m_Image_kind (ok_Image_kind T) hr (b_Image_kind T) .nil pass0 (pa_cons (pv 2) pa_nil)) (pe_cv T.mg_Plan T.cr_Plan T.cv_Plan_FREE) (nomark _)) (pe_one (pe_cmpR (op_neD hr.units) (pe_ix ix_list (pe_fld (pv 0) rfl) (pv 2) (fun _ _ => rfl)) (pe_ix ix_list (pe_fld (pv 1) rfl) (pv 2) (fun _ _ => rfl)) (nomark _)))))
        (pss_one (ps_if (PW.pt (pw_or (pt_val (pv 3)) (pw_or1 (pt_cmpR op_eq (pe_ix ix_list (pe_fld (pv 0) rfl) (pv 2) (fun _ _ => rfl)) (pe_fld (pv 0) rfl) (nomark _)))))
          (pss_one (ps_asg (pe_fld (pv 0) rfl) (pg_sub (pe_fld (pv 0) rfl) (pv 2) set_list)))
          pss_nil))))), ?_⟩
    obtain ⟨dxp, hpl⟩ := I.pl.ob
    have b1 := I.pl.b1
    have b2 := I.pl.b2
    have d0 := I.d0
    have d00 := I0.d0
    have d2 := I.d2
    have d3 := I.d3
    refine ⟨_, rfl, im, _, _, _, _, rfl, I.ob, T.cl_Image, T.na_Image_plan, rfl, A.pl, _, dxp, _, _, rfl, hpl, T.cl_Plan, T.na_Plan_blocks, rfl, b, rfl, by omega, by omega, for_range (lo := 0) (n := b.toNat) (fun i σ H' => ∃ u2 u3 : Option V, σ = [some (.ref im), some (.ref im0), u2, u3] ∧ ImgAt T.C_Image T.C_Plan H' im A { v with st := setl b n v.M v0.M v.ho v.se v.st i } b n sl ∧ Kp [A.st] H H') ⟨_, _, rfl, I, Kp.refl⟩ ?_ ?_⟩
    · rintro i σ H' hi ⟨u2, u3, rfl, I', k'⟩
      have J0 : ImgAt T.C_Image T.C_Plan H' im0 A0 v0 b n sl := I0.keepF fun x o hx e => k'.at1 e fun z => hap (by rw [← z]; exact hx)
      have hiM : i < v.M.length := by omega
      have hiM0 : i < v0.M.length := by omega
      obtain ⟨r, r1, r2, _⟩ := I'.gr.get (List.getElem?_eq_getElem hiM)
      obtain ⟨r0, r01, r02, _⟩ := J0.gr.get (List.getElem?_eq_getElem hiM0)
      have hiH : i < v.ho.length := by omega
      have hiS : i < (setl b n v.M v0.M v.ho v.se v.st i).length := by rw [setl_len]; omega
      have ez : (0 : Int) + (i : Int) = (i : Int) := by omega
      refine ⟨fun σ H2 => Same H' H2 ∧ ∃ c : Bool, σ = [some (.ref im), some (.ref im0), some (.int (i : Int)), some (.bl c)] ∧ (c = true ↔ kindOf b n v.M i ≠ 0 ∧ v.M[i]? ≠ v0.M[i]?), ?_, ?_⟩
      · refine ⟨_, rfl, im, _, _, rfl, I'.ob, rfl, _, rfl, im, A, _, b, n, sl, _, rfl, I', by omega, by omega, fun H2 S2 => ?_⟩
        have I2 := I'.keep S2
        have J2 := J0.keep S2
        rw [ez]
        refine ⟨rfl, _, rfl, ?_⟩
        rw [dec_iv]
        by_cases hk : kindOf b n v.M i = 0
        · rw [decide_eq_true hk]
          refine iteF ⟨S2, _, rfl, ?_⟩
          constructor
          · intro z; cases z
          · intro z; exact absurd hk z.1
        · rw [decide_eq_false hk]
          refine iteT ⟨_, rfl, im, _, _, _, _, rfl, I2.ob, T.cl_Image, T.na_Image_cells, rfl, _, rfl, A.ca, _, _, .ref r, rfl, rfl, .of I2.gr.out, atI_nat (by rw [List.getElem?_map, r1]; rfl), ?_⟩
          refine ⟨_, rfl, im0, _, _, _, _, rfl, J2.ob, T.cl_Image, T.na_Image_cells, rfl, _, rfl, A0.ca, _, _, .ref r0, rfl, rfl, .of J2.gr.out, atI_nat (by rw [List.getElem?_map, r01]; rfl), dI _, dI _, dpI (S2 _ _ r2), dpI (S2 _ _ r02), shI _, shI _, S2, _, rfl, ?_⟩
          rw [eqvI, List.getElem?_eq_getElem hiM, List.getElem?_eq_getElem hiM0]
          simp [hk]
      · rintro σ H2 ⟨S2, c, rfl, hc⟩
        have I2 := I'.keep S2
        have kk := k'.same S2
        have yes : Chg b n v.M v0.M v.ho v.se i → ∃ u2 u3 : Option V, [some (V.ref im), some (V.ref im0), some (V.int (i : Int)), some (V.bl c)] = [some (.ref im), some (.ref im0), u2, u3] ∧ ImgAt T.C_Image T.C_Plan (upd H2 A.st (.lst (((setl b n v.M v0.M v.ho v.se v.st i).map V.int).set i (V.int v.se)))) im A { v with st := setl b n v.M v0.M v.ho v.se v.st (i + 1) } b n sl ∧ Kp [A.st] H (upd H2 A.st (.lst (((setl b n v.M v0.M v.ho v.se v.st i).map V.int).set i (V.int v.se)))) := fun q => by
          refine ⟨_, _, rfl, ?_, kk.own1⟩
          rw [setl_succ, if_pos q]
          exact I2.putSt
        have no : ¬ Chg b n v.M v0.M v.ho v.se i → ∃ u2 u3 : Option V, [some (V.ref im), some (V.ref im0), some (V.int (i : Int)), some (V.bl c)] = [some (.ref im), some (.ref im0), u2, u3] ∧ ImgAt T.C_Image T.C_Plan H2 im A { v with st := setl b n v.M v0.M v.ho v.se v.st (i + 1) } b n sl ∧ Kp [A.st] H H2 := fun q => by
          refine ⟨_, _, rfl, ?_, kk⟩
          rw [setl_succ, if_neg q]
          exact I2
        have ixS : ixN ((setl b n v.M v0.M v.ho v.se v.st i).map V.int).length (i : Int) = some i := ixN_nat rfl (by rw [List.length_map]; exact hiS)
        refine ⟨_, rfl, _, rfl, ?_⟩
        cases c with
        | true =>
          refine iteT ⟨_, rfl, im, _, _, _, _, rfl, I2.ob, T.cl_Image, T.na_Image_serial, rfl, _, rfl, im, _, _, _, _, rfl, I2.ob, T.cl_Image, T.na_Image_stamps, rfl, _, rfl, A.st, _, _, i, rfl, rfl, I2.st, ixS, ?_⟩
          exact yes (.inl (hc.mp rfl))
        | false =>
          refine iteF ⟨_, rfl, im, _, _, _, _, rfl, I2.ob, T.cl_Image, T.na_Image_holdings, rfl, _, rfl, A.ho, _, _, _, rfl, rfl, .of I2.ho, atI_nat (by rw [List.getElem?_map, List.getElem?_eq_getElem hiH]; rfl), ?_⟩
          refine ⟨_, rfl, im, _, _, _, _, rfl, I2.ob, T.cl_Image, T.na_Image_serial, rfl, rfl, _, rfl, ?_⟩
          rw [dec_iv]
          by_cases hs : v.ho[i] = v.se
          · rw [decide_eq_true hs]
            refine iteT ⟨_, rfl, im, _, _, _, _, rfl, I2.ob, T.cl_Image, T.na_Image_serial, rfl, _, rfl, im, _, _, _, _, rfl, I2.ob, T.cl_Image, T.na_Image_stamps, rfl, _, rfl, A.st, _, _, i, rfl, rfl, I2.st, ixS, ?_⟩
            exact yes (.inr (by rw [List.getElem?_eq_getElem hiH, hs]))
          · rw [decide_eq_false hs]
            refine iteF (no ?_)
            rintro (q | q)
            · have := hc.mpr q
              cases this
            · rw [List.getElem?_eq_getElem hiH] at q
              exact hs (Option.some.inj q)
    · rintro σ H' ⟨u2, u3, rfl, I', k'⟩
      exact k H' I' k'
end
end K09
namespace K09
open PySem PySem.Spec PyProof.Rows L2 Rg
/-! ### _put_block, give, take -/
def putB (v : IV) (x : Nat) (kind serial : Int) : IV := { v with M := (setC v.M (2 + x / 8) (x % 8) kind).set x (List.replicate 8 0), ho := v.ho.set x serial, st := v.st.set x serial }
def giveV (v : IV) (x o : Nat) : IV := { putB v x 0 0 with M := setC (putB v x 0 0).M 0 o (cellAt v.M 0 o - 1) }
def takeV (v : IV) (x : Nat) (kind : Int) (o : Nat) : IV := { putB v x kind v.se with M := setC (putB v x kind v.se).M 0 o (cellAt v.M 0 o + 1) }
def quota (v : IV) (o : Nat) : Prop := cellAt v.M 0 (4 + o) ≠ 0 ∧ cellAt v.M 0 (4 + o) ≤ cellAt v.M 0 o
instance {v : IV} {o : Nat} : Decidable (quota v o) := by unfold quota; infer_instance
def letL (b n : Int) (M : List (List Int)) (kind : Int) (ba : List Int) : List Int := if kind = 2 then (freeL b n M).filter fun x => decide (x ∉ ba) else freeL b n M
def pickL (l : List Int) (wi : Int) : Option Int := (l.filter fun x => decide (wi ≤ x)).head?.or l.head?
theorem setC_row {M : List (List Int)} {i j k : Nat} {x : Int} (h : i ≠ k) : (setC M i j x)[k]? = M[k]? := by
  unfold setC
  rw [List.getElem?_set_ne h]
theorem inV_int (x : Int) (l : List Int) : inV (.int x) (l.map V.int) = decide (x ∈ l) := by
  induction l with
  | nil => simp [inV]
  | cons y l ih =>
    have : inV (.int x) ((y :: l).map V.int) = (eqV (.int y) (.int x) || inV (.int x) (l.map V.int)) := rfl
    rw [this, ih]
    simp only [eqV]
    by_cases e : y = x
    · subst e; simp
    · have e' : x ≠ y := fun z => e z.symm
      simp [e, e']
theorem flat_ints (l : List Int) : (l.map V.int).all flatV = true := by
  rw [List.all_eq_true]
  intro y hy
  obtain ⟨i, _, rfl⟩ := List.mem_map.mp hy
  rfl
theorem foot_mem {A : IA} {im x : Addr} (h : x ∈ A.ca :: A.ho :: A.st :: A.rs) : x ∈ A.reads im := by
  simp only [IA.reads, List.mem_cons] at h ⊢
  rcases h with h | h | h | h <;> simp [h]
section
variable {P : Program} {w : World} {K : PySem.W.Frag} {mg : Str → Option Value} {base : Heap}
def sp_put_block (CI CP : Addr) : Sp := fun vs H Q _ => ∃ (im : Addr) (A : IA) (v : IV) (b n s : Int) (x : Nat) (kind serial : Int), vs = [.ref im, .int x, .int kind, .int serial] ∧ ImgAt CI CP H im A v b n s ∧ fdOf b n ≤ x ∧ (x : Int) < b ∧
  ∀ H' q, H q = none → ImgAt CI CP H' im { A with rs := A.rs.set x q } (putB v x kind serial) b n s → Kp (A.ca :: A.ho :: A.st :: A.rs) H H' → Q .non H'
theorem ok_put_block (T : Tx K mg) : FnOk P w K mg base CX0 2 T.f_Image__put_block T.fd_Image__put_block ["self", "x", "kind", "serial"] (sp_put_block T.C_Image T.C_Plan) := by
  refine T.F_Image__put_block.ok sc_Image__put_block (fun vs H Q E h => ?_) (fun cdv A0 outer s H vs Q E hr h => ?_)
  · obtain ⟨_, _, _, _, _, _, _, _, _, rfl, _⟩ := h; rfl
  · obtain ⟨im, A, v, b, n, sl, x, kind, serial, rfl, I, hx0, hxb, k⟩ := h
    refine ⟨_, (pss_cons (ps_asg (pe_meth (pe_fld (pv 0) rfl) T.cl_Plan T.m_Plan_map_place (ok_Plan_map_place T) hr (b_Plan_map_place T) .nil pass0 (pa_cons (pv 1) pa_nil)) (pg_tup rfl (pgs_cons (pg_name (i := 4) sc_Image__put_block.nd rfl (.inl rfl)) (pgs_cons (pg_name (i := 5) sc_Image__put_block.nd rfl (.inl rfl)) pgs_nil))))
      (pss_cons (ps_asg (pv 2) (pg_sub (pe_ix ix_list (pe_fld (pv 0) rfl) (pv 4) (fun _ _ => rfl)) (pv 5) set_list))
      (pss_cons (ps_asg (pe_op op_rep (pe_lst (pa_cons pe_int pa_nil)) (pe_cv T.mg_Plan T.cr_Plan T.cv_Plan_WIDTH)) (pg_sub (pe_fld (pv 0) rfl) (pv 1) set_list))
      (pss_cons (ps_asg (pv 3) (pg_sub (pe_fld (pv 0) rfl) (pv 1) set_list))
      (pss_one (ps_asg (pv 3) (pg_sub (pe_fld (pv 0) rfl) (pv 1) set_list))))))), ?_⟩
    obtain ⟨dxp, hpl⟩ := I.pl.ob
    have b1 := I.pl.b1
    have n1 := I.pl.n1
    have d0 := I.d0
    have d2 := I.d2
    have d3 := I.d3
    have hx0' : 2 + (b + 8 - 1) / 8 + n ≤ x := hx0
    have hi : 2 + x / 8 < v.M.length := by omega
    have hx : x < v.M.length := by omega
    refine ⟨_, rfl, im, _, _, _, _, rfl, I.ob, T.cl_Image, T.na_Image_plan, rfl, A.pl, dxp, _, rfl, hpl, rfl, _, rfl, A.pl, b, n, sl, x, rfl, I.pl, fun t ht => ?_⟩
    have st := same_upd (o := .tup [.int (2 + (x : Int) / 8), .int ((x : Int) % 8)]) ht
    have I1 := I.keep st
    have k1 : Kp (A.ca :: A.ho :: A.st :: A.rs) H (upd H t (.tup [.int (2 + (x : Int) / 8), .int ((x : Int) % 8)])) := .of st
    have n1' : ∀ y, upd H t (.tup [.int (2 + (x : Int) / 8), .int ((x : Int) % 8)]) y = none → H y = none := fun y e => un e
    refine ⟨t, _, rfl, .inl (.inl upd_same), rfl, _, _, rfl, _, _, rfl, rfl, ?_⟩
    generalize upd H t (.tup [.int (2 + (x : Int) / 8), .int ((x : Int) % 8)]) = H1 at I1 k1 n1' ⊢
    obtain ⟨r, r1, r2, _⟩ := I1.gr.get (List.getElem?_eq_getElem hi)
    have h8 := I1.d1 _ (List.getElem_mem hi)
    refine ⟨_, rfl, _, rfl, im, _, _, _, _, rfl, I1.ob, T.cl_Image, T.na_Image_cells, rfl, _, rfl, A.ca, _, _, .ref r, rfl, rfl, .of I1.gr.out, at_of (j := 2 + x / 8) (by omega) (by rw [List.getElem?_map, r1]; rfl), _, rfl, r, _, _, x % 8, rfl, rfl, r2, ixN_nat (by omega) (by rw [List.length_map]; omega), ?_⟩
    have I2 := I1.setC (j := x % 8) (x := kind) r1 (List.getElem?_eq_getElem hi)
    have k2 : Kp (A.ca :: A.ho :: A.st :: A.rs) H (upd H1 r (.lst ((v.M[2 + x / 8].map V.int).set (x % 8) (V.int kind)))) := k1.own (by simp [List.mem_of_getElem? r1])
    have n2' : ∀ y, upd H1 r (.lst ((v.M[2 + x / 8].map V.int).set (x % 8) (V.int kind))) y = none → H y = none := fun y e => n1' _ (un e)
    generalize upd H1 r (.lst ((v.M[2 + x / 8].map V.int).set (x % 8) (V.int kind))) = H2 at I2 k2 n2' ⊢
    -- self.cells[x] = ..
    refine ⟨by show 1 ≤ sizeLine; decide, fun l hl => ?_⟩
    refine ⟨l, 8, _, rfl, rfl, upd_same, by decide, by decide, by show 1 * 8 ≤ sizeLine; decide, fun q hq => ?_⟩
    have hq0 : H2 q = none := un hq
    have sm : Same H2 (upd (upd H2 l (.lst [V.int 0])) q (.lst (List.replicate (8 : Int).toNat [V.int 0]).flatten)) := (same_upd hl).trans (same_upd hq)
    have eq3 : upd (upd H2 l (.lst [V.int 0])) q (.lst (List.replicate (8 : Int).toNat [V.int 0]).flatten) q = some (.lst ((List.replicate 8 (0 : Int)).map V.int)) := by rw [upd_same]; rfl
    have I3 := I2.swap (i := x) sm hq0 eq3 (by simp)
    have k3 : Kp (A.ca :: A.ho :: A.st :: A.rs) H (upd (upd (upd H2 l (.lst [V.int 0])) q (.lst (List.replicate (8 : Int).toNat [V.int 0]).flatten)) A.ca (.lst ((A.rs.map V.ref).set x (V.ref q)))) := (k2.same sm).own (by simp)
    have o3 := sm _ _ I2.gr.out
    have ob3 := sm _ _ I2.ob
    refine ⟨_, rfl, im, _, _, _, _, rfl, ob3, T.cl_Image, T.na_Image_cells, rfl, _, rfl, A.ca, _, _, x, rfl, rfl, o3, ixN_nat rfl (by rw [List.length_map, I.gr.len]; exact hx), ?_⟩
    change ImgAt T.C_Image T.C_Plan (upd (upd (upd H2 l (.lst [V.int 0])) q (.lst (List.replicate (8 : Int).toNat [V.int 0]).flatten)) A.ca (.lst ((A.rs.map V.ref).set x (V.ref q)))) _ _ _ _ _ _ at I3
    have hqH : H q = none := n2' _ hq0
    generalize upd (upd (upd H2 l (.lst [V.int 0])) q (.lst (List.replicate (8 : Int).toNat [V.int 0]).flatten)) A.ca (.lst ((A.rs.map V.ref).set x (V.ref q))) = H3 at I3 k3 ⊢
    refine ⟨_, rfl, _, rfl, im, _, _, _, _, rfl, I3.ob, T.cl_Image, T.na_Image_holdings, rfl, _, rfl, A.ho, _, _, x, rfl, rfl, I3.ho, ixN_nat rfl (by rw [List.length_map]; show x < v.ho.length; omega), ?_⟩
    have I4 := I3.putHo (i := x) (x := serial)
    have k4 := k3.own (a := A.ho) (o := .lst ((v.ho.map V.int).set x (V.int serial))) (by simp)
    dsimp only at I4 ⊢
    generalize upd H3 A.ho (.lst ((v.ho.map V.int).set x (V.int serial))) = H4 at I4 k4 ⊢
    refine ⟨_, rfl, _, rfl, im, _, _, _, _, rfl, I4.ob, T.cl_Image, T.na_Image_stamps, rfl, _, rfl, A.st, _, _, x, rfl, rfl, I4.st, ixN_nat rfl (by rw [List.length_map]; show x < v.st.length; omega), ?_⟩
    exact k _ q hqH (I4.putSt (i := x) (x := serial)) (k4.own (by simp))
end
end K09
namespace K09
open PySem PySem.Spec PyProof.Rows L2 Rg
section
variable {P : Program} {w : World} {K : PySem.W.Frag} {mg : Str → Option Value} {base : Heap}
/-- the row of the sums behind a put -/
theorem putB_row0 {v : IV} {x : Nat} {kind serial : Int} (hx : x ≠ 0) : (putB v x kind serial).M[0]? = v.M[0]? := by
  show ((setC v.M (2 + x / 8) (x % 8) kind).set x (List.replicate 8 0))[0]? = v.M[0]?
  rw [List.getElem?_set_ne hx, setC_row (by omega)]
theorem ImgAt.row0 {CI CP : Addr} {H : Hp} {im : Addr} {A : IA} {v : IV} {b n s : Int} (I : ImgAt CI CP H im A v b n s) : ∃ r m, A.rs[0]? = some r ∧ v.M[0]? = some m ∧ m.length = 8 ∧ H r = some (.lst (m.map V.int)) := by
  have d0 := I.d0
  have b1 := I.pl.b1
  have hl : 0 < v.M.length := by omega
  obtain ⟨r, r1, r2, _⟩ := I.gr.get (List.getElem?_eq_getElem hl)
  exact ⟨r, _, r1, List.getElem?_eq_getElem hl, I.d1 _ (List.getElem_mem hl), r2⟩
def sp_give (CI CP : Addr) : Sp := fun vs H Q _ => ∃ (im : Addr) (A : IA) (v : IV) (b n s : Int) (x o : Nat), vs = [.ref im, .int x, .int o] ∧ ImgAt CI CP H im A v b n s ∧ fdOf b n ≤ x ∧ (x : Int) < b ∧ o < 4 ∧
  ∀ H' q, H q = none → ImgAt CI CP H' im { A with rs := A.rs.set x q } (giveV v x o) b n s → Kp (A.ca :: A.ho :: A.st :: A.rs) H H' → Q .non H'
theorem ok_give (T : Tx K mg) : FnOk P w K mg base CX0 3 T.f_Image_give T.fd_Image_give ["self", "x", "owner"] (sp_give T.C_Image T.C_Plan) := by
  refine T.F_Image_give.ok sc_Image_give (fun vs H Q E h => ?_) (fun cdv A0 outer s H vs Q E hr h => ?_)
  · obtain ⟨_, _, _, _, _, _, _, _, rfl, _⟩ := h; rfl
  · obtain ⟨im, A, v, b, n, sl, x, o, rfl, I, hx0, hxb, ho, k⟩ := h
    refine ⟨_, (pss_cons (ps_expr (pe_meth (pv 0) T.cl_Image T.m_Image__put_block (ok_put_block T) hr (b_Image__put_block T) .nil pass0 (pa_cons (pv 1) (pa_cons (pe_cv T.mg_Plan T.cr_Plan T.cv_Plan_FREE) (pa_cons pe_int pa_nil)))))
      (pss_one (ps_augS (pe_ix ix_list (pe_fld (pv 0) rfl) (pe_gc T.c_SUMS_BLOCK) (fun _ _ => rfl)) (pv 2) get_list pe_int ip_sub set_list))), ?_⟩
    have b1 := I.pl.b1
    have n1 := I.pl.n1
    have hx0' : 2 + (b + 8 - 1) / 8 + n ≤ x := hx0
    refine ⟨_, rfl, im, _, _, rfl, I.ob, rfl, _, rfl, im, A, v, b, n, sl, x, 0, 0, rfl, I, hx0, hxb, fun H1 q hq I1 k1 => ?_⟩
    obtain ⟨r, m, r1, r2, r3, r4⟩ := I1.row0
    have r2' := r2
    rw [putB_row0 (by omega)] at r2'
    have rA : A.rs[0]? = some r := by
      have : (A.rs.set x q)[0]? = some r := r1
      rw [List.getElem?_set_ne (by omega)] at this
      exact this
    have hol : o < m.length := by omega
    have e0 : cellAt v.M 0 o = m[o] := cellAt_of r2' (List.getElem?_eq_getElem hol)
    refine ⟨_, rfl, im, _, _, _, _, rfl, I1.ob, T.cl_Image, T.na_Image_cells, rfl, A.ca, _, _, .ref r, rfl, rfl, .of I1.gr.out, at_of (j := 0) rfl (by rw [List.getElem?_map, r1]; rfl), _, rfl, r, _, o, _, rfl, rfl, .of r4, by rw [List.getElem?_map, List.getElem?_eq_getElem hol]; rfl, _, _, rfl, rfl, r, _, _, o, rfl, rfl, r4, ixN_nat rfl (by rw [List.length_map]; exact hol), ?_⟩
    have I2 := I1.setC (j := o) (x := m[o] - 1) r1 r2
    refine k _ q hq ?_ (k1.own (by simp [List.mem_of_getElem? rA]))
    unfold giveV
    rw [e0]
    exact I2
def sp_take (CI CP CO CB : Addr) : Sp := fun vs H Q E => ∃ (im : Addr) (A : IA) (v : IV) (b n s kind : Int) (o : Nat), vs = [.ref im, .int kind, .int o] ∧ ImgAt CI CP H im A v b n s ∧ o < 4 ∧ (cellAt v.M 0 o).natAbs.log2 < 1920 ∧
  (quota v o → ∀ H', Same H H' → E (.ref CO) none H') ∧
  (¬ quota v o → letL b n v.M kind v.ba = [] → ∀ H', Same H H' → E (.ref CB) none H') ∧
  (¬ quota v o → ∀ x : Nat, pickL (letL b n v.M kind v.ba) v.wi = some (x : Int) → ∀ H' q, H q = none → ImgAt CI CP H' im { A with rs := A.rs.set x q } (takeV v x kind o) b n s → Kp (A.ca :: A.ho :: A.st :: A.rs) H H' → Q (.int x) H')
theorem freeL_mem {b n x : Int} {M : List (List Int)} (h : x ∈ freeL b n M) : fdOf b n ≤ x ∧ x < fdOf b n + (b - fdOf b n).toNat ∧ kindOf b n M x = 0 := by
  unfold freeL at h
  have h1 := List.mem_filter.mp h
  have h2 := rng_mem h1.1
  exact ⟨h2.1, h2.2, of_decide_eq_true h1.2⟩
theorem letL_mem {b n x kind : Int} {M : List (List Int)} {ba : List Int} (h : x ∈ letL b n M kind ba) : x ∈ freeL b n M := by
  unfold letL at h
  split at h
  · exact (List.mem_filter.mp h).1
  · exact h
theorem pickL_mem {l : List Int} {wi x : Int} (h : pickL l wi = some x) : x ∈ l := by
  unfold pickL at h
  cases e : (l.filter fun x => decide (wi ≤ x)).head? with
  | none =>
    rw [e] at h
    exact List.mem_of_head? h
  | some y =>
    rw [e] at h
    cases h
    exact (List.mem_filter.mp (List.mem_of_head? e)).1
theorem freeL_len {b n : Int} {M : List (List Int)} : (freeL b n M).length ≤ (b - fdOf b n).toNat := by
  unfold freeL
  refine filt_len ?_
  rw [rng_len]
  exact Nat.le_refl _
/-- [x for x in l if ..], l a list that stands at a -/
theorem fstr_len {a c : Int} (ha : a.natAbs.log2 < 1920) (hc : c.natAbs.log2 < 1920) : (((((Str.empty ++ ("owner " : Str)) ++ (toString a : Str)) ++ (" uses " : Str)) ++ (toString c : Str)) ++ (" blocks" : Str)).length ≤ sizeLine := by
  have e1 := PySem.int_text_length_le (k := 1920) (by decide) ha
  have e2 := PySem.int_text_length_le (k := 1920) (by decide) hc
  have l1 : (("owner " : Str)).length = 6 := by decide
  have l2 : ((" uses " : Str)).length = 6 := by decide
  have l3 : ((" blocks" : Str)).length = 7 := by decide
  have l0 : (Str.empty).length = 0 := by decide
  rw [strLen_append, strLen_append, strLen_append, strLen_append, strLen_append, l0, l1, l2, l3, sizeLine_eq]
  have f1 : ((toString a : Str)).length = (toString a).length := PySem.ofString_length _
  have f2 : ((toString c : Str)).length = (toString c).length := PySem.ofString_length _
  rw [f1, f2]
  omega
end
end K09
namespace K09
open PySem PySem.Spec PyProof.Rows L2 Rg
/-- a comprehension that keeps some of l, i looked at -/
def PvF (H0 : Hp) (D : Addr) (l : List Int) (p : Int → Bool) (i : Nat) (H' : Hp) : Prop := Same H0 H' ∧ H' D = some (.lst (((l.take i).filter p).map V.int))
theorem PvF.start {H0 : Hp} {D : Addr} {l : List Int} {p : Int → Bool} (h : H0 D = none) : PvF H0 D l p 0 (upd H0 D (.lst [])) := ⟨same_upd h, upd_same⟩
theorem PvF.yes {H0 H' H2 : Hp} {D : Addr} {l : List Int} {p : Int → Bool} {i : Nat} {x : Int} (h : PvF H0 D l p i H') (hD : H0 D = none) (S : Same H' H2) (hx : l[i]? = some x) (hl : l.length < 1000) (hp : p x = true) :
    ∃ acc, H2 D = some (.lst acc) ∧ acc.length < sizeLine ∧ PvF H0 D l p (i + 1) (upd H2 D (.lst (acc ++ [V.int x]))) := by
  refine ⟨_, S _ _ h.2, ?_, fun a o z => ?_, ?_⟩
  · rw [List.length_map]
    have := filt_len (p := p) (List.length_take_le i l)
    have hi := (List.getElem?_eq_some_iff.mp hx).1
    exact small1000 (by omega)
  · rw [upd_ne (ne_of_none z hD)]
    exact S _ _ (h.1 _ _ z)
  · rw [upd_same, take_get hx, List.filter_append, List.map_append, List.filter_cons, if_pos hp]
    rfl
theorem PvF.no {H0 H' H2 : Hp} {D : Addr} {l : List Int} {p : Int → Bool} {i : Nat} {x : Int} (h : PvF H0 D l p i H') (S : Same H' H2) (hx : l[i]? = some x) (hp : p x = false) : PvF H0 D l p (i + 1) H2 := by
  refine ⟨h.1.trans S, ?_⟩
  rw [take_get hx, List.filter_append, List.filter_cons, if_neg (by rw [hp]; decide), List.filter_nil, List.append_nil]
  exact S _ _ h.2
theorem PvF.all {H0 H' : Hp} {D : Addr} {l : List Int} {p : Int → Bool} {n : Nat} (h : PvF H0 D l p n H') (e : n = l.length) : Same H0 H' ∧ H' D = some (.lst ((l.filter p).map V.int)) := by
  subst e
  have := h.2
  rw [List.take_length] at this
  exact ⟨h.1, this⟩
theorem op_notInK {X : Cx} {K : PySem.W.Frag} (hK : X.K = K := by rfl) : OpR X (compareOp .NotIn) (rIn K true) := by
  subst hK
  exact op_notIn_seq
theorem cell0 {v : IV} {m : List Int} {j : Nat} (h : v.M[0]? = some m) (hj : j < m.length) : cellAt v.M 0 j = m[j] := cellAt_of h (List.getElem?_eq_getElem hj)
section
variable {P : Program} {w : World} {K : PySem.W.Frag} {mg : Str → Option Value} {base : Heap}
end
end K09
namespace K09
open PySem PySem.Spec PyProof.Rows L2 Rg
/-- the row of a node's block -/
def nrow (b m : Int) : Nat := (2 + (b + 8 - 1) / 8 + m - 1).toNat
section
variable {P : Program} {w : World} {K : PySem.W.Frag} {mg : Str → Option Value} {base : Heap}
theorem ImgAt.node {CI CP : Addr} {H : Hp} {im : Addr} {A : IA} {v : IV} {b n s m : Int} (I : ImgAt CI CP H im A v b n s) (h1 : 1 ≤ m) (h2 : m ≤ n) : ∃ r row, A.rs[nrow b m]? = some r ∧ v.M[nrow b m]? = some row ∧ row.length = 8 ∧ H r = some (.lst (row.map V.int)) := by
  have d0 := I.d0
  have b1 := I.pl.b1
  have n1 := I.pl.n1
  have d := I.pl.d
  have hl : nrow b m < v.M.length := by
    unfold nrow
    omega
  obtain ⟨r, hr1, hr2, _⟩ := I.gr.get (List.getElem?_eq_getElem hl)
  exact ⟨r, _, hr1, List.getElem?_eq_getElem hl, I.d1 _ (List.getElem_mem hl), hr2⟩
def sp_node_cell (CI CP : Addr) : Sp := fun vs H Q _ => ∃ (im : Addr) (A : IA) (v : IV) (b n s m f : Int), vs = [.ref im, .int m, .int f] ∧ ImgAt CI CP H im A v b n s ∧ 1 ≤ m ∧ m ≤ n ∧ 0 ≤ f ∧ f < 8 ∧ Q (.int (cellAt v.M (nrow b m) f.toNat)) H
theorem ok_node_cell (T : Tx K mg) : FnOk P w K mg base CX0 2 T.f_node_cell T.fd_node_cell ["image", "n", "field"] (sp_node_cell T.C_Image T.C_Plan) := by
  refine T.F_node_cell.ok sc_node_cell (fun vs H Q E h => ?_) (fun cdv A0 outer s H vs Q E hr h => ?_)
  · obtain ⟨_, _, _, _, _, _, _, _, rfl, _⟩ := h; rfl
  · obtain ⟨im, A, v, b, n, sl, m, f, rfl, I, h1, h2, h3, h4, k⟩ := h
    refine ⟨_, (pss_one (ps_ret (pe_ix ix_list (pe_ix ix_list (pe_fld (pv 0) rfl) (pe_meth (pe_fld (pv 0) rfl) T.cl_Plan T.m_Plan_node_block (ok_Plan_node_block T) hr (b_Plan_node_block T) .nil pass0 (pa_cons (pv 1) pa_nil)) (fun _ _ => rfl)) (pv 2) (fun _ _ => rfl)))), ?_⟩
    obtain ⟨dxp, hpl⟩ := I.pl.ob
    obtain ⟨r, row, e1, e2, e3, e4⟩ := I.node h1 h2
    have b1 := I.pl.b1
    have hf : f.toNat < row.length := by omega
    rw [cellAt_of e2 (List.getElem?_eq_getElem hf)] at k
    refine ⟨_, rfl, im, _, _, _, _, rfl, I.ob, T.cl_Image, T.na_Image_cells, rfl, _, rfl, im, _, _, _, _, rfl, I.ob, T.cl_Image, T.na_Image_plan, rfl, A.pl, dxp, _, rfl, hpl, rfl, _, rfl, A.pl, b, n, sl, m, rfl, I.pl, A.ca, _, _, .ref r, rfl, rfl, .of I.gr.out, at_of (j := nrow b m) (by unfold nrow; omega) (by rw [List.getElem?_map, e1]; rfl), _, rfl, r, _, _, _, rfl, rfl, .of e4, at_of (j := f.toNat) (by omega) (by rw [List.getElem?_map, List.getElem?_eq_getElem hf]; rfl), k⟩
def sp_put_node_cell (CI CP : Addr) : Sp := fun vs H Q _ => ∃ (im : Addr) (A : IA) (v : IV) (b n s m f x : Int), vs = [.ref im, .int m, .int f, .int x] ∧ ImgAt CI CP H im A v b n s ∧ 1 ≤ m ∧ m ≤ n ∧ 0 ≤ f ∧ f < 8 ∧
  ∀ H', ImgAt CI CP H' im A { v with M := setC v.M (nrow b m) f.toNat x } b n s → Kp A.rs H H' → Q .non H'
theorem ok_put_node_cell (T : Tx K mg) : FnOk P w K mg base CX0 2 T.f_put_node_cell T.fd_put_node_cell ["image", "n", "field", "value"] (sp_put_node_cell T.C_Image T.C_Plan) := by
  refine T.F_put_node_cell.ok sc_put_node_cell (fun vs H Q E h => ?_) (fun cdv A0 outer s H vs Q E hr h => ?_)
  · obtain ⟨_, _, _, _, _, _, _, _, _, rfl, _⟩ := h; rfl
  · obtain ⟨im, A, v, b, n, sl, m, f, x, rfl, I, h1, h2, h3, h4, k⟩ := h
    refine ⟨_, (pss_one (ps_asg (pv 3) (pg_sub (pe_ix ix_list (pe_fld (pv 0) rfl) (pe_meth (pe_fld (pv 0) rfl) T.cl_Plan T.m_Plan_node_block (ok_Plan_node_block T) hr (b_Plan_node_block T) .nil pass0 (pa_cons (pv 1) pa_nil)) (fun _ _ => rfl)) (pv 2) set_list))), ?_⟩
    obtain ⟨dxp, hpl⟩ := I.pl.ob
    obtain ⟨r, row, e1, e2, e3, e4⟩ := I.node h1 h2
    have b1 := I.pl.b1
    refine ⟨_, rfl, _, rfl, im, _, _, _, _, rfl, I.ob, T.cl_Image, T.na_Image_cells, rfl, _, rfl, im, _, _, _, _, rfl, I.ob, T.cl_Image, T.na_Image_plan, rfl, A.pl, dxp, _, rfl, hpl, rfl, _, rfl, A.pl, b, n, sl, m, rfl, I.pl, A.ca, _, _, .ref r, rfl, rfl, .of I.gr.out, at_of (j := nrow b m) (by unfold nrow; omega) (by rw [List.getElem?_map, e1]; rfl), _, rfl, r, _, _, f.toNat, rfl, rfl, e4, ixN_nat (by omega) (by rw [List.length_map]; omega), ?_⟩
    exact k _ (I.setC e1 e2) (Kp.refl.own (List.mem_of_getElem? e1))
def sp_is_made (CI CP : Addr) : Sp := fun vs H Q _ => ∃ (im : Addr) (A : IA) (v : IV) (b n s m : Int), vs = [.ref im, .int m] ∧ ImgAt CI CP H im A v b n s ∧ 1 ≤ m ∧ m ≤ n ∧ Q (.bl (!decide (cellAt v.M (nrow b m) 0 = 0))) H
end
end K09
namespace K09
open PySem PySem.Spec PyProof.Rows L2 Rg
/-- a node's block, its first i cells cleared but for the making -/
def rz (m : List Int) (i : Nat) : List Int := List.replicate (min i 7) 0 ++ m.drop (min i 7)
theorem rz_len {m : List Int} {i : Nat} (h : m.length = 8) : (rz m i).length = 8 := by
  unfold rz
  rw [List.length_append, List.length_replicate, List.length_drop]
  omega
theorem rz_step {m : List Int} {i : Nat} (h : m.length = 8) (hi : i < 7) : (rz m i).set i 0 = rz m (i + 1) := by
  match m, h with
  | [a, b, c, d, e, f, g, x], _ =>
    match i, hi with
    | 0, _ => rfl
    | 1, _ => rfl
    | 2, _ => rfl
    | 3, _ => rfl
    | 4, _ => rfl
    | 5, _ => rfl
    | 6, _ => rfl
theorem rz_zero {m : List Int} : rz m 0 = m := rfl
theorem rz_eight {m : List Int} (h : m.length = 8) : rz m 8 = [0, 0, 0, 0, 0, 0, 0, (m[7]?).getD 0] := by
  match m, h with
  | [a, b, c, d, e, f, g, x], _ => rfl
theorem setC_set {M : List (List Int)} {r j : Nat} {m : List Int} {x : Int} (h : r < M.length) : setC (M.set r m) r j x = M.set r (m.set j x) := by
  unfold setC
  rw [List.getElem?_set_self h, List.set_set]
  rfl
theorem set_self {M : List (List Int)} {r : Nat} {m : List Int} (h : M[r]? = some m) : M.set r m = M := by
  apply List.ext_getElem?
  intro i
  by_cases e : r = i
  · subst e
    rw [List.getElem?_set_self (List.getElem?_eq_some_iff.mp h).1, h]
  · rw [List.getElem?_set_ne e]
section
variable {P : Program} {w : World} {K : PySem.W.Frag} {mg : Str → Option Value} {base : Heap}
def sp_unmake_node (CI CP : Addr) : Sp := fun vs H Q _ => ∃ (im : Addr) (A : IA) (v : IV) (b n s m : Int), vs = [.ref im, .int m] ∧ ImgAt CI CP H im A v b n s ∧ 1 ≤ m ∧ m ≤ n ∧
  ∀ H', ImgAt CI CP H' im A { v with M := v.M.set (nrow b m) [0, 0, 0, 0, 0, 0, 0, cellAt v.M (nrow b m) 7] } b n s → Kp A.rs H H' → Q .non H'
/-- the unmade nodes from 2 on, i looked at -/
def unmadeTo (b : Int) (M : List (List Int)) : Nat → List Int
  | 0 => []
  | i + 1 => unmadeTo b M i ++ (if cellAt M (nrow b (i + 2)) 0 = 0 then [(i : Int) + 2] else [])
theorem unmadeTo_len {b : Int} {M : List (List Int)} : ∀ i, (unmadeTo b M i).length ≤ i
  | 0 => Nat.le_refl _
  | i + 1 => by
    unfold unmadeTo
    rw [List.length_append]
    have := unmadeTo_len (b := b) (M := M) i
    split <;> simp <;> omega
theorem unmadeTo_mem {b : Int} {M : List (List Int)} {m : Int} : ∀ {i : Nat}, m ∈ unmadeTo b M i → 2 ≤ m ∧ m < i + 2 ∧ cellAt M (nrow b m) 0 = 0
  | 0, h => by cases h
  | i + 1, h => by
    unfold unmadeTo at h
    rcases List.mem_append.mp h with h | h
    · have := unmadeTo_mem h
      exact ⟨this.1, by omega, this.2.2⟩
    · split at h
      · rename_i hk
        simp at h
        subst h
        exact ⟨by omega, by omega, hk⟩
      · cases h
def sp_make_node (CI CP CN : Addr) : Sp := fun vs H Q E => ∃ (im : Addr) (A : IA) (v : IV) (b n s kind owner : Int), vs = [.ref im, .int kind, .int owner] ∧ ImgAt CI CP H im A v b n s ∧
  (unmadeTo b v.M (n - 1).toNat = [] → ∀ H', Same H H' → E (.ref CN) none H') ∧
  (∀ m rest, unmadeTo b v.M (n - 1).toNat = m :: rest → ∀ H', ImgAt CI CP H' im A { v with M := v.M.set (nrow b m) [kind, 0, 0, owner, 0, 0, 0, cellAt v.M (nrow b m) 7 + 1] } b n s → Kp A.rs H H' → Q (.int m) H')
end
end K09
namespace K09
open PySem PySem.Spec PyProof.Rows L2 Rg
/-! ### any(xs), xs a list of whole numbers -/
theorem intsT : ∀ {ns : List Int} {us : List Value}, Vals (ns.map V.int) us → ∀ (i : Nat) (v : Value), us[i]? = some v → ∃ n t, ns[i]? = some n ∧ v = Value.int n t
  | [], us, h, i, v, e => by
    rw [List.map_nil] at h
    cases h
    simp at e
  | n :: ns, us, h, i, v, e => by
    rw [List.map_cons] at h
    cases h with
    | cons r t =>
      obtain ⟨k, rfl⟩ := r
      cases i with
      | zero =>
        simp at e
        exact ⟨n, k, rfl, e.symm⟩
      | succ i => exact intsT t i v (by simpa using e)
theorem any_rangeI : ∀ ns : List Int, (List.range ns.length).any (fun i => ns.getD i 0 != 0) = ns.any fun x => x != 0
  | [] => rfl
  | n :: ns => by
    rw [List.length_cons, List.range_succ_eq_map, List.any_cons, List.any_map, List.any_cons, ← any_rangeI ns]
    all_goals rfl
def rAnyI (K : PySem.W.Frag) : List V → Hp → VK → Prop := fun vs H Q => ∃ (a : Addr) (ns : List Int), vs = [V.ref a] ∧ SqL K H a (ns.map V.int) ∧ Q (.bl (ns.any fun x => x != 0)) H
theorem cr_anyI {X : Cx} (hc : X.calm = true) : CallR X (.builtin "any") (rAnyI X.K) := by
  intro pins s σ H vs us Q I r h
  obtain ⟨a, ns, rfl, hs, q⟩ := h
  obtain ⟨its, rv, hl, _⟩ := I.list hs
  rw [Vals.ref1 r]
  have hb := intsT rv
  have hlen := rv.length
  rw [List.length_map] at hlen
  refine call_any_walk (iter_any hl.isList fun s₂ e2 st hne => ?_)
  subst e2
  refine ⟨_, _, _, _, _, _, fun i => ns.getD i 0 != 0, rfl, Walks.list (A := X.A.in1) (I.ok.hd hc) _ a hne its.toArray, st, fun i v s Q E hv hq => ?_, fun h' tk hk => ?_⟩
  · have hv' : its[i]? = some v := by simpa using hv
    obtain ⟨n, t, e, rfl⟩ := hb i v hv'
    have hg : ns.getD i 0 = n := by rw [List.getD_eq_getElem?_getD, e] <;> rfl
    have hq' : Q (ns.getD i 0 != 0) s := hq
    rw [hg] at hq'
    exact PyProof.Rows.truthy_int hq'
  · refine ⟨.bl _, H, I.kept fun b o eo => hk b o (fun hmem => ?_) (Heap.get?_push_of_some _ eo), ?_, q⟩
    · rcases List.mem_cons.mp hmem with e1 | hmem
      · exact absurd (e1 ▸ Heap.lt_size eo) (Nat.lt_irrefl _)
      · cases hmem
    · show Value.bool _ = Value.bool _
      rw [← any_rangeI, List.size_toArray, hlen]
end K09
namespace K09
open PySem PySem.Spec PyProof.Rows L2 Rg
/-! ### places -/
/-- the cell of the table of places in a node -/
def plc (b : Int) (M : List (List Int)) (m : Int) : Int := cellAt M (nrow b m) 6
/-- place o of node m -/
def plV (b : Int) (M : List (List Int)) (m : Int) (o : Nat) : Int :=
  if o < 2 then cellAt M (nrow b m) (4 + o) else if plc b M m = 0 then 0 else cellAt M (plc b M m).toNat (o - 2)
/-- the table of places is a block of the image, or there is none -/
def PlcOk (b n : Int) (M : List (List Int)) (m : Int) : Prop := plc b M m = 0 ∨ (fdOf b n ≤ plc b M m ∧ plc b M m < b)
section
variable {P : Program} {w : World} {K : PySem.W.Frag} {mg : Str → Option Value} {base : Heap}
theorem ImgAt.rowAt {CI CP : Addr} {H : Hp} {im : Addr} {A : IA} {v : IV} {b n s : Int} (I : ImgAt CI CP H im A v b n s) {x : Nat} (hx : (x : Int) < b) : ∃ r m, A.rs[x]? = some r ∧ v.M[x]? = some m ∧ m.length = 8 ∧ H r = some (.lst (m.map V.int)) := by
  have d0 := I.d0
  have hl : x < v.M.length := by omega
  obtain ⟨r, r1, r2, _⟩ := I.gr.get (List.getElem?_eq_getElem hl)
  exact ⟨r, _, r1, List.getElem?_eq_getElem hl, I.d1 _ (List.getElem_mem hl), r2⟩
def sp_place_block (CI CP : Addr) : Sp := fun vs H Q _ => ∃ (im : Addr) (A : IA) (v : IV) (b n s m : Int) (o : Nat), vs = [.ref im, .int m, .int o] ∧ ImgAt CI CP H im A v b n s ∧ 1 ≤ m ∧ m ≤ n ∧ o < 10 ∧ PlcOk b n v.M m ∧ Q (.int (plV b v.M m o)) H
theorem ok_place_block (T : Tx K mg) : FnOk P w K mg base CX0 3 T.f_place_block T.fd_place_block ["image", "n", "o"] (sp_place_block T.C_Image T.C_Plan) := by
  refine T.F_place_block.ok sc_place_block (fun vs H Q E h => ?_) (fun cdv A0 outer s H vs Q E hr h => ?_)
  · obtain ⟨_, _, _, _, _, _, _, _, rfl, _⟩ := h; rfl
  · obtain ⟨im, A, v, b, n, sl, m, o, rfl, I, h1, h2, ho, hp, k⟩ := h
    refine ⟨_, (pss_cons (ps_if (pt_cmpR op_lt (pv 2) (pe_gc T.c_NODE_PLACES) (nomark _))
        (pss_one (ps_ret (pe_call (ok_node_cell T) hr rfl T.mg_node_cell T.F_node_cell.kp (b_node_cell T) .nil pass0 (pa_cons (pv 0) (pa_cons (pv 1) (pa_cons (pe_op op_add (pe_gc T.c_FIRST_PLACE) (pv 2)) pa_nil))))))
        pss_nil)
      (pss_cons (ps_set (i := 3) sc_place_block.nd rfl (.inl rfl) (pe_call (ok_node_cell T) hr rfl T.mg_node_cell T.F_node_cell.kp (b_node_cell T) .nil pass0 (pa_cons (pv 0) (pa_cons (pv 1) (pa_cons (pe_gc T.c_PLACES) pa_nil)))))
      (pss_one (ps_ret (pe_ifExp (pt_truth (pv 3) (fun _ => rfl)) (pe_ix ix_list (pe_ix ix_list (pe_fld (pv 0) rfl) (pv 3) (fun _ _ => rfl)) (pe_op op_sub (pv 2) (pe_gc T.c_NODE_PLACES)) (fun _ _ => rfl)) pe_int))))), ?_⟩
    refine ⟨_, rfl, _, _, rfl, rfl, _, rfl, ?_⟩
    unfold plV at k
    by_cases q : o < 2
    · rw [decide_eq_true (by omega)]
      rw [if_pos q] at k
      refine iteT ⟨_, rfl, _, rfl, _, rfl, _, _, rfl, rfl, im, A, v, b, n, sl, m, 4 + (o : Int), rfl, I, h1, h2, by omega, by omega, ?_⟩
      rw [show (4 + (o : Int)).toNat = 4 + o by omega]
      exact k
    · rw [decide_eq_false (by omega)]
      rw [if_neg q] at k
      refine iteF ⟨_, rfl, _, rfl, im, A, v, b, n, sl, m, 6, rfl, I, h1, h2, by decide, by decide, ?_⟩
      refine ⟨_, rfl, _, rfl, ?_⟩
      have e6 : cellAt v.M (nrow b m) (6 : Int).toNat = plc b v.M m := rfl
      rw [e6]
      by_cases z : plc b v.M m = 0
      · rw [if_pos z] at k
        rw [z]
        exact iteF k
      · rw [if_neg z] at k
        rcases hp with hp | hp
        · exact absurd hp z
        have hf : fdOf b n = 2 + (b + 8 - 1) / 8 + n := rfl
        have b1 := I.pl.b1
        have n1 := I.pl.n1
        obtain ⟨r, row, r1, r2, r3, r4⟩ := I.rowAt (x := (plc b v.M m).toNat) (by omega)
        have hol : o - 2 < row.length := by omega
        rw [cellAt_of r2 (List.getElem?_eq_getElem hol)] at k
        have hne : (plc b v.M m != 0) = true := by simp [z]
        rw [hne]
        refine iteT ⟨_, rfl, im, _, _, _, _, rfl, I.ob, T.cl_Image, T.na_Image_cells, rfl, _, rfl, A.ca, _, _, .ref r, rfl, rfl, .of I.gr.out, at_of (j := (plc b v.M m).toNat) (by omega) (by rw [List.getElem?_map, r1]; rfl), _, rfl, _, _, rfl, rfl, r, _, _, _, rfl, rfl, .of r4, at_of (j := o - 2) (by omega) (by rw [List.getElem?_map, List.getElem?_eq_getElem hol]; rfl), k⟩
/-- place o of node m set to x -/
def putPl (b : Int) (M : List (List Int)) (m : Int) (o : Nat) (x : Int) : List (List Int) := if o < 2 then setC M (nrow b m) (4 + o) x else setC M (plc b M m).toNat (o - 2) x
def sp_put_place (CI CP : Addr) : Sp := fun vs H Q _ => ∃ (im : Addr) (A : IA) (v : IV) (b n s m : Int) (o : Nat) (x : Int), vs = [.ref im, .int m, .int o, .int x] ∧ ImgAt CI CP H im A v b n s ∧ 1 ≤ m ∧ m ≤ n ∧ o < 10 ∧ (2 ≤ o → fdOf b n ≤ plc b v.M m ∧ plc b v.M m < b) ∧
  ∀ H', ImgAt CI CP H' im A { v with M := putPl b v.M m o x } b n s → Kp A.rs H H' → Q .non H'
theorem ok_put_place (T : Tx K mg) : FnOk P w K mg base CX0 3 T.f_put_place T.fd_put_place ["image", "n", "o", "x"] (sp_put_place T.C_Image T.C_Plan) := by
  refine T.F_put_place.ok sc_put_place (fun vs H Q E h => ?_) (fun cdv A0 outer s H vs Q E hr h => ?_)
  · obtain ⟨_, _, _, _, _, _, _, _, _, rfl, _⟩ := h; rfl
  · obtain ⟨im, A, v, b, n, sl, m, o, x, rfl, I, h1, h2, ho, hp, k⟩ := h
    refine ⟨_, (pss_one (ps_if (pt_cmpR op_lt (pv 2) (pe_gc T.c_NODE_PLACES) (nomark _))
        (pss_one (ps_expr (pe_call (ok_put_node_cell T) hr rfl T.mg_put_node_cell T.F_put_node_cell.kp (b_put_node_cell T) .nil pass0 (pa_cons (pv 0) (pa_cons (pv 1) (pa_cons (pe_op op_add (pe_gc T.c_FIRST_PLACE) (pv 2)) (pa_cons (pv 3) pa_nil)))))))
        (pss_one (ps_asg (pv 3) (pg_sub (pe_ix ix_list (pe_fld (pv 0) rfl) (pe_call (ok_node_cell T) hr rfl T.mg_node_cell T.F_node_cell.kp (b_node_cell T) .nil pass0 (pa_cons (pv 0) (pa_cons (pv 1) (pa_cons (pe_gc T.c_PLACES) pa_nil)))) (fun _ _ => rfl)) (pe_op op_sub (pv 2) (pe_gc T.c_NODE_PLACES)) set_list))))), ?_⟩
    refine ⟨_, rfl, _, _, rfl, rfl, _, rfl, ?_⟩
    unfold putPl at k
    by_cases q : o < 2
    · rw [decide_eq_true (by omega)]
      simp only [if_pos q] at k
      refine iteT ⟨_, rfl, _, rfl, _, rfl, _, _, rfl, rfl, _, rfl, im, A, v, b, n, sl, m, 4 + (o : Int), x, rfl, I, h1, h2, by omega, by omega, fun H' I' k' => ?_⟩
      rw [show (4 + (o : Int)).toNat = 4 + o by omega] at I'
      exact k H' I' k'
    · rw [decide_eq_false (by omega)]
      simp only [if_neg q] at k
      have hp := hp (by omega)
      have hf : fdOf b n = 2 + (b + 8 - 1) / 8 + n := rfl
      have b1 := I.pl.b1
      have n1 := I.pl.n1
      obtain ⟨r, row, r1, r2, r3, r4⟩ := I.rowAt (x := (plc b v.M m).toNat) (by omega)
      refine iteF ⟨_, rfl, _, rfl, im, _, _, _, _, rfl, I.ob, T.cl_Image, T.na_Image_cells, rfl, _, rfl, _, rfl, im, A, v, b, n, sl, m, 6, rfl, I, h1, h2, by decide, by decide, A.ca, _, _, .ref r, rfl, rfl, .of I.gr.out, at_of (j := (plc b v.M m).toNat) (by show plc b v.M m = _; omega) (by rw [List.getElem?_map, r1]; rfl), _, rfl, _, _, rfl, rfl, r, _, _, o - 2, rfl, rfl, r4, ixN_nat (by omega) (by rw [List.length_map]; omega), ?_⟩
      exact k _ (I.setC r1 r2) (Kp.refl.own (List.mem_of_getElem? r1))
def sp_needs (CI CP : Addr) : Sp := fun vs H Q _ => ∃ (im : Addr) (A : IA) (v : IV) (b n s m : Int) (o : Nat), vs = [.ref im, .int m, .int o] ∧ ImgAt CI CP H im A v b n s ∧ 1 ≤ m ∧ m ≤ n ∧ Q (.bl (decide (2 ≤ o) && decide (plc b v.M m = 0))) H
end
end K09
namespace K09
open PySem PySem.Spec PyProof.Rows L2 Rg
/-! ### rows that are the old ones or new -/
def RsOf (H : Hp) (rs rs' : List Addr) : Prop := ∀ r ∈ rs', r ∈ rs ∨ H r = none
theorem RsOf.refl {H : Hp} {rs : List Addr} : RsOf H rs rs := fun _ h => .inl h
theorem RsOf.set {H : Hp} {rs rs' : List Addr} (h : RsOf H rs rs') {i : Nat} {q : Addr} (hq : H q = none) : RsOf H rs (rs'.set i q) := fun r hr => by
  rcases mem_set_of hr with e | e
  · exact .inr (by rw [e]; exact hq)
  · exact h r e
/-- what an image's rows, lists change, behind rows of which some are new -/
theorem Kp.rsOf {H H1 H2 : Hp} {L rs rs' : List Addr} (k1 : Kp (L ++ rs) H H1) (h : RsOf H rs rs') (k2 : Kp (L ++ rs') H1 H2) : Kp (L ++ rs) H H2 := fun x o e n => by
  refine k2 _ _ (k1 x o e n) fun z => ?_
  rcases List.mem_append.mp z with z | z
  · exact n (List.mem_append.mpr (.inl z))
  · rcases h x z with q | q
    · exact n (List.mem_append.mpr (.inr q))
    · rw [q] at e
      cases e
def ft3 (A : IA) : List Addr := [A.ca, A.ho, A.st]
theorem ft3_eq {A : IA} : ft3 A ++ A.rs = A.ca :: A.ho :: A.st :: A.rs := rfl
/-- the block of places freed, if it holds nothing -/
def dropB (b : Int) (v : IV) (m : Int) (o : Nat) : IV :=
  if plc b v.M m = 0 ∨ ((v.M[(plc b v.M m).toNat]?).getD []).any (fun x => x != 0) = true then v
  else { giveV v (plc b v.M m).toNat o with M := setC (giveV v (plc b v.M m).toNat o).M (nrow b m) 6 0 }
section
variable {P : Program} {w : World} {K : PySem.W.Frag} {mg : Str → Option Value} {base : Heap}
def sp_drop_block (CI CP : Addr) : Sp := fun vs H Q _ => ∃ (im : Addr) (A : IA) (v : IV) (b n s m : Int) (o : Nat), vs = [.ref im, .int m] ∧ ImgAt CI CP H im A v b n s ∧ 1 ≤ m ∧ m ≤ n ∧ PlcOk b n v.M m ∧ cellAt v.M (nrow b m) 3 = o ∧ o < 4 ∧
  ∀ H' rs', RsOf H A.rs rs' → ImgAt CI CP H' im { A with rs := rs' } (dropB b v m o) b n s → Kp (ft3 A ++ A.rs) H H' → Q .non H'
theorem ok_drop_block (T : Tx K mg) : FnOk P w K mg base CX0 4 T.f_drop_block_of_places T.fd_drop_block_of_places ["image", "n"] (sp_drop_block T.C_Image T.C_Plan) := by
  refine T.F_drop_block_of_places.ok sc_drop_block_of_places (fun vs H Q E h => ?_) (fun cdv A0 outer s H vs Q E hr h => ?_)
  · obtain ⟨_, _, _, _, _, _, _, _, rfl, _⟩ := h; rfl
  · obtain ⟨im, A, v, b, n, sl, m, o, rfl, I, h1, h2, hp, ho, ho4, k⟩ := h
    have hr2 : Room 2 _ := hr.mono (by decide)
    refine ⟨_, (pss_cons (ps_set (i := 2) sc_drop_block_of_places.nd rfl (.inl rfl) (pe_call (ok_node_cell T) hr2 rfl T.mg_node_cell T.F_node_cell.kp (b_node_cell T) .nil pass0 (pa_cons (pv 0) (pa_cons (pv 1) (pa_cons (pe_gc T.c_PLACES) pa_nil)))))
      (pss_one (ps_if (PW.pt (pw_and (pt_truth (pv 2) (fun _ => rfl)) (pw_and1 (pt_not (pt_val (pe_callB (cr_anyI rfl) rfl T.b_any (by decide +kernel) (pa_cons (pe_ix ix_list (pe_fld (pv 0) rfl) (pv 2) (fun _ _ => rfl)) pa_nil)))))))
        (pss_cons (ps_expr (pe_meth (pv 0) T.cl_Image T.m_Image_give (ok_give T) hr (b_Image_give T) .nil pass0 (pa_cons (pv 2) (pa_cons (pe_call (ok_node_cell T) hr2 rfl T.mg_node_cell T.F_node_cell.kp (b_node_cell T) .nil pass0 (pa_cons (pv 0) (pa_cons (pv 1) (pa_cons (pe_gc T.c_OWNER) pa_nil)))) pa_nil))))
        (pss_one (ps_expr (pe_call (ok_put_node_cell T) hr2 rfl T.mg_put_node_cell T.F_put_node_cell.kp (b_put_node_cell T) .nil pass0 (pa_cons (pv 0) (pa_cons (pv 1) (pa_cons (pe_gc T.c_PLACES) (pa_cons pe_int pa_nil))))))))
        pss_nil))), ?_⟩
    refine ⟨_, rfl, _, rfl, im, A, v, b, n, sl, m, 6, rfl, I, h1, h2, by decide, by decide, ?_⟩
    have e6 : cellAt v.M (nrow b m) (6 : Int).toNat = plc b v.M m := rfl
    rw [e6]
    refine ⟨_, rfl, _, rfl, ?_⟩
    unfold dropB at k
    by_cases z : plc b v.M m = 0
    · simp only [if_pos (Or.inl z : plc b v.M m = 0 ∨ ((v.M[(plc b v.M m).toNat]?).getD []).any (fun x => x != 0) = true)] at k
      have hz : (plc b v.M m != 0) = false := by simp [z]
      rw [hz]
      exact iteF (k H A.rs RsOf.refl I Kp.refl)
    · have hz : (plc b v.M m != 0) = true := by simp [z]
      rw [hz]
      rcases hp with hp | hp
      · exact absurd hp z
      have hf : fdOf b n = 2 + (b + 8 - 1) / 8 + n := rfl
      have b1 := I.pl.b1
      have n1 := I.pl.n1
      obtain ⟨x, ex⟩ : ∃ x : Nat, plc b v.M m = x := ⟨(plc b v.M m).toNat, by omega⟩
      rw [ex] at k hp ⊢
      obtain ⟨r, row, r1, r2, r3, r4⟩ := I.rowAt (x := x) (by omega)
      have ext : ((x : Nat) : Int).toNat = x := by omega
      rw [ext, r2] at k
      refine iteT ⟨_, rfl, im, _, _, _, _, rfl, I.ob, T.cl_Image, T.na_Image_cells, rfl, _, rfl, A.ca, _, _, .ref r, rfl, rfl, .of I.gr.out, atI_nat (by rw [List.getElem?_map, r1]; rfl), r, row, rfl, .of r4, _, rfl, ?_⟩
      by_cases an : row.any (fun x => x != 0) = true
      · have e : ((x : Int) = 0 ∨ ((some row).getD []).any (fun x => x != 0) = true) := .inr an
        simp only [if_pos e] at k
        rw [an]
        exact iteF (k H A.rs RsOf.refl I Kp.refl)
      · have e : ¬ ((x : Int) = 0 ∨ ((some row).getD []).any (fun x => x != 0) = true) := fun y => y.elim (fun q => z (by rw [ex]; exact q)) an
        simp only [if_neg e] at k
        have an' : row.any (fun x => x != 0) = false := by
          cases q : row.any (fun x => x != 0) with
          | false => rfl
          | true => exact absurd q an
        rw [an']
        refine iteT ⟨_, rfl, im, _, _, rfl, I.ob, rfl, _, rfl, _, rfl, _, rfl, im, A, v, b, n, sl, m, 3, rfl, I, h1, h2, by decide, by decide, im, A, v, b, n, sl, x, o, ?_, I, hp.1, hp.2, ho4, fun H1 q nq I1 k1 => ?_⟩
        · rw [show cellAt v.M (nrow b m) (3 : Int).toNat = (o : Int) from ho]
          rfl
        · refine ⟨_, rfl, _, rfl, im, _, _, b, n, sl, m, 6, 0, rfl, I1, h1, h2, by decide, by decide, fun H2 I2 k2 => ?_⟩
          have R1 : RsOf H A.rs (A.rs.set x q) := RsOf.refl.set nq
          refine k H2 _ R1 I2 (Kp.rsOf (L := ft3 A) k1 R1 (k2.mono fun y hy => List.mem_append.mpr (.inr hy)))
end
end K09
namespace K09
open PySem PySem.Spec PyProof.Rows L2 Rg
theorem cellAt_congr' {M R : List (List Int)} {i j : Nat} (h : M[i]? = R[i]?) : cellAt M i j = cellAt R i j := by
  unfold cellAt
  rw [h]
theorem cellAt_setC {M : List (List Int)} {i j k : Nat} {x : Int} (h : k ≠ j) : cellAt (setC M i j x) i k = cellAt M i k := by
  by_cases hi : i < M.length
  · have e := List.getElem?_eq_getElem hi
    unfold cellAt
    rw [setC_at e, e]
    show ((M[i].set j x)[k]?).getD 0 = (M[i][k]?).getD 0
    rw [List.getElem?_set_ne (fun z => h z.symm)]
  · unfold setC
    rw [List.set_eq_of_length_le (by omega)]
theorem cellAt_setC_row {M : List (List Int)} {i i' j k : Nat} {x : Int} (h : i ≠ i') : cellAt (setC M i j x) i' k = cellAt M i' k := cellAt_congr' (setC_row h)
theorem putB_row {v : IV} {x y : Nat} {kind serial : Int} (h1 : y ≠ 2 + x / 8) (h2 : y ≠ x) : (putB v x kind serial).M[y]? = v.M[y]? := by
  show ((setC v.M (2 + x / 8) (x % 8) kind).set x (List.replicate 8 0))[y]? = _
  rw [List.getElem?_set_ne (fun z => h2 z.symm), setC_row (fun z => h1 z.symm)]
theorem giveV_row {v : IV} {x y o : Nat} (h0 : y ≠ 0) (h1 : y ≠ 2 + x / 8) (h2 : y ≠ x) : (giveV v x o).M[y]? = v.M[y]? := by
  show (setC (putB v x 0 0).M 0 o (cellAt v.M 0 o - 1))[y]? = _
  rw [setC_row (fun z => h0 z.symm), putB_row h1 h2]
theorem takeV_row {v : IV} {x y o : Nat} {kind : Int} (h0 : y ≠ 0) (h1 : y ≠ 2 + x / 8) (h2 : y ≠ x) : (takeV v x kind o).M[y]? = v.M[y]? := by
  show (setC (putB v x kind v.se).M 0 o (cellAt v.M 0 o + 1))[y]? = _
  rw [setC_row (fun z => h0 z.symm), putB_row h1 h2]
/-- a node's row is none of those that a take or a give changes -/
theorem node_apart {b n m : Int} {x : Nat} (hb : 8 ≤ b) (hn : 2 ≤ n) (h1 : 1 ≤ m) (h2 : m ≤ n) (hx : fdOf b n ≤ x) (hxb : (x : Int) < b) : nrow b m ≠ 0 ∧ nrow b m ≠ 2 + x / 8 ∧ nrow b m ≠ x ∧ (nrow b m : Int) < fdOf b n := by
  unfold fdOf at hx ⊢
  unfold nrow
  refine ⟨by omega, by omega, by omega, by omega⟩
def dropP (b : Int) (v : IV) (m : Int) (o ow : Nat) : IV :=
  if plV b v.M m o = 0 then v
  else dropB b { giveV v (plV b v.M m o).toNat ow with M := putPl b (giveV v (plV b v.M m o).toNat ow).M m o 0 } m ow
section
variable {P : Program} {w : World} {K : PySem.W.Frag} {mg : Str → Option Value} {base : Heap}
/-- the places of a node are blocks of the image, none of them the table -/
def PlOk (b n : Int) (M : List (List Int)) (m : Int) (o : Nat) : Prop := plV b M m o = 0 ∨ (fdOf b n ≤ plV b M m o ∧ plV b M m o < b)
def sp_drop_place (CI CP : Addr) : Sp := fun vs H Q _ => ∃ (im : Addr) (A : IA) (v : IV) (b n s m : Int) (o ow : Nat), vs = [.ref im, .int m, .int o] ∧ ImgAt CI CP H im A v b n s ∧ 1 ≤ m ∧ m ≤ n ∧ o < 10 ∧ PlcOk b n v.M m ∧ PlOk b n v.M m o ∧ cellAt v.M (nrow b m) 3 = ow ∧ ow < 4 ∧
  ∀ H' rs', RsOf H A.rs rs' → ImgAt CI CP H' im { A with rs := rs' } (dropP b v m o ow) b n s → Kp (ft3 A ++ A.rs) H H' → Q .non H'
theorem ok_drop_place (T : Tx K mg) : FnOk P w K mg base CX0 5 T.f_drop_place T.fd_drop_place ["image", "n", "o"] (sp_drop_place T.C_Image T.C_Plan) := by
  refine T.F_drop_place.ok sc_drop_place (fun vs H Q E h => ?_) (fun cdv A0 outer s H vs Q E hr h => ?_)
  · obtain ⟨_, _, _, _, _, _, _, _, _, rfl, _⟩ := h; rfl
  · obtain ⟨im, A, v, b, n, sl, m, o, ow, rfl, I, h1, h2, ho, hp, hx, how, how4, k⟩ := h
    have hr2 : Room 2 _ := hr.mono (by decide)
    have hr3 : Room 3 _ := hr.mono (by decide)
    refine ⟨_, (pss_cons (ps_set (i := 3) sc_drop_place.nd rfl (.inl rfl) (pe_call (ok_place_block T) hr3 rfl T.mg_place_block T.F_place_block.kp (b_place_block T) .nil pass0 (pa_cons (pv 0) (pa_cons (pv 1) (pa_cons (pv 2) pa_nil)))))
      (pss_one (ps_if (pt_truth (pv 3) (fun _ => rfl))
        (pss_cons (ps_expr (pe_meth (pv 0) T.cl_Image T.m_Image_give (ok_give T) hr3 (b_Image_give T) .nil pass0 (pa_cons (pv 3) (pa_cons (pe_call (ok_node_cell T) hr2 rfl T.mg_node_cell T.F_node_cell.kp (b_node_cell T) .nil pass0 (pa_cons (pv 0) (pa_cons (pv 1) (pa_cons (pe_gc T.c_OWNER) pa_nil)))) pa_nil))))
        (pss_cons (ps_expr (pe_call (ok_put_place T) hr3 rfl T.mg_put_place T.F_put_place.kp (b_put_place T) .nil pass0 (pa_cons (pv 0) (pa_cons (pv 1) (pa_cons (pv 2) (pa_cons pe_int pa_nil))))))
        (pss_one (ps_expr (pe_call (ok_drop_block T) hr rfl T.mg_drop_block_of_places T.F_drop_block_of_places.kp (b_drop_block_of_places T) .nil pass0 (pa_cons (pv 0) (pa_cons (pv 1) pa_nil)))))))
        pss_nil))), ?_⟩
    refine ⟨_, rfl, _, rfl, _, rfl, im, A, v, b, n, sl, m, o, rfl, I, h1, h2, ho, hp, ?_⟩
    refine ⟨_, rfl, _, rfl, ?_⟩
    unfold dropP at k
    by_cases z : plV b v.M m o = 0
    · simp only [if_pos z] at k
      have hz : (plV b v.M m o != 0) = false := by simp [z]
      rw [hz]
      exact iteF (k H A.rs RsOf.refl I Kp.refl)
    · simp only [if_neg z] at k
      have hz : (plV b v.M m o != 0) = true := by simp [z]
      rw [hz]
      rcases hx with hx | hx
      · exact absurd hx z
      have b1 := I.pl.b1
      have n1 := I.pl.n1
      have hfd : (0 : Int) ≤ fdOf b n := by unfold fdOf; omega
      obtain ⟨x, ex⟩ : ∃ x : Nat, plV b v.M m o = x := ⟨(plV b v.M m o).toNat, by omega⟩
      rw [ex] at k hx ⊢
      rw [show ((x : Nat) : Int).toNat = x by omega] at k
      obtain ⟨a1, a2, a3, a4⟩ := node_apart b1 n1 h1 h2 hx.1 hx.2
      refine iteT ⟨_, rfl, im, _, _, rfl, I.ob, rfl, _, rfl, _, rfl, _, rfl, im, A, v, b, n, sl, m, 3, rfl, I, h1, h2, by decide, by decide, im, A, v, b, n, sl, x, ow, ?_, I, hx.1, hx.2, how4, fun H1 q nq I1 k1 => ?_⟩
      · rw [show cellAt v.M (nrow b m) (3 : Int).toNat = (ow : Int) from how]
        rfl
      have cg : ∀ j, cellAt (giveV v x ow).M (nrow b m) j = cellAt v.M (nrow b m) j := fun j => cellAt_congr' (giveV_row a1 a2 a3)
      have pg : plc b (giveV v x ow).M m = plc b v.M m := cg 6
      have tbl : 2 ≤ o → fdOf b n ≤ plc b v.M m ∧ plc b v.M m < b := fun h => by
        rcases hp with hp | hp
        · unfold plV at ex
          rw [if_neg (by omega), if_pos hp] at ex
          omega
        · exact hp
      have R1 : RsOf H A.rs (A.rs.set x q) := RsOf.refl.set nq
      refine ⟨_, rfl, _, rfl, _, rfl, im, _, _, b, n, sl, m, o, 0, rfl, I1, h1, h2, ho, fun h => by rw [pg]; exact tbl h, fun H2 I2 k2 => ?_⟩
      have k12 : Kp (ft3 A ++ A.rs) H H2 := Kp.rsOf (L := ft3 A) k1 R1 (k2.mono fun y hy => List.mem_append.mpr (.inr hy))
      have cp : ∀ j, j ≠ 4 + o → cellAt (putPl b (giveV v x ow).M m o 0) (nrow b m) j = cellAt v.M (nrow b m) j := fun j hj => by
        unfold putPl
        by_cases h : o < 2
        · rw [if_pos h, cellAt_setC hj, cg]
        · rw [if_neg h, pg, cellAt_setC_row, cg]
          have := tbl (by omega)
          omega
      have pp : plc b (putPl b (giveV v x ow).M m o 0) m = plc b v.M m := by
        unfold plc
        by_cases h : o < 2
        · exact cp 6 (by omega)
        · unfold putPl
          rw [if_neg h, pg, cellAt_setC_row, cg]
          · have := tbl (by omega)
            omega
      have c3 : cellAt (putPl b (giveV v x ow).M m o 0) (nrow b m) 3 = ow := by
        rw [cp 3 (by omega)]
        exact how
      refine ⟨_, rfl, _, rfl, im, _, _, b, n, sl, m, ow, rfl, I2, h1, h2, ?_, c3, how4, fun H3 rs' R3 I3 k3 => ?_⟩
      · unfold PlcOk
        show plc b (putPl b (giveV v x ow).M m o 0) m = 0 ∨ _
        rw [pp]
        exact hp
      · refine k H3 rs' (fun r hr => ?_) I3 (Kp.rsOf (L := ft3 A) k12 R1 k3)
        rcases R3 r hr with e | e
        · exact R1 r e
        · by_cases hold : r ∈ A.rs
          · exact .inl hold
          refine .inr ?_
          cases qh : H r with
          | none => rfl
          | some u =>
            by_cases hin : r ∈ ft3 A ++ A.rs
            · exfalso
              rcases List.mem_append.mp hin with y | y
              · simp only [ft3, List.mem_cons, List.not_mem_nil, or_false] at y
                rcases y with rfl | rfl | rfl
                · have := I2.gr.out; rw [e] at this; cases this
                · have := I2.ho; rw [e] at this; cases this
                · have := I2.st; rw [e] at this; cases this
              · exact hold y
            · rw [k12 r u qh hin] at e
              cases e
end
end K09
namespace K09
open PySem PySem.Spec PyProof.Rows L2 Rg
section
variable {X : Cx} {CX : CXT} {k : Nat} {f C : Addr} {fd : FuncData} {ps : List Str} {sp : Sp} {E : L2.St → XK} {m : Str} {p pos apos : Pos} {e o : Expr} {es : List Expr} {ta : TE} {t : TA}
/-- o.m(e, ..), what the body raises told slot by slot -/
def tMethS (C : Addr) (m : Str) (sp : Sp) (E : L2.St → XK) (ta : TE) (t : TA) : TE := fun σ H Q => ta σ H fun x H1 => ∃ a dx fs, x = .ref a ∧ H1 a = some (.ins C dx fs) ∧ fs.lookup m = none ∧ t σ H1 fun vs H2 => sp (.ref a :: vs) H2 Q (E σ)
theorem pe_methT {pl : Sem Bool} (he : PE X o ta) (c : Cls X.K C) (hm : Meth X.K C m f) (F : FnOk X.prog X.w X.K X.mg X.base CX k f fd ps sp) (hr : Room k X.A) (hb : Binds X.K fd ps []) (hx : ∀ σ, PassesAt CX X σ (E σ)) (ha : PA X (e :: es) t)
    (hst : starEach (e :: es) X.env = (false, eval e X.env) :: starEach es X.env := by rfl) (hpl : (backTo pos (starEach es X.env)).any (·.1) = false := by rfl)
    (ht : eval (.Call (.Attribute o m apos) (e :: es) [] pos) X.env = (do
      let ov ← eval o X.env
      standAt apos.atName
      let (f, first) ← holding [ov] (getMethod ov m pl)
      callWith pos f first (backTo pos (starEach (e :: es) X.env)) (backToKw pos (keywordEach [] X.env))) := by rfl) :
    PE X (.Call (.Attribute o m apos) (e :: es) [] pos) (tMethS C m sp E ta t) := by
  refine ⟨fun pins s σ H Q I h => ?_⟩
  refine PySem.W.methodCall_KW (pl := pl) (thn (he.run pins s σ H _ I h) fun u s1 ⟨x, H1, I1, rx, a, dx, fs, ex, ea, l, q⟩ => ?_) ht
  subst ex
  obtain rfl : u = Value.ref a := rx
  refine getmeth_ok I1 ea c hm l ?_
  refine PySem.W.callWith_K (first := [.ref a]) (h₀ := X.base) I.ok.mod.kin hm.kp (thn (ha.run pos pins s1 σ H1 _ I1 q) fun us s2 ⟨vs, H2, I2, r, q2⟩ => ⟨I2.kIn, ?_⟩) hst hpl
  exact run_fnS (us := .ref a :: us) (vs := .ref a :: vs) F hr hb (hx σ) I2 (.cons rfl r) q2
def tEither (t u : TS) : TS := fun E σ H => t E σ H ∨ u E σ H
theorem pss_either {sts : List Stmt} {t u : TS} (h1 : PSs X sts t) (h2 : PSs X sts u) : PSs X sts (tEither t u) := ⟨fun pins s σ H E I hh => hh.elim (h1.run pins s σ H E I) (h2.run pins s σ H E I)⟩
end
/-- a block taken and put at a place -/
def takP (b : Int) (v : IV) (m : Int) (o ow : Nat) (kind : Int) (x : Nat) : IV := { takeV v x kind ow with M := putPl b (takeV v x kind ow).M m o x }
/-- the table taken -/
def takT (b : Int) (v : IV) (m : Int) (ow : Nat) (x : Nat) : IV := { takeV v x 1 ow with M := setC (takeV v x 1 ow).M (nrow b m) 6 x }
theorem RsOf.trans2 {H H1 : Hp} {L rs rs1 rs2 : List Addr} (k : Kp (L ++ rs) H H1) (hL : ∀ x ∈ L, ∃ o, H1 x = some o) (h1 : RsOf H rs rs1) (h2 : RsOf H1 rs1 rs2) : RsOf H rs rs2 := fun r hr => by
  rcases h2 r hr with e | e
  · exact h1 r e
  · by_cases hold : r ∈ rs
    · exact .inl hold
    refine .inr ?_
    cases qh : H r with
    | none => rfl
    | some u =>
      by_cases hin : r ∈ L ++ rs
      · exfalso
        rcases List.mem_append.mp hin with y | y
        · obtain ⟨o, e2⟩ := hL r y
          rw [e] at e2
          cases e2
        · exact hold y
      · rw [k r u qh hin] at e
        cases e
theorem ImgAt.ft3h {CI CP : Addr} {H : Hp} {im : Addr} {A : IA} {v : IV} {b n s : Int} (I : ImgAt CI CP H im A v b n s) : ∀ x ∈ ft3 A, ∃ o, H x = some o := fun x hx => by
  simp only [ft3, List.mem_cons, List.not_mem_nil, or_false] at hx
  rcases hx with rfl | rfl | rfl
  · exact ⟨_, I.gr.out⟩
  · exact ⟨_, I.ho⟩
  · exact ⟨_, I.st⟩
section
variable {P : Program} {w : World} {K : PySem.W.Frag} {mg : Str → Option Value} {base : Heap}
theorem pick_fd {b n kind wi : Int} {M : List (List Int)} {ba : List Int} {x : Nat} (hb : 8 ≤ b) (hn : 2 ≤ n) (h : pickL (letL b n M kind ba) wi = some (x : Int)) : fdOf b n ≤ x ∧ (x : Int) < b := by
  have h1 := freeL_mem (letL_mem (pickL_mem h))
  unfold fdOf at h1 ⊢
  omega
theorem take_node {b n m : Int} {v : IV} {x ow j : Nat} {kind : Int} (hb : 8 ≤ b) (hn : 2 ≤ n) (h1 : 1 ≤ m) (h2 : m ≤ n) (hx : fdOf b n ≤ x) (hxb : (x : Int) < b) : cellAt (takeV v x kind ow).M (nrow b m) j = cellAt v.M (nrow b m) j := by
  obtain ⟨a1, a2, a3, a4⟩ := node_apart hb hn h1 h2 hx hxb
  exact cellAt_congr' (takeV_row a1 a2 a3)
end
end K09
namespace K09
open PySem PySem.Spec PyProof.Rows L2 Rg
/-! ### held_blocks -/
def plsOf (b : Int) (M : List (List Int)) (m : Int) : List Int := (List.range 10).map (fun o => plV b M m o) ++ [plc b M m]
def heldV (b : Int) (M : List (List Int)) : List Int → List Int
  | [] => []
  | m :: ms => (plsOf b M m).filter (fun x => x != 0) ++ heldV b M ms
theorem heldV_snoc {b : Int} {M : List (List Int)} {ms : List Int} {m : Int} : heldV b M (ms ++ [m]) = heldV b M ms ++ (plsOf b M m).filter (fun x => x != 0) := by
  induction ms with
  | nil => simp [heldV]
  | cons a ms ih => rw [List.cons_append, heldV, ih, heldV, List.append_assoc]
theorem plsOf_len {b : Int} {M : List (List Int)} {m : Int} : (plsOf b M m).length = 11 := by simp [plsOf]
theorem heldV_len {b : Int} {M : List (List Int)} : ∀ ms : List Int, (heldV b M ms).length ≤ 11 * ms.length
  | [] => Nat.zero_le _
  | m :: ms => by
    have h1 := List.length_filter_le (fun x => x != 0) (plsOf b M m)
    have h2 := heldV_len (b := b) (M := M) ms
    rw [plsOf_len] at h1
    rw [heldV, List.length_append, List.length_cons]
    omega
section
variable {P : Program} {w : World} {K : PySem.W.Frag} {mg : Str → Option Value} {base : Heap}
def tTru (K : PySem.W.Frag) (ta : TE) : TT := fun σ H Q => ta σ H fun x H' => ∃ k, TruV K x H' k ∧ Q k H'
theorem pt_truthK {X : Cx} {K : PySem.W.Frag} {a : Expr} {ta : TE} (ha : PE X a ta) (he : ∀ whole, isTrue a X.env whole = (do let v ← whole; standAt a.pos; holding [v] (truthy v))) (hK : X.K = K := by rfl) : PT X a (tTru K ta) := by
  subst hK
  exact pt_truth ha he
def sp_held (CI CP : Addr) : Sp := fun vs H Q _ => ∃ (im : Addr) (A : IA) (v : IV) (b n s : Int) (p : Addr) (ms : List Int), vs = [.ref im, .ref p] ∧ ImgAt CI CP H im A v b n s ∧ H p = some (.tup (ms.map V.int)) ∧ ms.length ≤ 16 ∧ (∀ m ∈ ms, 1 ≤ m ∧ m ≤ n ∧ PlcOk b n v.M m) ∧
  ∀ H' q, Same H H' → H q = none → H' q = some (.lst ((heldV b v.M ms).map V.int)) → Q (.ref q) H'
theorem body_held (T : Tx K mg) (cdv : Value) (A0 : Around) (outer : List Env) (s : Shared) (H : Hp) (vs : List V) (Q : VK) (E : XK) (hr : Room 3 (A0.deeper (envOfC "held_blocks" (defScope s_held_blocks) s.heap.objs.size T.f_held_blocks cdv))) (h : sp_held T.C_Image T.C_Plan vs H Q E) :
    ∃ t, PSs (cxOf CX0 P w K mg base ["image", "nodes", "held", "n", "blocks", "o", "x"] "held_blocks" (defScope s_held_blocks) T.f_held_blocks cdv A0 outer s H E).nox (defBody s_held_blocks) t ∧ t { nx := fun _ H' => Q .non H', rt := Q } (start ["image", "nodes", "held", "n", "blocks", "o", "x"] vs) H := by
  obtain ⟨im, A, v, b, n, sl, p, ms, rfl, I, hp, hl, hms, k⟩ := h
  have hr2 : Room 2 _ := hr.mono (by decide)
  refine ⟨_, (pss_cons (ps_set (i := 2) sc_held_blocks.nd rfl (.inl rfl) (pe_lst pa_nil))
      (pss_cons (ps_for PassesOwn.never rfl (pi_tup (pv 1)) (pg_name (i := 3) sc_held_blocks.nd rfl (.inr rfl))
        (pss_cons (ps_setLc (i := 4) (own := [("o", 5)]) (g := gName 5) (tt := tYes) rfl sc_held_blocks.nd rfl rfl (sw_true rfl rfl rfl (by decide +kernel)) (pi_range1 rfl T.b_range (pa_cons (pe_gc T.c_PLACE_COUNT) pa_nil)) (blkOk_by (N := ["image", "nodes", "held", "n", "blocks", "o", "x"]) (sc := defScope s_held_blocks) (by decide +kernel)) (fun _ _ _ _ _ => pg_name (i := 5) sc_held_blocks.nd rfl (Or.inl rfl)) (fun _ _ _ _ _ => pts_nil) (fun _ _ _ _ _ => (pe_call (ok_place_block T) hr rfl T.mg_place_block T.F_place_block.kp (b_place_block T) .nil pass0 (pa_cons (pv 0) (pa_cons (pv 3) (pa_cons (pv 5) pa_nil))))))
        (pss_cons (ps_expr (pe_bm PySem.F.plainAttrs_list PySem.F.slot_list_append PySem.F.type_list_append mt_append (pv 4) (pa_cons (pe_call (ok_node_cell T) hr2 rfl T.mg_node_cell T.F_node_cell.kp (b_node_cell T) .nil pass0 (pa_cons (pv 0) (pa_cons (pv 3) (pa_cons (pe_gc T.c_PLACES) pa_nil)))) pa_nil)))
        (pss_one (ps_expr (pe_bm PySem.F.plainAttrs_list PySem.F.slot_list_extend PySem.F.type_list_extend mt_extend (pv 2) (pa_cons (pe_lc rfl (own := [("x", 6)]) (g := gName 6) (tt := _) sc_held_blocks.nd (pi_list (pv 4)) (blkOk_by (N := ["image", "nodes", "held", "n", "blocks", "o", "x"]) (sc := defScope s_held_blocks) (by decide +kernel)) (fun _ _ _ _ _ => pg_name (i := 6) sc_held_blocks.nd rfl (Or.inl rfl)) (fun _ _ _ _ _ => pts_one (pt_truthK (K := K) (pv 6) (fun _ => rfl))) (fun _ _ _ _ _ => (pv 6))) pa_nil)))))))
      (pss_one (ps_ret (pv 2))))), ?_⟩
  refine ⟨Nat.zero_le _, fun q nq => ?_⟩
  refine ⟨_, rfl, p, rfl, ⟨_, .of (same_upd nq _ _ hp)⟩, for_tup (K := K) (a := p) (xs := ms.map V.int) (fun i σ H' => ∃ (u3 u4 : Option V), σ = [some (.ref im), some (.ref p), some (.ref q), u3, u4, none, none] ∧ Same H H' ∧ H' q = some (.lst ((heldV b v.M (ms.take i)).map V.int))) ⟨_, _, rfl, same_upd nq, upd_same⟩ (fun i σ H' _ ⟨_, _, _, S, _⟩ => .of (S _ _ hp)) ?_ ?_⟩
  · rintro i y σ H' hi ⟨u3, u4, rfl, S, eq⟩
    rw [List.getElem?_map] at hi
    obtain ⟨m, hm, rfl⟩ := Option.map_eq_some_iff.mp hi
    obtain ⟨m1, m2, m3⟩ := hms m (List.mem_of_getElem? hm)
    have I1 := I.keep S
    -- the places
    refine ⟨10, rfl, by decide, by decide, fun D hD => ?_⟩
    refine lc_range (lo := 0) (n := (10 : Int).toNat) (fun j H2 => Same H' H2 ∧ H2 D = some (.lst (((List.range j).map fun o => plV b v.M m o).map V.int))) ⟨same_upd hD, upd_same⟩ ?_ ?_
    · rintro j H2 hj ⟨S2, e2⟩
      have hj : j < 10 := hj
      refine ⟨rfl, ?_⟩
      refine yes_ ?_
      refine ⟨_, rfl, _, rfl, _, rfl, im, A, v, b, n, sl, m, j, ?_, I1.keep S2, m1, m2, by omega, m3, _, e2, ?_, fun x o e => ?_, ?_⟩
      · rw [show (0 : Int) + (j : Int) = (j : Int) by omega]
        rfl
      · rw [List.length_map, List.length_map, List.length_range]
        exact small1000 (by omega)
      · rw [upd_ne (ne_of_none e hD)]
        exact S2 _ _ e
      · rw [upd_same, List.range_succ, List.map_append, List.map_append]
        rfl
    rintro H2 ⟨S2, e2⟩
    have Dn := hD
    have S02 := S.trans S2
    refine ⟨.ref D, rfl, .inl ⟨rfl, _, .inl (.inl e2)⟩, _, rfl, _, rfl, im, A, v, b, n, sl, m, 6, rfl, I.keep S02, m1, m2, by decide, by decide, D, _, _, rfl, rfl, e2, ?_, ?_⟩
    · rw [List.length_map, List.length_map, List.length_range]
      exact small1000 (by decide)
    have e3 : upd H2 D (.lst (((List.range (10 : Int).toNat).map fun o => plV b v.M m o).map V.int ++ [V.int (cellAt v.M (nrow b m) (6 : Int).toNat)])) D = some (.lst ((plsOf b v.M m).map V.int)) := by
      rw [upd_same]
      unfold plsOf
      rw [List.map_append]
      rfl
    have S3 : Same H' (upd H2 D (.lst (((List.range (10 : Int).toNat).map fun o => plV b v.M m o).map V.int ++ [V.int (cellAt v.M (nrow b m) (6 : Int).toNat)]))) := fun x o e => by
      rw [upd_ne (ne_of_none e Dn)]
      exact S2 _ _ e
    generalize upd H2 D (.lst (((List.range (10 : Int).toNat).map fun o => plV b v.M m o).map V.int ++ [V.int (cellAt v.M (nrow b m) (6 : Int).toNat)])) = H3 at e3 S3 ⊢
    have eq3 := S3 _ _ eq
    refine ⟨.ref q, rfl, .inl ⟨rfl, _, .inl (.inl eq3)⟩, _, rfl, D, rfl, ⟨_, .of e3⟩, fun G hG => ?_⟩
    refine lc_list (K := K) (a := D) (xs := (plsOf b v.M m).map V.int) (PvF H3 G (plsOf b v.M m) (fun x => x != 0)) (PvF.start hG) (fun i H4 _ Pv => .of (Pv.1 _ _ e3)) ?_ ?_
    · rintro i y H4 hi Pv
      rw [List.getElem?_map] at hi
      obtain ⟨x, hx, rfl⟩ := Option.map_eq_some_iff.mp hi
      refine ⟨rfl, ?_⟩
      refine ⟨_, rfl, _, rfl, ?_⟩
      by_cases e : x = 0
      · subst e
        exact iteF (Pv.no (Same.refl _) hx rfl)
      · have e' : (x != 0) = true := by simp [e]
        rw [e']
        exact iteT ⟨_, rfl, Pv.yes hG (Same.refl _) hx (by rw [plsOf_len]; decide) e'⟩
    · intro H4 Pv
      obtain ⟨S4, e4⟩ := Pv.all (by rw [List.length_map])
      have eq4 := S4 _ _ eq3
      refine ⟨q, G, _, _, rfl, rfl, eq4, e4, ?_, _, _, rfl, fun x o e => ?_, ?_⟩
      · have h1 := heldV_len (b := b) (M := v.M) (ms.take i)
        have h2 : (ms.take i).length ≤ ms.length := by rw [List.length_take]; omega
        have h3 := List.length_filter_le (fun x => x != 0) (plsOf b v.M m)
        rw [plsOf_len] at h3
        rw [List.length_map, List.length_map]
        exact Nat.le_of_lt (small1000 (by omega))
      · rw [upd_ne (ne_of_none e nq)]
        exact S4 _ _ (S3 _ _ (S _ _ e))
      · rw [upd_same, take_get hm, heldV_snoc, List.map_append]
  · rintro σ H' ⟨u3, u4, rfl, S, eq⟩
    rw [List.length_map, List.take_length] at eq
    exact ⟨_, rfl, k H' q S nq eq⟩
theorem ok_held (T : Tx K mg) : FnR P w K mg base CX0 4 T.f_held_blocks (fun vs H Q E => ∃ ws rest, vs = ws ++ rest ∧ ws.length = ["image"].length ∧ rest.length ≤ sizeLine ∧ ∀ p, H p = Option.none → sp_held T.C_Image T.C_Plan (ws ++ [V.ref p]) (upd H p (.tup rest)) Q E) := by
  obtain ⟨oc, od, kV, doc, pm, an, cdv, ct, osl, e, lk, hcd⟩ := T.F_held_blocks.ex
  rw [e] at lk
  refine StX.fn_star (ps := ["image"]) (pv := "nodes") lk hcd sc_held_blocks StX.cxUp_none ?_ fun A outer s H vs Q E hr h => ?_
  · exact StX.bind_star1 (B := fun us => bindArgs (PySem.W.fnOf "held_blocks" "held_blocks" (defArgs s_held_blocks) (defBody s_held_blocks) (defScope s_held_blocks) .none kV doc pm an cdv ct) ⟨us, []⟩) (p1 := "image") (pv := "nodes") (fun _ => rfl) (fun _ _ _ => rfl)
  · obtain ⟨t, h1, h2⟩ := body_held T cdv A outer s H vs Q E hr h
    exact ⟨t, h1.nox, h2⟩
end
end K09
namespace K09
open PySem PySem.Spec PyProof.Rows L2 Rg
section
variable {X : Cx} {CX : CXT} {k : Nat} {f : Addr} {sp : Sp} {E : XK} {x : Str} {p pos : Pos} {e : Expr} {es : List Expr} {t : TA}
/-- x(e, ..), x a def with a star parameter -/
theorem pe_callR (F : FnR X.prog X.w X.K X.mg X.base CX k f sp) (hr : Room k X.A) (hk : PySem.W.keepIn X.K (.ref f) = true) (hg : Gl X x) (hm : X.mg x = some (.ref f)) (hx : Passes CX X E) (ha : PA X (e :: es) t) (hd : (x == ("__debug__" : Str)) = false := by decide)
    (he : starEach (e :: es) X.env = (false, eval e X.env) :: starEach es X.env := by rfl) (hpl : (backTo pos (starEach es X.env)).any (·.1) = false := by rfl) :
    PE X (.Call (.Name x p) (e :: es) [] pos) (fun σ H Q => t σ H fun vs H1 => sp vs H1 Q E) := by
  refine ⟨fun pins s σ H Q I h => ?_⟩
  refine wpAny_Call_Name_kw (ld_glob I hg hm ?_ hd)
  refine PySem.W.callWith_K (h₀ := X.base) I.ok.mod.kin hk (thn (ha.run pos pins s σ H _ I h) fun us s1 ⟨vs, H1, I1, r, q⟩ => ⟨I1.kIn, ?_⟩) he hpl
  exact wpAny_call (run_fnR F hr hx I1 r q)
end
end K09
namespace K09
open PySem PySem.Spec PyProof.Rows L2 Rg
/-! ### places taken behind the size -/
def tbP (b : Int) (M : List (List Int)) (m : Int) (x : Int) : Bool := decide (8 * x ≥ cellAt M (nrow b m) 2) && (plV b M m x.toNat != 0)
def tbL (b : Int) (M : List (List Int)) (m : Int) : List Int := (rng 0 10).filter (tbP b M m)
section
variable {P : Program} {w : World} {K : PySem.W.Frag} {mg : Str → Option Value} {base : Heap}
def sp_taken_behind (CI CP : Addr) : Sp := fun vs H Q _ => ∃ (im : Addr) (A : IA) (v : IV) (b n s m : Int), vs = [.ref im, .int m] ∧ ImgAt CI CP H im A v b n s ∧ 1 ≤ m ∧ m ≤ n ∧ PlcOk b n v.M m ∧
  ∀ H' p, Same H H' → H p = none → H' p = some (.lst ((tbL b v.M m).map V.int)) → Q (.ref p) H'
theorem ok_taken_behind (T : Tx K mg) : FnOk P w K mg base CX0 4 T.f_taken_behind T.fd_taken_behind ["image", "n"] (sp_taken_behind T.C_Image T.C_Plan) := by
  refine T.F_taken_behind.ok sc_taken_behind (fun vs H Q E h => ?_) (fun cdv A0 outer s H vs Q E hr h => ?_)
  · obtain ⟨_, _, _, _, _, _, _, rfl, _⟩ := h; rfl
  · obtain ⟨im, A, v, b, n, sl, m, rfl, I, h1, h2, hp, k⟩ := h
    have hr2 : Room 2 _ := hr.mono (by decide)
    refine ⟨_, (pss_cons (ps_set (i := 2) sc_taken_behind.nd rfl (.inr rfl) (pe_call (ok_node_cell T) hr2 rfl T.mg_node_cell T.F_node_cell.kp (b_node_cell T) .nil pass0 (pa_cons (pv 0) (pa_cons (pv 1) (pa_cons (pe_gc T.c_SIZE) pa_nil)))))
      (pss_one (ps_ret (pe_lc rfl (own := [("o", 3)]) (g := gName 3) (tt := _) sc_taken_behind.nd (pi_range1 rfl T.b_range (pa_cons (pe_gc T.c_PLACE_COUNT) pa_nil)) (blkOk_by (N := ["image", "n", "size", "o"]) (sc := defScope s_taken_behind) (by decide +kernel)) (fun _ _ _ _ _ => pg_name (i := 3) sc_taken_behind.nd rfl (Or.inl rfl)) (fun _ _ _ _ _ => pts_one (PW.pt (pw_and (pt_cmpR op_ge (pe_op op_mul (pe_cv T.mg_Plan T.cr_Plan T.cv_Plan_WIDTH) (pv 3)) (pv 2) (nomark _)) (pw_and1 (pt_truthK (K := K) (pe_call (ok_place_block T) hr rfl T.mg_place_block T.F_place_block.kp (b_place_block T) .nil pass0 (pa_cons (pv 0) (pa_cons (pv 1) (pa_cons (pv 3) pa_nil)))) (fun _ => rfl)))))) (fun _ _ _ _ _ => (pv 3)))))), ?_⟩
    refine ⟨_, rfl, _, rfl, im, A, v, b, n, sl, m, 2, rfl, I, h1, h2, by decide, by decide, ?_⟩
    refine ⟨10, rfl, by decide, by decide, fun D hD => ?_⟩
    have h10 : (rng 0 10).length < 1000 := by rw [rng_len]; decide
    refine lc_range (lo := 0) (n := (10 : Int).toNat) (PvF H D (rng 0 10) (tbP b v.M m)) (PvF.start hD) ?_ ?_
    · rintro i H' hi Pv
      have hi : i < 10 := hi
      have hx := rng_get (lo := 0) hi
      have I' := I.keep Pv.1
      have ez : (0 : Int) + (i : Int) = (i : Int) := by omega
      have ec : cellAt v.M (nrow b m) (2 : Int).toNat = cellAt v.M (nrow b m) 2 := rfl
      refine ⟨rfl, ?_⟩
      refine ⟨_, rfl, _, _, rfl, rfl, (by show CMul 8 _; exact .inl ⟨by decide, by decide⟩), _, rfl, _, _, rfl, rfl, _, rfl, ?_⟩
      by_cases e1 : (8 : Int) * (0 + (i : Int)) ≥ cellAt v.M (nrow b m) 2
      · rw [ec, decide_eq_true e1]
        refine iteT ⟨_, rfl, _, rfl, _, rfl, im, A, v, b, n, sl, m, i, ?_, I', h1, h2, hi, hp, _, rfl, ?_⟩
        · show [V.ref im, V.int m, V.int (0 + (i : Int))] = _
          rw [ez]
        by_cases e2 : plV b v.M m i = 0
        · have e3 : (plV b v.M m i != 0) = false := by rw [e2]; rfl
          rw [e3]
          exact iteF (Pv.no (Same.refl _) hx (by unfold tbP; rw [show ((0 : Int) + (i : Int)).toNat = i by omega, e3, Bool.and_false]))
        · have e3 : (plV b v.M m i != 0) = true := by simp [e2]
          rw [e3]
          exact iteT ⟨_, rfl, Pv.yes hD (Same.refl _) hx h10 (by unfold tbP; rw [show ((0 : Int) + (i : Int)).toNat = i by omega, e3, decide_eq_true e1]; rfl)⟩
      · rw [ec, decide_eq_false e1]
        exact iteF (Pv.no (Same.refl _) hx (by unfold tbP; rw [decide_eq_false e1]; rfl))
    intro H1 Pv
    obtain ⟨S1, e1⟩ := Pv.all (by rw [rng_len]; rfl)
    exact k H1 D S1 hD e1
def late (b : Int) (M : List (List Int)) (m : Int) : Bool := decide (cellAt M (nrow b m) 0 = 1) && decide (0 < (tbL b M m).length)
def sp_unfinished (CI CP : Addr) : Sp := fun vs H Q _ => ∃ (im : Addr) (A : IA) (v : IV) (b n s m : Int), vs = [.ref im, .int m] ∧ ImgAt CI CP H im A v b n s ∧ 1 ≤ m ∧ m ≤ n ∧ PlcOk b n v.M m ∧
  ∀ H', Same H H' → Q (.bl (late b v.M m)) H'
theorem ok_unfinished (T : Tx K mg) : FnOk P w K mg base CX0 5 T.f_unfinished T.fd_unfinished ["image", "n"] (sp_unfinished T.C_Image T.C_Plan) := by
  refine T.F_unfinished.ok sc_unfinished (fun vs H Q E h => ?_) (fun cdv A0 outer s H vs Q E hr h => ?_)
  · obtain ⟨_, _, _, _, _, _, _, rfl, _⟩ := h; rfl
  · obtain ⟨im, A, v, b, n, sl, m, rfl, I, h1, h2, hp, k⟩ := h
    have hr2 : Room 2 _ := hr.mono (by decide)
    refine ⟨_, (pss_one (ps_ret (pe_and (pe_cmpR op_eq (pe_call (ok_node_cell T) hr2 rfl T.mg_node_cell T.F_node_cell.kp (b_node_cell T) .nil pass0 (pa_cons (pv 0) (pa_cons (pv 1) (pa_cons (pe_gc T.c_KIND) pa_nil)))) (pe_gc T.c_FILE) (nomark _)) (pe_one (pe_cmpR op_gt (pe_callB call_len_seq rfl T.b_len (by decide +kernel) (pa_cons (pe_call (ok_taken_behind T) hr rfl T.mg_taken_behind T.F_taken_behind.kp (b_taken_behind T) .nil pass0 (pa_cons (pv 0) (pa_cons (pv 1) pa_nil))) pa_nil)) pe_int (nomark _)))))), ?_⟩
    refine ⟨_, rfl, _, rfl, im, A, v, b, n, sl, m, 0, rfl, I, h1, h2, by decide, by decide, rfl, _, rfl, ?_⟩
    have ec : cellAt v.M (nrow b m) (0 : Int).toNat = cellAt v.M (nrow b m) 0 := rfl
    unfold late at k
    rw [dec_iv, ec]
    by_cases e : cellAt v.M (nrow b m) 0 = 1
    · rw [decide_eq_true e] at k ⊢
      refine iteT ⟨_, rfl, _, rfl, im, A, v, b, n, sl, m, rfl, I, h1, h2, hp, fun H1 p S1 np e1 => ?_⟩
      refine ⟨p, _, rfl, .inl (.of e1), _, _, rfl, rfl, ?_⟩
      have e2 : decide ((((tbL b v.M m).map V.int).length : Int) > 0) = decide (0 < (tbL b v.M m).length) := by
        rw [List.length_map]
        by_cases z : 0 < (tbL b v.M m).length
        · rw [decide_eq_true z, decide_eq_true (by omega)]
        · rw [decide_eq_false z, decide_eq_false (by omega)]
      change Q (.bl (decide ((((tbL b v.M m).map V.int).length : Int) > 0))) H1
      rw [e2]
      exact k H1 S1
    · rw [decide_eq_false e] at k ⊢
      exact iteF (k H (Same.refl _))
/-! ### words read -/
def rdW (b : Int) (M : List (List Int)) (m : Int) (at_ : Int) : Int := if at_ ≥ cellAt M (nrow b m) 2 then 0 else if plV b M m (at_ / 8).toNat = 0 then 0 else cellAt M (plV b M m (at_ / 8).toNat).toNat (at_ % 8).toNat
def sp_read_word (CI CP : Addr) : Sp := fun vs H Q _ => ∃ (im : Addr) (A : IA) (v : IV) (b n s m at_ : Int), vs = [.ref im, .int m, .int at_] ∧ ImgAt CI CP H im A v b n s ∧ 1 ≤ m ∧ m ≤ n ∧ PlcOk b n v.M m ∧ (∀ o, o < 10 → PlOk b n v.M m o) ∧ cellAt v.M (nrow b m) 2 ≤ 80 ∧ 0 ≤ at_ ∧ Q (.int (rdW b v.M m at_)) H
theorem ok_read_word (T : Tx K mg) : FnOk P w K mg base CX0 4 T.f_read_word T.fd_read_word ["image", "n", "at"] (sp_read_word T.C_Image T.C_Plan) := by
  refine T.F_read_word.ok sc_read_word (fun vs H Q E h => ?_) (fun cdv A0 outer s H vs Q E hr h => ?_)
  · obtain ⟨_, _, _, _, _, _, _, _, rfl, _⟩ := h; rfl
  · obtain ⟨im, A, v, b, n, sl, m, at_, rfl, I, h1, h2, hp, hpl, hsz, hat, k⟩ := h
    have hr2 : Room 2 _ := hr.mono (by decide)
    refine ⟨_, (pss_cons (ps_if (pt_cmpR op_ge (pv 2) (pe_call (ok_node_cell T) hr2 rfl T.mg_node_cell T.F_node_cell.kp (b_node_cell T) .nil pass0 (pa_cons (pv 0) (pa_cons (pv 1) (pa_cons (pe_gc T.c_SIZE) pa_nil)))) (nomark _))
        (pss_one (ps_ret pe_int))
        pss_nil)
      (pss_cons (ps_set (i := 3) sc_read_word.nd rfl (.inl rfl) (pe_call (ok_place_block T) hr rfl T.mg_place_block T.F_place_block.kp (b_place_block T) .nil pass0 (pa_cons (pv 0) (pa_cons (pv 1) (pa_cons (pe_op op_fdiv (pv 2) (pe_cv T.mg_Plan T.cr_Plan T.cv_Plan_WIDTH)) pa_nil)))))
      (pss_one (ps_ret (pe_ifExp (pt_truth (pv 3) (fun _ => rfl)) (pe_ix ix_list (pe_ix ix_list (pe_fld (pv 0) rfl) (pv 3) (fun _ _ => rfl)) (pe_op op_mod (pv 2) (pe_cv T.mg_Plan T.cr_Plan T.cv_Plan_WIDTH)) (fun _ _ => rfl)) pe_int))))), ?_⟩
    have ec : cellAt v.M (nrow b m) (2 : Int).toNat = cellAt v.M (nrow b m) 2 := rfl
    refine ⟨_, rfl, _, rfl, _, rfl, im, A, v, b, n, sl, m, 2, rfl, I, h1, h2, by decide, by decide, _, _, rfl, rfl, _, rfl, ?_⟩
    rw [ec]
    unfold rdW at k
    by_cases e1 : at_ ≥ cellAt v.M (nrow b m) 2
    · rw [if_pos e1] at k
      rw [decide_eq_true e1]
      exact iteT k
    · rw [if_neg e1] at k
      rw [decide_eq_false e1]
      have ho : (at_ / 8).toNat < 10 := by omega
      refine iteF ⟨_, rfl, _, rfl, _, rfl, _, _, rfl, rfl, (by show CDiv _ 8; exact ⟨by decide, by decide⟩), im, A, v, b, n, sl, m, (at_ / 8).toNat, ?_, I, h1, h2, ho, hp, ?_⟩
      · show [V.ref im, V.int m, V.int (at_ / 8)] = _
        rw [show ((at_ / 8).toNat : Int) = at_ / 8 by omega]
      refine ⟨_, rfl, _, rfl, ?_⟩
      by_cases e2 : plV b v.M m (at_ / 8).toNat = 0
      · rw [if_pos e2] at k
        have e3 : (plV b v.M m (at_ / 8).toNat != 0) = false := by rw [e2]; rfl
        rw [e3]
        exact iteF k
      · rw [if_neg e2] at k
        have e3 : (plV b v.M m (at_ / 8).toNat != 0) = true := by simp [e2]
        rw [e3]
        rcases hpl _ ho with z | ⟨z1, z2⟩
        · exact absurd z e2
        have hf : fdOf b n = 2 + (b + 8 - 1) / 8 + n := rfl
        have b1 := I.pl.b1
        have n1 := I.pl.n1
        obtain ⟨r, row, r1, r2, r3, r4⟩ := I.rowAt (x := (plV b v.M m (at_ / 8).toNat).toNat) (by omega)
        have hol : (at_ % 8).toNat < row.length := by omega
        rw [cellAt_of r2 (List.getElem?_eq_getElem hol)] at k
        refine iteT ⟨_, rfl, im, _, _, _, _, rfl, I.ob, T.cl_Image, T.na_Image_cells, rfl, _, rfl, A.ca, _, _, .ref r, rfl, rfl, .of I.gr.out, at_of (j := (plV b v.M m (at_ / 8).toNat).toNat) (by omega) (by rw [List.getElem?_map, r1]; rfl), _, rfl, _, _, rfl, rfl, (by show (0 : Int) < 8; decide), r, _, _, _, rfl, rfl, .of r4, at_of (j := (at_ % 8).toNat) (by omega) (by rw [List.getElem?_map, List.getElem?_eq_getElem hol]; rfl), k⟩
def sp_read_words (CI CP : Addr) : Sp := fun vs H Q _ => ∃ (im : Addr) (A : IA) (v : IV) (b n s m at_ : Int) (c : Nat), vs = [.ref im, .int m, .int at_, .int c] ∧ ImgAt CI CP H im A v b n s ∧ 1 ≤ m ∧ m ≤ n ∧ PlcOk b n v.M m ∧ (∀ o, o < 10 → PlOk b n v.M m o) ∧ cellAt v.M (nrow b m) 2 ≤ 80 ∧ 0 ≤ at_ ∧ at_ ≤ 500 ∧ c ≤ 300 ∧
  ∀ H' p, Same H H' → H p = none → H' p = some (.lst (((rng at_ c).map (rdW b v.M m)).map V.int)) → Q (.ref p) H'
theorem ok_read_words (T : Tx K mg) : FnOk P w K mg base CX0 5 T.f_read_words T.fd_read_words ["image", "n", "at", "count"] (sp_read_words T.C_Image T.C_Plan) := by
  refine T.F_read_words.ok sc_read_words (fun vs H Q E h => ?_) (fun cdv A0 outer s H vs Q E hr h => ?_)
  · obtain ⟨_, _, _, _, _, _, _, _, _, rfl, _⟩ := h; rfl
  · obtain ⟨im, A, v, b, n, sl, m, at_, c, rfl, I, h1, h2, hp, hpl, hsz, hat, hat2, hc, k⟩ := h
    refine ⟨_, (pss_one (ps_ret (pe_lc rfl (own := [("cell", 4)]) (g := gName 4) (tt := tYes) sc_read_words.nd (pi_range2 rfl T.b_range (pa_cons (pv 2) (pa_cons (pe_op op_add (pv 2) (pv 3)) pa_nil))) (blkOk_by (N := ["image", "n", "at", "count", "cell"]) (sc := defScope s_read_words) (by decide +kernel)) (fun _ _ _ _ _ => pg_name (i := 4) sc_read_words.nd rfl (Or.inl rfl)) (fun _ _ _ _ _ => pts_nil) (fun _ _ _ _ _ => (pe_call (ok_read_word T) hr rfl T.mg_read_word T.F_read_word.kp (b_read_word T) .nil pass0 (pa_cons (pv 0) (pa_cons (pv 1) (pa_cons (pv 4) pa_nil)))))))), ?_⟩
    have ecn : (at_ + (c : Int) - at_).toNat = c := by omega
    have hg : ∀ i, i < c → ((rng at_ c).map (rdW b v.M m))[i]? = some (rdW b v.M m (at_ + (i : Int))) := fun i hi => by
      rw [List.getElem?_map, rng_get hi]
      rfl
    have hll : ((rng at_ c).map (rdW b v.M m)).length = c := by rw [List.length_map, rng_len]
    refine ⟨_, rfl, _, rfl, _, rfl, _, _, rfl, rfl, at_, at_ + c, rfl, ⟨by omega, by omega, by omega, by omega⟩, fun D hD => ?_⟩
    refine lc_range (lo := at_) (n := (at_ + (c : Int) - at_).toNat) (fun i H' => H' = upd H D (.lst ((((rng at_ c).map (rdW b v.M m)).take i).map V.int))) rfl ?_ ?_
    · rintro i H' hi rfl
      have hi : i < c := by omega
      have I' := I.keep (same_upd (o := .lst ((((rng at_ c).map (rdW b v.M m)).take i).map V.int)) hD)
      refine ⟨rfl, yes_ ⟨_, rfl, _, rfl, _, rfl, im, A, v, b, n, sl, m, at_ + (i : Int), rfl, I', h1, h2, hp, hpl, hsz, by omega, _, upd_same, ?_, ?_⟩⟩
      · rw [List.length_map]
        exact small1000 (by have := List.length_take_le i ((rng at_ c).map (rdW b v.M m)); omega)
      · rw [upd_upd, take_get (hg i hi), List.map_append]
        rfl
    rintro H' rfl
    refine k _ D (same_upd hD) hD ?_
    rw [upd_same, ecn, List.take_of_length_le (by omega)]
def wordsL (b : Int) (M : List (List Int)) (m : Int) : List Int := (rng 0 (cellAt M (nrow b m) 2).toNat).map (rdW b M m)
def sp_file_words (CI CP : Addr) : Sp := fun vs H Q _ => ∃ (im : Addr) (A : IA) (v : IV) (b n s m : Int), vs = [.ref im, .int m] ∧ ImgAt CI CP H im A v b n s ∧ 1 ≤ m ∧ m ≤ n ∧ PlcOk b n v.M m ∧ (∀ o, o < 10 → PlOk b n v.M m o) ∧ 0 ≤ cellAt v.M (nrow b m) 2 ∧ cellAt v.M (nrow b m) 2 ≤ 80 ∧
  ∀ H' p, Same H H' → H p = none → H' p = some (.tup ((wordsL b v.M m).map V.int)) → Q (.ref p) H'
theorem ok_file_words (T : Tx K mg) : FnOk P w K mg base CX0 6 T.f_file_words T.fd_file_words ["image", "n"] (sp_file_words T.C_Image T.C_Plan) := by
  refine T.F_file_words.ok sc_file_words (fun vs H Q E h => ?_) (fun cdv A0 outer s H vs Q E hr h => ?_)
  · obtain ⟨_, _, _, _, _, _, _, rfl, _⟩ := h; rfl
  · obtain ⟨im, A, v, b, n, sl, m, rfl, I, h1, h2, hp, hpl, hs0, hsz, k⟩ := h
    have hr2 : Room 2 _ := hr.mono (by decide)
    refine ⟨_, (pss_one (ps_ret (pe_callTy call_tuple_of rfl T.b_tuple (by decide +kernel) (pa_cons (pe_call (ok_read_words T) hr rfl T.mg_read_words T.F_read_words.kp (b_read_words T) .nil pass0 (pa_cons (pv 0) (pa_cons (pv 1) (pa_cons pe_int (pa_cons (pe_call (ok_node_cell T) hr2 rfl T.mg_node_cell T.F_node_cell.kp (b_node_cell T) .nil pass0 (pa_cons (pv 0) (pa_cons (pv 1) (pa_cons (pe_gc T.c_SIZE) pa_nil)))) pa_nil))))) pa_nil)))), ?_⟩
    refine ⟨_, rfl, _, rfl, _, rfl, _, rfl, im, A, v, b, n, sl, m, 2, rfl, I, h1, h2, by decide, by decide, im, A, v, b, n, sl, m, 0, (cellAt v.M (nrow b m) 2).toNat, ?_, I, h1, h2, hp, hpl, hsz, by decide, by decide, by omega, fun H1 p S1 np e1 => ?_⟩
    · show [V.ref im, V.int m, V.int 0, V.int (cellAt v.M (nrow b m) 2)] = _
      rw [show (((cellAt v.M (nrow b m) 2).toNat : Nat) : Int) = cellAt v.M (nrow b m) 2 by omega]
    refine ⟨p, _, rfl, .inl ⟨.of e1, fun t nt => ?_⟩⟩
    exact k _ t (S1.trans (same_upd nt)) (S1.free nt) upd_same
end
end K09
namespace K09
open PySem PySem.Spec PyProof.Rows L2 Rg
/-! ### the size put -/
def zeroC (M : List (List Int)) (x j : Nat) : Nat → List (List Int)
  | 0 => M
  | i + 1 => setC (zeroC M x j i) x (j + i) 0
def endV (b : Int) (M : List (List Int)) (m size : Int) : Int := if size < cellAt M (nrow b m) 2 then size else cellAt M (nrow b m) 2
def cutM (b : Int) (M : List (List Int)) (m : Int) (e : Int) : List (List Int) := if e % 8 = 0 ∨ plV b M m (e / 8).toNat = 0 then M else zeroC M (plV b M m (e / 8).toNat).toNat (e % 8).toNat (8 - (e % 8).toNat)
def psM (b : Int) (M : List (List Int)) (m size : Int) : List (List Int) := setC (cutM b M m (endV b M m size)) (nrow b m) 2 size
section
variable {P : Program} {w : World} {K : PySem.W.Frag} {mg : Str → Option Value} {base : Heap}
def sp_put_size (CI CP : Addr) : Sp := fun vs H Q _ => ∃ (im : Addr) (A : IA) (v : IV) (b n s m size : Int), vs = [.ref im, .int m, .int size] ∧ ImgAt CI CP H im A v b n s ∧ 1 ≤ m ∧ m ≤ n ∧ PlcOk b n v.M m ∧ (∀ o, o < 10 → PlOk b n v.M m o) ∧ 0 ≤ cellAt v.M (nrow b m) 2 ∧ cellAt v.M (nrow b m) 2 ≤ 80 ∧ 0 ≤ size ∧
  ∀ H', ImgAt CI CP H' im A { v with M := psM b v.M m size } b n s → Kp A.rs H H' → Q .non H'
theorem ok_put_size (T : Tx K mg) : FnOk P w K mg base CX0 4 T.f_put_size T.fd_put_size ["image", "n", "size"] (sp_put_size T.C_Image T.C_Plan) := by
  refine T.F_put_size.ok sc_put_size (fun vs H Q E h => ?_) (fun cdv A0 outer s H vs Q E hr h => ?_)
  · obtain ⟨_, _, _, _, _, _, _, _, rfl, _⟩ := h; rfl
  · obtain ⟨im, A, v, b, n, sl, m, size, rfl, I, h1, h2, hp, hpl, hs0, hs80, hsz, k⟩ := h
    have hr2 : Room 2 _ := hr.mono (by decide)
    refine ⟨_, (pss_cons (ps_set (i := 3) sc_put_size.nd rfl (.inl rfl) (pe_callB (call_min2 rfl) rfl T.b_min (by decide +kernel) (pa_cons (pe_call (ok_node_cell T) hr2 rfl T.mg_node_cell T.F_node_cell.kp (b_node_cell T) .nil pass0 (pa_cons (pv 0) (pa_cons (pv 1) (pa_cons (pe_gc T.c_SIZE) pa_nil)))) (pa_cons (pv 2) pa_nil))))
      (Evl.pss_cut (ps_if (pt_cmpR op_ne (pe_op op_mod (pv 3) (pe_cv T.mg_Plan T.cr_Plan T.cv_Plan_WIDTH)) pe_int (nomark _))
        (pss_cons (ps_set (i := 4) sc_put_size.nd rfl (.inl rfl) (pe_call (ok_place_block T) hr rfl T.mg_place_block T.F_place_block.kp (b_place_block T) .nil pass0 (pa_cons (pv 0) (pa_cons (pv 1) (pa_cons (pe_op op_fdiv (pv 3) (pe_cv T.mg_Plan T.cr_Plan T.cv_Plan_WIDTH)) pa_nil)))))
        (pss_one (ps_if (pt_truth (pv 4) (fun _ => rfl))
          (pss_one (ps_for PassesOwn.never rfl (pi_range2 rfl T.b_range (pa_cons (pe_op op_mod (pv 3) (pe_cv T.mg_Plan T.cr_Plan T.cv_Plan_WIDTH)) (pa_cons (pe_cv T.mg_Plan T.cr_Plan T.cv_Plan_WIDTH) pa_nil))) (pg_name (i := 5) sc_put_size.nd rfl (.inl rfl))
            (pss_one (ps_asg pe_int (pg_sub (pe_ix ix_list (pe_fld (pv 0) rfl) (pv 4) (fun _ _ => rfl)) (pv 5) set_list)))))
          pss_nil)))
        pss_nil)
      (pss_one (ps_expr (pe_call (ok_put_node_cell T) hr2 rfl T.mg_put_node_cell T.F_put_node_cell.kp (b_put_node_cell T) .nil pass0 (pa_cons (pv 0) (pa_cons (pv 1) (pa_cons (pe_gc T.c_SIZE) (pa_cons (pv 2) pa_nil))))))))), ?_⟩
    have ec : cellAt v.M (nrow b m) (2 : Int).toNat = cellAt v.M (nrow b m) 2 := rfl
    refine ⟨_, rfl, _, rfl, im, A, v, b, n, sl, m, 2, rfl, I, h1, h2, by decide, by decide, _, rfl, _, _, rfl, ?_⟩
    rw [ec]
    obtain ⟨e, he⟩ : ∃ e, (if size < cellAt v.M (nrow b m) 2 then size else cellAt v.M (nrow b m) 2) = e := ⟨_, rfl⟩
    have he2 : endV b v.M m size = e := he
    rw [he]
    have e0 : 0 ≤ e := by rw [← he]; split <;> omega
    have e80 : e ≤ 80 := by rw [← he]; split <;> omega
    unfold psM at k
    rw [he2] at k
    clear he he2
    have hf : fdOf b n = 2 + (b + 8 - 1) / 8 + n := rfl
    have b1 := I.pl.b1
    have n1 := I.pl.n1
    refine ⟨fun σ H' => ∃ u4 u5 : Option V, σ = [some (.ref im), some (.int m), some (.int size), some (.int e), u4, u5] ∧ ImgAt T.C_Image T.C_Plan H' im A { v with M := cutM b v.M m e } b n sl ∧ Kp A.rs H H', ?_, ?_⟩
    · refine ⟨_, rfl, _, _, rfl, rfl, (by show (0 : Int) < 8; decide), rfl, _, rfl, ?_⟩
      rw [dec_iv]
      by_cases z : e % 8 = 0
      · rw [decide_eq_true z]
        refine iteF ⟨_, _, rfl, ?_, Kp.refl⟩
        unfold cutM
        rw [if_pos (.inl z)]
        exact I
      · rw [decide_eq_false z]
        have ho : (e / 8).toNat < 10 := by omega
        refine iteT ⟨_, rfl, _, rfl, _, rfl, _, _, rfl, rfl, (by show CDiv _ 8; exact ⟨by decide, by decide⟩), im, A, v, b, n, sl, m, (e / 8).toNat, ?_, I, h1, h2, ho, hp, ?_⟩
        · show [V.ref im, V.int m, V.int (e / 8)] = _
          rw [show ((e / 8).toNat : Int) = e / 8 by omega]
        refine ⟨_, rfl, _, rfl, ?_⟩
        by_cases z2 : plV b v.M m (e / 8).toNat = 0
        · have z3 : (plV b v.M m (e / 8).toNat != 0) = false := by rw [z2]; rfl
          rw [z3]
          refine iteF ⟨_, _, rfl, ?_, Kp.refl⟩
          unfold cutM
          rw [if_pos (.inr z2)]
          exact I
        have z3 : (plV b v.M m (e / 8).toNat != 0) = true := by simp [z2]
        rw [z3]
        have ecut : cutM b v.M m e = zeroC v.M (plV b v.M m (e / 8).toNat).toNat (e % 8).toNat (8 - (e % 8).toNat) := by
          unfold cutM
          rw [if_neg (by intro h; rcases h with h | h; exact z h; exact z2 h)]
        rw [ecut]
        obtain ⟨x, hx⟩ : ∃ x : Nat, plV b v.M m (e / 8).toNat = x := ⟨(plV b v.M m (e / 8).toNat).toNat, by rcases hpl _ ho with q | q <;> omega⟩
        obtain ⟨j, hj⟩ : ∃ j : Nat, e % 8 = j := ⟨(e % 8).toNat, by omega⟩
        have hxb : (x : Int) < b := by rcases hpl _ ho with q | q <;> omega
        rw [hx, hj]
        rw [show ((x : Int)).toNat = x by omega, show ((j : Int)).toNat = j by omega]
        have hj8 : j < 8 := by omega
        refine iteT ⟨_, rfl, _, _, rfl, rfl, (by show (0 : Int) < 8; decide), j, 8, (by show [V.int (e % 8), V.int 8] = _; rw [hj]), ⟨by omega, by omega, by decide, by decide⟩, for_range (lo := j) (n := ((8 : Int) - j).toNat) (fun i σ H' => ∃ u5 : Option V, σ = [some (.ref im), some (.int m), some (.int size), some (.int e), some (.int x), u5] ∧ ImgAt T.C_Image T.C_Plan H' im A { v with M := zeroC v.M x j i } b n sl ∧ Kp A.rs H H') ⟨_, rfl, I, Kp.refl⟩ ?_ ?_⟩
        · rintro i σ H' hi ⟨u5, rfl, I', k'⟩
          obtain ⟨r, row, r1, r2, r3, r4⟩ := I'.rowAt (x := x) hxb
          refine ⟨_, rfl, im, _, _, _, _, rfl, I'.ob, T.cl_Image, T.na_Image_cells, rfl, _, rfl, A.ca, _, _, .ref r, rfl, rfl, .of I'.gr.out, at_of (j := x) rfl (by rw [List.getElem?_map, r1]; rfl), _, rfl, r, _, _, j + i, rfl, rfl, r4, ixN_nat rfl (by rw [List.length_map, r3]; omega), ?_⟩
          refine ⟨_, rfl, ?_, k'.own (List.mem_of_getElem? r1)⟩
          exact I'.setC (j := j + i) (x := 0) r1 r2
        · rintro σ H' ⟨u5, rfl, I', k'⟩
          refine ⟨_, _, rfl, ?_, k'⟩
          rw [show ((8 : Int) - j).toNat = 8 - j by omega] at I'
          exact I'
    rintro σ H' ⟨u4, u5, rfl, I', k'⟩
    exact ⟨_, rfl, _, rfl, _, rfl, im, A, _, b, n, sl, m, 2, size, rfl, I', h1, h2, by decide, by decide, fun H2 I2 k2 => k H2 I2 (k'.trans k2)⟩
def sp_set_size (CI CP CU CT : Addr) : Sp := fun vs H Q E => ∃ (im : Addr) (A : IA) (v : IV) (b n s m size : Int), vs = [.ref im, .int m, .int size] ∧ ImgAt CI CP H im A v b n s ∧ 1 ≤ m ∧ m ≤ n ∧ PlcOk b n v.M m ∧ (∀ o, o < 10 → PlOk b n v.M m o) ∧ 0 ≤ cellAt v.M (nrow b m) 2 ∧ cellAt v.M (nrow b m) 2 ≤ 80 ∧ 0 ≤ size ∧
  (size > cellAt v.M (nrow b m) 2 → late b v.M m = true → ∀ H', Same H H' → E (.ref CU) none H') ∧
  (¬ (size > cellAt v.M (nrow b m) 2 ∧ late b v.M m = true) → size > 80 → ∀ H', Same H H' → E (.ref CT) none H') ∧
  (¬ (size > cellAt v.M (nrow b m) 2 ∧ late b v.M m = true) → size ≤ 80 → ∀ H', ImgAt CI CP H' im A { v with M := psM b v.M m size } b n s → Kp A.rs H H' → Q .non H')
theorem ok_set_size (T : Tx K mg) : FnOk P w K mg base (L2N.CX P w) 6 T.f_set_size T.fd_set_size ["image", "n", "size"] (sp_set_size T.C_Image T.C_Plan T.C_Unfinished T.C_TooLong) := by
  refine T.F_set_size.okN sc_set_size (fun vs H Q E h => ?_) (fun cdv A0 outer s H vs Q E hr h => ?_)
  · obtain ⟨_, _, _, _, _, _, _, _, rfl, _⟩ := h; rfl
  · obtain ⟨im, A, v, b, n, sl, m, size, rfl, I, h1, h2, hp, hpl, hs0, hs80, hsz, kU, kT, k⟩ := h
    have hr2 : Room 2 _ := hr.mono (by decide)
    have hr4 : Room 4 _ := hr.mono (by decide)
    refine ⟨_, (Evl.pss_cut (ps_if (PW.pt (pw_and (pt_cmpR op_gt (pv 2) (pe_call (ok_node_cell T) hr2 rfl T.mg_node_cell T.F_node_cell.kp (b_node_cell T) .nil pass0 (pa_cons (pv 0) (pa_cons (pv 1) (pa_cons (pe_gc T.c_SIZE) pa_nil)))) (nomark _)) (pw_and1 (pt_val (pe_call (ok_unfinished T) hr rfl T.mg_unfinished T.F_unfinished.kp (b_unfinished T) .nil pass0 (pa_cons (pv 0) (pa_cons (pv 1) pa_nil)))))))
        (pss_one (L2N.ps_raise rfl (L2N.takes_of rfl rfl rfl rfl) (L2N.pmk_own PySem.F.excBase_ValueError T.xe_Unfinished T.mg_Unfinished T.ke_Unfinished (raises_own T.be_Unfinished T.te_Unfinished) rfl)))
        pss_nil)
      (pss_cons (ps_if (pt_cmpR op_gt (pv 2) (pe_cv T.mg_Plan T.cr_Plan T.cv_Plan_LONGEST) (nomark _))
        (pss_one (L2N.ps_raise rfl (L2N.takes_of rfl rfl rfl rfl) (L2N.pmk_own PySem.F.excBase_ValueError T.xe_TooLong T.mg_TooLong T.ke_TooLong (raises_own T.be_TooLong T.te_TooLong) rfl)))
        pss_nil)
      (PSs.nox (pss_one (ps_expr (pe_call (ok_put_size T) hr4 rfl T.mg_put_size T.F_put_size.kp (b_put_size T) .nil pass0 (pa_cons (pv 0) (pa_cons (pv 1) (pa_cons (pv 2) pa_nil))))))))), ?_⟩
    have ec : cellAt v.M (nrow b m) (2 : Int).toNat = cellAt v.M (nrow b m) 2 := rfl
    refine ⟨fun σ H' => ¬ (size > cellAt v.M (nrow b m) 2 ∧ late b v.M m = true) ∧ σ = [some (.ref im), some (.int m), some (.int size)] ∧ Same H H', ?_, ?_⟩
    · refine ⟨_, rfl, _, rfl, _, rfl, im, A, v, b, n, sl, m, 2, rfl, I, h1, h2, by decide, by decide, _, _, rfl, rfl, _, rfl, ?_⟩
      rw [ec]
      by_cases z : size > cellAt v.M (nrow b m) 2
      · rw [decide_eq_true z]
        refine iteT ⟨_, rfl, _, rfl, im, A, v, b, n, sl, m, rfl, I, h1, h2, hp, fun H1 S1 => ⟨_, rfl, ?_⟩⟩
        cases q : late b v.M m with
        | true => exact iteT (kU z q _ S1)
        | false => exact iteF ⟨fun h => absurd h.2 (by decide), rfl, S1⟩
      · rw [decide_eq_false z]
        exact iteF ⟨fun h => z h.1, rfl, Same.refl _⟩
    rintro σ H1 ⟨hn, rfl, S1⟩
    refine ⟨_, rfl, _, _, rfl, rfl, _, rfl, ite2 (fun z => ?_) (fun z => ?_)⟩
    · have z' := of_decide_eq_true z
      exact kT hn z' _ S1
    · have z' : size ≤ 80 := by
        have : ¬ (size > 80) := fun q => z (decide_eq_true q)
        omega
      exact ⟨_, rfl, _, rfl, _, rfl, im, A, v, b, n, sl, m, size, rfl, I.keep S1, h1, h2, hp, hpl, hs0, hs80, hsz, fun H2 I2 k2 => k hn z' H2 I2 (fun x o e n => k2 _ _ (S1 _ _ e) n)⟩
end
end K09
namespace K09
open PySem PySem.Spec PyProof.Rows L2 Rg
/-! ### a piece freed -/
theorem cut2 (xs : List V) : cutV xs (some (-2)) none = xs.drop (xs.length - 2) := by
  have e : HT.sIx xs.length 0 (some (-2)) = xs.length - 2 := by
    show (if (-2 : Int) < 0 then (-2 + (xs.length : Int)).toNat else min (-2 : Int).toNat xs.length) = _
    rw [if_pos (by decide)]
    omega
  unfold cutV
  rw [e]
  exact List.take_of_length_le (by rw [List.length_drop]; exact Nat.le_refl _)
/-- places dropped one after another -/
def dropS (b : Int) (v : IV) (m : Int) (ow : Nat) : List Nat → IV
  | [] => v
  | o :: os => dropS b (dropP b v m o ow) m ow os
def DropOk (b n m : Int) (ow : Nat) : IV → List Nat → Prop
  | _, [] => True
  | v, o :: os => o < 10 ∧ PlcOk b n v.M m ∧ PlOk b n v.M m o ∧ cellAt v.M (nrow b m) 3 = ow ∧ DropOk b n m ow (dropP b v m o ow) os
theorem DropOk.at_ {b n m : Int} {ow : Nat} : ∀ {v : IV} {os : List Nat}, DropOk b n m ow v os → ∀ {i o : Nat}, os[i]? = some o → o < 10 ∧ PlcOk b n (dropS b v m ow (os.take i)).M m ∧ PlOk b n (dropS b v m ow (os.take i)).M m o ∧ cellAt (dropS b v m ow (os.take i)).M (nrow b m) 3 = ow ∧ dropS b v m ow (os.take (i + 1)) = dropP b (dropS b v m ow (os.take i)) m o ow
  | _, [], _, i, o, h => by simp at h
  | v, p :: os, D, 0, o, h => by
    obtain ⟨d1, d2, d3, d4, d5⟩ := D
    have e : p = o := by simpa using h
    subst e
    exact ⟨d1, d2, d3, d4, by simp [dropS]⟩
  | v, p :: os, D, i + 1, o, h => by
    have := DropOk.at_ D.2.2.2.2 (i := i) (o := o) (by simpa using h)
    simpa [dropS] using this
def pieceL (b : Int) (M : List (List Int)) (m : Int) : List Int := (tbL b M m).drop ((tbL b M m).length - 2)
section
variable {P : Program} {w : World} {K : PySem.W.Frag} {mg : Str → Option Value} {base : Heap}
def sp_free_piece (CI CP : Addr) : Sp := fun vs H Q _ => ∃ (im : Addr) (A : IA) (v : IV) (b n s m : Int) (ow : Nat), vs = [.ref im, .int m] ∧ ImgAt CI CP H im A v b n s ∧ 1 ≤ m ∧ m ≤ n ∧ PlcOk b n v.M m ∧ ow < 4 ∧ DropOk b n m ow v ((pieceL b v.M m).reverse.map Int.toNat) ∧
  ∀ H' rs', RsOf H A.rs rs' → ImgAt CI CP H' im { A with rs := rs' } (dropS b v m ow ((pieceL b v.M m).reverse.map Int.toNat)) b n s → Kp (ft3 A ++ A.rs) H H' → Q (.int (pieceL b v.M m).length) H'
theorem ok_free_piece (T : Tx K mg) : FnOk P w K mg base CX0 6 T.f_free_piece T.fd_free_piece ["image", "n"] (sp_free_piece T.C_Image T.C_Plan) := by
  refine T.F_free_piece.ok sc_free_piece (fun vs H Q E h => ?_) (fun cdv A0 outer s H vs Q E hr h => ?_)
  · obtain ⟨_, _, _, _, _, _, _, _, rfl, _⟩ := h; rfl
  · obtain ⟨im, A, v, b, n, sl, m, ow, rfl, I, h1, h2, hp, how, D, k⟩ := h
    have hr4 : Room 4 _ := hr.mono (by decide)
    refine ⟨_, (pss_cons (ps_set (i := 2) sc_free_piece.nd rfl (.inl rfl) (pe_slice sl_list (pe_call (ok_taken_behind T) hr4 rfl T.mg_taken_behind T.F_taken_behind.kp (b_taken_behind T) .nil pass0 (pa_cons (pv 0) (pa_cons (pv 1) pa_nil))) (po_some (pe_un un_neg (pe_gc T.c_MOST_PIECE))) po_none))
      (pss_cons (ps_for PassesOwn.never rfl (pi_reversed (by rfl) T.b_reversed (pa_cons (pv 2) pa_nil)) (pg_name (i := 3) sc_free_piece.nd rfl (.inl rfl))
        (pss_one (ps_expr (pe_call (ok_drop_place T) hr rfl T.mg_drop_place T.F_drop_place.kp (b_drop_place T) .nil pass0 (pa_cons (pv 0) (pa_cons (pv 1) (pa_cons (pv 3) pa_nil)))))))
      (pss_one (ps_ret (pe_callB call_len_seq rfl T.b_len (by decide +kernel) (pa_cons (pv 2) pa_nil)))))), ?_⟩
    refine ⟨_, rfl, _, rfl, im, A, v, b, n, sl, m, rfl, I, h1, h2, hp, fun H1 p S1 np e1 => ?_⟩
    refine ⟨_, rfl, _, rfl, p, _, rfl, .of e1, fun q nq => ?_⟩
    have ecut : cutV ((tbL b v.M m).map V.int) (some (-2)) none = (pieceL b v.M m).map V.int := by
      rw [cut2, List.length_map, ← List.map_drop]
      rfl
    have S2 := S1.trans (same_upd (o := .lst ((pieceL b v.M m).map V.int)) nq)
    have nq0 := S1.free nq
    have eq : upd H1 q (.lst ((pieceL b v.M m).map V.int)) q = some (.lst ((pieceL b v.M m).map V.int)) := upd_same
    rw [← ecut] at S2 eq
    change Same H (upd H1 q (.lst (cutV ((tbL b v.M m).map V.int) (some (-2)) none))) at S2
    generalize upd H1 q (.lst (cutV ((tbL b v.M m).map V.int) (some (-2)) none)) = H2 at S2 eq ⊢
    rw [ecut] at eq
    obtain ⟨os, hos⟩ : ∃ os, (pieceL b v.M m).reverse.map Int.toNat = os := ⟨_, rfl⟩
    rw [hos] at D k
    have lenp : os.length = (pieceL b v.M m).length := by rw [← hos]; simp
    have nqr : q ∉ A.rs := fun z => by
      obtain ⟨o, e⟩ := I.held (x := q) (by simp [IA.reads, z])
      rw [nq0] at e
      cases e
    have nqf : q ∉ ft3 A := fun z => by
      obtain ⟨o, e⟩ := I.ft3h q z
      rw [nq0] at e
      cases e
    refine ⟨_, rfl, q, _, rfl, .of eq, ?_⟩
    refine for_it walk_rev (fun i σ H' => ∃ (u3 : Option V) (rs' : List Addr), σ = [some (.ref im), some (.int m), some (.ref q), u3] ∧ RsOf H A.rs rs' ∧ ImgAt T.C_Image T.C_Plan H' im { A with rs := rs' } (dropS b v m ow (os.take i)) b n sl ∧ Kp (ft3 A ++ A.rs) H H' ∧ H' q = some (.lst ((pieceL b v.M m).map V.int)) ∧ q ∉ rs')
      ⟨_, A.rs, rfl, RsOf.refl, I.keep S2, Kp.of S2, eq, nqr⟩ (fun i σ H' _ ⟨_, _, _, _, _, _, e, _⟩ => .of e) ?_ ?_
    · rintro i x σ H' H'' hi ⟨u3, rs', rfl, R, I', k', e', nr⟩ ⟨rfl, hx⟩
      rw [List.length_map] at hi hx
      rw [List.getElem?_map] at hx
      obtain ⟨y, hy, rfl⟩ := Option.map_eq_some_iff.mp hx
      have hym : y ∈ tbL b v.M m := List.mem_of_mem_drop (List.mem_of_getElem? hy)
      have hy0 := rng_mem (List.mem_filter.mp hym).1
      have ho : os[i]? = some y.toNat := by
        rw [← hos, List.getElem?_map, List.getElem?_reverse hi, hy]
        rfl
      obtain ⟨d1, d2, d3, d4, d5⟩ := D.at_ ho
      refine ⟨_, rfl, _, rfl, _, rfl, im, _, _, b, n, sl, m, y.toNat, ow, ?_, I', h1, h2, d1, d2, d3, d4, how, fun H3 rs3 R3 I3 k3 => ?_⟩
      · show [V.ref im, V.int m, V.int y] = _
        rw [show ((y.toNat : Nat) : Int) = y by omega]
      rw [← d5] at I3
      have k13 : Kp (ft3 A ++ A.rs) H H3 := Kp.rsOf (L := ft3 A) k' R k3
      refine ⟨_, rs3, rfl, RsOf.trans2 (L := ft3 A) k' (fun x hx => I'.ft3h x hx) R R3, I3, k13, k3 _ _ e' (fun z => ?_), fun z => ?_⟩
      · rcases List.mem_append.mp z with z | z
        · exact nqf z
        · exact nr z
      · rcases R3 q z with z | z
        · exact nr z
        · rw [e'] at z
          cases z
    · rintro σ H' ⟨u3, rs', rfl, R, I', k', e', nr⟩
      rw [List.length_map, ← lenp, List.take_length] at I'
      refine ⟨_, rfl, q, _, rfl, .inl (.of e'), ?_⟩
      show Q (.int (((pieceL b v.M m).map V.int).length : Int)) H'
      rw [List.length_map]
      exact k H' rs' R I' k'
end
end K09
namespace K09
open PySem PySem.Spec PyProof.Rows L2 Rg
/-! ### two values that read alike -/
def flatE (x y : V) : Prop := x = y ∧ (x = .non ∨ (∃ b, x = .bl b) ∨ (∃ i, x = .int i) ∨ ∃ z, x = .str z)
def Sm (H : Hp) : Nat → V → V → Prop
  | 0, x, y => flatE x y
  | n + 1, x, y => flatE x y ∨ ∃ a b xs ys, x = .ref a ∧ y = .ref b ∧ ((H a = some (.lst xs) ∧ H b = some (.lst ys)) ∨ (H a = some (.tup xs) ∧ H b = some (.tup ys))) ∧ xs.length = ys.length ∧ ys.length < 1000 ∧ ∀ (i : Nat) (x y : V), xs[i]? = some x → ys[i]? = some y → Sm H n x y
theorem Sm.same {H H' : Hp} (s : Same H H') : ∀ {n : Nat} {x y : V}, Sm H n x y → Sm H' n x y
  | 0, _, _, h => h
  | n + 1, _, _, h => by
    rcases h with h | ⟨a, b, xs, ys, e1, e2, e3, e4, e5, e6⟩
    · exact .inl h
    · refine .inr ⟨a, b, xs, ys, e1, e2, ?_, e4, e5, fun i x y h1 h2 => Sm.same s (e6 i x y h1 h2)⟩
      rcases e3 with ⟨p, q⟩ | ⟨p, q⟩
      · exact .inl ⟨s _ _ p, s _ _ q⟩
      · exact .inr ⟨s _ _ p, s _ _ q⟩
theorem Sm.up {H : Hp} : ∀ {n : Nat} {x y : V}, Sm H n x y → Sm H (n + 1) x y
  | 0, _, _, h => .inl h
  | n + 1, _, _, h => by
    rcases h with h | ⟨a, b, xs, ys, e1, e2, e3, e4, e5, e6⟩
    · exact .inl h
    · exact .inr ⟨a, b, xs, ys, e1, e2, e3, e4, e5, fun i x y h1 h2 => (e6 i x y h1 h2).up⟩
theorem Sm.flat {H : Hp} {n : Nat} {x y : V} (h : flatE x y) : Sm H n x y := by
  cases n with
  | zero => exact h
  | succ n => exact .inl h
theorem Sm.int {H : Hp} {n : Nat} {i : Int} : Sm H n (.int i) (.int i) := Sm.flat ⟨rfl, .inr (.inr (.inl ⟨i, rfl⟩))⟩
/-- x is True, x is False -/
theorem op_isB {X : Cx} (c : Bool) : OpR X (compareOp .Is) (fun x y H Q => y = .bl c ∧ Q (.bl (decide (x = .bl c))) H) := by
  intro pins s σ H x y v u Q I rx ry h
  obtain ⟨rfl, q⟩ := h
  cases ry
  cases x with
  | bl b =>
    cases rx
    by_cases e : b = c
    · subst e
      refine wpAny_is_self rfl ⟨.bl true, H, I, rfl, ?_⟩
      rw [decide_eq_true rfl] at q
      exact q
    · refine wpAny_is_other rfl (fun z => e (by injection z)) ⟨.bl false, H, I, rfl, ?_⟩
      rw [decide_eq_false (fun z => e (by injection z))] at q
      exact q
  | non => cases rx; exact wpAny_is_other rfl (fun z => nomatch z) ⟨.bl false, H, I, rfl, q⟩
  | int i => obtain ⟨t, rfl⟩ := rx; exact wpAny_is_other rfl (fun z => nomatch z) ⟨.bl false, H, I, rfl, q⟩
  | str i => obtain ⟨t, rfl⟩ := rx; exact wpAny_is_other rfl (fun z => nomatch z) ⟨.bl false, H, I, rfl, q⟩
  | byt i => obtain ⟨t, rfl⟩ := rx; exact wpAny_is_other rfl (fun z => nomatch z) ⟨.bl false, H, I, rfl, q⟩
  | flt i => obtain ⟨t, rfl⟩ := rx; exact wpAny_is_other rfl (fun z => nomatch z) ⟨.bl false, H, I, rfl, q⟩
  | ref i => cases rx; exact wpAny_is_other rfl (fun z => nomatch z) ⟨.bl false, H, I, rfl, q⟩
  | ty i => cases rx; exact wpAny_is_other rfl (fun z => nomatch z) ⟨.bl false, H, I, rfl, q⟩
theorem Sm.inv {H : Hp} {n : Nat} {x y : V} (h : Sm H n x y) : flatE x y ∨ ∃ m a b xs ys, n = m + 1 ∧ x = .ref a ∧ y = .ref b ∧ ((H a = some (.lst xs) ∧ H b = some (.lst ys)) ∨ (H a = some (.tup xs) ∧ H b = some (.tup ys))) ∧ xs.length = ys.length ∧ ys.length < 1000 ∧ ∀ (i : Nat) (x y : V), xs[i]? = some x → ys[i]? = some y → Sm H m x y := by
  cases n with
  | zero => exact .inl h
  | succ m =>
    rcases h with h | ⟨a, b, xs, ys, e⟩
    · exact .inl h
    · exact .inr ⟨m, a, b, xs, ys, rfl, e⟩
section
variable {P : Program} {w : World} {K : PySem.W.Frag} {mg : Str → Option Value} {base : Heap}
def sp_Lsame (n : Nat) : Sp := fun vs H Q _ => ∃ x y, vs = [x, y] ∧ Sm H n x y ∧ ∀ H', Same H H' → Q (.bl true) H'
/-- the body, its own call given -/
theorem ok_Lsame_step (T : Tx K mg) (n : Nat) (sp0 : Sp) (F0 : FnOk P w K mg base CX0 (n + 1) T.f_Lsame T.fd_Lsame ["_law_actual", "_law_due"] sp0) (hsp : ∀ (x y : V) (H : Hp) (Q : VK) (E : XK), (∃ m, n = m + 1 ∧ Sm H m x y) → (∀ H', Same H H' → Q (.bl true) H') → sp0 [x, y] H Q E) : FnOk P w K mg base CX0 (n + 2) T.f_Lsame T.fd_Lsame ["_law_actual", "_law_due"] (sp_Lsame n) := by
  refine T.F_Lsame.ok sc_Lsame (fun vs H Q E h => ?_) (fun cdv A outer s H vs Q E hr h => ?_)
  · obtain ⟨_, _, rfl, _⟩ := h; rfl
  · obtain ⟨x, y, rfl, hS, k⟩ := h
    refine ⟨_, (pss_cons (ps_if (PW.pt (pw_or (pt_cmpR op_isN (pv 1) pe_non (nomark _)) (pw_or (pt_cmpR (op_isB true) (pv 1) pe_bl (nomark _)) (pw_or1 (pt_cmpR (op_isB false) (pv 1) pe_bl (nomark _))))))
        (pss_one (ps_ret (pe_or (pe_and (pe_cmpR op_isN (pv 0) pe_non (nomark _)) (pe_one (pe_cmpR op_isN (pv 1) pe_non (nomark _)))) (pe_or (pe_and (pe_cmpR (op_isB true) (pv 0) pe_bl (nomark _)) (pe_one (pe_cmpR (op_isB true) (pv 1) pe_bl (nomark _)))) (pe_one (pe_and (pe_cmpR (op_isB false) (pv 0) pe_bl (nomark _)) (pe_one (pe_cmpR (op_isB false) (pv 1) pe_bl (nomark _)))))))))
        pss_nil)
      (pss_cons (ps_if (pt_val (pe_callB call_isi rfl T.b_isinstance (by decide +kernel) (pa_cons (pv 1) (pa_cons (pe_bltn (v := .ty "int") rfl T.b_int (by decide +kernel) rfl) pa_nil))))
        (pss_one (ps_ret (pe_and (pe_callB call_isi rfl T.b_isinstance (by decide +kernel) (pa_cons (pv 0) (pa_cons (pe_bltn (v := .ty "int") rfl T.b_int (by decide +kernel) rfl) pa_nil))) (pe_and (pe_not (pe_callB call_isi rfl T.b_isinstance (by decide +kernel) (pa_cons (pv 0) (pa_cons (pe_bltn (v := .ty "bool") rfl T.b_bool (by decide +kernel) rfl) pa_nil)))) (pe_one (pe_cmpR op_eq (pv 0) (pv 1) (nomark _)))))))
        pss_nil)
      (pss_cons (ps_if (pt_val (pe_callB call_isi rfl T.b_isinstance (by decide +kernel) (pa_cons (pv 1) (pa_cons (pe_bltn (v := .ty "str") rfl T.b_str (by decide +kernel) rfl) pa_nil))))
        (pss_one (ps_ret (pe_and (pe_callB call_isi rfl T.b_isinstance (by decide +kernel) (pa_cons (pv 0) (pa_cons (pe_bltn (v := .ty "str") rfl T.b_str (by decide +kernel) rfl) pa_nil))) (pe_one (pe_cmpR op_eq (pv 0) (pv 1) (nomark _))))))
        pss_nil)
      (pss_cons (ps_if (PW.pt (pw_and (pt_val (pe_callB call_isi rfl T.b_isinstance (by decide +kernel) (pa_cons (pv 1) (pa_cons (pe_bltn (v := .ty "tuple") rfl T.b_tuple (by decide +kernel) rfl) pa_nil)))) (pw_and1 (pt_not (pt_val (pe_callB call_isi rfl T.b_isinstance (by decide +kernel) (pa_cons (pv 0) (pa_cons (pe_bltn (v := .ty "tuple") rfl T.b_tuple (by decide +kernel) rfl) pa_nil))))))))
        (pss_one (ps_ret pe_bl))
        pss_nil)
      (pss_cons (ps_if (PW.pt (pw_and (pt_val (pe_callB call_isi rfl T.b_isinstance (by decide +kernel) (pa_cons (pv 1) (pa_cons (pe_bltn (v := .ty "list") rfl T.b_list (by decide +kernel) rfl) pa_nil)))) (pw_and1 (pt_not (pt_val (pe_callB call_isi rfl T.b_isinstance (by decide +kernel) (pa_cons (pv 0) (pa_cons (pe_bltn (v := .ty "list") rfl T.b_list (by decide +kernel) rfl) pa_nil))))))))
        (pss_one (ps_ret pe_bl))
        pss_nil)
      (pss_cons (ps_if (PW.pt (pw_or (pt_not (pt_val (pe_callB call_isiT rfl T.b_isinstance (by decide +kernel) (pa_cons (pv 0) (pa_cons (pe_tup (pa_cons (pe_bltn (v := .ty "tuple") rfl T.b_tuple (by decide +kernel) rfl) (pa_cons (pe_bltn (v := .ty "list") rfl T.b_list (by decide +kernel) rfl) pa_nil))) pa_nil))))) (pw_or1 (pt_cmpR op_ne (pe_callB call_len_seq rfl T.b_len (by decide +kernel) (pa_cons (pv 0) pa_nil)) (pe_callB call_len_seq rfl T.b_len (by decide +kernel) (pa_cons (pv 1) pa_nil)) (nomark _)))))
        (pss_one (ps_ret pe_bl))
        pss_nil)
      (pss_cons (ps_for PassesOwn.never rfl (pi_range1 rfl T.b_range (pa_cons (pe_callB call_len_seq rfl T.b_len (by decide +kernel) (pa_cons (pv 1) pa_nil)) pa_nil)) (pg_name (i := 2) sc_Lsame.nd rfl (.inl rfl))
        (pss_one (ps_if (pt_not (pt_val (pe_call F0 hr rfl T.mg_Lsame T.F_Lsame.kp (b_Lsame T) .nil pass0 (pa_cons (pe_ix (IxR.or ix_list ix_tup) (pv 0) (pv 2) (fun _ _ => rfl)) (pa_cons (pe_ix (IxR.or ix_list ix_tup) (pv 1) (pv 2) (fun _ _ => rfl)) pa_nil)))))
          (pss_one (ps_ret pe_bl))
          pss_nil)))
      (pss_one (ps_ret pe_bl))))))))), ?_⟩
    rcases hS.inv with hf | ⟨m, a, b, xs, ys, rfl, rfl, rfl, e3, e4, e5, e6⟩
    · obtain ⟨rfl, hf⟩ := hf
      rcases hf with rfl | ⟨b, rfl⟩ | ⟨i, rfl⟩ | ⟨z, rfl⟩
      · exact ⟨_, rfl, rfl, _, rfl, iteT ⟨_, rfl, rfl, _, rfl, iteT ⟨_, rfl, rfl, _, rfl, iteT (k H (Same.refl _))⟩⟩⟩
      · cases b with
        | true => exact ⟨_, rfl, rfl, _, rfl, iteF ⟨_, rfl, rfl, _, rfl, iteT ⟨_, rfl, rfl, _, rfl, iteF ⟨_, rfl, iteF ⟨_, rfl, rfl, _, rfl, iteT ⟨_, rfl, rfl, _, rfl, iteT (k H (Same.refl _))⟩⟩⟩⟩⟩⟩
        | false => exact ⟨_, rfl, rfl, _, rfl, iteF ⟨_, rfl, rfl, _, rfl, iteF ⟨_, rfl, rfl, _, rfl, iteT ⟨_, rfl, rfl, _, rfl, iteF ⟨_, rfl, iteF ⟨_, rfl, rfl, _, rfl, iteF ⟨_, rfl, iteF ⟨_, rfl, rfl, _, rfl, iteT ⟨_, rfl, rfl, k H (Same.refl _)⟩⟩⟩⟩⟩⟩⟩⟩⟩
      · refine ⟨_, rfl, rfl, _, rfl, iteF ⟨_, rfl, rfl, _, rfl, iteF ⟨_, rfl, rfl, _, rfl, iteF ⟨_, rfl, _, _, _, _, true, rfl, .ty _, .base (.int _), kit_ty (by decide +kernel), _, rfl, iteT ⟨_, rfl, _, _, _, _, true, rfl, .ty _, .base (.int _), kit_ty (by decide +kernel), _, rfl, iteT ⟨_, rfl, _, _, _, _, false, rfl, .ty _, .base (.int _), kit_ty (by decide +kernel), _, rfl, _, rfl, iteT ⟨_, rfl, _, rfl, rfl, ?_⟩⟩⟩⟩⟩⟩⟩
        rw [decide_eq_true rfl]
        exact k H (Same.refl _)
      · refine ⟨_, rfl, rfl, _, rfl, iteF ⟨_, rfl, rfl, _, rfl, iteF ⟨_, rfl, rfl, _, rfl, iteF ⟨_, rfl, _, _, _, _, false, rfl, .ty _, .base (.str _), kit_ty (by decide +kernel), _, rfl, iteF ⟨_, rfl, _, _, _, _, true, rfl, .ty _, .base (.str _), kit_ty (by decide +kernel), _, rfl, iteT ⟨_, rfl, _, _, _, _, true, rfl, .ty _, .base (.str _), kit_ty (by decide +kernel), _, rfl, iteT ⟨_, rfl, _, rfl, rfl, ?_⟩⟩⟩⟩⟩⟩⟩
        rw [decide_eq_true rfl]
        exact k H (Same.refl _)
    · -- what stands behind the looks at the kinds
      have tail : ∀ (H0 : Hp), Same H H0 → ((H0 a = some (.lst xs) ∧ H0 b = some (.lst ys)) ∨ (H0 a = some (.tup xs) ∧ H0 b = some (.tup ys))) → (SqL K H0 a xs ∨ SqT K H0 a xs) ∧ (SqL K H0 b ys ∨ SqT K H0 b ys) := fun H0 _ e => by
        rcases e with ⟨p, q⟩ | ⟨p, q⟩
        · exact ⟨.inl (.of p), .inl (.of q)⟩
        · exact ⟨.inr (.of p), .inr (.of q)⟩
      have kp : ∀ (H0 : Hp), Same H H0 → ((H0 a = some (.lst xs) ∧ H0 b = some (.lst ys)) ∨ (H0 a = some (.tup xs) ∧ H0 b = some (.tup ys))) := fun H0 s0 => by
        rcases e3 with ⟨p, q⟩ | ⟨p, q⟩
        · exact .inl ⟨s0 _ _ p, s0 _ _ q⟩
        · exact .inr ⟨s0 _ _ p, s0 _ _ q⟩
      refine ⟨_, rfl, rfl, _, rfl, iteF ⟨_, rfl, rfl, _, rfl, iteF ⟨_, rfl, rfl, _, rfl, iteF ?_⟩⟩⟩
      rcases e3 with ⟨p, q⟩ | ⟨p, q⟩
      rotate_left
      refine ⟨_, rfl, _, _, _, _, false, rfl, .ty _, .base (.tup q), kit_ty (by decide +kernel), _, rfl, iteF ⟨_, rfl, _, _, _, _, false, rfl, .ty _, .base (.tup q), kit_ty (by decide +kernel), _, rfl, iteF ⟨_, rfl, _, _, _, _, true, rfl, .ty _, .base (.tup q), kit_ty (by decide +kernel), _, rfl, iteT ⟨_, rfl, _, _, _, _, true, rfl, .ty _, .base (.tup p), kit_ty (by decide +kernel), _, rfl, iteF ⟨_, rfl, _, _, _, _, false, rfl, .ty _, .base (.tup q), kit_ty (by decide +kernel), _, rfl, iteF ?_⟩⟩⟩⟩⟩
      refine ⟨_, rfl, (by show 2 ≤ sizeLine; decide), fun t nt => ?_⟩
      have st := same_upd (o := .tup [.ty "tuple", .ty "list"]) nt
      refine ⟨_, t, _, _, _, true, rfl, upd_same, .cons (.ty _) (.cons (.ty _) .nil), .base (.tup (st _ _ p)), kitAny_cons (b := true) (kit_ty (by decide +kernel)) (fun z => by cases z) (fun _ => rfl), _, rfl, iteF ?_⟩
      rotate_left
      refine ⟨_, rfl, _, _, _, _, false, rfl, .ty _, .base (.lst q), kit_ty (by decide +kernel), _, rfl, iteF ⟨_, rfl, _, _, _, _, false, rfl, .ty _, .base (.lst q), kit_ty (by decide +kernel), _, rfl, iteF ⟨_, rfl, _, _, _, _, false, rfl, .ty _, .base (.lst q), kit_ty (by decide +kernel), _, rfl, iteF ⟨_, rfl, _, _, _, _, true, rfl, .ty _, .base (.lst q), kit_ty (by decide +kernel), _, rfl, iteT ⟨_, rfl, _, _, _, _, true, rfl, .ty _, .base (.lst p), kit_ty (by decide +kernel), _, rfl, iteF ?_⟩⟩⟩⟩⟩
      refine ⟨_, rfl, (by show 2 ≤ sizeLine; decide), fun t nt => ?_⟩
      have st := same_upd (o := .tup [.ty "tuple", .ty "list"]) nt
      refine ⟨_, t, _, _, _, true, rfl, upd_same, .cons (.ty _) (.cons (.ty _) .nil), .base (.lst (st _ _ p)), kitAny_cons (b := false) (kit_ty (by decide +kernel)) (fun _ => kitAny_cons (b := true) (kit_ty (by decide +kernel)) (fun z => by cases z) (fun _ => rfl)) (fun z => by cases z), _, rfl, iteF ?_⟩
      all_goals
        have sq := tail _ st (kp _ st)
        refine ⟨_, rfl, a, _, rfl, sq.1, _, rfl, b, _, rfl, sq.2, rfl, _, rfl, ?_⟩
        rw [dec_iv, e4, decide_eq_true rfl]
        refine iteF ⟨_, rfl, b, _, rfl, sq.2, _, rfl, by omega, by omega, for_range (lo := 0) (n := ((ys.length : Int)).toNat) (fun i σ H' => ∃ u2 : Option V, σ = [some (.ref a), some (.ref b), u2] ∧ Same H H') ⟨_, rfl, st⟩ ?_ ?_⟩
        · rintro i σ H' hi ⟨u2, rfl, s2⟩
          have hiy : i < ys.length := by omega
          have hix : i < xs.length := by omega
          have ez : (0 : Int) + (i : Int) = (i : Int) := by omega
          rw [ez]
          have ax : atI xs (i : Int) = some xs[i] := atI_nat (List.getElem?_eq_getElem hix)
          have ay : atI ys (i : Int) = some ys[i] := atI_nat (List.getElem?_eq_getElem hiy)
          have ke := kp _ s2
          have call := hsp xs[i] ys[i] H'
          have sm := Sm.same s2 (e6 i _ _ (List.getElem?_eq_getElem hix) (List.getElem?_eq_getElem hiy))
          rcases ke with ⟨p', q'⟩ | ⟨p', q'⟩
          · exact ⟨_, rfl, _, rfl, .inl ⟨a, _, _, _, rfl, rfl, .of p', ax, _, rfl, _, rfl, .inl ⟨b, _, _, _, rfl, rfl, .of q', ay, call _ _ ⟨m, rfl, sm⟩ fun H3 s3 => ⟨_, rfl, iteF ⟨_, rfl, s2.trans s3⟩⟩⟩⟩⟩
          · exact ⟨_, rfl, _, rfl, .inr ⟨a, _, _, _, rfl, rfl, .of p', ax, _, rfl, _, rfl, .inr ⟨b, _, _, _, rfl, rfl, .of q', ay, call _ _ ⟨m, rfl, sm⟩ fun H3 s3 => ⟨_, rfl, iteF ⟨_, rfl, s2.trans s3⟩⟩⟩⟩⟩
        · rintro σ H' ⟨u2, rfl, s2⟩
          exact k H' s2
/-- the law's own comparison, of values that read alike down to n -/
theorem ok_Lsame (T : Tx K mg) : ∀ n, FnOk P w K mg base CX0 (n + 2) T.f_Lsame T.fd_Lsame ["_law_actual", "_law_due"] (sp_Lsame n)
  | 0 => by
    refine ok_Lsame_step T 0 (fun _ _ _ _ => False) ⟨fun _ _ _ _ h => h.elim, fun _ _ _ _ _ _ _ _ _ _ _ _ _ h => h.elim⟩ ?_
    rintro x y H Q E ⟨m, e, _⟩
    omega
  | n + 1 => ok_Lsame_step T (n + 1) (sp_Lsame n) (ok_Lsame T n) fun x y H Q E ⟨m, e, sm⟩ k => ⟨x, y, rfl, by cases e; exact sm, k⟩
end
end K09
namespace K09
open PySem PySem.Spec PyProof.Rows L2 Rg
/-! ### what the law keeps of an image -/
structure KA where
  (p c h s d : Addr) (rs : List Addr)
def KA.all (k : KA) : List Addr := k.p :: k.c :: k.h :: k.s :: k.d :: k.rs
structure Kd (H : Hp) (k : KA) (M : List (List Int)) (ho st : List Int) (se : Int) : Prop where
  p : H k.p = some (.lst [.ref k.c, .ref k.h, .ref k.s, .ref k.d, .int se])
  c : Grid H k.c k.rs M
  h : H k.h = some (.lst (ho.map V.int))
  s : H k.s = some (.lst (st.map V.int))
  d : H k.d = some (.lst [])
theorem Kd.keep {H H' : Hp} {k : KA} {M : List (List Int)} {ho st : List Int} {se : Int} (K : Kd H k M ho st se) (h : ∀ x o, x ∈ k.all → H x = some o → H' x = some o) : Kd H' k M ho st se :=
  ⟨h _ _ (by simp [KA.all]) K.p, K.c.keep fun x o hx e => h _ _ (by rcases hx with rfl | hx <;> simp [KA.all, *]) e, h _ _ (by simp [KA.all]) K.h, h _ _ (by simp [KA.all]) K.s, h _ _ (by simp [KA.all]) K.d⟩
theorem Kd.same {H H' : Hp} {k : KA} {M : List (List Int)} {ho st : List Int} {se : Int} (K : Kd H k M ho st se) (h : Same H H') : Kd H' k M ho st se := K.keep fun _ _ _ e => h _ _ e
theorem Kd.held {H : Hp} {k : KA} {M : List (List Int)} {ho st : List Int} {se : Int} (K : Kd H k M ho st se) {x : Addr} (h : x ∈ k.all) : ∃ o, H x = some o := by
  simp only [KA.all, List.mem_cons] at h
  rcases h with rfl | rfl | rfl | rfl | rfl | h
  · exact ⟨_, K.p⟩
  · exact ⟨_, K.c.out⟩
  · exact ⟨_, K.h⟩
  · exact ⟨_, K.s⟩
  · exact ⟨_, K.d⟩
  · exact K.c.held h
section
variable {P : Program} {w : World} {K : PySem.W.Frag} {mg : Str → Option Value} {base : Heap}
def sp_Lstate (CI CP : Addr) : Sp := fun vs H Q _ => ∃ (im : Addr) (A : IA) (v : IV) (b n s : Int), vs = [.ref im] ∧ ImgAt CI CP H im A v b n s ∧ v.hd = [] ∧ ∀ H' (k : KA), Same H H' → (∀ x ∈ k.all, H x = none) → Kd H' k v.M v.ho v.st v.se → Q (.ref k.p) H'
theorem ok_Lstate (T : Tx K mg) : FnOk P w K mg base CX0 1 T.f_Lstate T.fd_Lstate ["_law_image"] (sp_Lstate T.C_Image T.C_Plan) := by
  refine T.F_Lstate.ok sc_Lstate (fun vs H Q E h => ?_) (fun cdv A0 outer s H vs Q E hr h => ?_)
  · obtain ⟨_, _, _, _, _, _, rfl, _⟩ := h; rfl
  · obtain ⟨im, A, v, b, n, sl, rfl, I, hv, k⟩ := h
    refine ⟨_, (pss_cons (ps_setLc (i := 1) (own := [("_law_n", 2)]) (g := gName 2) (tt := tYes) rfl sc_Lstate.nd rfl rfl (sw_true rfl rfl rfl (by decide +kernel)) (pi_list (pe_callB cr_sorted rfl T.b_sorted (by decide +kernel) (pa_cons (pe_callTy (call_list_dK rfl) rfl T.b_list (by decide +kernel) (pa_cons (pe_fld (pv 0) rfl) pa_nil)) pa_nil))) (blkOk_by (N := ["_law_image", "_law_handles", "_law_n", "_law_row"]) (sc := defScope s_Lstate) (by decide +kernel)) (fun _ _ _ _ _ => pg_name (i := 2) sc_Lstate.nd rfl (Or.inl rfl)) (fun _ _ _ _ _ => pts_nil) (fun _ _ _ _ _ => (pe_tup (pa_cons (pv 2) (pa_cons (pe_ixK (K := K) (pe_fldK (K := K) (pv 0) rfl) (pv 2) (fun _ _ => rfl)) pa_nil)))))
      (pss_one (ps_ret (pe_lst (pa_cons (pe_lc rfl (own := [("_law_row", 3)]) (g := gName 3) (tt := tYes) sc_Lstate.nd (pi_list (pe_fld (pv 0) rfl)) (blkOk_by (N := ["_law_image", "_law_handles", "_law_n", "_law_row"]) (sc := defScope s_Lstate) (by decide +kernel)) (fun _ _ _ _ _ => pg_name (i := 3) sc_Lstate.nd rfl (Or.inl rfl)) (fun _ _ _ _ _ => pts_nil) (fun _ _ _ _ _ => (pe_listof (K := K) (pv 3) T.b_list))) (pa_cons (pe_listof (K := K) (pe_fld (pv 0) rfl) T.b_list) (pa_cons (pe_listof (K := K) (pe_fld (pv 0) rfl) T.b_list) (pa_cons (pv 1) (pa_cons (pe_fld (pv 0) rfl) pa_nil))))))))), ?_⟩
    have d0 := I.d0
    have b2 := I.pl.b2
    have hh := I.hd
    rw [hv] at hh
    refine ⟨_, rfl, im, _, _, _, _, rfl, I.ob, T.cl_Image, T.na_Image_handles, rfl, A.hd, _, rfl, hh, fun q nq => ?_⟩
    have s1 := same_upd (o := .lst []) nq
    have e1 : upd H q (.lst []) q = some (.lst (([] : List Int).map V.int)) := upd_same
    rw [show List.map (fun kv : Key × V => kV kv.1) (hdK []) = [] from rfl]
    refine ⟨q, [], rfl, .of e1, by decide, fun ns' p perm _ np => ?_⟩
    have hn : ns' = [] := List.perm_nil.mp perm
    subst hn
    have s2' := same_upd (o := .lst (([] : List Int).map V.int)) np
    have s2 := s1.trans s2'
    have e2 : upd (upd H q (.lst [])) p (.lst (([] : List Int).map V.int)) p = some (.lst []) := upd_same
    generalize upd (upd H q (.lst [])) p (.lst (([] : List Int).map V.int)) = H2 at s2 e2 ⊢
    refine ⟨p, rfl, ⟨_, .of e2⟩, fun D hD => ?_⟩
    refine lc_list (K := K) (a := p) (xs := []) (fun i H' => H' = upd H2 D (.lst [])) rfl (fun i H' _ e => by rw [e]; exact .of (by rw [upd_ne (ne_of_none e2 hD)]; exact e2)) (fun i x H' hi _ => by simp at hi) ?_
    rintro H3 rfl
    have s3 := s2.trans (same_upd (o := .lst []) hD)
    have e3 : upd H2 D (.lst []) D = some (.lst []) := upd_same
    have nD := s2.free hD
    generalize upd H2 D (.lst []) = H3 at s3 e3 ⊢
    have I3 := I.keep s3
    -- the rows
    refine ⟨_, rfl, im, _, _, _, _, rfl, I3.ob, T.cl_Image, T.na_Image_cells, rfl, A.ca, rfl, ⟨_, .of I3.gr.out⟩, fun C hC => ?_⟩
    refine lc_list (K := K) (a := A.ca) (xs := A.rs.map V.ref) (fun i H' => ∃ qs, NewGrid H3 H' C qs (v.M.take i))
      ⟨[], NewGrid.start (Same.refl _) hC hC⟩ (fun i H' _ ⟨qs, G⟩ => .of (G.same _ _ I3.gr.out)) ?_ ?_
    · rintro i y H' hi ⟨qs, G⟩
      have hil : i < A.rs.length := by
        have := (List.getElem?_eq_some_iff.mp hi).1
        rw [List.length_map] at this
        exact this
      rw [List.getElem?_map, List.getElem?_eq_getElem hil] at hi
      have hi : V.ref A.rs[i] = y := Option.some.inj hi
      subst hi
      have hiR : i < v.M.length := by rw [← I3.gr.len]; exact hil
      have hrow := G.same _ _ (I3.gr.row i A.rs[i] v.M[i] (List.getElem?_eq_getElem hil) (List.getElem?_eq_getElem hiR))
      refine ⟨rfl, ?_⟩
      refine yes_ ?_
      refine ⟨_, rfl, A.rs[i], _, rfl, .inl (.of hrow), fun q hq => ?_⟩
      refine ⟨_, by rw [upd_ne (ne_of_none G.grid.out hq)]; exact G.grid.out, ?_, qs ++ [q], ?_⟩
      · rw [List.length_map, G.grid.len, List.length_take]
        exact small1000 (by omega)
      · rw [List.take_succ, List.getElem?_eq_getElem hiR]
        exact G.snoc (same_upd hq) hq upd_same
    rintro H4 ⟨qs, G4⟩
    rw [List.length_map, I3.gr.len, List.take_length] at G4
    have I4 := I3.keep G4.same
    have s4 := s3.trans G4.same
    refine ⟨_, rfl, im, _, _, _, _, rfl, I4.ob, T.cl_Image, T.na_Image_holdings, rfl, A.ho, _, rfl, .inl (.of I4.ho), fun kh nkh => ?_⟩
    have s5' := same_upd (o := .lst (v.ho.map V.int)) nkh
    have e5 : upd H4 kh (.lst (v.ho.map V.int)) kh = some (.lst (v.ho.map V.int)) := upd_same
    have nkh0 := s4.free nkh
    have s5 := s4.trans s5'
    have t5 := G4.same.trans s5'
    generalize upd H4 kh (.lst (v.ho.map V.int)) = H5 at s5' e5 s5 t5 ⊢
    have I5 := I.keep s5
    refine ⟨_, rfl, im, _, _, _, _, rfl, I5.ob, T.cl_Image, T.na_Image_stamps, rfl, A.st, _, rfl, .inl (.of I5.st), fun ks nks => ?_⟩
    have s6' := same_upd (o := .lst (v.st.map V.int)) nks
    have e6 : upd H5 ks (.lst (v.st.map V.int)) ks = some (.lst (v.st.map V.int)) := upd_same
    have nks0 := s5.free nks
    have s6 := s5.trans s6'
    generalize upd H5 ks (.lst (v.st.map V.int)) = H6 at s6' e6 s6 ⊢
    have I6 := I.keep s6
    refine ⟨_, rfl, _, rfl, im, _, _, _, _, rfl, I6.ob, T.cl_Image, T.na_Image_serial, rfl, (by show 5 ≤ sizeLine; decide), fun kp nkp => ?_⟩
    have s7' := same_upd (o := .lst [.ref C, .ref kh, .ref ks, .ref D, .int v.se]) nkp
    have nC := s3.free G4.freshD
    refine k _ ⟨kp, C, kh, ks, D, qs⟩ (s6.trans s7') (fun x hx => ?_) ⟨upd_same, ((G4.grid.same s5').same s6').same s7', s7' _ _ (s6' _ _ e5), s7' _ _ e6, s7' _ _ (s6' _ _ (t5 _ _ e3))⟩
    simp only [KA.all, List.mem_cons] at hx
    rcases hx with rfl | rfl | rfl | rfl | rfl | hx
    · exact s6.free nkp
    · exact nC
    · exact nkh0
    · exact nks0
    · exact nD
    · exact s3.free (G4.fresh _ hx)
end
end K09
namespace K09
open PySem PySem.Spec PyProof.Rows L2 Rg
section
variable {P : Program} {w : World} {K : PySem.W.Frag} {mg : Str → Option Value} {base : Heap}
def sp_Lerror (nb : List Str) (a : Addr) : Sp := fun vs H Q _ => vs = [.ref a] ∧ ∀ H' q t, Same H H' → H q = none → H t = none → q ≠ t → H' q = some (.lst (nb.map V.str)) → H' t = some (.tup [.str "refused", .ref q]) → Q (.ref t) H'
theorem ok_Lerror_TooLong (T : Tx K mg) : FnE P w K mg base 1 T.f_Lerror T.fd_Lerror ["_law_e"] T.C_TooLong (sp_Lerror ["TooLong"]) := by
  refine T.F_Lerror.okE sc_Lerror (fun a vs H Q E h => ?_) (fun cdv A outer s H vs Q E p hot hz hr h => ?_)
  · obtain ⟨rfl, _⟩ := h; rfl
  · obtain ⟨rfl, k⟩ := h
    have hf : ∃ vs, p.2.data = .fields vs := hot.2.elim fun vs h => ⟨vs, h.1⟩
    have hc : L2H.HotC (L2H.cxH CX0 P w K mg base ["_law_e", "_law_told", "_law_name", "_law_holds"] "_law_error" (defScope s_Lerror) T.f_Lerror cdv A outer s H E p).nox := ⟨p, hot, List.mem_singleton.mpr rfl⟩
    have hp : (p.1, p.2) ∈ (L2H.cxH CX0 P w K mg base ["_law_e", "_law_told", "_law_name", "_law_holds"] "_law_error" (defScope s_Lerror) T.f_Lerror cdv A outer s H E p).nox.pn := List.mem_singleton.mpr rfl
    have ne_BadText : T.C_TooLong ≠ T.C_BadText := fun e => by
      have h1 := T.sub_TooLong_TooLong
      exact nomatch (h1.symm.trans ((congrArg (fun z => PySem.W.subIn K (.ref T.C_TooLong) (.ref z)) e).trans T.sub_TooLong_BadText))
    have ne_BadValue : T.C_TooLong ≠ T.C_BadValue := fun e => by
      have h1 := T.sub_TooLong_TooLong
      exact nomatch (h1.symm.trans ((congrArg (fun z => PySem.W.subIn K (.ref T.C_TooLong) (.ref z)) e).trans T.sub_TooLong_BadValue))
    have ne_NotNow : T.C_TooLong ≠ T.C_NotNow := fun e => by
      have h1 := T.sub_TooLong_TooLong
      exact nomatch (h1.symm.trans ((congrArg (fun z => PySem.W.subIn K (.ref T.C_TooLong) (.ref z)) e).trans T.sub_TooLong_NotNow))
    have ne_NotLet : T.C_TooLong ≠ T.C_NotLet := fun e => by
      have h1 := T.sub_TooLong_TooLong
      exact nomatch (h1.symm.trans ((congrArg (fun z => PySem.W.subIn K (.ref T.C_TooLong) (.ref z)) e).trans T.sub_TooLong_NotLet))
    have ne_FolderFull : T.C_TooLong ≠ T.C_FolderFull := fun e => by
      have h1 := T.sub_TooLong_TooLong
      exact nomatch (h1.symm.trans ((congrArg (fun z => PySem.W.subIn K (.ref T.C_TooLong) (.ref z)) e).trans T.sub_TooLong_FolderFull))
    have ne_NodesFull : T.C_TooLong ≠ T.C_NodesFull := fun e => by
      have h1 := T.sub_TooLong_TooLong
      exact nomatch (h1.symm.trans ((congrArg (fun z => PySem.W.subIn K (.ref T.C_TooLong) (.ref z)) e).trans T.sub_TooLong_NodesFull))
    have ne_BlocksFull : T.C_TooLong ≠ T.C_BlocksFull := fun e => by
      have h1 := T.sub_TooLong_TooLong
      exact nomatch (h1.symm.trans ((congrArg (fun z => PySem.W.subIn K (.ref T.C_TooLong) (.ref z)) e).trans T.sub_TooLong_BlocksFull))
    have ne_OverQuota : T.C_TooLong ≠ T.C_OverQuota := fun e => by
      have h1 := T.sub_TooLong_TooLong
      exact nomatch (h1.symm.trans ((congrArg (fun z => PySem.W.subIn K (.ref T.C_TooLong) (.ref z)) e).trans T.sub_TooLong_OverQuota))
    have ne_Unfinished : T.C_TooLong ≠ T.C_Unfinished := fun e => by
      have h1 := T.sub_TooLong_TooLong
      exact nomatch (h1.symm.trans ((congrArg (fun z => PySem.W.subIn K (.ref T.C_TooLong) (.ref z)) e).trans T.sub_TooLong_Unfinished))
    have ne_ListFull : T.C_TooLong ≠ T.C_ListFull := fun e => by
      have h1 := T.sub_TooLong_TooLong
      exact nomatch (h1.symm.trans ((congrArg (fun z => PySem.W.subIn K (.ref T.C_TooLong) (.ref z)) e).trans T.sub_TooLong_ListFull))
    refine ⟨_, PSs.nox (pss_cons (ps_set (i := 1) sc_Lerror.nd rfl (.inl rfl) (pe_lst pa_nil))
      (pss_cons (L2H.ps_forH PassesOwn.never hc (pi_listH (pe_lst (pa_cons (pe_tup (pa_cons pe_str (pa_cons (pe_callB (call_isP T.ec_TooLong hz hf hp) rfl T.b_isinstance (by decide +kernel) (pa_cons (pv 0) (pa_cons (pe_glob (v := .ref T.C_Unfinished) rfl T.mg_Unfinished rfl) pa_nil))) pa_nil))) (pa_cons (pe_tup (pa_cons pe_str (pa_cons (pe_callB (call_isP T.ec_TooLong hz hf hp) rfl T.b_isinstance (by decide +kernel) (pa_cons (pv 0) (pa_cons (pe_glob (v := .ref T.C_TooLong) rfl T.mg_TooLong rfl) pa_nil))) pa_nil))) (pa_cons (pe_tup (pa_cons pe_str (pa_cons (pe_callB (call_isP T.ec_TooLong hz hf hp) rfl T.b_isinstance (by decide +kernel) (pa_cons (pv 0) (pa_cons (pe_glob (v := .ref T.C_OverQuota) rfl T.mg_OverQuota rfl) pa_nil))) pa_nil))) (pa_cons (pe_tup (pa_cons pe_str (pa_cons (pe_callB (call_isP T.ec_TooLong hz hf hp) rfl T.b_isinstance (by decide +kernel) (pa_cons (pv 0) (pa_cons (pe_glob (v := .ref T.C_BlocksFull) rfl T.mg_BlocksFull rfl) pa_nil))) pa_nil))) (pa_cons (pe_tup (pa_cons pe_str (pa_cons (pe_callB (call_isP T.ec_TooLong hz hf hp) rfl T.b_isinstance (by decide +kernel) (pa_cons (pv 0) (pa_cons (pe_glob (v := .ref T.C_NodesFull) rfl T.mg_NodesFull rfl) pa_nil))) pa_nil))) (pa_cons (pe_tup (pa_cons pe_str (pa_cons (pe_callB (call_isP T.ec_TooLong hz hf hp) rfl T.b_isinstance (by decide +kernel) (pa_cons (pv 0) (pa_cons (pe_glob (v := .ref T.C_FolderFull) rfl T.mg_FolderFull rfl) pa_nil))) pa_nil))) (pa_cons (pe_tup (pa_cons pe_str (pa_cons (pe_callB (call_isP T.ec_TooLong hz hf hp) rfl T.b_isinstance (by decide +kernel) (pa_cons (pv 0) (pa_cons (pe_glob (v := .ref T.C_ListFull) rfl T.mg_ListFull rfl) pa_nil))) pa_nil))) (pa_cons (pe_tup (pa_cons pe_str (pa_cons (pe_callB (call_isP T.ec_TooLong hz hf hp) rfl T.b_isinstance (by decide +kernel) (pa_cons (pv 0) (pa_cons (pe_glob (v := .ref T.C_BadText) rfl T.mg_BadText rfl) pa_nil))) pa_nil))) (pa_cons (pe_tup (pa_cons pe_str (pa_cons (pe_callB (call_isP T.ec_TooLong hz hf hp) rfl T.b_isinstance (by decide +kernel) (pa_cons (pv 0) (pa_cons (pe_glob (v := .ref T.C_BadValue) rfl T.mg_BadValue rfl) pa_nil))) pa_nil))) (pa_cons (pe_tup (pa_cons pe_str (pa_cons (pe_callB (call_isP T.ec_TooLong hz hf hp) rfl T.b_isinstance (by decide +kernel) (pa_cons (pv 0) (pa_cons (pe_glob (v := .ref T.C_NotNow) rfl T.mg_NotNow rfl) pa_nil))) pa_nil))) (pa_cons (pe_tup (pa_cons pe_str (pa_cons (pe_callB (call_isP T.ec_TooLong hz hf hp) rfl T.b_isinstance (by decide +kernel) (pa_cons (pv 0) (pa_cons (pe_glob (v := .ref T.C_NotLet) rfl T.mg_NotLet rfl) pa_nil))) pa_nil))) (pa_cons (pe_tup (pa_cons pe_str (pa_cons (pe_not (pe_callB (call_isP T.ec_TooLong hz hf hp) rfl T.b_isinstance (by decide +kernel) (pa_cons (pv 0) (pa_cons (pe_glob (v := .ref T.C_StoreError) rfl T.mg_StoreError rfl) pa_nil)))) pa_nil))) (pa_cons (pe_tup (pa_cons pe_str (pa_cons (pe_not (pe_callB (call_isP T.ec_TooLong hz hf hp) rfl T.b_isinstance (by decide +kernel) (pa_cons (pv 0) (pa_cons (pe_bltn (v := .ty "ValueError") rfl T.b_ValueError (by decide +kernel) rfl) pa_nil)))) pa_nil))) pa_nil))))))))))))))) (pg_tupH hc (pgs_cons (pg_name (i := 2) sc_Lerror.nd rfl (.inl rfl)) (pgs_cons (pg_name (i := 3) sc_Lerror.nd rfl (.inl rfl)) pgs_nil)))
        (pss_one (ps_if (pt_val (pv 3))
          (pss_one (ps_expr (pe_bm PySem.F.plainAttrs_list PySem.F.slot_list_append PySem.F.type_list_append mt_append (pv 1) (pa_cons (pv 2) pa_nil))))
          pss_nil)))
      (pss_one (ps_ret (pe_tup (pa_cons pe_str (pa_cons (pv 1) pa_nil))))))), ?_⟩
    refine ⟨Nat.zero_le _, fun q n0 => ?_⟩
    have s0 := same_upd (o := .lst []) n0; have e0 : upd H q (.lst []) q = some (.lst []) := upd_same; generalize upd H q (.lst []) = H0 at s0 e0 ⊢
    refine ⟨_, rfl, _, _, false, rfl, fun u hu => hu, kit_sub ne_Unfinished T.ie_Unfinished T.te_Unfinished T.sub_TooLong_Unfinished, (by show 2 ≤ sizeLine; decide), fun t0 n1 => ?_⟩
    have s1 := same_upd (o := .tup [V.str "Unfinished", V.bl false]) n1; have e1 : upd H0 t0 (.tup [V.str "Unfinished", V.bl false]) t0 = some (.tup [V.str "Unfinished", V.bl false]) := upd_same; generalize upd H0 t0 (.tup [V.str "Unfinished", V.bl false]) = H1 at s1 e1 ⊢
    refine ⟨_, rfl, _, _, true, rfl, fun u hu => hu, kit_self, (by show 2 ≤ sizeLine; decide), fun t1 n2 => ?_⟩
    have s2 := same_upd (o := .tup [V.str "TooLong", V.bl true]) n2; have e2 : upd H1 t1 (.tup [V.str "TooLong", V.bl true]) t1 = some (.tup [V.str "TooLong", V.bl true]) := upd_same; generalize upd H1 t1 (.tup [V.str "TooLong", V.bl true]) = H2 at s2 e2 ⊢
    refine ⟨_, rfl, _, _, false, rfl, fun u hu => hu, kit_sub ne_OverQuota T.ie_OverQuota T.te_OverQuota T.sub_TooLong_OverQuota, (by show 2 ≤ sizeLine; decide), fun t2 n3 => ?_⟩
    have s3 := same_upd (o := .tup [V.str "OverQuota", V.bl false]) n3; have e3 : upd H2 t2 (.tup [V.str "OverQuota", V.bl false]) t2 = some (.tup [V.str "OverQuota", V.bl false]) := upd_same; generalize upd H2 t2 (.tup [V.str "OverQuota", V.bl false]) = H3 at s3 e3 ⊢
    refine ⟨_, rfl, _, _, false, rfl, fun u hu => hu, kit_sub ne_BlocksFull T.ie_BlocksFull T.te_BlocksFull T.sub_TooLong_BlocksFull, (by show 2 ≤ sizeLine; decide), fun t3 n4 => ?_⟩
    have s4 := same_upd (o := .tup [V.str "BlocksFull", V.bl false]) n4; have e4 : upd H3 t3 (.tup [V.str "BlocksFull", V.bl false]) t3 = some (.tup [V.str "BlocksFull", V.bl false]) := upd_same; generalize upd H3 t3 (.tup [V.str "BlocksFull", V.bl false]) = H4 at s4 e4 ⊢
    refine ⟨_, rfl, _, _, false, rfl, fun u hu => hu, kit_sub ne_NodesFull T.ie_NodesFull T.te_NodesFull T.sub_TooLong_NodesFull, (by show 2 ≤ sizeLine; decide), fun t4 n5 => ?_⟩
    have s5 := same_upd (o := .tup [V.str "NodesFull", V.bl false]) n5; have e5 : upd H4 t4 (.tup [V.str "NodesFull", V.bl false]) t4 = some (.tup [V.str "NodesFull", V.bl false]) := upd_same; generalize upd H4 t4 (.tup [V.str "NodesFull", V.bl false]) = H5 at s5 e5 ⊢
    refine ⟨_, rfl, _, _, false, rfl, fun u hu => hu, kit_sub ne_FolderFull T.ie_FolderFull T.te_FolderFull T.sub_TooLong_FolderFull, (by show 2 ≤ sizeLine; decide), fun t5 n6 => ?_⟩
    have s6 := same_upd (o := .tup [V.str "FolderFull", V.bl false]) n6; have e6 : upd H5 t5 (.tup [V.str "FolderFull", V.bl false]) t5 = some (.tup [V.str "FolderFull", V.bl false]) := upd_same; generalize upd H5 t5 (.tup [V.str "FolderFull", V.bl false]) = H6 at s6 e6 ⊢
    refine ⟨_, rfl, _, _, false, rfl, fun u hu => hu, kit_sub ne_ListFull T.ie_ListFull T.te_ListFull T.sub_TooLong_ListFull, (by show 2 ≤ sizeLine; decide), fun t6 n7 => ?_⟩
    have s7 := same_upd (o := .tup [V.str "ListFull", V.bl false]) n7; have e7 : upd H6 t6 (.tup [V.str "ListFull", V.bl false]) t6 = some (.tup [V.str "ListFull", V.bl false]) := upd_same; generalize upd H6 t6 (.tup [V.str "ListFull", V.bl false]) = H7 at s7 e7 ⊢
    refine ⟨_, rfl, _, _, false, rfl, fun u hu => hu, kit_sub ne_BadText T.ie_BadText T.te_BadText T.sub_TooLong_BadText, (by show 2 ≤ sizeLine; decide), fun t7 n8 => ?_⟩
    have s8 := same_upd (o := .tup [V.str "BadText", V.bl false]) n8; have e8 : upd H7 t7 (.tup [V.str "BadText", V.bl false]) t7 = some (.tup [V.str "BadText", V.bl false]) := upd_same; generalize upd H7 t7 (.tup [V.str "BadText", V.bl false]) = H8 at s8 e8 ⊢
    refine ⟨_, rfl, _, _, false, rfl, fun u hu => hu, kit_sub ne_BadValue T.ie_BadValue T.te_BadValue T.sub_TooLong_BadValue, (by show 2 ≤ sizeLine; decide), fun t8 n9 => ?_⟩
    have s9 := same_upd (o := .tup [V.str "BadValue", V.bl false]) n9; have e9 : upd H8 t8 (.tup [V.str "BadValue", V.bl false]) t8 = some (.tup [V.str "BadValue", V.bl false]) := upd_same; generalize upd H8 t8 (.tup [V.str "BadValue", V.bl false]) = H9 at s9 e9 ⊢
    refine ⟨_, rfl, _, _, false, rfl, fun u hu => hu, kit_sub ne_NotNow T.ie_NotNow T.te_NotNow T.sub_TooLong_NotNow, (by show 2 ≤ sizeLine; decide), fun t9 n10 => ?_⟩
    have s10 := same_upd (o := .tup [V.str "NotNow", V.bl false]) n10; have e10 : upd H9 t9 (.tup [V.str "NotNow", V.bl false]) t9 = some (.tup [V.str "NotNow", V.bl false]) := upd_same; generalize upd H9 t9 (.tup [V.str "NotNow", V.bl false]) = H10 at s10 e10 ⊢
    refine ⟨_, rfl, _, _, false, rfl, fun u hu => hu, kit_sub ne_NotLet T.ie_NotLet T.te_NotLet T.sub_TooLong_NotLet, (by show 2 ≤ sizeLine; decide), fun t10 n11 => ?_⟩
    have s11 := same_upd (o := .tup [V.str "NotLet", V.bl false]) n11; have e11 : upd H10 t10 (.tup [V.str "NotLet", V.bl false]) t10 = some (.tup [V.str "NotLet", V.bl false]) := upd_same; generalize upd H10 t10 (.tup [V.str "NotLet", V.bl false]) = H11 at s11 e11 ⊢
    refine ⟨_, rfl, _, _, true, rfl, fun u hu => hu, kit_subT T.ie_StoreError T.te_StoreError T.sub_TooLong_StoreError, _, rfl, (by show 2 ≤ sizeLine; decide), fun t11 n12 => ?_⟩
    have s12 := same_upd (o := .tup [V.str "no StoreError", V.bl (!true)]) n12; have e12 : upd H11 t11 (.tup [V.str "no StoreError", V.bl (!true)]) t11 = some (.tup [V.str "no StoreError", V.bl (!true)]) := upd_same; generalize upd H11 t11 (.tup [V.str "no StoreError", V.bl (!true)]) = H12 at s12 e12 ⊢
    refine ⟨_, rfl, _, _, true, rfl, fun u hu => hu, kit_blt (by decide +kernel) T.bsub_TooLong_ValueError, _, rfl, (by show 2 ≤ sizeLine; decide), fun t12 n13 => ?_⟩
    have s13 := same_upd (o := .tup [V.str "no ValueError", V.bl (!true)]) n13; have e13 : upd H12 t12 (.tup [V.str "no ValueError", V.bl (!true)]) t12 = some (.tup [V.str "no ValueError", V.bl (!true)]) := upd_same; generalize upd H12 t12 (.tup [V.str "no ValueError", V.bl (!true)]) = H13 at s13 e13 ⊢
    refine ⟨by show 13 ≤ sizeLine; decide, fun l nl => ?_⟩
    have sl := same_upd (o := .lst [V.ref t0, V.ref t1, V.ref t2, V.ref t3, V.ref t4, V.ref t5, V.ref t6, V.ref t7, V.ref t8, V.ref t9, V.ref t10, V.ref t11, V.ref t12]) nl; have el : upd H13 l (.lst [V.ref t0, V.ref t1, V.ref t2, V.ref t3, V.ref t4, V.ref t5, V.ref t6, V.ref t7, V.ref t8, V.ref t9, V.ref t10, V.ref t11, V.ref t12]) l = some (.lst [V.ref t0, V.ref t1, V.ref t2, V.ref t3, V.ref t4, V.ref t5, V.ref t6, V.ref t7, V.ref t8, V.ref t9, V.ref t10, V.ref t11, V.ref t12]) := upd_same; generalize upd H13 l (.lst [V.ref t0, V.ref t1, V.ref t2, V.ref t3, V.ref t4, V.ref t5, V.ref t6, V.ref t7, V.ref t8, V.ref t9, V.ref t10, V.ref t11, V.ref t12]) = Hl at sl el ⊢
    have S13 : Same H13 Hl := sl
    have S12 : Same H12 Hl := s13.trans S13
    have S11 : Same H11 Hl := s12.trans S12
    have S10 : Same H10 Hl := s11.trans S11
    have S9 : Same H9 Hl := s10.trans S10
    have S8 : Same H8 Hl := s9.trans S9
    have S7 : Same H7 Hl := s8.trans S8
    have S6 : Same H6 Hl := s7.trans S7
    have S5 : Same H5 Hl := s6.trans S6
    have S4 : Same H4 Hl := s5.trans S5
    have S3 : Same H3 Hl := s4.trans S4
    have S2 : Same H2 Hl := s3.trans S3
    have S1 : Same H1 Hl := s2.trans S2
    have S0 : Same H0 Hl := s1.trans S1
    have SH : Same H Hl := s0.trans S0
    have Q0 : H0 q = some (.lst []) := e0
    have Q1 : H1 q = some (.lst []) := s1 _ _ Q0
    have Q2 : H2 q = some (.lst []) := s2 _ _ Q1
    have Q3 : H3 q = some (.lst []) := s3 _ _ Q2
    have Q4 : H4 q = some (.lst []) := s4 _ _ Q3
    have Q5 : H5 q = some (.lst []) := s5 _ _ Q4
    have Q6 : H6 q = some (.lst []) := s6 _ _ Q5
    have Q7 : H7 q = some (.lst []) := s7 _ _ Q6
    have Q8 : H8 q = some (.lst []) := s8 _ _ Q7
    have Q9 : H9 q = some (.lst []) := s9 _ _ Q8
    have Q10 : H10 q = some (.lst []) := s10 _ _ Q9
    have Q11 : H11 q = some (.lst []) := s11 _ _ Q10
    have Q12 : H12 q = some (.lst []) := s12 _ _ Q11
    have Q13 : H13 q = some (.lst []) := s13 _ _ Q12
    have Ql : Hl q = some (.lst []) := sl _ _ Q13
    have ht : ∀ (i : Nat) (t : V), ([V.ref t0, V.ref t1, V.ref t2, V.ref t3, V.ref t4, V.ref t5, V.ref t6, V.ref t7, V.ref t8, V.ref t9, V.ref t10, V.ref t11, V.ref t12] : List V)[i]? = some t → ∃ ta n b, t = .ref ta ∧ ([("Unfinished", false), ("TooLong", true), ("OverQuota", false), ("BlocksFull", false), ("NodesFull", false), ("FolderFull", false), ("ListFull", false), ("BadText", false), ("BadValue", false), ("NotNow", false), ("NotLet", false), ("no StoreError", false), ("no ValueError", false)] : List (Str × Bool))[i]? = some (n, b) ∧ Hl ta = some (.tup [.str n, .bl b]) ∧ ta ≠ q := by
      intro i t hi
      match i, hi with
      | 0, hi => cases hi; exact ⟨_, _, _, rfl, rfl, S1 _ _ e1, (ne_of_none Q0 n1).symm⟩
      | 1, hi => cases hi; exact ⟨_, _, _, rfl, rfl, S2 _ _ e2, (ne_of_none Q1 n2).symm⟩
      | 2, hi => cases hi; exact ⟨_, _, _, rfl, rfl, S3 _ _ e3, (ne_of_none Q2 n3).symm⟩
      | 3, hi => cases hi; exact ⟨_, _, _, rfl, rfl, S4 _ _ e4, (ne_of_none Q3 n4).symm⟩
      | 4, hi => cases hi; exact ⟨_, _, _, rfl, rfl, S5 _ _ e5, (ne_of_none Q4 n5).symm⟩
      | 5, hi => cases hi; exact ⟨_, _, _, rfl, rfl, S6 _ _ e6, (ne_of_none Q5 n6).symm⟩
      | 6, hi => cases hi; exact ⟨_, _, _, rfl, rfl, S7 _ _ e7, (ne_of_none Q6 n7).symm⟩
      | 7, hi => cases hi; exact ⟨_, _, _, rfl, rfl, S8 _ _ e8, (ne_of_none Q7 n8).symm⟩
      | 8, hi => cases hi; exact ⟨_, _, _, rfl, rfl, S9 _ _ e9, (ne_of_none Q8 n9).symm⟩
      | 9, hi => cases hi; exact ⟨_, _, _, rfl, rfl, S10 _ _ e10, (ne_of_none Q9 n10).symm⟩
      | 10, hi => cases hi; exact ⟨_, _, _, rfl, rfl, S11 _ _ e11, (ne_of_none Q10 n11).symm⟩
      | 11, hi => cases hi; exact ⟨_, _, _, rfl, rfl, S12 _ _ e12, (ne_of_none Q11 n12).symm⟩
      | 12, hi => cases hi; exact ⟨_, _, _, rfl, rfl, S13 _ _ e13, (ne_of_none Q12 n13).symm⟩
      | n + 13, hi => simp at hi
    refine ⟨l, rfl, ⟨_, .of el⟩, for_list (K := K) (a := l) (xs := [V.ref t0, V.ref t1, V.ref t2, V.ref t3, V.ref t4, V.ref t5, V.ref t6, V.ref t7, V.ref t8, V.ref t9, V.ref t10, V.ref t11, V.ref t12]) (fun i σ H' => ∃ (v2 v3 : Option V), σ = [some (.ref p.1), some (.ref q), v2, v3] ∧ H' = upd Hl q (.lst (((([("Unfinished", false), ("TooLong", true), ("OverQuota", false), ("BlocksFull", false), ("NodesFull", false), ("FolderFull", false), ("ListFull", false), ("BadText", false), ("BadValue", false), ("NotNow", false), ("NotLet", false), ("no StoreError", false), ("no ValueError", false)] : List (Str × Bool)).take i).filter (·.2)).map fun x => V.str x.1)))
      ⟨_, _, rfl, (upd_id Ql).symm⟩ (fun i σ H' _ h => ?_) ?_ ?_⟩
    · obtain ⟨v2, v3, _, rfl⟩ := h
      exact .of (by rw [upd_ne (ne_of_none Q13 nl).symm]; exact el)
    · rintro i y σ H' hi ⟨v2, v3, rfl, rfl⟩
      obtain ⟨ta, n, b, rfl, e2, e3, e4⟩ := ht i y hi
      have e3' : upd Hl q (.lst (((([("Unfinished", false), ("TooLong", true), ("OverQuota", false), ("BlocksFull", false), ("NodesFull", false), ("FolderFull", false), ("ListFull", false), ("BadText", false), ("BadValue", false), ("NotNow", false), ("NotLet", false), ("no StoreError", false), ("no ValueError", false)] : List (Str × Bool)).take i).filter (·.2)).map fun x => V.str x.1)) ta = some (.tup [.str n, .bl b]) := by rw [upd_ne e4]; exact e3
      have et := takeB e2
      refine ⟨ta, _, rfl, .of e3', rfl, _, _, rfl, _, _, rfl, rfl, ?_⟩
      refine ⟨_, rfl, b, rfl, ?_⟩
      cases b with
      | true =>
        refine iteT ⟨.ref q, rfl, .inl ⟨rfl, _, .inl (.inl upd_same)⟩, _, rfl, q, _, _, rfl, rfl, upd_same, ?_, ?_⟩
        · rw [List.length_map]; exact small1000 (Nat.le_trans (List.length_filter_le _ _) (Nat.le_trans (List.length_take_le' _ _) (by decide)))
        · refine ⟨_, _, rfl, ?_⟩
          rw [upd_upd, et, List.filter_append, List.map_append]; rfl
      | false =>
        refine iteF ⟨_, _, rfl, ?_⟩
        rw [et, List.filter_append, List.map_append, show List.map (fun x : Str × Bool => V.str x.1) (List.filter (·.2) [(n, false)]) = [] from rfl, List.append_nil]
    · rintro σ H' ⟨v2, v3, rfl, rfl⟩
      have nq := n0
      have SF : Same H (upd Hl q (.lst (((([("Unfinished", false), ("TooLong", true), ("OverQuota", false), ("BlocksFull", false), ("NodesFull", false), ("FolderFull", false), ("ListFull", false), ("BadText", false), ("BadValue", false), ("NotNow", false), ("NotLet", false), ("no StoreError", false), ("no ValueError", false)] : List (Str × Bool)).take 13).filter (·.2)).map fun x => V.str x.1))) := fun x o e => by rw [upd_ne (ne_of_none e nq)]; exact SH _ _ e
      have eq : upd Hl q (.lst (((([("Unfinished", false), ("TooLong", true), ("OverQuota", false), ("BlocksFull", false), ("NodesFull", false), ("FolderFull", false), ("ListFull", false), ("BadText", false), ("BadValue", false), ("NotNow", false), ("NotLet", false), ("no StoreError", false), ("no ValueError", false)] : List (Str × Bool)).take 13).filter (·.2)).map fun x => V.str x.1)) q = some (.lst ((["TooLong"] : List Str).map V.str)) := upd_same
      generalize upd Hl q (.lst (((([("Unfinished", false), ("TooLong", true), ("OverQuota", false), ("BlocksFull", false), ("NodesFull", false), ("FolderFull", false), ("ListFull", false), ("BadText", false), ("BadValue", false), ("NotNow", false), ("NotLet", false), ("no StoreError", false), ("no ValueError", false)] : List (Str × Bool)).take 13).filter (·.2)).map fun x => V.str x.1)) = HF at SF eq ⊢
      refine ⟨_, rfl, (by show 2 ≤ sizeLine; decide), fun t nt => k _ q t (SF.trans (same_upd nt)) nq (SF.free nt) (fun z => by rw [← z, eq] at nt; cases nt) (same_upd nt _ _ eq) upd_same⟩
theorem ok_Lerror_Unfinished (T : Tx K mg) : FnE P w K mg base 1 T.f_Lerror T.fd_Lerror ["_law_e"] T.C_Unfinished (sp_Lerror ["Unfinished"]) := by
  refine T.F_Lerror.okE sc_Lerror (fun a vs H Q E h => ?_) (fun cdv A outer s H vs Q E p hot hz hr h => ?_)
  · obtain ⟨rfl, _⟩ := h; rfl
  · obtain ⟨rfl, k⟩ := h
    have hf : ∃ vs, p.2.data = .fields vs := hot.2.elim fun vs h => ⟨vs, h.1⟩
    have hc : L2H.HotC (L2H.cxH CX0 P w K mg base ["_law_e", "_law_told", "_law_name", "_law_holds"] "_law_error" (defScope s_Lerror) T.f_Lerror cdv A outer s H E p).nox := ⟨p, hot, List.mem_singleton.mpr rfl⟩
    have hp : (p.1, p.2) ∈ (L2H.cxH CX0 P w K mg base ["_law_e", "_law_told", "_law_name", "_law_holds"] "_law_error" (defScope s_Lerror) T.f_Lerror cdv A outer s H E p).nox.pn := List.mem_singleton.mpr rfl
    have ne_BadText : T.C_Unfinished ≠ T.C_BadText := fun e => by
      have h1 := T.sub_Unfinished_Unfinished
      exact nomatch (h1.symm.trans ((congrArg (fun z => PySem.W.subIn K (.ref T.C_Unfinished) (.ref z)) e).trans T.sub_Unfinished_BadText))
    have ne_BadValue : T.C_Unfinished ≠ T.C_BadValue := fun e => by
      have h1 := T.sub_Unfinished_Unfinished
      exact nomatch (h1.symm.trans ((congrArg (fun z => PySem.W.subIn K (.ref T.C_Unfinished) (.ref z)) e).trans T.sub_Unfinished_BadValue))
    have ne_NotNow : T.C_Unfinished ≠ T.C_NotNow := fun e => by
      have h1 := T.sub_Unfinished_Unfinished
      exact nomatch (h1.symm.trans ((congrArg (fun z => PySem.W.subIn K (.ref T.C_Unfinished) (.ref z)) e).trans T.sub_Unfinished_NotNow))
    have ne_NotLet : T.C_Unfinished ≠ T.C_NotLet := fun e => by
      have h1 := T.sub_Unfinished_Unfinished
      exact nomatch (h1.symm.trans ((congrArg (fun z => PySem.W.subIn K (.ref T.C_Unfinished) (.ref z)) e).trans T.sub_Unfinished_NotLet))
    have ne_FolderFull : T.C_Unfinished ≠ T.C_FolderFull := fun e => by
      have h1 := T.sub_Unfinished_Unfinished
      exact nomatch (h1.symm.trans ((congrArg (fun z => PySem.W.subIn K (.ref T.C_Unfinished) (.ref z)) e).trans T.sub_Unfinished_FolderFull))
    have ne_NodesFull : T.C_Unfinished ≠ T.C_NodesFull := fun e => by
      have h1 := T.sub_Unfinished_Unfinished
      exact nomatch (h1.symm.trans ((congrArg (fun z => PySem.W.subIn K (.ref T.C_Unfinished) (.ref z)) e).trans T.sub_Unfinished_NodesFull))
    have ne_BlocksFull : T.C_Unfinished ≠ T.C_BlocksFull := fun e => by
      have h1 := T.sub_Unfinished_Unfinished
      exact nomatch (h1.symm.trans ((congrArg (fun z => PySem.W.subIn K (.ref T.C_Unfinished) (.ref z)) e).trans T.sub_Unfinished_BlocksFull))
    have ne_OverQuota : T.C_Unfinished ≠ T.C_OverQuota := fun e => by
      have h1 := T.sub_Unfinished_Unfinished
      exact nomatch (h1.symm.trans ((congrArg (fun z => PySem.W.subIn K (.ref T.C_Unfinished) (.ref z)) e).trans T.sub_Unfinished_OverQuota))
    have ne_TooLong : T.C_Unfinished ≠ T.C_TooLong := fun e => by
      have h1 := T.sub_Unfinished_Unfinished
      exact nomatch (h1.symm.trans ((congrArg (fun z => PySem.W.subIn K (.ref T.C_Unfinished) (.ref z)) e).trans T.sub_Unfinished_TooLong))
    have ne_ListFull : T.C_Unfinished ≠ T.C_ListFull := fun e => by
      have h1 := T.sub_Unfinished_Unfinished
      exact nomatch (h1.symm.trans ((congrArg (fun z => PySem.W.subIn K (.ref T.C_Unfinished) (.ref z)) e).trans T.sub_Unfinished_ListFull))
    refine ⟨_, PSs.nox (pss_cons (ps_set (i := 1) sc_Lerror.nd rfl (.inl rfl) (pe_lst pa_nil))
      (pss_cons (L2H.ps_forH PassesOwn.never hc (pi_listH (pe_lst (pa_cons (pe_tup (pa_cons pe_str (pa_cons (pe_callB (call_isP T.ec_Unfinished hz hf hp) rfl T.b_isinstance (by decide +kernel) (pa_cons (pv 0) (pa_cons (pe_glob (v := .ref T.C_Unfinished) rfl T.mg_Unfinished rfl) pa_nil))) pa_nil))) (pa_cons (pe_tup (pa_cons pe_str (pa_cons (pe_callB (call_isP T.ec_Unfinished hz hf hp) rfl T.b_isinstance (by decide +kernel) (pa_cons (pv 0) (pa_cons (pe_glob (v := .ref T.C_TooLong) rfl T.mg_TooLong rfl) pa_nil))) pa_nil))) (pa_cons (pe_tup (pa_cons pe_str (pa_cons (pe_callB (call_isP T.ec_Unfinished hz hf hp) rfl T.b_isinstance (by decide +kernel) (pa_cons (pv 0) (pa_cons (pe_glob (v := .ref T.C_OverQuota) rfl T.mg_OverQuota rfl) pa_nil))) pa_nil))) (pa_cons (pe_tup (pa_cons pe_str (pa_cons (pe_callB (call_isP T.ec_Unfinished hz hf hp) rfl T.b_isinstance (by decide +kernel) (pa_cons (pv 0) (pa_cons (pe_glob (v := .ref T.C_BlocksFull) rfl T.mg_BlocksFull rfl) pa_nil))) pa_nil))) (pa_cons (pe_tup (pa_cons pe_str (pa_cons (pe_callB (call_isP T.ec_Unfinished hz hf hp) rfl T.b_isinstance (by decide +kernel) (pa_cons (pv 0) (pa_cons (pe_glob (v := .ref T.C_NodesFull) rfl T.mg_NodesFull rfl) pa_nil))) pa_nil))) (pa_cons (pe_tup (pa_cons pe_str (pa_cons (pe_callB (call_isP T.ec_Unfinished hz hf hp) rfl T.b_isinstance (by decide +kernel) (pa_cons (pv 0) (pa_cons (pe_glob (v := .ref T.C_FolderFull) rfl T.mg_FolderFull rfl) pa_nil))) pa_nil))) (pa_cons (pe_tup (pa_cons pe_str (pa_cons (pe_callB (call_isP T.ec_Unfinished hz hf hp) rfl T.b_isinstance (by decide +kernel) (pa_cons (pv 0) (pa_cons (pe_glob (v := .ref T.C_ListFull) rfl T.mg_ListFull rfl) pa_nil))) pa_nil))) (pa_cons (pe_tup (pa_cons pe_str (pa_cons (pe_callB (call_isP T.ec_Unfinished hz hf hp) rfl T.b_isinstance (by decide +kernel) (pa_cons (pv 0) (pa_cons (pe_glob (v := .ref T.C_BadText) rfl T.mg_BadText rfl) pa_nil))) pa_nil))) (pa_cons (pe_tup (pa_cons pe_str (pa_cons (pe_callB (call_isP T.ec_Unfinished hz hf hp) rfl T.b_isinstance (by decide +kernel) (pa_cons (pv 0) (pa_cons (pe_glob (v := .ref T.C_BadValue) rfl T.mg_BadValue rfl) pa_nil))) pa_nil))) (pa_cons (pe_tup (pa_cons pe_str (pa_cons (pe_callB (call_isP T.ec_Unfinished hz hf hp) rfl T.b_isinstance (by decide +kernel) (pa_cons (pv 0) (pa_cons (pe_glob (v := .ref T.C_NotNow) rfl T.mg_NotNow rfl) pa_nil))) pa_nil))) (pa_cons (pe_tup (pa_cons pe_str (pa_cons (pe_callB (call_isP T.ec_Unfinished hz hf hp) rfl T.b_isinstance (by decide +kernel) (pa_cons (pv 0) (pa_cons (pe_glob (v := .ref T.C_NotLet) rfl T.mg_NotLet rfl) pa_nil))) pa_nil))) (pa_cons (pe_tup (pa_cons pe_str (pa_cons (pe_not (pe_callB (call_isP T.ec_Unfinished hz hf hp) rfl T.b_isinstance (by decide +kernel) (pa_cons (pv 0) (pa_cons (pe_glob (v := .ref T.C_StoreError) rfl T.mg_StoreError rfl) pa_nil)))) pa_nil))) (pa_cons (pe_tup (pa_cons pe_str (pa_cons (pe_not (pe_callB (call_isP T.ec_Unfinished hz hf hp) rfl T.b_isinstance (by decide +kernel) (pa_cons (pv 0) (pa_cons (pe_bltn (v := .ty "ValueError") rfl T.b_ValueError (by decide +kernel) rfl) pa_nil)))) pa_nil))) pa_nil))))))))))))))) (pg_tupH hc (pgs_cons (pg_name (i := 2) sc_Lerror.nd rfl (.inl rfl)) (pgs_cons (pg_name (i := 3) sc_Lerror.nd rfl (.inl rfl)) pgs_nil)))
        (pss_one (ps_if (pt_val (pv 3))
          (pss_one (ps_expr (pe_bm PySem.F.plainAttrs_list PySem.F.slot_list_append PySem.F.type_list_append mt_append (pv 1) (pa_cons (pv 2) pa_nil))))
          pss_nil)))
      (pss_one (ps_ret (pe_tup (pa_cons pe_str (pa_cons (pv 1) pa_nil))))))), ?_⟩
    refine ⟨Nat.zero_le _, fun q n0 => ?_⟩
    have s0 := same_upd (o := .lst []) n0; have e0 : upd H q (.lst []) q = some (.lst []) := upd_same; generalize upd H q (.lst []) = H0 at s0 e0 ⊢
    refine ⟨_, rfl, _, _, true, rfl, fun u hu => hu, kit_self, (by show 2 ≤ sizeLine; decide), fun t0 n1 => ?_⟩
    have s1 := same_upd (o := .tup [V.str "Unfinished", V.bl true]) n1; have e1 : upd H0 t0 (.tup [V.str "Unfinished", V.bl true]) t0 = some (.tup [V.str "Unfinished", V.bl true]) := upd_same; generalize upd H0 t0 (.tup [V.str "Unfinished", V.bl true]) = H1 at s1 e1 ⊢
    refine ⟨_, rfl, _, _, false, rfl, fun u hu => hu, kit_sub ne_TooLong T.ie_TooLong T.te_TooLong T.sub_Unfinished_TooLong, (by show 2 ≤ sizeLine; decide), fun t1 n2 => ?_⟩
    have s2 := same_upd (o := .tup [V.str "TooLong", V.bl false]) n2; have e2 : upd H1 t1 (.tup [V.str "TooLong", V.bl false]) t1 = some (.tup [V.str "TooLong", V.bl false]) := upd_same; generalize upd H1 t1 (.tup [V.str "TooLong", V.bl false]) = H2 at s2 e2 ⊢
    refine ⟨_, rfl, _, _, false, rfl, fun u hu => hu, kit_sub ne_OverQuota T.ie_OverQuota T.te_OverQuota T.sub_Unfinished_OverQuota, (by show 2 ≤ sizeLine; decide), fun t2 n3 => ?_⟩
    have s3 := same_upd (o := .tup [V.str "OverQuota", V.bl false]) n3; have e3 : upd H2 t2 (.tup [V.str "OverQuota", V.bl false]) t2 = some (.tup [V.str "OverQuota", V.bl false]) := upd_same; generalize upd H2 t2 (.tup [V.str "OverQuota", V.bl false]) = H3 at s3 e3 ⊢
    refine ⟨_, rfl, _, _, false, rfl, fun u hu => hu, kit_sub ne_BlocksFull T.ie_BlocksFull T.te_BlocksFull T.sub_Unfinished_BlocksFull, (by show 2 ≤ sizeLine; decide), fun t3 n4 => ?_⟩
    have s4 := same_upd (o := .tup [V.str "BlocksFull", V.bl false]) n4; have e4 : upd H3 t3 (.tup [V.str "BlocksFull", V.bl false]) t3 = some (.tup [V.str "BlocksFull", V.bl false]) := upd_same; generalize upd H3 t3 (.tup [V.str "BlocksFull", V.bl false]) = H4 at s4 e4 ⊢
    refine ⟨_, rfl, _, _, false, rfl, fun u hu => hu, kit_sub ne_NodesFull T.ie_NodesFull T.te_NodesFull T.sub_Unfinished_NodesFull, (by show 2 ≤ sizeLine; decide), fun t4 n5 => ?_⟩
    have s5 := same_upd (o := .tup [V.str "NodesFull", V.bl false]) n5; have e5 : upd H4 t4 (.tup [V.str "NodesFull", V.bl false]) t4 = some (.tup [V.str "NodesFull", V.bl false]) := upd_same; generalize upd H4 t4 (.tup [V.str "NodesFull", V.bl false]) = H5 at s5 e5 ⊢
    refine ⟨_, rfl, _, _, false, rfl, fun u hu => hu, kit_sub ne_FolderFull T.ie_FolderFull T.te_FolderFull T.sub_Unfinished_FolderFull, (by show 2 ≤ sizeLine; decide), fun t5 n6 => ?_⟩
    have s6 := same_upd (o := .tup [V.str "FolderFull", V.bl false]) n6; have e6 : upd H5 t5 (.tup [V.str "FolderFull", V.bl false]) t5 = some (.tup [V.str "FolderFull", V.bl false]) := upd_same; generalize upd H5 t5 (.tup [V.str "FolderFull", V.bl false]) = H6 at s6 e6 ⊢
    refine ⟨_, rfl, _, _, false, rfl, fun u hu => hu, kit_sub ne_ListFull T.ie_ListFull T.te_ListFull T.sub_Unfinished_ListFull, (by show 2 ≤ sizeLine; decide), fun t6 n7 => ?_⟩
    have s7 := same_upd (o := .tup [V.str "ListFull", V.bl false]) n7; have e7 : upd H6 t6 (.tup [V.str "ListFull", V.bl false]) t6 = some (.tup [V.str "ListFull", V.bl false]) := upd_same; generalize upd H6 t6 (.tup [V.str "ListFull", V.bl false]) = H7 at s7 e7 ⊢
    refine ⟨_, rfl, _, _, false, rfl, fun u hu => hu, kit_sub ne_BadText T.ie_BadText T.te_BadText T.sub_Unfinished_BadText, (by show 2 ≤ sizeLine; decide), fun t7 n8 => ?_⟩
    have s8 := same_upd (o := .tup [V.str "BadText", V.bl false]) n8; have e8 : upd H7 t7 (.tup [V.str "BadText", V.bl false]) t7 = some (.tup [V.str "BadText", V.bl false]) := upd_same; generalize upd H7 t7 (.tup [V.str "BadText", V.bl false]) = H8 at s8 e8 ⊢
    refine ⟨_, rfl, _, _, false, rfl, fun u hu => hu, kit_sub ne_BadValue T.ie_BadValue T.te_BadValue T.sub_Unfinished_BadValue, (by show 2 ≤ sizeLine; decide), fun t8 n9 => ?_⟩
    have s9 := same_upd (o := .tup [V.str "BadValue", V.bl false]) n9; have e9 : upd H8 t8 (.tup [V.str "BadValue", V.bl false]) t8 = some (.tup [V.str "BadValue", V.bl false]) := upd_same; generalize upd H8 t8 (.tup [V.str "BadValue", V.bl false]) = H9 at s9 e9 ⊢
    refine ⟨_, rfl, _, _, false, rfl, fun u hu => hu, kit_sub ne_NotNow T.ie_NotNow T.te_NotNow T.sub_Unfinished_NotNow, (by show 2 ≤ sizeLine; decide), fun t9 n10 => ?_⟩
    have s10 := same_upd (o := .tup [V.str "NotNow", V.bl false]) n10; have e10 : upd H9 t9 (.tup [V.str "NotNow", V.bl false]) t9 = some (.tup [V.str "NotNow", V.bl false]) := upd_same; generalize upd H9 t9 (.tup [V.str "NotNow", V.bl false]) = H10 at s10 e10 ⊢
    refine ⟨_, rfl, _, _, false, rfl, fun u hu => hu, kit_sub ne_NotLet T.ie_NotLet T.te_NotLet T.sub_Unfinished_NotLet, (by show 2 ≤ sizeLine; decide), fun t10 n11 => ?_⟩
    have s11 := same_upd (o := .tup [V.str "NotLet", V.bl false]) n11; have e11 : upd H10 t10 (.tup [V.str "NotLet", V.bl false]) t10 = some (.tup [V.str "NotLet", V.bl false]) := upd_same; generalize upd H10 t10 (.tup [V.str "NotLet", V.bl false]) = H11 at s11 e11 ⊢
    refine ⟨_, rfl, _, _, true, rfl, fun u hu => hu, kit_subT T.ie_StoreError T.te_StoreError T.sub_Unfinished_StoreError, _, rfl, (by show 2 ≤ sizeLine; decide), fun t11 n12 => ?_⟩
    have s12 := same_upd (o := .tup [V.str "no StoreError", V.bl (!true)]) n12; have e12 : upd H11 t11 (.tup [V.str "no StoreError", V.bl (!true)]) t11 = some (.tup [V.str "no StoreError", V.bl (!true)]) := upd_same; generalize upd H11 t11 (.tup [V.str "no StoreError", V.bl (!true)]) = H12 at s12 e12 ⊢
    refine ⟨_, rfl, _, _, true, rfl, fun u hu => hu, kit_blt (by decide +kernel) T.bsub_Unfinished_ValueError, _, rfl, (by show 2 ≤ sizeLine; decide), fun t12 n13 => ?_⟩
    have s13 := same_upd (o := .tup [V.str "no ValueError", V.bl (!true)]) n13; have e13 : upd H12 t12 (.tup [V.str "no ValueError", V.bl (!true)]) t12 = some (.tup [V.str "no ValueError", V.bl (!true)]) := upd_same; generalize upd H12 t12 (.tup [V.str "no ValueError", V.bl (!true)]) = H13 at s13 e13 ⊢
    refine ⟨by show 13 ≤ sizeLine; decide, fun l nl => ?_⟩
    have sl := same_upd (o := .lst [V.ref t0, V.ref t1, V.ref t2, V.ref t3, V.ref t4, V.ref t5, V.ref t6, V.ref t7, V.ref t8, V.ref t9, V.ref t10, V.ref t11, V.ref t12]) nl; have el : upd H13 l (.lst [V.ref t0, V.ref t1, V.ref t2, V.ref t3, V.ref t4, V.ref t5, V.ref t6, V.ref t7, V.ref t8, V.ref t9, V.ref t10, V.ref t11, V.ref t12]) l = some (.lst [V.ref t0, V.ref t1, V.ref t2, V.ref t3, V.ref t4, V.ref t5, V.ref t6, V.ref t7, V.ref t8, V.ref t9, V.ref t10, V.ref t11, V.ref t12]) := upd_same; generalize upd H13 l (.lst [V.ref t0, V.ref t1, V.ref t2, V.ref t3, V.ref t4, V.ref t5, V.ref t6, V.ref t7, V.ref t8, V.ref t9, V.ref t10, V.ref t11, V.ref t12]) = Hl at sl el ⊢
    have S13 : Same H13 Hl := sl
    have S12 : Same H12 Hl := s13.trans S13
    have S11 : Same H11 Hl := s12.trans S12
    have S10 : Same H10 Hl := s11.trans S11
    have S9 : Same H9 Hl := s10.trans S10
    have S8 : Same H8 Hl := s9.trans S9
    have S7 : Same H7 Hl := s8.trans S8
    have S6 : Same H6 Hl := s7.trans S7
    have S5 : Same H5 Hl := s6.trans S6
    have S4 : Same H4 Hl := s5.trans S5
    have S3 : Same H3 Hl := s4.trans S4
    have S2 : Same H2 Hl := s3.trans S3
    have S1 : Same H1 Hl := s2.trans S2
    have S0 : Same H0 Hl := s1.trans S1
    have SH : Same H Hl := s0.trans S0
    have Q0 : H0 q = some (.lst []) := e0
    have Q1 : H1 q = some (.lst []) := s1 _ _ Q0
    have Q2 : H2 q = some (.lst []) := s2 _ _ Q1
    have Q3 : H3 q = some (.lst []) := s3 _ _ Q2
    have Q4 : H4 q = some (.lst []) := s4 _ _ Q3
    have Q5 : H5 q = some (.lst []) := s5 _ _ Q4
    have Q6 : H6 q = some (.lst []) := s6 _ _ Q5
    have Q7 : H7 q = some (.lst []) := s7 _ _ Q6
    have Q8 : H8 q = some (.lst []) := s8 _ _ Q7
    have Q9 : H9 q = some (.lst []) := s9 _ _ Q8
    have Q10 : H10 q = some (.lst []) := s10 _ _ Q9
    have Q11 : H11 q = some (.lst []) := s11 _ _ Q10
    have Q12 : H12 q = some (.lst []) := s12 _ _ Q11
    have Q13 : H13 q = some (.lst []) := s13 _ _ Q12
    have Ql : Hl q = some (.lst []) := sl _ _ Q13
    have ht : ∀ (i : Nat) (t : V), ([V.ref t0, V.ref t1, V.ref t2, V.ref t3, V.ref t4, V.ref t5, V.ref t6, V.ref t7, V.ref t8, V.ref t9, V.ref t10, V.ref t11, V.ref t12] : List V)[i]? = some t → ∃ ta n b, t = .ref ta ∧ ([("Unfinished", true), ("TooLong", false), ("OverQuota", false), ("BlocksFull", false), ("NodesFull", false), ("FolderFull", false), ("ListFull", false), ("BadText", false), ("BadValue", false), ("NotNow", false), ("NotLet", false), ("no StoreError", false), ("no ValueError", false)] : List (Str × Bool))[i]? = some (n, b) ∧ Hl ta = some (.tup [.str n, .bl b]) ∧ ta ≠ q := by
      intro i t hi
      match i, hi with
      | 0, hi => cases hi; exact ⟨_, _, _, rfl, rfl, S1 _ _ e1, (ne_of_none Q0 n1).symm⟩
      | 1, hi => cases hi; exact ⟨_, _, _, rfl, rfl, S2 _ _ e2, (ne_of_none Q1 n2).symm⟩
      | 2, hi => cases hi; exact ⟨_, _, _, rfl, rfl, S3 _ _ e3, (ne_of_none Q2 n3).symm⟩
      | 3, hi => cases hi; exact ⟨_, _, _, rfl, rfl, S4 _ _ e4, (ne_of_none Q3 n4).symm⟩
      | 4, hi => cases hi; exact ⟨_, _, _, rfl, rfl, S5 _ _ e5, (ne_of_none Q4 n5).symm⟩
      | 5, hi => cases hi; exact ⟨_, _, _, rfl, rfl, S6 _ _ e6, (ne_of_none Q5 n6).symm⟩
      | 6, hi => cases hi; exact ⟨_, _, _, rfl, rfl, S7 _ _ e7, (ne_of_none Q6 n7).symm⟩
      | 7, hi => cases hi; exact ⟨_, _, _, rfl, rfl, S8 _ _ e8, (ne_of_none Q7 n8).symm⟩
      | 8, hi => cases hi; exact ⟨_, _, _, rfl, rfl, S9 _ _ e9, (ne_of_none Q8 n9).symm⟩
      | 9, hi => cases hi; exact ⟨_, _, _, rfl, rfl, S10 _ _ e10, (ne_of_none Q9 n10).symm⟩
      | 10, hi => cases hi; exact ⟨_, _, _, rfl, rfl, S11 _ _ e11, (ne_of_none Q10 n11).symm⟩
      | 11, hi => cases hi; exact ⟨_, _, _, rfl, rfl, S12 _ _ e12, (ne_of_none Q11 n12).symm⟩
      | 12, hi => cases hi; exact ⟨_, _, _, rfl, rfl, S13 _ _ e13, (ne_of_none Q12 n13).symm⟩
      | n + 13, hi => simp at hi
    refine ⟨l, rfl, ⟨_, .of el⟩, for_list (K := K) (a := l) (xs := [V.ref t0, V.ref t1, V.ref t2, V.ref t3, V.ref t4, V.ref t5, V.ref t6, V.ref t7, V.ref t8, V.ref t9, V.ref t10, V.ref t11, V.ref t12]) (fun i σ H' => ∃ (v2 v3 : Option V), σ = [some (.ref p.1), some (.ref q), v2, v3] ∧ H' = upd Hl q (.lst (((([("Unfinished", true), ("TooLong", false), ("OverQuota", false), ("BlocksFull", false), ("NodesFull", false), ("FolderFull", false), ("ListFull", false), ("BadText", false), ("BadValue", false), ("NotNow", false), ("NotLet", false), ("no StoreError", false), ("no ValueError", false)] : List (Str × Bool)).take i).filter (·.2)).map fun x => V.str x.1)))
      ⟨_, _, rfl, (upd_id Ql).symm⟩ (fun i σ H' _ h => ?_) ?_ ?_⟩
    · obtain ⟨v2, v3, _, rfl⟩ := h
      exact .of (by rw [upd_ne (ne_of_none Q13 nl).symm]; exact el)
    · rintro i y σ H' hi ⟨v2, v3, rfl, rfl⟩
      obtain ⟨ta, n, b, rfl, e2, e3, e4⟩ := ht i y hi
      have e3' : upd Hl q (.lst (((([("Unfinished", true), ("TooLong", false), ("OverQuota", false), ("BlocksFull", false), ("NodesFull", false), ("FolderFull", false), ("ListFull", false), ("BadText", false), ("BadValue", false), ("NotNow", false), ("NotLet", false), ("no StoreError", false), ("no ValueError", false)] : List (Str × Bool)).take i).filter (·.2)).map fun x => V.str x.1)) ta = some (.tup [.str n, .bl b]) := by rw [upd_ne e4]; exact e3
      have et := takeB e2
      refine ⟨ta, _, rfl, .of e3', rfl, _, _, rfl, _, _, rfl, rfl, ?_⟩
      refine ⟨_, rfl, b, rfl, ?_⟩
      cases b with
      | true =>
        refine iteT ⟨.ref q, rfl, .inl ⟨rfl, _, .inl (.inl upd_same)⟩, _, rfl, q, _, _, rfl, rfl, upd_same, ?_, ?_⟩
        · rw [List.length_map]; exact small1000 (Nat.le_trans (List.length_filter_le _ _) (Nat.le_trans (List.length_take_le' _ _) (by decide)))
        · refine ⟨_, _, rfl, ?_⟩
          rw [upd_upd, et, List.filter_append, List.map_append]; rfl
      | false =>
        refine iteF ⟨_, _, rfl, ?_⟩
        rw [et, List.filter_append, List.map_append, show List.map (fun x : Str × Bool => V.str x.1) (List.filter (·.2) [(n, false)]) = [] from rfl, List.append_nil]
    · rintro σ H' ⟨v2, v3, rfl, rfl⟩
      have nq := n0
      have SF : Same H (upd Hl q (.lst (((([("Unfinished", true), ("TooLong", false), ("OverQuota", false), ("BlocksFull", false), ("NodesFull", false), ("FolderFull", false), ("ListFull", false), ("BadText", false), ("BadValue", false), ("NotNow", false), ("NotLet", false), ("no StoreError", false), ("no ValueError", false)] : List (Str × Bool)).take 13).filter (·.2)).map fun x => V.str x.1))) := fun x o e => by rw [upd_ne (ne_of_none e nq)]; exact SH _ _ e
      have eq : upd Hl q (.lst (((([("Unfinished", true), ("TooLong", false), ("OverQuota", false), ("BlocksFull", false), ("NodesFull", false), ("FolderFull", false), ("ListFull", false), ("BadText", false), ("BadValue", false), ("NotNow", false), ("NotLet", false), ("no StoreError", false), ("no ValueError", false)] : List (Str × Bool)).take 13).filter (·.2)).map fun x => V.str x.1)) q = some (.lst ((["Unfinished"] : List Str).map V.str)) := upd_same
      generalize upd Hl q (.lst (((([("Unfinished", true), ("TooLong", false), ("OverQuota", false), ("BlocksFull", false), ("NodesFull", false), ("FolderFull", false), ("ListFull", false), ("BadText", false), ("BadValue", false), ("NotNow", false), ("NotLet", false), ("no StoreError", false), ("no ValueError", false)] : List (Str × Bool)).take 13).filter (·.2)).map fun x => V.str x.1)) = HF at SF eq ⊢
      refine ⟨_, rfl, (by show 2 ≤ sizeLine; decide), fun t nt => k _ q t (SF.trans (same_upd nt)) nq (SF.free nt) (fun z => by rw [← z, eq] at nt; cases nt) (same_upd nt _ _ eq) upd_same⟩
end
end K09
namespace K09
open PySem PySem.Spec PyProof.Rows L2 Rg
section
variable {CI CP : Addr} {H : Hp} {im : Addr} {A : IA} {v : IV} {b n s : Int} {L : List (Addr × HO)}
/-- one more place -/
theorem SI.cons (S : SI CI CP H im A v b n s L) {a : Addr} {o : HO} (h : H a = none) : SI CI CP (upd H a o) im A v b n s ((a, o) :: L) :=
  ⟨S.I.keep (same_upd h), S.F.cons h, fun p hp => by
    rcases List.mem_cons.mp hp with rfl | hp
    · intro z
      obtain ⟨o', e⟩ := S.I.held z
      rw [h] at e
      cases e
    · exact S.ap p hp⟩
theorem SI.perm (S : SI CI CP H im A v b n s L) {L' : List (Addr × HO)} (pm : L'.Perm L) : SI CI CP H im A v b n s L' :=
  ⟨S.I, ⟨fun q hq => S.F.at_ q (pm.mem_iff.mp hq), (pm.map (·.1)).nodup_iff.mpr S.F.nd⟩, fun q hq => S.ap q (pm.mem_iff.mp hq)⟩
theorem SI.sub (S : SI CI CP H im A v b n s L) {L' : List (Addr × HO)} (h : L'.Sublist L) : SI CI CP H im A v b n s L' :=
  ⟨S.I, ⟨fun q hq => S.F.at_ q (h.subset hq), S.F.nd.sublist (h.map _)⟩, fun q hq => S.ap q (h.subset hq)⟩
/-- a place that is held already and stands apart -/
theorem SI.add (S : SI CI CP H im A v b n s L) {a : Addr} {o : HO} (e : H a = some o) (n1 : ∀ p ∈ L, p.1 ≠ a) (n2 : a ∉ A.reads im) : SI CI CP H im A v b n s ((a, o) :: L) :=
  ⟨S.I, ⟨fun p hp => by
    rcases List.mem_cons.mp hp with rfl | hp
    · exact e
    · exact S.F.at_ p hp, by
    rw [List.map_cons, List.nodup_cons]
    refine ⟨fun z => ?_, S.F.nd⟩
    obtain ⟨p, hp, ep⟩ := List.mem_map.mp z
    exact n1 p hp ep⟩, fun p hp => by
    rcases List.mem_cons.mp hp with rfl | hp
    · exact n2
    · exact S.ap p hp⟩
theorem SI.fresh (S : SI CI CP H im A v b n s L) {a : Addr} (h : H a = none) : a ∉ A.reads im := fun z => by
  obtain ⟨o, e⟩ := S.I.held z
  rw [h] at e
  cases e
/-- two places, each among them or new -/
theorem SI.more2 (S : SI CI CP H im A v b n s L) {H' : Hp} (sm : Same H H') {a1 a2 : Addr} {o1 o2 : HO} (e1 : H' a1 = some o1) (e2 : H' a2 = some o2) (ne : o1 ≠ o2) :
    ∃ N, SI CI CP H' im A v b n s (N ++ L) ∧ (H a1 = none → (a1, o1) ∈ N) ∧ (H a2 = none → (a2, o2) ∈ N) := by
  have S' := S.same sm
  have n12 : a1 ≠ a2 := fun z => ne (by rw [z, e2] at e1; exact (Option.some.inj e1).symm)
  by_cases h1 : H a1 = none
  · have X := S'.add e1 (S.F.held h1) (S.fresh h1)
    by_cases h2 : H a2 = none
    · refine ⟨[(a2, o2), (a1, o1)], X.add e2 (fun p hp => ?_) (S.fresh h2), fun _ => by simp, fun _ => by simp⟩
      rcases List.mem_cons.mp hp with rfl | hp
      · exact n12
      · exact S.F.held h2 p hp
    · exact ⟨[(a1, o1)], X, fun _ => by simp, fun h => absurd h h2⟩
  · by_cases h2 : H a2 = none
    · exact ⟨[(a2, o2)], S'.add e2 (S.F.held h2) (S.fresh h2), fun h => absurd h h1, fun _ => by simp⟩
    · exact ⟨[], S', fun h => absurd h h1, fun h => absurd h h2⟩
/-- the image changed at its own places, its new parts apart from the others -/
theorem SI.imgN_ {H' : Hp} {A' : IA} {v' : IV} (S : SI CI CP H im A v b n s L) (I' : ImgAt CI CP H' im A' v' b n s) {F : List Addr} (k : Kp F H H') (hF : ∀ x ∈ F, x ∈ A.reads im) (hr : ∀ x ∈ A'.reads im, x ∈ A.reads im ∨ ∀ p ∈ L, p.1 ≠ x) : SI CI CP H' im A' v' b n s L :=
  ⟨I', S.F.keep fun p hp o e => k _ _ e fun z => S.ap p hp (hF _ z), fun p hp z => by
    rcases hr _ z with e | e
    · exact S.ap p hp e
    · exact e p hp rfl⟩
/-- behind begin -/
theorem SI.begun {H' : Hp} (S : SI CI CP H im A v b n s L) {q t : Addr} {wi : Int} {bs : List Int} (hq : H q = some (.lst (bs.map V.int))) (I' : ImgAt CI CP H' im { A with ba := t } { v with se := v.se + 1, wi := wi, ba := bs } b n s) (k : Kp [im] H H') (ht : H t = none ∨ t = q) : SI CI CP H' im { A with ba := t } { v with se := v.se + 1, wi := wi, ba := bs } b n s L := by
  have tn : H t = none := ht.resolve_right fun z => by
    have e1 := I'.ba
    have nq : q ≠ im := fun y => by
      have := S.I.ob
      rw [← y, hq] at this
      cases this
    have e2 := k _ _ hq (by simp [nq])
    have e1' : H' t = some (.tup (bs.map V.int)) := e1
    rw [z, e2] at e1'
    cases e1'
  refine S.imgN_ I' k (fun x hx => by simp only [List.mem_singleton] at hx; simp [IA.reads, hx]) fun x hx => ?_
  simp only [IA.reads, List.mem_cons] at hx ⊢
  rcases hx with e | e | e | e | e | e | e | e
  · simp [e]
  · simp [e]
  · simp [e]
  · simp [e]
  · simp [e]
  · simp [e]
  · rw [e]
    exact .inr (S.F.held tn)
  · simp [e]
/-- behind a change of its rows -/
theorem SI.rows {H' : Hp} {rs' : List Addr} {v' : IV} (S : SI CI CP H im A v b n s L) (R : RsOf H A.rs rs') (I' : ImgAt CI CP H' im { A with rs := rs' } v' b n s) (k : Kp (ft3 A ++ A.rs) H H') : SI CI CP H' im { A with rs := rs' } v' b n s L :=
  S.img I' (k.mono fun x hx => by
    simp only [ft3, List.mem_append, List.mem_cons, List.not_mem_nil, or_false] at hx
    simp only [IA.reads, List.mem_cons]
    rcases hx with (e | e | e) | e <;> simp [e]) fun x hx => by
    simp only [IA.reads, List.mem_cons] at hx ⊢
    rcases hx with e | e | e | e | e | e | e | e
    · simp [e]
    · simp [e]
    · simp [e]
    · simp [e]
    · simp [e]
    · simp [e]
    · simp [e]
    · rcases R x e with f | f
      · simp [f]
      · exact .inr f
end
/-! ### what is kept of an image, compared -/
def dS (M : List (List Int)) (ho st : List Int) (se : Int) : PyData := .list [dG M, dI ho, dI st, dI [], .int se]
theorem dpS {K : PySem.W.Frag} {H : Hp} {k : KA} {M : List (List Int)} {ho st : List Int} {se : Int} (Q : Kd H k M ho st se) : Dp K H (.ref k.p) (dS M ho st se) :=
  .lst (.of Q.p) (.cons (dpG Q.c) (.cons (dpI Q.h) (.cons (dpI Q.s) (.cons (dpI (ns := []) Q.d) (.cons (.int se) .nil)))))
theorem canS {M : List (List Int)} {ho st : List Int} {se : Int} : PyData.canLayAll0 [dG M, dI ho, dI st, dI [], .int se] = true := by
  show (PyData.canLayAll0 (M.map dI) && (PyData.canLayAll0 (ho.map PyData.int) && (PyData.canLayAll0 (st.map PyData.int) && (PyData.canLayAll0 (([] : List Int).map PyData.int) && (PyData.canLay0 (.int se) && PyData.canLayAll0 []))))) = true
  rw [canG, canI, canI, canI]
  rfl
theorem shS {M : List (List Int)} {ho st : List Int} {se : Int} : SeqAt.shaped (dS M ho st se) = true := by
  unfold SeqAt.shaped dS
  rw [Bool.and_eq_true]
  refine ⟨canS, decide_eq_true ?_⟩
  show max (PyData.depthAll (M.map dI) + 1) (max (PyData.depthAll (ho.map PyData.int) + 1) (max (PyData.depthAll (st.map PyData.int) + 1) (max (PyData.depthAll (([] : List Int).map PyData.int) + 1) (max (PyData.depth (.int se)) (PyData.depthAll []))))) + 1 ≤ 64
  rw [depI, depI, depI]
  have := depG M
  have h1 : PyData.depth (.int se) = 0 := rfl
  have h2 : PyData.depthAll [] = 0 := rfl
  rw [h1, h2]
  omega
theorem eqS {M : List (List Int)} {ho st : List Int} {se : Int} : PyData.eqv (dS M ho st se) (dS M ho st se) = true := SeqAt.eqv_refl _ canS
end K09
namespace K09
open PySem PySem.Spec PyProof.Rows L2 Rg
/-! ### cells behind a take or a give -/
def tkM (M : List (List Int)) (x : Nat) (k : Int) (o : Nat) (d : Int) : List (List Int) := setC ((setC M (2 + x / 8) (x % 8) k).set x (List.replicate 8 0)) 0 o (cellAt M 0 o + d)
theorem takeV_tk {v : IV} {x o : Nat} {k : Int} : (takeV v x k o).M = tkM v.M x k o 1 := rfl
theorem giveV_tk {v : IV} {x o : Nat} : (giveV v x o).M = tkM v.M x 0 o (-1) := rfl
section
variable {M : List (List Int)} {x o : Nat} {k d : Int} {m : List Int}
theorem tk0 (h : M[0]? = some m) (hx : 1 ≤ x) : (tkM M x k o d)[0]? = some (m.set o (cellAt M 0 o + d)) := by
  unfold tkM
  refine setC_at ?_
  rw [List.getElem?_set_ne (by omega), setC_row (by omega)]
  exact h
theorem tkm (h : M[2 + x / 8]? = some m) (hx : 3 ≤ x) : (tkM M x k o d)[2 + x / 8]? = some (m.set (x % 8) k) := by
  unfold tkM
  rw [setC_row (by omega), List.getElem?_set_ne (by omega)]
  exact setC_at h
theorem tkx (hx : 3 ≤ x) (hl : x < M.length) : (tkM M x k o d)[x]? = some (List.replicate 8 0) := by
  unfold tkM
  rw [setC_row (by omega), List.getElem?_set_self (by rw [setC_len]; exact hl)]
theorem tko {y : Nat} (h0 : y ≠ 0) (h1 : y ≠ 2 + x / 8) (h2 : y ≠ x) : (tkM M x k o d)[y]? = M[y]? := by
  unfold tkM
  rw [setC_row (fun z => h0 z.symm), List.getElem?_set_ne (fun z => h2 z.symm), setC_row (fun z => h1 z.symm)]
theorem tkh {y : Nat} (h5 : 2 + x / 8 < y) (h2 : y ≠ x) : (tkM M x k o d)[y]? = M[y]? := tko (by omega) (by omega) h2
theorem tk1 (hx : 3 ≤ x) : (tkM M x k o d)[1]? = M[1]? := tko (by decide) (by omega) (by omega)
end
/-! ### kinds and sums, for a plan of b blocks and n nodes -/
structure Kds (b n : Int) (M : List (List Int)) (kd us li : List Int) (i : Nat) : Prop where
  n1 : 1 ≤ n
  fb : fdOf b n ≤ b
  ml : (M.length : Int) = b
  m8 : ∀ m ∈ M, m.length = 8
  kl : (kd.length : Int) = b
  kf : ∀ x : Nat, (x : Int) < fdOf b n → kd[x]? = some 1
  k3 : ∀ (x : Nat) (k : Int), kd[x]? = some k → k = 0 ∨ k = 1 ∨ k = 2
  mp : ∀ x : Nat, (x : Int) < b → cellAt M (2 + x / 8) (x % 8) = (kd[x]?).getD 0
  u4 : us.length = 4
  l4 : li.length = 4
  r0 : M[0]? = some (us ++ li)
  ul : ∀ u ∈ us, u.natAbs ≤ i
theorem fd_eq {b n : Int} : fdOf b n = 2 + (b + 8 - 1) / 8 + n := rfl
section
variable {b n : Int} {M : List (List Int)} {kd us li : List Int} {i : Nat}
theorem Kds.kind (A : Kds b n M kd us li i) {x : Nat} (hx : (x : Int) < b) : kindOf b n M x = (kd[x]?).getD 0 := by
  have hf : fdOf b n = 2 + (b + 8 - 1) / 8 + n := rfl
  unfold kindOf
  rw [← hf]
  by_cases h : (x : Int) < fdOf b n
  · rw [if_pos h, A.kf x h]
    rfl
  · rw [if_neg h, show ((2 : Int) + (x : Int) / 8).toNat = 2 + x / 8 by omega, show ((x : Int) % 8).toNat = x % 8 by omega, A.mp x hx]
    have hl : x < kd.length := by have := A.kl; omega
    have := A.k3 x _ (List.getElem?_eq_getElem hl)
    rw [List.getElem?_eq_getElem hl]
    show (if kd[x] = 1 ∨ kd[x] = 2 then kd[x] else 0) = kd[x]
    rcases this with q | q | q <;> rw [q] <;> decide
theorem Kds.row (A : Kds b n M kd us li i) {y : Nat} (hy : (y : Int) < b) : ∃ m, M[y]? = some m ∧ m.length = 8 := by
  have hl : y < M.length := by have := A.ml; omega
  exact ⟨_, List.getElem?_eq_getElem hl, A.m8 _ (List.getElem_mem hl)⟩
theorem Kds.sum (A : Kds b n M kd us li i) {o : Nat} (ho : o < 4) : cellAt M 0 o = (us[o]?).getD 0 := by
  have hou : o < us.length := by rw [A.u4]; exact ho
  rw [cellAt_of A.r0 (x := us[o]) (by rw [List.getElem?_append_left hou]; exact List.getElem?_eq_getElem hou), List.getElem?_eq_getElem hou]
  rfl
theorem Kds.lim (A : Kds b n M kd us li i) {o : Nat} (ho : o < 4) : cellAt M 0 (4 + o) = (li[o]?).getD 0 := by
  have hol : o < li.length := by rw [A.l4]; exact ho
  have hou := A.u4
  rw [cellAt_of A.r0 (x := li[o]) (by rw [List.getElem?_append_right (by omega), hou, show 4 + o - 4 = o by omega]; exact List.getElem?_eq_getElem hol), List.getElem?_eq_getElem hol]
  rfl
theorem tkM_len {M : List (List Int)} {x o : Nat} {k d : Int} : (tkM M x k o d).length = M.length := by
  unfold tkM
  rw [setC_len, List.length_set, setC_len]
theorem setC_m8 {M : List (List Int)} {i j : Nat} {x : Int} (h : ∀ m ∈ M, m.length = 8) (hi : i < M.length) : ∀ m ∈ setC M i j x, m.length = 8 := fun m hm => by
  unfold setC at hm
  rcases mem_set_of hm with e | e
  · rw [e, List.length_set, List.getElem?_eq_getElem hi]
    exact h _ (List.getElem_mem hi)
  · exact h m e
theorem Kds.tk {x o : Nat} {k d : Int} (A : Kds b n M kd us li i) (hx : fdOf b n ≤ x) (hx2 : (x : Int) < b) (ho : o < 4) (hd : d = 1 ∨ d = -1) (hk : k = 0 ∨ k = 1 ∨ k = 2) :
    Kds b n (tkM M x k o d) (kd.set x k) (us.set o ((us[o]?).getD 0 + d)) li (i + 1) := by
  have hf : fdOf b n = 2 + (b + 8 - 1) / 8 + n := rfl
  have n1 := A.n1
  have hou : o < us.length := by rw [A.u4]; exact ho
  have ml := A.ml
  have hkl := A.kl
  have hx3 : 3 ≤ x := by omega
  obtain ⟨mm, em, lm⟩ := A.row (y := 2 + x / 8) (by omega)
  have mx : mm[x % 8]? = some ((kd[x]?).getD 0) := by
    have h1 := A.mp x hx2
    have hl : x % 8 < mm.length := by omega
    rw [cellAt_of em (List.getElem?_eq_getElem hl)] at h1
    rw [List.getElem?_eq_getElem hl, h1]
  refine { n1 := A.n1, fb := A.fb, ml := by rw [tkM_len]; exact ml, m8 := ?_, kl := by rw [List.length_set]; exact A.kl, kf := fun y hy => by rw [List.getElem?_set_ne (by omega)]; exact A.kf y hy, k3 := fun y k' h => ?_, mp := fun y hy => ?_, u4 := by rw [List.length_set]; exact A.u4, l4 := A.l4, r0 := ?_, ul := fun u hu => ?_ }
  · unfold tkM
    refine setC_m8 (fun m hm => ?_) (by rw [List.length_set, setC_len]; omega)
    rcases mem_set_of hm with e | e
    · rw [e]; exact List.length_replicate
    · exact setC_m8 A.m8 (by omega) m e
  · rcases mem_set_of (List.mem_of_getElem? h) with e | e
    · rw [e]; exact hk
    · obtain ⟨j, hj, ej⟩ := List.getElem_of_mem e
      exact A.k3 j k' (by rw [List.getElem?_eq_getElem hj, ej])
  · by_cases e : y / 8 = x / 8
    · rw [e]
      have hl : y % 8 < (mm.set (x % 8) k).length := by rw [List.length_set]; omega
      rw [cellAt_of (tkm em hx3) (List.getElem?_eq_getElem hl)]
      by_cases q : x = y
      · subst q
        rw [List.getElem?_set_self (by omega), List.getElem_set_self]
        rfl
      · rw [List.getElem?_set_ne q, List.getElem_set_ne (by omega), ← A.mp y hy, e]
        exact (cellAt_of em (List.getElem?_eq_getElem (by rw [List.length_set] at hl; exact hl))).symm
    · rw [cellAt_congr (tko (by omega) (by omega) (by omega)), A.mp y hy, List.getElem?_set_ne (by intro z; subst z; exact e rfl)]
  · rw [tk0 A.r0 (by omega), A.sum ho, List.set_append_left _ _ hou]
  · rcases mem_set_of hu with e | e
    · have h1 := A.ul _ (List.getElem_mem hou)
      rw [List.getElem?_eq_getElem hou] at e
      have e' : u = us[o] + d := e
      rcases hd with q | q <;> omega
    · have := A.ul u e
      omega
theorem Kds.put {r j : Nat} {x : Int} (A : Kds b n M kd us li i) (hr : 2 + (b + 8 - 1) / 8 ≤ (r : Int)) (hr2 : (r : Int) < b) : Kds b n (setC M r j x) kd us li i :=
  { A with ml := by rw [setC_len]; exact A.ml, m8 := setC_m8 A.m8 (by have := A.ml; omega), mp := fun y hy => by rw [cellAt_setC_row (by omega)]; exact A.mp y hy, r0 := by rw [setC_row (by omega)]; exact A.r0 }
theorem Kds.mono {j : Nat} (A : Kds b n M kd us li i) (h : i ≤ j) : Kds b n M kd us li j := { A with ul := fun u hu => Nat.le_trans (A.ul u hu) h }
/-- a limit -/
theorem Kds.limit {o : Nat} {l : Int} (A : Kds b n M kd us li i) (ho : o < 4) : Kds b n (setC M 0 (4 + o) l) kd us (li.set o l) i := by
  have hf : fdOf b n = 2 + (b + 8 - 1) / 8 + n := rfl
  have hb := A.fb
  have n1 := A.n1
  have ml := A.ml
  refine { A with ml := by rw [setC_len]; exact A.ml, m8 := setC_m8 A.m8 (by omega), mp := fun y hy => by rw [cellAt_setC_row (by omega)]; exact A.mp y hy, l4 := by rw [List.length_set]; exact A.l4, r0 := ?_ }
  rw [setC_at A.r0, List.set_append_right _ _ (by rw [A.u4]; omega), A.u4, show 4 + o - 4 = o by omega]
end
/-! ### a file's places: G 0 .. G 9, its table G 12; C what the blocks hold -/
def setG (G : Nat → Int) (q : Nat) (x : Int) : Nat → Int := fun i => if i = q then x else G i
theorem setG_at {G : Nat → Int} {q : Nat} {x : Int} : setG G q x q = x := if_pos rfl
theorem setG_ne {G : Nat → Int} {q i : Nat} {x : Int} (h : i ≠ q) : setG G q x i = G i := if_neg h
def setB (C : Nat → List Int) (q : Nat) (c : List Int) : Nat → List Int := fun i => if i = q then c else C i
theorem setB_at {C : Nat → List Int} {q : Nat} {c : List Int} : setB C q c q = c := if_pos rfl
theorem setB_ne {C : Nat → List Int} {q i : Nat} {c : List Int} (h : i ≠ q) : setB C q c i = C i := if_neg h
def tabR (G : Nat → Int) : List Int := [G 2, G 3, G 4, G 5, G 6, G 7, G 8, G 9]
structure Fl (b n : Int) (M : List (List Int)) (m : Int) (G : Nat → Int) (C : Nat → List Int) (sz o1 mk : Int) : Prop where
  r6 : M[nrow b m]? = some [1, 1, sz, o1, G 0, G 1, G 12, mk]
  rt : G 12 ≠ 0 → M[(G 12).toNat]? = some (tabR G)
  rc : ∀ i, i < 10 → G i ≠ 0 → M[(G i).toNat]? = some (C i)
  c8 : ∀ i, (C i).length = 8
  n1 : 1 ≤ n
  m1 : 1 ≤ m
  mn : m ≤ n
  b0 : 0 ≤ b
  pf : ∀ i, i < 13 → G i ≠ 0 → fdOf b n ≤ G i ∧ G i < b
  nd : ∀ i j, i < 13 → j < 13 → G i ≠ 0 → G i = G j → i = j
  tz : G 12 = 0 → ∀ i, 2 ≤ i → i < 10 → G i = 0
  z1 : G 10 = 0 ∧ G 11 = 0
theorem nrow_in {b m : Int} (h1 : 1 ≤ m) (hb : 0 ≤ b) : (nrow b m : Int) = 2 + (b + 8 - 1) / 8 + m - 1 := by
  unfold nrow
  omega
theorem tabR_set {G : Nat → Int} {q : Nat} {x : Int} (h2 : 2 ≤ q) (h10 : q < 10) : (tabR G).set (q - 2) x = tabR (setG G q x) := by
  have : q = 2 ∨ q = 3 ∨ q = 4 ∨ q = 5 ∨ q = 6 ∨ q = 7 ∨ q = 8 ∨ q = 9 := by omega
  rcases this with e | e | e | e | e | e | e | e <;> (subst e; rfl)
theorem tabR_ne {G : Nat → Int} {q : Nat} {x : Int} (h : q < 2 ∨ 10 ≤ q) : tabR (setG G q x) = tabR G := by
  unfold tabR
  rw [setG_ne (by omega), setG_ne (by omega), setG_ne (by omega), setG_ne (by omega), setG_ne (by omega), setG_ne (by omega), setG_ne (by omega), setG_ne (by omega)]
section
variable {b n : Int} {M : List (List Int)} {m : Int} {G : Nat → Int} {C : Nat → List Int} {sz o1 mk : Int}
theorem Fl.keep (A : Fl b n M m G C sz o1 mk) {M' : List (List Int)} (h6 : M'[nrow b m]? = M[nrow b m]?) (hg : ∀ i, i < 13 → G i ≠ 0 → M'[(G i).toNat]? = M[(G i).toNat]?) : Fl b n M' m G C sz o1 mk :=
  { A with r6 := by rw [h6]; exact A.r6, rt := fun e => by rw [hg 12 (by decide) e]; exact A.rt e, rc := fun i hi e => by rw [hg i (by omega) e]; exact A.rc i hi e }
/-- a block apart from the file's taken or given -/
theorem Fl.tk (A : Fl b n M m G C sz o1 mk) {x o : Nat} {k d : Int} (hx : fdOf b n ≤ x) (hx2 : (x : Int) < b) (nx : ∀ i, i < 13 → G i ≠ (x : Int)) : Fl b n (tkM M x k o d) m G C sz o1 mk := by
  have hf : fdOf b n = 2 + (b + 8 - 1) / 8 + n := rfl
  have hn := nrow_in A.m1 A.b0
  have hnn := A.n1
  have hmm := A.mn
  have hm1 := A.m1
  refine A.keep (tkh (by omega) (by omega)) fun i hi e => ?_
  have p := A.pf i hi e
  have n := nx i hi
  exact tkh (by omega) (by omega)
/-- a block of the file given: it stands empty -/
theorem Fl.clr (A : Fl b n M m G C sz o1 mk) (hl : (M.length : Int) = b) {q o : Nat} {k d : Int} (hq : q < 10) (e0 : G q ≠ 0) : Fl b n (tkM M (G q).toNat k o d) m G (setB C q (List.replicate 8 0)) sz o1 mk := by
  have hf : fdOf b n = 2 + (b + 8 - 1) / 8 + n := rfl
  have hn := nrow_in A.m1 A.b0
  have hnn := A.n1
  have hmm := A.mn
  have hm1 := A.m1
  have pq := A.pf q (by omega) e0
  have ne : ∀ i, i < 13 → G i ≠ 0 → i ≠ q → (G i).toNat ≠ (G q).toNat := fun i hi e hne z => by
    have p := A.pf i hi e
    exact hne (A.nd i q hi (by omega) e (by omega))
  refine { A with r6 := ?_, rt := fun e => ?_, rc := fun i hi e => ?_, c8 := fun i => ?_ }
  · rw [tkh (by omega) (by omega)]
    exact A.r6
  · have p := A.pf 12 (by decide) e
    rw [tkh (by omega) (ne 12 (by decide) e (by omega))]
    exact A.rt e
  · by_cases z : i = q
    · subst z
      rw [tkx (by omega) (by omega), setB_at]
    · have p := A.pf i (by omega) e
      rw [tkh (by omega) (ne i (by omega) e z), setB_ne z]
      exact A.rc i hi e
  · unfold setB
    split
    · exact List.length_replicate
    · exact A.c8 i
/-- the table given, or taken, empty -/
theorem Fl.tkt (A : Fl b n M m G C sz o1 mk) (hl : (M.length : Int) = b) {o : Nat} {k d : Int} (e0 : G 12 ≠ 0) (hz : tabR G = List.replicate 8 0) : Fl b n (tkM M (G 12).toNat k o d) m G C sz o1 mk := by
  have hf : fdOf b n = 2 + (b + 8 - 1) / 8 + n := rfl
  have hn := nrow_in A.m1 A.b0
  have hnn := A.n1
  have hmm := A.mn
  have hm1 := A.m1
  have pq := A.pf 12 (by omega) e0
  refine A.keep (tkh (by omega) (by omega)) fun i hi e => ?_
  by_cases z : i = 12
  · subst z
    rw [tkx (by omega) (by omega), A.rt e, hz]
  · have p := A.pf i hi e
    refine tkh (by omega) fun y => z (A.nd i 12 hi (by decide) e (by omega))
/-- a place set -/
theorem Fl.put (A : Fl b n M m G C sz o1 mk) {q : Nat} {x : Int} {c : List Int} (hq : q < 10) (ht : 2 ≤ q → G 12 ≠ 0) (hc : c.length = 8) (hx : x = 0 ∨ (fdOf b n ≤ x ∧ x < b ∧ M[x.toNat]? = some c ∧ ∀ i, i < 13 → G i ≠ x)) :
    Fl b n (putPl b M m q x) m (setG G q x) (setB C q c) sz o1 mk := by
  have hf : fdOf b n = 2 + (b + 8 - 1) / 8 + n := rfl
  have hn := nrow_in A.m1 A.b0
  have hnn := A.n1
  have hmm := A.mn
  have hm1 := A.m1
  have epl : plc b M m = G 12 := cellAt_of A.r6 rfl
  obtain ⟨R, J, hR, hput⟩ : ∃ R J, ((q < 2 ∧ R = nrow b m ∧ J = 4 + q) ∨ (2 ≤ q ∧ R = (G 12).toNat ∧ J = q - 2)) ∧ putPl b M m q x = setC M R J x := by
    unfold putPl
    rw [epl]
    by_cases z : q < 2
    · exact ⟨_, _, .inl ⟨z, rfl, rfl⟩, if_pos z⟩
    · exact ⟨_, _, .inr ⟨by omega, rfl, rfl⟩, if_neg z⟩
  rw [hput]
  have gne : ∀ i, i < 13 → setG G q x i ≠ 0 → (i = q ∧ x ≠ 0) ∨ (i ≠ q ∧ G i ≠ 0) := fun i hi e => by
    by_cases z : i = q
    · subst z
      rw [setG_at] at e
      exact .inl ⟨rfl, e⟩
    · rw [setG_ne z] at e
      exact .inr ⟨z, e⟩
  have hrow : ∀ y, y ≠ R → (setC M R J x)[y]? = M[y]? := fun y hy => setC_row fun z => hy z.symm
  have e12 : setG G q x 12 = G 12 := setG_ne (by omega)
  -- a block of the file's words is neither of the two rows
  have apart : ∀ y : Int, fdOf b n ≤ y → (G 12 ≠ 0 → y ≠ G 12) → y.toNat ≠ R := fun y hy hne z => by
    rcases hR with ⟨_, r, _⟩ | ⟨h2', r, _⟩
    · omega
    · have hg := ht h2'
      have p := A.pf 12 (by decide) hg
      have := hne hg
      omega
  refine { n1 := A.n1, m1 := A.m1, mn := A.mn, b0 := A.b0, r6 := ?_, rt := fun e => ?_, rc := fun i hi e => ?_, c8 := fun i => ?_, pf := fun i hi e => ?_, nd := fun i j hi hj e eij => ?_, tz := fun e i hi hi2 => ?_, z1 := ⟨by rw [setG_ne (by omega)]; exact A.z1.1, by rw [setG_ne (by omega)]; exact A.z1.2⟩ }
  · rcases hR with ⟨h, r, j⟩ | ⟨h, r, j⟩
    · rw [r, j, setC_at A.r6]
      have : q = 0 ∨ q = 1 := by omega
      rcases this with z | z <;> (subst z; rfl)
    · have p := A.pf 12 (by decide) (ht h)
      rw [hrow _ (by omega), A.r6, setG_ne (by omega), setG_ne (by omega), e12]
  · rw [e12] at e ⊢
    have p := A.pf 12 (by decide) e
    rcases hR with ⟨h, r, j⟩ | ⟨h, r, j⟩
    · rw [hrow _ (by omega), A.rt e, tabR_ne (.inl h)]
    · rw [r, j, setC_at (A.rt e), tabR_set h hq]
  · rcases gne i (by omega) e with ⟨z, e2⟩ | ⟨z, e2⟩
    · subst z
      rw [setG_at, setB_at]
      rcases hx with h | ⟨a1, a2, a3, a4⟩
      · exact absurd h e2
      rw [hrow _ (apart x a1 fun hg z => a4 12 (by decide) z.symm)]
      exact a3
    · rw [setG_ne z, setB_ne z]
      have p := A.pf i (by omega) e2
      rw [hrow _ (apart _ p.1 fun hg z2 => by
        have := A.nd i 12 (by omega) (by decide) e2 z2
        omega)]
      exact A.rc i hi e2
  · unfold setB
    split
    · exact hc
    · exact A.c8 i
  · rcases gne i hi e with ⟨z, e2⟩ | ⟨z, e2⟩
    · subst z
      rw [setG_at]
      rcases hx with h | ⟨a1, a2, a3, a4⟩
      · exact absurd h e2
      · exact ⟨a1, a2⟩
    · rw [setG_ne z]
      exact A.pf i hi e2
  · rcases gne i hi e with ⟨z, e2⟩ | ⟨z, e2⟩
    · subst z
      rw [setG_at] at eij
      by_cases zj : j = i
      · exact zj.symm
      · rw [setG_ne zj] at eij
        rcases hx with h | ⟨a1, a2, a3, a4⟩
        · exact absurd h e2
        · exact absurd eij.symm (a4 j hj)
    · rw [setG_ne z] at eij
      by_cases zj : j = q
      · subst zj
        rw [setG_at] at eij
        rcases hx with h | ⟨a1, a2, a3, a4⟩
        · exact absurd (eij.trans h) e2
        · exact absurd eij (a4 i hi)
      · rw [setG_ne zj] at eij
        exact A.nd i j hi hj e2 eij
  · rw [e12] at e
    by_cases z : i = q
    · subst z
      exact absurd e (ht hi)
    · rw [setG_ne z]
      exact A.tz e i hi hi2
/-- the table set -/
theorem Fl.putT (A : Fl b n M m G C sz o1 mk) {x : Int} (hz : ∀ i, 2 ≤ i → i < 10 → G i = 0) (hx : x = 0 ∨ (fdOf b n ≤ x ∧ x < b ∧ M[x.toNat]? = some (List.replicate 8 0) ∧ ∀ i, i < 13 → G i ≠ x)) :
    Fl b n (setC M (nrow b m) 6 x) m (setG G 12 x) C sz o1 mk := by
  have hf : fdOf b n = 2 + (b + 8 - 1) / 8 + n := rfl
  have hn := nrow_in A.m1 A.b0
  have hnn := A.n1
  have hmm := A.mn
  have hm1 := A.m1
  have hrow : ∀ y, y ≠ nrow b m → (setC M (nrow b m) 6 x)[y]? = M[y]? := fun y hy => setC_row fun z => hy z.symm
  have hG : ∀ i, i < 10 → setG G 12 x i = G i := fun i hi => setG_ne (by omega)
  refine { n1 := A.n1, m1 := A.m1, mn := A.mn, b0 := A.b0, r6 := ?_, rt := fun e => ?_, rc := fun i hi e => ?_, c8 := A.c8, pf := fun i hi e => ?_, nd := fun i j hi hj e eij => ?_, tz := fun e i hi hi2 => by rw [hG i hi2]; exact hz i hi hi2, z1 := ⟨by rw [setG_ne (by omega)]; exact A.z1.1, by rw [setG_ne (by omega)]; exact A.z1.2⟩ }
  · rw [setC_at A.r6, setG_at, hG 0 (by decide), hG 1 (by decide)]
    rfl
  · rw [setG_at] at e ⊢
    rcases hx with h | ⟨a1, a2, a3, a4⟩
    · exact absurd h e
    rw [hrow _ (by omega), a3, tabR_ne (.inr (by decide))]
    unfold tabR
    rw [hz 2 (by decide) (by decide), hz 3 (by decide) (by decide), hz 4 (by decide) (by decide), hz 5 (by decide) (by decide), hz 6 (by decide) (by decide), hz 7 (by decide) (by decide), hz 8 (by decide) (by decide), hz 9 (by decide) (by decide)]
    rfl
  · rw [hG i hi] at e ⊢
    have p := A.pf i (by omega) e
    rw [hrow _ (by omega)]
    exact A.rc i hi e
  · by_cases z : i = 12
    · subst z
      rw [setG_at] at e ⊢
      rcases hx with h | ⟨a1, a2, a3, a4⟩
      · exact absurd h e
      · exact ⟨a1, a2⟩
    · rw [setG_ne z] at e ⊢
      exact A.pf i hi e
  · by_cases z : i = 12
    · subst z
      rw [setG_at] at e eij
      by_cases zj : j = 12
      · exact zj.symm
      · rw [setG_ne zj] at eij
        rcases hx with h | ⟨a1, a2, a3, a4⟩
        · exact absurd h e
        · exact absurd eij.symm (a4 j hj)
    · rw [setG_ne z] at e eij
      by_cases zj : j = 12
      · subst zj
        rw [setG_at] at eij
        rcases hx with h | ⟨a1, a2, a3, a4⟩
        · exact absurd (eij.trans h) e
        · exact absurd eij (a4 i hi)
      · rw [setG_ne zj] at eij
        exact A.nd i j hi hj e eij
/-- a word put -/
theorem Fl.word (A : Fl b n M m G C sz o1 mk) {q j : Nat} {y : Int} (hq : q < 10) (e0 : G q ≠ 0) : Fl b n (setC M (G q).toNat j y) m G (setB C q ((C q).set j y)) sz o1 mk := by
  have hf : fdOf b n = 2 + (b + 8 - 1) / 8 + n := rfl
  have hn := nrow_in A.m1 A.b0
  have hnn := A.n1
  have hmm := A.mn
  have hm1 := A.m1
  have pq := A.pf q (by omega) e0
  have ne : ∀ i, i < 13 → G i ≠ 0 → i ≠ q → (G q).toNat ≠ (G i).toNat := fun i hi e hne z => by
    have p := A.pf i hi e
    exact hne (A.nd i q hi (by omega) e (by omega))
  refine { A with r6 := ?_, rt := fun e => ?_, rc := fun i hi e => ?_, c8 := fun i => ?_ }
  · rw [setC_row (by omega)]
    exact A.r6
  · rw [setC_row (ne 12 (by decide) e (by omega))]
    exact A.rt e
  · by_cases z : i = q
    · subst z
      rw [setC_at (A.rc i hi e), setB_at]
    · rw [setC_row (ne i (by omega) e z), setB_ne z]
      exact A.rc i hi e
  · unfold setB
    split
    · rw [List.length_set]
      exact A.c8 q
    · exact A.c8 i
theorem Fl.size (A : Fl b n M m G C sz o1 mk) {s : Int} : Fl b n (setC M (nrow b m) 2 s) m G C s o1 mk := by
  have hf : fdOf b n = 2 + (b + 8 - 1) / 8 + n := rfl
  have hn := nrow_in A.m1 A.b0
  have hnn := A.n1
  have hmm := A.mn
  have hm1 := A.m1
  refine { A with r6 := ?_, rt := fun e => ?_, rc := fun i hi e => ?_ }
  · rw [setC_at A.r6]
    rfl
  · have p := A.pf 12 (by decide) e
    rw [setC_row (by omega)]
    exact A.rt e
  · have p := A.pf i (by omega) e
    rw [setC_row (by omega)]
    exact A.rc i hi e
/-! ### what the code reads of it -/
theorem Fl.sz_ (A : Fl b n M m G C sz o1 mk) : cellAt M (nrow b m) 2 = sz := cellAt_of A.r6 rfl
theorem Fl.ow_ (A : Fl b n M m G C sz o1 mk) : cellAt M (nrow b m) 3 = o1 := cellAt_of A.r6 rfl
theorem Fl.kd_ (A : Fl b n M m G C sz o1 mk) : cellAt M (nrow b m) 0 = 1 := cellAt_of A.r6 rfl
theorem Fl.c_ (A : Fl b n M m G C sz o1 mk) : plc b M m = G 12 := cellAt_of A.r6 rfl
theorem Fl.ok_ (A : Fl b n M m G C sz o1 mk) : PlcOk b n M m := by
  unfold PlcOk
  rw [A.c_]
  by_cases e : G 12 = 0
  · exact .inl e
  · have := A.pf 12 (by decide) e
    exact .inr this
theorem Fl.v_ (A : Fl b n M m G C sz o1 mk) {o : Nat} (h : o < 10) : plV b M m o = G o := by
  unfold plV
  rw [A.c_]
  by_cases c : o < 2
  · rw [if_pos c]
    have : o = 0 ∨ o = 1 := by omega
    rcases this with e | e <;> (subst e; exact cellAt_of A.r6 rfl)
  · rw [if_neg c]
    by_cases e : G 12 = 0
    · rw [if_pos e, A.tz e o (by omega) h]
    · rw [if_neg e]
      have : o = 2 ∨ o = 3 ∨ o = 4 ∨ o = 5 ∨ o = 6 ∨ o = 7 ∨ o = 8 ∨ o = 9 := by omega
      rcases this with q | q | q | q | q | q | q | q <;> (subst q; exact cellAt_of (A.rt e) rfl)
theorem Fl.pl_ (A : Fl b n M m G C sz o1 mk) {o : Nat} (h : o < 10) : PlOk b n M m o := by
  unfold PlOk
  rw [A.v_ h]
  by_cases e : G o = 0
  · exact .inl e
  · have := A.pf o (by omega) e
    exact .inr this
/-- the word at c -/
def wdV (G : Nat → Int) (C : Nat → List Int) (sz : Int) (c : Int) : Int := if c ≥ sz then 0 else if G (c / 8).toNat = 0 then 0 else ((C (c / 8).toNat)[(c % 8).toNat]?).getD 0
theorem Fl.rd_ (A : Fl b n M m G C sz o1 mk) {c : Int} (h0 : 0 ≤ c) (hs : sz ≤ 80) : rdW b M m c = wdV G C sz c := by
  unfold rdW wdV
  rw [A.sz_]
  by_cases z : c ≥ sz
  · rw [if_pos z, if_pos z]
  · have ho : (c / 8).toNat < 10 := by omega
    rw [if_neg z, if_neg z, A.v_ ho]
    by_cases e : G (c / 8).toNat = 0
    · rw [if_pos e, if_pos e]
    · rw [if_neg e, if_neg e]
      unfold cellAt
      rw [A.rc _ ho e]
      rfl
end
end K09
namespace K09
open PySem PySem.Spec PyProof.Rows L2 Rg
/-! ### counting -/
theorem filt_one {S : List Int} (h : S.Nodup) (a : Int) : (S.filter fun x => decide (x ≠ a)).length + (if a ∈ S then 1 else 0) = S.length := by
  induction S with
  | nil => simp
  | cons y S ih =>
    have hn := List.nodup_cons.mp h
    have := ih hn.2
    by_cases e : y = a
    · subst e
      rw [List.filter_cons_of_neg (by simp), if_pos (List.mem_cons_self ..)]
      rw [if_neg hn.1] at this
      rw [List.length_cons]
      omega
    · rw [List.filter_cons_of_pos (by simp [e]), List.length_cons, List.length_cons]
      have em : (a ∈ y :: S) ↔ a ∈ S := by
        rw [List.mem_cons]
        constructor
        · rintro (z | z)
          · exact absurd z.symm e
          · exact z
        · exact .inr
      by_cases z : a ∈ S
      · rw [if_pos (em.mpr z)]
        rw [if_pos z] at this
        omega
      · rw [if_neg (fun q => z (em.mp q))]
        rw [if_neg z] at this
        omega
theorem filt_cons {R L : List Int} {a : Int} : (R.filter fun x => decide (x ∉ a :: L)) = (R.filter fun x => decide (x ∉ L)).filter fun x => decide (x ≠ a) := by
  rw [List.filter_filter]
  refine List.filter_congr fun x _ => ?_
  by_cases h1 : x = a
  · simp [h1]
  · by_cases h2 : x ∈ L <;> simp [h1, h2]
theorem filt_nil {R : List Int} : (R.filter fun x => decide (x ∉ ([] : List Int))) = R := by
  rw [List.filter_eq_self]
  intro x _
  simp
theorem filt_ge {R : List Int} (h : R.Nodup) : ∀ L : List Int, R.length ≤ (R.filter fun x => decide (x ∉ L)).length + L.length
  | [] => by rw [filt_nil]; exact Nat.le_refl _
  | a :: L => by
    have h1 := filt_ge h L
    have h2 := filt_one (S := R.filter fun x => decide (x ∉ L)) (h.filter _) a
    rw [filt_cons, List.length_cons]
    split at h2 <;> omega
theorem filt_eq {R : List Int} (h : R.Nodup) : ∀ L : List Int, L.Nodup → (∀ x ∈ L, x ∈ R) → (R.filter fun x => decide (x ∉ L)).length + L.length = R.length
  | [], _, _ => by rw [filt_nil]; rfl
  | a :: L, hn, hs => by
    have hn' := List.nodup_cons.mp hn
    have h1 := filt_eq h L hn'.2 fun x hx => hs x (List.mem_cons_of_mem _ hx)
    have h2 := filt_one (S := R.filter fun x => decide (x ∉ L)) (h.filter _) a
    rw [if_pos (List.mem_filter.mpr ⟨hs a (List.mem_cons_self ..), by simp [hn'.1]⟩)] at h2
    rw [filt_cons, List.length_cons]
    omega
def nz (x : Int) : Int := if x = 0 then 0 else 1
theorem filt_nz : ∀ l : List Int, ((l.filter fun x => x != 0).length : Int) = (l.map nz).sum
  | [] => rfl
  | x :: l => by
    rw [List.map_cons, List.sum_cons, ← filt_nz l]
    unfold nz
    by_cases e : x = 0
    · rw [List.filter_cons_of_neg (by simp [e]), if_pos e]
      omega
    · rw [List.filter_cons_of_pos (by simp [e]), if_neg e, List.length_cons]
      omega
def cntG (G : Nat → Int) : Int := nz (G 0) + nz (G 1) + nz (G 2) + nz (G 3) + nz (G 4) + nz (G 5) + nz (G 6) + nz (G 7) + nz (G 8) + nz (G 9) + nz (G 12)
def fileD (G : Nat → Int) : List Int := [G 0, G 1, G 2, G 3, G 4, G 5, G 6, G 7, G 8, G 9, G 12].filter fun x => x != 0
theorem fileD_len {G : Nat → Int} : ((fileD G).length : Int) = cntG G := by
  unfold fileD
  rw [filt_nz]
  simp only [List.map_cons, List.map_nil, List.sum_cons, List.sum_nil]
  unfold cntG
  omega
theorem fileD_mem {G : Nat → Int} {x : Int} : x ∈ fileD G ↔ x ≠ 0 ∧ ∃ i, (i < 10 ∨ i = 12) ∧ G i = x := by
  unfold fileD
  rw [List.mem_filter]
  simp only [List.mem_cons, List.not_mem_nil, or_false, bne_iff_ne, ne_eq]
  constructor
  · rintro ⟨h, e⟩
    refine ⟨e, ?_⟩
    rcases h with h | h | h | h | h | h | h | h | h | h | h
    · exact ⟨0, by decide, h.symm⟩
    · exact ⟨1, by decide, h.symm⟩
    · exact ⟨2, by decide, h.symm⟩
    · exact ⟨3, by decide, h.symm⟩
    · exact ⟨4, by decide, h.symm⟩
    · exact ⟨5, by decide, h.symm⟩
    · exact ⟨6, by decide, h.symm⟩
    · exact ⟨7, by decide, h.symm⟩
    · exact ⟨8, by decide, h.symm⟩
    · exact ⟨9, by decide, h.symm⟩
    · exact ⟨12, by decide, h.symm⟩
  · rintro ⟨e, i, hi, rfl⟩
    refine ⟨?_, e⟩
    have : i = 0 ∨ i = 1 ∨ i = 2 ∨ i = 3 ∨ i = 4 ∨ i = 5 ∨ i = 6 ∨ i = 7 ∨ i = 8 ∨ i = 9 ∨ i = 12 := by omega
    rcases this with h | h | h | h | h | h | h | h | h | h | h <;> (subst h; simp)
theorem cnt_set {G : Nat → Int} {q : Nat} {x : Int} (hq : q < 10 ∨ q = 12) : cntG (setG G q x) = cntG G + nz x - nz (G q) := by
  have : q = 0 ∨ q = 1 ∨ q = 2 ∨ q = 3 ∨ q = 4 ∨ q = 5 ∨ q = 6 ∨ q = 7 ∨ q = 8 ∨ q = 9 ∨ q = 12 := by omega
  rcases this with h | h | h | h | h | h | h | h | h | h | h <;> (subst h; simp [cntG, setG]; omega)
/-! ### one file among others: Ev tells what the others hold -/
structure Ev where
  (g : Int → Int) (u : Nat → Int) (l : List Int)
def Apart (b n : Int) (e : Ev) (m : Int) (y : Nat) : Prop := y = 1 ∨ (2 + (b + 8 - 1) / 8 ≤ (y : Int) ∧ y ≠ nrow b m ∧ (fdOf b n ≤ (y : Int) → (y : Int) < b ∧ e.g y ≠ 0))
def Keeps (b n : Int) (e : Ev) (m : Int) (M M' : List (List Int)) : Prop := ∀ y, Apart b n e m y → M'[y]? = M[y]?
theorem Keeps.refl {b n m : Int} {e : Ev} {M : List (List Int)} : Keeps b n e m M M := fun _ _ => rfl
structure Stt (b n : Int) (e : Ev) (m : Int) (M0 : List (List Int)) (li : List Int) (mk : Int) (M : List (List Int)) (G : Nat → Int) (C : Nat → List Int) (kd us : List Int) (sz : Int) (o1 i : Nat) : Prop where
  k : Kds b n M kd us li i
  f : Fl b n M m G C sz o1 mk
  kp : Keeps b n e m M0 M
  kq : ∀ x : Nat, fdOf b n ≤ x → (x : Int) < b → ((∃ i, i < 10 ∧ G i = x) → kd[x]? = some 2) ∧ (G 12 = x → kd[x]? = some 1) ∧ ((∀ i, i < 13 → G i ≠ x) → kd[x]? = some (e.g x))
  ff : ∀ x : Int, fdOf b n ≤ x → x < b → e.g x ≠ 0 → ∀ i, i < 13 → G i ≠ x
  fl : ∀ x : Int, fdOf b n ≤ x → x < b → (e.g x ≠ 0 ↔ x ∈ e.l)
  zr : ∀ x : Nat, fdOf b n ≤ x → (x : Int) < b → (∀ i, i < 13 → G i ≠ x) → e.g x = 0 → M[x]? = some (List.replicate 8 0)
  uq : ∀ o, o < 4 → us[o]? = some (e.u o + if o = o1 then cntG G else 0)
  o4 : o1 < 4
  s0 : 0 ≤ sz
  s8 : sz ≤ 80
section
variable {b n m mk : Int} {e : Ev} {M0 : List (List Int)} {li : List Int} {v : IV} {M : List (List Int)} {G : Nat → Int} {C : Nat → List Int} {kd us : List Int} {sz : Int} {o1 i : Nat}
theorem Stt.noq (A : Stt b n e m M0 li mk v.M G C kd us sz o1 i) (hl : ∀ x ∈ li, x = 0) {o : Nat} (ho : o < 4) : ¬ quota v o := fun z => by
  unfold quota at z
  rw [A.k.lim ho] at z
  have hol : o < li.length := by rw [A.k.l4]; exact ho
  rw [List.getElem?_eq_getElem hol] at z
  exact z.1 (hl _ (List.getElem_mem hol))
theorem Stt.free0 (A : Stt b n e m M0 li mk M G C kd us sz o1 i) {x : Nat} (h1 : fdOf b n ≤ x) (h2 : (x : Int) < b) : kd[x]? = some 0 ↔ (∀ i, i < 13 → G i ≠ x) ∧ e.g x = 0 := by
  have hf : fdOf b n = 2 + (b + 8 - 1) / 8 + n := rfl
  have n1 := A.k.n1
  obtain ⟨a, c, d⟩ := A.kq x h1 h2
  refine ⟨fun h => ?_, fun h => by rw [d h.1, h.2]⟩
  have hh : ∀ i, i < 13 → G i ≠ x := fun i hi e => by
    by_cases z : i < 10
    · rw [a ⟨i, z, e⟩] at h
      cases h
    · have : i = 10 ∨ i = 11 ∨ i = 12 := by omega
      have z1 := A.f.z1
      rcases this with q | q | q
      · rw [q, z1.1] at e
        omega
      · rw [q, z1.2] at e
        omega
      · rw [q] at e
        rw [c e] at h
        cases h
  rw [d hh] at h
  exact ⟨hh, Option.some.inj h⟩
theorem Stt.mem0 (A : Stt b n e m M0 li mk M G C kd us sz o1 i) {x : Nat} (h1 : fdOf b n ≤ x) (h2 : (x : Int) < b) : ((∀ i, i < 13 → G i ≠ x) ∧ e.g x = 0) ↔ (x : Int) ∉ fileD G ++ e.l := by
  have hf : fdOf b n = 2 + (b + 8 - 1) / 8 + n := rfl
  have n1 := A.k.n1
  have z1 := A.f.z1
  have hl := A.fl x h1 h2
  rw [List.mem_append]
  constructor
  · rintro ⟨h, g⟩ (z | z)
    · obtain ⟨_, i, hi, ei⟩ := fileD_mem.mp z
      exact h i (by omega) ei
    · exact hl.mpr z g
  · intro h
    refine ⟨fun i hi ei => h (.inl (fileD_mem.mpr ⟨by omega, i, ?_, ei⟩)), ?_⟩
    · by_cases q : i = 10
      · rw [q, z1.1] at ei; omega
      · by_cases q2 : i = 11
        · rw [q2, z1.2] at ei; omega
        · omega
    · exact Classical.byContradiction fun z => h (.inr (hl.mp z))
theorem Stt.freeL (A : Stt b n e m M0 li mk M G C kd us sz o1 i) : freeL b n M = (rng (fdOf b n) (b - fdOf b n).toNat).filter fun x => decide (x ∉ fileD G ++ e.l) := by
  unfold K09.freeL
  have hf : fdOf b n = 2 + (b + 8 - 1) / 8 + n := rfl
  have n1 := A.k.n1
  have hb := A.f.b0
  refine List.filter_congr fun x hx => ?_
  have hr := rng_mem hx
  obtain ⟨q, rfl⟩ : ∃ q : Nat, x = q := ⟨x.toNat, by omega⟩
  have h1 : fdOf b n ≤ (q : Int) := by omega
  have h2 : (q : Int) < b := by omega
  rw [A.k.kind h2]
  have hl : q < kd.length := by have := A.k.kl; omega
  refine decide_eq_decide.mpr ?_
  rw [← A.mem0 h1 h2, ← A.free0 h1 h2, List.getElem?_eq_getElem hl]
  exact ⟨fun h => by rw [show ((some kd[q]).getD 0 : Int) = kd[q] from rfl] at h; rw [h], fun h => by rw [Option.some.inj h]; rfl⟩
theorem rng_nodup {lo : Int} {n : Nat} : (rng lo n).Nodup := by
  unfold rng List.Nodup
  rw [List.pairwise_map]
  exact List.Pairwise.imp (fun h e => h (by omega)) (List.nodup_range (n := n))
theorem fileD_le {G : Nat → Int} : (fileD G).length ≤ 11 := List.length_filter_le _ _
theorem filt_app {R L1 L2 : List Int} : ((R.filter fun x => decide (x ∉ L1)).filter fun x => decide (x ∉ L2)) = R.filter fun x => decide (x ∉ L1 ++ L2) := by
  rw [List.filter_filter]
  refine List.filter_congr fun x _ => ?_
  by_cases h1 : x ∈ L1 <;> by_cases h2 : x ∈ L2 <;> simp [h1, h2]
/-- what may be taken -/
theorem Stt.let_ (A : Stt b n e m M0 li mk M G C kd us sz o1 i) {kind : Int} {ba : List Int} : letL b n M kind ba = (rng (fdOf b n) (b - fdOf b n).toNat).filter fun x => decide (x ∉ fileD G ++ e.l ++ if kind = 2 then ba else []) := by
  unfold K09.letL
  by_cases z : kind = 2
  · rw [if_pos z, if_pos z, A.freeL, filt_app]
  · rw [if_neg z, if_neg z, A.freeL, List.append_nil]
theorem Stt.let_mem (A : Stt b n e m M0 li mk M G C kd us sz o1 i) {kind : Int} {ba : List Int} {x : Int} (h : x ∈ letL b n M kind ba) : ∃ q : Nat, x = (q : Int) ∧ fdOf b n ≤ q ∧ (q : Int) < b ∧ (∀ i, i < 13 → G i ≠ q) ∧ e.g q = 0 := by
  have hf : fdOf b n = 2 + (b + 8 - 1) / 8 + n := rfl
  have n1 := A.k.n1
  have hb := A.f.b0
  rw [A.let_] at h
  obtain ⟨m1, m2⟩ := List.mem_filter.mp h
  have hr := rng_mem m1
  obtain ⟨q, rfl⟩ : ∃ q : Nat, x = q := ⟨x.toNat, by omega⟩
  have h3 : (q : Int) ∉ fileD G ++ e.l := fun z => of_decide_eq_true m2 (List.mem_append.mpr (.inl z))
  obtain ⟨h4, h5⟩ := (A.mem0 (by omega) (by omega)).mpr h3
  exact ⟨q, rfl, by omega, by omega, h4, h5⟩
end
end K09
namespace K09
open PySem PySem.Spec PyProof.Rows L2 Rg
section
variable {b n m mk : Int} {e : Ev} {M0 : List (List Int)} {li : List Int} {v : IV} {M : List (List Int)} {G : Nat → Int} {C : Nat → List Int} {kd us : List Int} {sz : Int} {o1 i : Nat}
theorem set_at {l : List Int} {i j : Nat} {x : Int} (hl : i < l.length) : (l.set i x)[j]? = if j = i then some x else l[j]? := by
  by_cases e : j = i
  · subst e
    rw [List.getElem?_set_self hl, if_pos rfl]
  · rw [List.getElem?_set_ne (fun z => e z.symm), if_neg e]
/-- holdings and stamps beside the kinds -/
structure HoS (b n : Int) (ho st kd : List Int) : Prop where
  hl : (ho.length : Int) = b
  sl : (st.length : Int) = b
  f0 : ∀ x : Nat, fdOf b n ≤ x → kd[x]? = some 0 → ho[x]? = some 0 ∧ st[x]? = some 0
  f1 : ∀ (x : Nat) (k : Int), fdOf b n ≤ x → kd[x]? = some k → k ≠ 0 → ∃ h, ho[x]? = some h ∧ 0 < h
  fx : ∀ x : Nat, (x : Int) < fdOf b n → ∃ h, ho[x]? = some h ∧ 0 < h
theorem HoS.set {ho st kd : List Int} {x : Nat} {k s : Int} (A : HoS b n ho st kd) (hfx : fdOf b n ≤ x) (hx : (x : Int) < b) (hk : k ≠ 0 ∧ 0 < s ∨ k = 0 ∧ s = 0) : HoS b n (ho.set x s) (st.set x s) (kd.set x k) := by
  have hl := A.hl
  have sl := A.sl
  refine { hl := by rw [List.length_set]; exact hl, sl := by rw [List.length_set]; exact sl, f0 := fun y hy e => ?_, f1 := fun y q hy e hq => ?_, fx := fun y hy => by rw [List.getElem?_set_ne (by omega)]; exact A.fx y hy }
  · by_cases z : y = x
    · subst z
      have hkl : y < kd.length := by
        refine Classical.byContradiction fun w => ?_
        rw [List.getElem?_eq_none (by rw [List.length_set]; omega)] at e
        cases e
      rw [List.getElem?_set_self hkl] at e
      have e0 := Option.some.inj e
      rcases hk with ⟨h, _⟩ | ⟨_, h⟩
      · exact absurd e0 h
      · rw [List.getElem?_set_self (by omega), List.getElem?_set_self (by omega), h]
        exact ⟨rfl, rfl⟩
    · rw [List.getElem?_set_ne (fun w => z w.symm)] at e
      rw [List.getElem?_set_ne (fun w => z w.symm), List.getElem?_set_ne (fun w => z w.symm)]
      exact A.f0 y hy e
  · by_cases z : y = x
    · subst z
      have hkl : y < kd.length := by
        refine Classical.byContradiction fun w => ?_
        rw [List.getElem?_eq_none (by rw [List.length_set]; omega)] at e
        cases e
      rw [List.getElem?_set_self hkl] at e
      have e0 := Option.some.inj e
      rcases hk with ⟨_, h⟩ | ⟨h, _⟩
      · exact ⟨s, List.getElem?_set_self (by omega), h⟩
      · exact absurd (e0.symm.trans h) hq
    · rw [List.getElem?_set_ne (fun w => z w.symm)] at e
      rw [List.getElem?_set_ne (fun w => z w.symm)]
      exact A.f1 y q hy e hq
theorem Keeps.step {M M' : List (List Int)} (kp : Keeps b n e m M0 M) (h : ∀ y, Apart b n e m y → M'[y]? = M[y]?) : Keeps b n e m M0 M' := fun y hy => (h y hy).trans (kp y hy)
theorem Apart.tk {y x o : Nat} {k d : Int} (h : Apart b n e m y) (n1 : 1 ≤ n) (hx : fdOf b n ≤ x) (hx2 : (x : Int) < b) (g : e.g x = 0) : (tkM M x k o d)[y]? = M[y]? := by
  have hf : fdOf b n = 2 + (b + 8 - 1) / 8 + n := rfl
  rcases h with rfl | ⟨h1, h2, h3⟩
  · exact tk1 (by omega)
  · refine tkh (by omega) fun z => ?_
    subst z
    exact (h3 hx).2 g
theorem Apart.put {y r j : Nat} {x : Int} (h : Apart b n e m y) (hr : 2 + (b + 8 - 1) / 8 ≤ (r : Int)) (hb : 0 ≤ b) (hq : r = nrow b m ∨ (fdOf b n ≤ r ∧ e.g r = 0)) : (setC M r j x)[y]? = M[y]? := by
  refine setC_row fun z => ?_
  rcases h with h | ⟨h1, h2, h3⟩
  · omega
  · rcases hq with q | ⟨q, g⟩
    · omega
    · subst z
      exact (h3 q).2 g
theorem Stt.sums (A : Stt b n e m M0 li mk M G C kd us sz o1 i) {d : Int} {o : Nat} (ho : o < 4) : (us.set o1 ((us[o1]?).getD 0 + d))[o]? = some (e.u o + if o = o1 then cntG G + d else 0) := by
  have h4 := A.o4
  have e1 := A.uq o1 h4
  rw [if_pos rfl] at e1
  rw [set_at (by rw [A.k.u4]; exact h4), e1]
  by_cases z : o = o1
  · subst z
    rw [if_pos rfl, if_pos rfl]
    congr 1
    show e.u o + cntG G + d = _
    omega
  · rw [if_neg z, if_neg z, A.uq o ho, if_neg z]
theorem putPl_len {b m x : Int} {o : Nat} : (putPl b M m o x).length = M.length := by
  unfold putPl
  split <;> exact setC_len
/-- the row that a place lies in -/
theorem putPl_row {x : Int} {q : Nat} (A : Fl b n M m G C sz o1 mk) (ht : 2 ≤ q → G 12 ≠ 0) (hb : fdOf b n ≤ b) : ∃ r j : Nat, 2 + (b + 8 - 1) / 8 ≤ (r : Int) ∧ (r : Int) < b ∧ (r = nrow b m ∨ (fdOf b n ≤ (r : Int) ∧ G 12 = (r : Int))) ∧ putPl b M m q x = setC M r j x := by
  have hf : fdOf b n = 2 + (b + 8 - 1) / 8 + n := rfl
  have hn := nrow_in A.m1 A.b0
  have m1 := A.m1
  have mn := A.mn
  unfold putPl
  rw [A.c_]
  by_cases z : q < 2
  · exact ⟨_, _, by omega, by omega, .inl rfl, if_pos z⟩
  · have p := A.pf 12 (by decide) (ht (by omega))
    exact ⟨_, _, by omega, by omega, .inr ⟨by omega, by omega⟩, if_neg z⟩
theorem Stt.g0 (A : Stt b n e m M0 li mk M G C kd us sz o1 i) {x : Int} {q : Nat} (hq : q < 13) (h1 : fdOf b n ≤ x) (h2 : x < b) (h : G q = x) : e.g x = 0 := Classical.byContradiction fun z => A.ff x h1 h2 z q hq h
/-- a place taken -/
theorem Stt.take1 (A : Stt b n e m M0 li mk M G C kd us sz o1 i) {x q : Nat} (hx : fdOf b n ≤ x) (hx2 : (x : Int) < b) (nx : ∀ i, i < 13 → G i ≠ x) (gx0 : e.g x = 0) (hq : q < 10) (e0 : G q = 0) (ht : 2 ≤ q → G 12 ≠ 0) :
    Stt b n e m M0 li mk (putPl b (tkM M x 2 o1 1) m q x) (setG G q x) (setB C q (List.replicate 8 0)) (kd.set x 2) (us.set o1 ((us[o1]?).getD 0 + 1)) sz o1 (i + 1) := by
  have hf : fdOf b n = 2 + (b + 8 - 1) / 8 + n := rfl
  have n1 := A.k.n1
  have hb := A.f.b0
  have k1 := A.k.tk (d := 1) (k := 2) hx hx2 A.o4 (.inl rfl) (.inr (.inr rfl))
  have f1 := A.f.tk (o := o1) (k := 2) (d := 1) hx hx2 nx
  have hxl : (x : Int).toNat = x := by omega
  have hml := A.k.ml
  have f2 := f1.put (x := x) (c := List.replicate 8 0) hq ht List.length_replicate (.inr ⟨by omega, by omega, by rw [hxl]; exact tkx (by omega) (by omega), nx⟩)
  obtain ⟨r, j, hr, hr2, hr3, ep⟩ := putPl_row (x := x) f1 ht A.k.fb
  have hkl : x < kd.length := by have := A.k.kl; omega
  have gx : (x : Int) ≠ 0 := by omega
  refine { k := ?_, f := f2, kp := ?_, kq := fun y h1 h2 => ?_, ff := fun y h1 h2 g i hi => ?_, fl := A.fl, zr := fun y h1 h2 hn g => ?_, uq := fun o ho => ?_, o4 := A.o4, s0 := A.s0, s8 := A.s8 }
  · rw [ep]; exact k1.put (by omega) hr2
  · refine A.kp.step fun y hy => ?_
    rw [ep, hy.put hr hb (hr3.imp id fun h => ⟨h.1, A.g0 (by decide : 12 < 13) h.1 hr2 h.2⟩)]
    exact hy.tk n1 hx hx2 gx0
  · rw [set_at hkl]
    obtain ⟨a, c, d⟩ := A.kq y h1 h2
    by_cases z : y = x
    · subst z
      rw [if_pos rfl]
      refine ⟨fun _ => rfl, fun e => ?_, fun e => ?_⟩
      · rw [setG_ne (by omega)] at e
        exact absurd e (nx 12 (by decide))
      · exact absurd setG_at (e q (by omega))
    · rw [if_neg z]
      refine ⟨fun ⟨i, hi, e⟩ => ?_, fun e => ?_, fun e => ?_⟩
      · by_cases w : i = q
        · rw [w, setG_at] at e
          omega
        · rw [setG_ne w] at e
          exact a ⟨i, hi, e⟩
      · rw [setG_ne (by omega)] at e
        exact c e
      · refine d fun i hi => ?_
        by_cases w : i = q
        · rw [w, e0]
          omega
        · have := e i hi
          rw [setG_ne w] at this
          exact this
  · by_cases w : i = q
    · rw [w, setG_at]
      intro z
      rw [← z] at g
      exact g gx0
    · rw [setG_ne w]
      exact A.ff y h1 h2 g i hi
  · have nyx : y ≠ x := fun z => hn q (by omega) (by rw [setG_at, z])
    have hy : ∀ i, i < 13 → G i ≠ y := fun i hi w => by
      by_cases c : i = q
      · rw [c, e0] at w
        omega
      · exact hn i hi (by rw [setG_ne c]; exact w)
    rw [ep, setC_row (fun z => ?_), tkh (by omega) nyx]
    · exact A.zr y h1 h2 hy g
    · rcases hr3 with h | ⟨_, h⟩
      · have := nrow_in A.f.m1 hb
        have := A.f.m1
        have := A.f.mn
        omega
      · exact hy 12 (by decide) (by rw [h, z])
  · rw [A.sums ho, cnt_set (.inl hq), e0]
    unfold nz
    rw [if_neg gx, if_pos rfl]
    split <;> (congr 1; try omega)
/-- the table taken -/
theorem Stt.takeT (A : Stt b n e m M0 li mk M G C kd us sz o1 i) {x : Nat} (hx : fdOf b n ≤ x) (hx2 : (x : Int) < b) (nx : ∀ i, i < 13 → G i ≠ x) (gx0 : e.g x = 0) (e0 : G 12 = 0) :
    Stt b n e m M0 li mk (setC (tkM M x 1 o1 1) (nrow b m) 6 x) (setG G 12 x) C (kd.set x 1) (us.set o1 ((us[o1]?).getD 0 + 1)) sz o1 (i + 1) := by
  have hf : fdOf b n = 2 + (b + 8 - 1) / 8 + n := rfl
  have n1 := A.k.n1
  have hb := A.f.b0
  have hn := nrow_in A.f.m1 hb
  have m1 := A.f.m1
  have mn := A.f.mn
  have k1 := A.k.tk (d := 1) (k := 1) hx hx2 A.o4 (.inl rfl) (.inr (.inl rfl))
  have f1 := A.f.tk (o := o1) (k := 1) (d := 1) hx hx2 nx
  have hxl : (x : Int).toNat = x := by omega
  have hml := A.k.ml
  have f2 := f1.putT (x := x) (A.f.tz e0) (.inr ⟨by omega, by omega, by rw [hxl]; exact tkx (by omega) (by omega), nx⟩)
  have hkl : x < kd.length := by have := A.k.kl; omega
  have gx : (x : Int) ≠ 0 := by omega
  refine { k := ?_, f := f2, kp := ?_, kq := fun y h1 h2 => ?_, ff := fun y h1 h2 g i hi => ?_, fl := A.fl, zr := fun y h1 h2 hn g => ?_, uq := fun o ho => ?_, o4 := A.o4, s0 := A.s0, s8 := A.s8 }
  · exact k1.put (by omega) (by omega)
  · refine A.kp.step fun y hy => ?_
    rw [hy.put (by omega) hb (.inl rfl)]
    exact hy.tk n1 hx hx2 gx0
  · rw [set_at hkl]
    obtain ⟨a, c, d⟩ := A.kq y h1 h2
    by_cases z : y = x
    · subst z
      rw [if_pos rfl]
      refine ⟨fun ⟨i, hi, e⟩ => ?_, fun _ => rfl, fun e => ?_⟩
      · rw [setG_ne (by omega)] at e
        exact absurd e (nx i (by omega))
      · exact absurd setG_at (e 12 (by omega))
    · rw [if_neg z]
      refine ⟨fun ⟨i, hi, e⟩ => ?_, fun e => ?_, fun e => ?_⟩
      · rw [setG_ne (by omega)] at e
        exact a ⟨i, hi, e⟩
      · rw [setG_at] at e
        omega
      · refine d fun i hi => ?_
        by_cases w : i = 12
        · rw [w, e0]
          omega
        · have := e i hi
          rw [setG_ne w] at this
          exact this
  · by_cases w : i = 12
    · rw [w, setG_at]
      intro z
      rw [← z] at g
      exact g gx0
    · rw [setG_ne w]
      exact A.ff y h1 h2 g i hi
  · have nyx : y ≠ x := fun z => hn 12 (by omega) (by rw [setG_at, z])
    have hy : ∀ i, i < 13 → G i ≠ y := fun i hi w => by
      by_cases c : i = 12
      · rw [c, e0] at w
        omega
      · exact hn i hi (by rw [setG_ne c]; exact w)
    rw [setC_row (by omega), tkh (by omega) nyx]
    exact A.zr y h1 h2 hy g
  · rw [A.sums ho, cnt_set (.inr rfl), e0]
    unfold nz
    rw [if_neg gx, if_pos rfl]
    split <;> (congr 1; try omega)
theorem Stt.mono (A : Stt b n e m M0 li mk M G C kd us sz o1 i) {j : Nat} (h : i ≤ j) : Stt b n e m M0 li mk M G C kd us sz o1 j := { A with k := A.k.mono h }
def Te (G : Nat → Int) : Prop := G 12 ≠ 0 → ∃ i, 2 ≤ i ∧ i < 10 ∧ G i ≠ 0
theorem Stt.log (A : Stt b n e m M0 li mk M G C kd us sz o1 i) (hi : i < 1000) : (cellAt M 0 o1).natAbs.log2 < 1910 := by
  have ho := A.o4
  rw [A.k.sum ho]
  have hou : o1 < us.length := by rw [A.k.u4]; exact ho
  rw [List.getElem?_eq_getElem hou]
  have := A.k.ul _ (List.getElem_mem hou)
  show (us[o1]).natAbs.log2 < 1910
  by_cases e : (us[o1]).natAbs = 0
  · rw [e]; decide
  rw [Nat.log2_lt e]
  have h1 : (1000 : Nat) < 2 ^ 10 := by decide
  have h2 : (2 : Nat) ^ 10 ≤ 2 ^ 1910 := Nat.pow_le_pow_right (by decide) (by decide)
  omega
end
end K09
namespace K09
open PySem PySem.Spec PyProof.Rows L2 Rg
section
variable {b n m mk : Int} {e : Ev} {M0 : List (List Int)} {li : List Int} {v : IV} {M : List (List Int)} {G : Nat → Int} {C : Nat → List Int} {kd us : List Int} {sz : Int} {o1 i : Nat}
/-- a place dropped -/
theorem Stt.drop1 (A : Stt b n e m M0 li mk M G C kd us sz o1 i) {q : Nat} (hq : q < 10) (e0 : G q ≠ 0) :
    Stt b n e m M0 li mk (putPl b (tkM M (G q).toNat 0 o1 (-1)) m q 0) (setG G q 0) (setB (setB C q (List.replicate 8 0)) q (List.replicate 8 0)) (kd.set (G q).toNat 0) (us.set o1 ((us[o1]?).getD 0 + -1)) sz o1 (i + 1) := by
  have hf : fdOf b n = 2 + (b + 8 - 1) / 8 + n := rfl
  have n1 := A.k.n1
  have hb := A.f.b0
  have hkl' := A.k.kl
  have pq := A.f.pf q (by omega) e0
  obtain ⟨x, ex⟩ : ∃ x : Nat, G q = x := ⟨(G q).toNat, by omega⟩
  have hxt : (G q).toNat = x := by omega
  rw [hxt]
  have hx : fdOf b n ≤ x := by omega
  have hx2 : (x : Int) < b := by omega
  have ht : 2 ≤ q → G 12 ≠ 0 := fun h z => e0 (A.f.tz z q h hq)
  have k1 := A.k.tk (d := -1) (k := 0) hx hx2 A.o4 (.inr rfl) (.inl rfl)
  have f1 := A.f.clr (o := o1) (k := 0) (d := -1) A.k.ml hq e0
  rw [hxt] at f1
  have f2 := f1.put (x := 0) (c := List.replicate 8 0) hq ht List.length_replicate (.inl rfl)
  obtain ⟨r, j, hr, hr2, hr3, ep⟩ := putPl_row (x := 0) f1 ht A.k.fb
  have gx0 : e.g x = 0 := A.g0 (q := q) (by omega) hx hx2 ex
  have hkl : x < kd.length := by omega
  refine { k := ?_, f := f2, kp := ?_, kq := fun y h1 h2 => ?_, ff := fun y h1 h2 g i hi => ?_, fl := A.fl, zr := fun y h1 h2 hn g => ?_, uq := fun o ho => ?_, o4 := A.o4, s0 := A.s0, s8 := A.s8 }
  · rw [ep]; exact k1.put (by omega) hr2
  · refine A.kp.step fun y hy => ?_
    rw [ep, hy.put hr hb (hr3.imp id fun h => ⟨h.1, A.g0 (by decide : 12 < 13) h.1 hr2 h.2⟩)]
    exact hy.tk n1 hx hx2 gx0
  · rw [set_at hkl]
    obtain ⟨a, b', c⟩ := A.kq y h1 h2
    by_cases z : y = x
    · subst z
      rw [if_pos rfl]
      refine ⟨fun ⟨i, hi, e⟩ => ?_, fun e => ?_, fun _ => by rw [gx0]⟩
      · exfalso
        by_cases w : i = q
        · rw [w, setG_at] at e
          omega
        · rw [setG_ne w] at e
          exact w (A.f.nd i q (by omega) (by omega) (by omega) (by omega))
      · rw [setG_ne (by omega)] at e
        have := A.f.nd 12 q (by decide) (by omega) (by omega) (by omega)
        omega
    · rw [if_neg z]
      refine ⟨fun ⟨i, hi, e⟩ => ?_, fun e => ?_, fun e => ?_⟩
      · by_cases w : i = q
        · rw [w, setG_at] at e
          omega
        · rw [setG_ne w] at e
          exact a ⟨i, hi, e⟩
      · rw [setG_ne (by omega)] at e
        exact b' e
      · refine c fun i hi => ?_
        by_cases w : i = q
        · rw [w]
          omega
        · have := e i hi
          rw [setG_ne w] at this
          exact this
  · by_cases w : i = q
    · rw [w, setG_at]
      omega
    · rw [setG_ne w]
      exact A.ff y h1 h2 g i hi
  · have r12 : r ≠ x := fun z => by
      rcases hr3 with h | ⟨_, h⟩
      · have := nrow_in A.f.m1 hb
        have := A.f.m1
        have := A.f.mn
        omega
      · have := A.f.nd 12 q (by decide) (by omega) (by omega) (by omega)
        omega
    have hml := A.k.ml
    by_cases nyx : y = x
    · subst nyx
      rw [ep, setC_row r12, tkx (by omega) (by omega)]
    · have hy : ∀ i, i < 13 → G i ≠ y := fun i hi w => by
        by_cases c : i = q
        · rw [c, ex] at w
          omega
        · exact hn i hi (by rw [setG_ne c]; exact w)
      rw [ep, setC_row (fun z => ?_), tkh (by omega) nyx]
      · exact A.zr y h1 h2 hy g
      · rcases hr3 with h | ⟨_, h⟩
        · have := nrow_in A.f.m1 hb
          have := A.f.m1
          have := A.f.mn
          omega
        · exact hy 12 (by decide) (by rw [h, z])
  · rw [A.sums ho, cnt_set (.inl hq)]
    unfold nz
    rw [if_neg e0, if_pos rfl]
    split <;> (congr 1; try omega)
theorem Stt.dropT (A : Stt b n e m M0 li mk M G C kd us sz o1 i) (e0 : G 12 ≠ 0) (hz : ∀ i, 2 ≤ i → i < 10 → G i = 0) :
    Stt b n e m M0 li mk (setC (tkM M (G 12).toNat 0 o1 (-1)) (nrow b m) 6 0) (setG G 12 0) C (kd.set (G 12).toNat 0) (us.set o1 ((us[o1]?).getD 0 + -1)) sz o1 (i + 1) := by
  have hf : fdOf b n = 2 + (b + 8 - 1) / 8 + n := rfl
  have n1 := A.k.n1
  have hb := A.f.b0
  have hn := nrow_in A.f.m1 hb
  have m1 := A.f.m1
  have mn := A.f.mn
  have hkl' := A.k.kl
  have pq := A.f.pf 12 (by omega) e0
  obtain ⟨x, ex⟩ : ∃ x : Nat, G 12 = x := ⟨(G 12).toNat, by omega⟩
  have hxt : (G 12).toNat = x := by omega
  rw [hxt]
  have hx : fdOf b n ≤ x := by omega
  have hx2 : (x : Int) < b := by omega
  have hz8 : tabR G = List.replicate 8 0 := by
    unfold tabR
    rw [hz 2 (by decide) (by decide), hz 3 (by decide) (by decide), hz 4 (by decide) (by decide), hz 5 (by decide) (by decide), hz 6 (by decide) (by decide), hz 7 (by decide) (by decide), hz 8 (by decide) (by decide), hz 9 (by decide) (by decide)]
    rfl
  have k1 := A.k.tk (d := -1) (k := 0) hx hx2 A.o4 (.inr rfl) (.inl rfl)
  have f1 := A.f.tkt (o := o1) (k := 0) (d := -1) A.k.ml e0 hz8
  rw [hxt] at f1
  have f2 := f1.putT (x := 0) hz (.inl rfl)
  have gx0 : e.g x = 0 := A.g0 (q := 12) (by omega) hx hx2 ex
  have hkl : x < kd.length := by omega
  refine { k := ?_, f := f2, kp := ?_, kq := fun y h1 h2 => ?_, ff := fun y h1 h2 g i hi => ?_, fl := A.fl, zr := fun y h1 h2 hn g => ?_, uq := fun o ho => ?_, o4 := A.o4, s0 := A.s0, s8 := A.s8 }
  · exact k1.put (by omega) (by omega)
  · refine A.kp.step fun y hy => ?_
    rw [hy.put (by omega) hb (.inl rfl)]
    exact hy.tk n1 hx hx2 gx0
  · rw [set_at hkl]
    obtain ⟨a, b', c⟩ := A.kq y h1 h2
    by_cases z : y = x
    · subst z
      rw [if_pos rfl]
      refine ⟨fun ⟨i, hi, e⟩ => ?_, fun e => ?_, fun _ => by rw [gx0]⟩
      · rw [setG_ne (by omega)] at e
        have := A.f.nd i 12 (by omega) (by decide) (by omega) (by omega)
        omega
      · rw [setG_at] at e
        omega
    · rw [if_neg z]
      refine ⟨fun ⟨i, hi, e⟩ => ?_, fun e => ?_, fun e => ?_⟩
      · rw [setG_ne (by omega)] at e
        exact a ⟨i, hi, e⟩
      · rw [setG_at] at e
        omega
      · refine c fun i hi => ?_
        by_cases w : i = 12
        · rw [w]
          omega
        · have := e i hi
          rw [setG_ne w] at this
          exact this
  · by_cases w : i = 12
    · rw [w, setG_at]
      omega
    · rw [setG_ne w]
      exact A.ff y h1 h2 g i hi
  · have hml := A.k.ml
    by_cases nyx : y = x
    · subst nyx
      rw [setC_row (by omega), tkx (by omega) (by omega)]
    · have hy : ∀ i, i < 13 → G i ≠ y := fun i hi w => by
        by_cases c : i = 12
        · rw [c, ex] at w
          omega
        · exact hn i hi (by rw [setG_ne c]; exact w)
      rw [setC_row (by omega), tkh (by omega) nyx]
      exact A.zr y h1 h2 hy g
  · rw [A.sums ho, cnt_set (.inr rfl)]
    unfold nz
    rw [if_neg e0, if_pos rfl]
    split <;> (congr 1; try omega)
theorem tabR_anyF {G : Nat → Int} (h : (tabR G).any (fun x => x != 0) = false) : ∀ i, 2 ≤ i → i < 10 → G i = 0 := fun i h1 h2 => by
  unfold tabR at h
  simp only [List.any_cons, List.any_nil, Bool.or_false, Bool.or_eq_false_iff, bne_eq_false_iff_eq] at h
  obtain ⟨a2, a3, a4, a5, a6, a7, a8, a9⟩ := h
  have : i = 2 ∨ i = 3 ∨ i = 4 ∨ i = 5 ∨ i = 6 ∨ i = 7 ∨ i = 8 ∨ i = 9 := by omega
  rcases this with e | e | e | e | e | e | e | e <;> (subst e; assumption)
theorem tabR_anyT {G : Nat → Int} (h : (tabR G).any (fun x => x != 0) = true) : ∃ i, 2 ≤ i ∧ i < 10 ∧ G i ≠ 0 := by
  unfold tabR at h
  simp only [List.any_cons, List.any_nil, Bool.or_false, Bool.or_eq_true, bne_iff_ne, ne_eq] at h
  rcases h with h | h | h | h | h | h | h | h
  · exact ⟨2, by decide, by decide, h⟩
  · exact ⟨3, by decide, by decide, h⟩
  · exact ⟨4, by decide, by decide, h⟩
  · exact ⟨5, by decide, by decide, h⟩
  · exact ⟨6, by decide, by decide, h⟩
  · exact ⟨7, by decide, by decide, h⟩
  · exact ⟨8, by decide, by decide, h⟩
  · exact ⟨9, by decide, by decide, h⟩
theorem Stt.dropP (A : Stt b n e m M0 li mk v.M G C kd us sz o1 i) {q : Nat} (hq : q < 10) (e0 : G q ≠ 0) :
    ∃ (G' : Nat → Int) (C' : Nat → List Int) (kd' us' : List Int), Stt b n e m M0 li mk (dropP b v m q o1).M G' C' kd' us' sz o1 (i + 2) ∧ (dropP b v m q o1).ba = v.ba ∧ G' q = 0 ∧ (∀ j, j < 10 → j ≠ q → G' j = G j ∧ C' j = C j) ∧ Te G' ∧ (HoS b n v.ho v.st kd → HoS b n (dropP b v m q o1).ho (dropP b v m q o1).st kd') ∧ (dropP b v m q o1).se = v.se := by
  have B := A.drop1 hq e0
  have hv := A.f.v_ hq
  unfold K09.dropP
  rw [hv, if_neg e0]
  obtain ⟨w, hw⟩ : ∃ w : IV, w = { giveV v (G q).toNat o1 with M := putPl b (giveV v (G q).toNat o1).M m q 0 } := ⟨_, rfl⟩
  have eM : w.M = putPl b (tkM v.M (G q).toNat 0 o1 (-1)) m q 0 := by rw [hw]; rfl
  have eb : w.ba = v.ba := by rw [hw]; rfl
  have es : w.se = v.se := by rw [hw]; rfl
  have hf : fdOf b n = 2 + (b + 8 - 1) / 8 + n := rfl
  have n1 := A.k.n1
  have hb := A.f.b0
  have pq := A.f.pf q (by omega) e0
  have hh : HoS b n v.ho v.st kd → HoS b n w.ho w.st (kd.set (G q).toNat 0) := fun h => by
    rw [hw]
    exact h.set (x := (G q).toNat) (by omega) (by omega) (.inr ⟨rfl, rfl⟩)
  rw [← hw, ← eb, ← es]
  rw [← eM] at B
  unfold dropB
  rw [B.f.c_]
  have keep : ∀ j, j < 10 → j ≠ q → setG G q 0 j = G j ∧ setB (setB C q (List.replicate 8 0)) q (List.replicate 8 0) j = C j := fun j _ hj => ⟨setG_ne hj, by rw [setB_ne hj, setB_ne hj]⟩
  by_cases z : setG G q 0 12 = 0
  · rw [if_pos (.inl z)]
    exact ⟨_, _, _, _, B.mono (by omega), rfl, setG_at, keep, fun h => absurd z h, hh, rfl⟩
  · rw [B.f.rt z]
    cases y : (tabR (setG G q 0)).any (fun x => x != 0) with
    | true =>
      rw [if_pos (.inr y)]
      exact ⟨_, _, _, _, B.mono (by omega), rfl, setG_at, keep, fun _ => tabR_anyT y, hh, rfl⟩
    | false =>
      have hz := tabR_anyF y
      have hn : ¬ (setG G q 0 12 = 0 ∨ ((some (tabR (setG G q 0))).getD []).any (fun x => x != 0) = true) := by
        rintro (h | h)
        · exact z h
        · have h' : (tabR (setG G q 0)).any (fun x => x != 0) = true := h
          rw [y] at h'
          cases h'
      rw [if_neg hn]
      have D := B.dropT z hz
      refine ⟨_, _, _, _, D, rfl, ?_, fun j hj hne => ?_, fun h => absurd setG_at h, fun h => (hh h).set (x := (setG G q 0 12).toNat) (by have := B.f.pf 12 (by decide) z; omega) (by have := B.f.pf 12 (by decide) z; omega) (.inr ⟨rfl, rfl⟩), rfl⟩
      · rw [setG_ne (by omega), setG_at]
      · rw [setG_ne (by omega)]
        exact keep j hj hne
theorem Stt.dropS : ∀ (os : List Nat) {v : IV} {G : Nat → Int} {C : Nat → List Int} {kd us : List Int} {i : Nat}, Stt b n e m M0 li mk v.M G C kd us sz o1 i → Te G → os.Nodup → (∀ o ∈ os, o < 10 ∧ G o ≠ 0) →
    ∃ (G' : Nat → Int) (C' : Nat → List Int) (kd' us' : List Int), DropOk b n m o1 v os ∧ Stt b n e m M0 li mk (dropS b v m o1 os).M G' C' kd' us' sz o1 (i + 2 * os.length) ∧ (dropS b v m o1 os).ba = v.ba ∧ (∀ o ∈ os, G' o = 0) ∧ (∀ j, j < 10 → j ∉ os → G' j = G j ∧ C' j = C j) ∧ Te G' ∧ (HoS b n v.ho v.st kd → HoS b n (dropS b v m o1 os).ho (dropS b v m o1 os).st kd') ∧ (dropS b v m o1 os).se = v.se
  | [], v, G, C, kd, us, i, A, te, _, _ => ⟨G, C, kd, us, trivial, A, rfl, fun _ h => absurd h List.not_mem_nil, fun _ _ _ => ⟨rfl, rfl⟩, te, id, rfl⟩
  | o :: os, v, G, C, kd, us, i, A, te, hn, h0 => by
    have hn' := List.nodup_cons.mp hn
    have ho := h0 o (List.mem_cons_self ..)
    obtain ⟨G1, C1, kd1, us1, A1, b1, g1, r1, te1, q1, s1⟩ := A.dropP ho.1 ho.2
    obtain ⟨G2, C2, kd2, us2, D2, A2, b2, g2, r2, te2, q2, s2⟩ := Stt.dropS os A1 te1 hn'.2 fun j hj => by
      have := h0 j (List.mem_cons_of_mem _ hj)
      refine ⟨this.1, ?_⟩
      rw [(r1 j this.1 (fun z => hn'.1 (z ▸ hj))).1]
      exact this.2
    refine ⟨G2, C2, kd2, us2, ⟨ho.1, A.f.ok_, A.f.pl_ ho.1, A.f.ow_, D2⟩, ?_, b2.trans b1, fun j hj => ?_, fun j hj hne => ?_, te2, fun h => q2 (q1 h), s2.trans s1⟩
    · rw [List.length_cons, show i + 2 * (os.length + 1) = i + 2 + 2 * os.length by omega]
      exact A2
    · rcases List.mem_cons.mp hj with z | z
      · subst z
        rw [(r2 j ho.1 hn'.1).1]
        exact g1
      · exact g2 j z
    · have m1 : j ≠ o := fun z => hne (z ▸ List.mem_cons_self ..)
      have m2 : j ∉ os := fun z => hne (List.mem_cons_of_mem _ z)
      obtain ⟨a, b⟩ := r2 j hj m2
      obtain ⟨a', b'⟩ := r1 j hj m1
      exact ⟨a.trans a', b.trans b'⟩
/-! ### words -/
def cellC (C : Nat → List Int) (c : Nat) : Int := ((C (c / 8))[c % 8]?).getD 0
theorem wdV_nat {c : Nat} : wdV G C sz c = if (c : Int) ≥ sz then 0 else if G (c / 8) = 0 then 0 else cellC C c := by
  unfold wdV cellC
  rw [show ((c : Int) / 8).toNat = c / 8 by omega, show ((c : Int) % 8).toNat = c % 8 by omega]
theorem cellC_set (hC : ∀ i, (C i).length = 8) {q j c : Nat} {y : Int} (hj : j < 8) : cellC (setB C q ((C q).set j y)) c = if c = 8 * q + j then y else cellC C c := by
  unfold cellC
  by_cases e : c / 8 = q
  · rw [e, setB_at, set_at (by rw [hC]; exact hj)]
    by_cases z : c % 8 = j
    · rw [if_pos z, if_pos (by omega)]
      rfl
    · rw [if_neg z, if_neg (by omega)]
  · rw [setB_ne e, if_neg (by omega)]
theorem Stt.word (A : Stt b n e m M0 li mk M G C kd us sz o1 i) {q j : Nat} {y : Int} (hq : q < 10) (e0 : G q ≠ 0) : Stt b n e m M0 li mk (setC M (G q).toNat j y) G (setB C q ((C q).set j y)) kd us sz o1 i := by
  have pq := A.f.pf q (by omega) e0
  have hf : fdOf b n = 2 + (b + 8 - 1) / 8 + n := rfl
  have n1 := A.k.n1
  have hb := A.f.b0
  exact { A with k := A.k.put (by omega) (by omega), kp := A.kp.step fun y hy => hy.put (by omega) hb (.inr ⟨by omega, A.g0 (q := q) (by omega) (by omega) (by omega) (by omega)⟩), f := A.f.word hq e0, zr := fun y h1 h2 hn g => by rw [setC_row (fun z => hn q (by omega) (by omega))]; exact A.zr y h1 h2 hn g }
theorem Stt.zero (A : Stt b n e m M0 li mk M G C kd us sz o1 i) {q j : Nat} (hq : q < 10) (e0 : G q ≠ 0) : ∀ c0 : Nat, j + c0 ≤ 8 → ∃ C', Stt b n e m M0 li mk (zeroC M (G q).toNat j c0) G C' kd us sz o1 i ∧ ∀ c, cellC C' c = if 8 * q + j ≤ c ∧ c < 8 * q + j + c0 then 0 else cellC C c
  | 0, _ => ⟨C, A, fun c => by rw [if_neg (by omega)]⟩
  | c0 + 1, h => by
    obtain ⟨C', A', hc⟩ := Stt.zero A (j := j) hq e0 c0 (by omega)
    refine ⟨_, A'.word (j := j + c0) (y := 0) hq e0, fun c => ?_⟩
    rw [cellC_set A'.f.c8 (by omega), hc]
    by_cases z : c = 8 * q + (j + c0)
    · rw [if_pos z, if_pos (by omega)]
    · rw [if_neg z]
      by_cases w : 8 * q + j ≤ c ∧ c < 8 * q + j + c0
      · rw [if_pos w, if_pos (by omega)]
      · rw [if_neg w, if_neg (by omega)]
theorem Stt.size (A : Stt b n e m M0 li mk M G C kd us sz o1 i) {s : Int} (h0 : 0 ≤ s) (h8 : s ≤ 80) : Stt b n e m M0 li mk (setC M (nrow b m) 2 s) G C kd us s o1 i := by
  have hf : fdOf b n = 2 + (b + 8 - 1) / 8 + n := rfl
  have hb := A.f.b0
  have hn := nrow_in A.f.m1 hb
  have m1 := A.f.m1
  have mn := A.f.mn
  have hfb := A.k.fb
  exact { A with k := A.k.put (by omega) (by omega), kp := A.kp.step fun y hy => hy.put (by omega) hb (.inl rfl), f := A.f.size, zr := fun y h1 h2 hn g => by (have hf : fdOf b n = 2 + (b + 8 - 1) / 8 + n := rfl); rw [setC_row (by omega)]; exact A.zr y h1 h2 hn g, s0 := h0, s8 := h8 }
/-- the size put: to less, or to more where nothing comes into sight -/
theorem Stt.psM (A : Stt b n e m M0 li mk M G C kd us sz o1 i) {s : Int} (h0 : 0 ≤ s) (h8 : s ≤ 80) (hl : s ≤ sz ∨ ∀ o : Nat, o < 10 → 8 * (o : Int) ≥ sz → G o = 0 ∨ C o = List.replicate 8 0) :
    ∃ C', Stt b n e m M0 li mk (psM b M m s) G C' kd us s o1 i ∧ ∀ c : Nat, wdV G C' s c = if (c : Int) < s then wdV G C sz c else 0 := by
  have s0 := A.s0
  have s8 := A.s8
  obtain ⟨en, he⟩ : ∃ en : Nat, endV b M m s = en := ⟨(endV b M m s).toNat, by unfold endV; rw [A.f.sz_]; split <;> omega⟩
  have hee : (en : Int) = if s < sz then s else sz := by
    rw [← he]
    unfold endV
    rw [A.f.sz_]
  obtain ⟨C', A', hc⟩ : ∃ C', Stt b n e m M0 li mk (cutM b M m en) G C' kd us sz o1 i ∧ ∀ c, cellC C' c = if en % 8 ≠ 0 ∧ G (en / 8) ≠ 0 ∧ en ≤ c ∧ c < 8 * (en / 8) + 8 then 0 else cellC C c := by
    unfold cutM
    rw [show ((en : Int) / 8).toNat = en / 8 by omega, show ((en : Int) % 8).toNat = en % 8 by omega]
    by_cases z : (en : Int) % 8 = 0
    · rw [if_pos (.inl z)]
      exact ⟨C, A, fun c => by rw [if_neg (by omega)]⟩
    · have ho : en / 8 < 10 := by split at hee <;> omega
      rw [A.f.v_ ho]
      by_cases z2 : G (en / 8) = 0
      · rw [if_pos (.inr z2)]
        exact ⟨C, A, fun c => by rw [if_neg (by simp [z2])]⟩
      · rw [if_neg (by intro h; rcases h with h | h; exact z h; exact z2 h)]
        obtain ⟨C', A', hc⟩ := A.zero (j := en % 8) ho z2 (8 - en % 8) (by omega)
        refine ⟨C', A', fun c => ?_⟩
        rw [hc]
        by_cases w : 8 * (en / 8) + en % 8 ≤ c ∧ c < 8 * (en / 8) + en % 8 + (8 - en % 8)
        · rw [if_pos w, if_pos ⟨by omega, z2, by omega, by omega⟩]
        · rw [if_neg w, if_neg (by intro h; omega)]
  refine ⟨C', ?_, fun c => ?_⟩
  · unfold K09.psM
    rw [he]
    exact A'.size h0 h8
  · rw [wdV_nat, wdV_nat]
    by_cases z : (c : Int) < s
    · rw [if_neg (by omega), if_pos z]
      by_cases g : G (c / 8) = 0
      · rw [if_pos g, if_pos g]
        split <;> rfl
      rw [if_neg g, if_neg g, hc]
      by_cases z2 : (c : Int) ≥ sz
      · rw [if_pos z2]
        have hes : (en : Int) = sz := by rw [hee, if_neg (by omega)]
        rcases hl with hl | hl
        · omega
        by_cases z3 : 8 * ((c / 8 : Nat) : Int) ≥ sz
        · rcases hl (c / 8) (by omega) z3 with q | q
          · exact absurd q g
          · have : cellC C c = 0 := by
              unfold cellC
              rw [q, List.getElem?_replicate, if_pos (by omega)]
              rfl
            rw [this]
            split <;> rfl
        · have e8 : en / 8 = c / 8 := by omega
          rw [if_pos ⟨by omega, by rw [e8]; exact g, by omega, by omega⟩]
      · rw [if_neg z2]
        have : (c : Int) < en := by rw [hee]; split <;> omega
        rw [if_neg (by omega)]
    · rw [if_pos (by omega), if_neg z]
end
end K09
namespace K09
open PySem PySem.Spec PyProof.Rows L2 Rg
section
variable {b n m mk : Int} {e : Ev} {M0 : List (List Int)} {li : List Int} {v : IV} {M : List (List Int)} {G : Nat → Int} {C : Nat → List Int} {kd us : List Int} {sz : Int} {o1 i : Nat}
theorem rng_in {lo : Int} {n : Nat} {x : Int} (h1 : lo ≤ x) (h2 : x < lo + n) : x ∈ rng lo n := by
  unfold rng
  exact List.mem_map.mpr ⟨(x - lo).toNat, List.mem_range.mpr (by omega), by omega⟩
theorem tbL_mem (A : Stt b n e m M0 li mk M G C kd us sz o1 i) {x : Int} : x ∈ tbL b M m ↔ 0 ≤ x ∧ x < 10 ∧ 8 * x ≥ sz ∧ G x.toNat ≠ 0 := by
  unfold tbL
  rw [List.mem_filter]
  unfold tbP
  rw [A.f.sz_]
  constructor
  · rintro ⟨h1, h2⟩
    have := rng_mem h1
    rw [A.f.v_ (by omega)] at h2
    have h3 := Bool.and_eq_true_iff.mp h2
    exact ⟨this.1, by omega, of_decide_eq_true h3.1, by simpa using h3.2⟩
  · rintro ⟨h1, h2, h3, h4⟩
    refine ⟨rng_in (by omega) (by omega), ?_⟩
    rw [A.f.v_ (by omega), decide_eq_true h3]
    simpa using h4
theorem tb0 (A : Stt b n e m M0 li mk M G C kd us sz o1 i) (h : ¬ 0 < (tbL b M m).length) {o : Nat} (ho : o < 10) (h8 : 8 * (o : Int) ≥ sz) : G o = 0 := by
  refine Classical.byContradiction fun z => h ?_
  have : (o : Int) ∈ tbL b M m := (tbL_mem A).mpr ⟨by omega, by omega, h8, by rw [show ((o : Int)).toNat = o by omega]; exact z⟩
  exact List.length_pos_of_mem this
theorem piece_ok (A : Stt b n e m M0 li mk M G C kd us sz o1 i) : ((pieceL b M m).reverse.map Int.toNat).Nodup ∧ (∀ o ∈ (pieceL b M m).reverse.map Int.toNat, o < 10 ∧ G o ≠ 0 ∧ 8 * (o : Int) ≥ sz) ∧ ((pieceL b M m).reverse.map Int.toNat).length ≤ 2 := by
  have hm : ∀ x ∈ pieceL b M m, 0 ≤ x ∧ x < 10 ∧ 8 * x ≥ sz ∧ G x.toNat ≠ 0 := fun x hx => (tbL_mem A).mp (List.mem_of_mem_drop hx)
  have hn : (pieceL b M m).Nodup := by
    unfold pieceL tbL
    have h : (rng 0 10).Nodup := by decide +kernel
    exact (h.filter _).sublist (List.drop_sublist _ _)
  refine ⟨?_, fun o ho => ?_, ?_⟩
  · unfold List.Nodup
    rw [List.pairwise_map, List.pairwise_reverse]
    refine List.Pairwise.imp_of_mem ?_ hn
    intro a b' ha hb hab e
    have := hm a ha
    have := hm b' hb
    exact hab (by omega)
  · obtain ⟨x, hx, rfl⟩ := List.mem_map.mp ho
    have := hm x (List.mem_reverse.mp hx)
    exact ⟨by omega, this.2.2.2, by omega⟩
  · rw [List.length_map, List.length_reverse]
    unfold pieceL
    rw [List.length_drop]
    omega
theorem late_eq (A : Stt b n e m M0 li mk v.M G C kd us sz o1 i) : late b v.M m = decide (0 < (tbL b v.M m).length) := by
  unfold late
  rw [A.f.kd_, decide_eq_true rfl, Bool.true_and]
end
end K09
namespace K09
open PySem PySem.Spec PyProof.Rows L2 Rg
/-! ### two files: each is the other's surroundings -/
def plL (G : Nat → Int) : List Int := [G 0, G 1, G 2, G 3, G 4, G 5, G 6, G 7, G 8, G 9]
theorem plL_mem {G : Nat → Int} {x : Int} : x ∈ plL G ↔ ∃ i, i < 10 ∧ G i = x := by
  unfold plL
  simp only [List.mem_cons, List.not_mem_nil, or_false]
  constructor
  · rintro (h | h | h | h | h | h | h | h | h | h)
    · exact ⟨0, by decide, h.symm⟩
    · exact ⟨1, by decide, h.symm⟩
    · exact ⟨2, by decide, h.symm⟩
    · exact ⟨3, by decide, h.symm⟩
    · exact ⟨4, by decide, h.symm⟩
    · exact ⟨5, by decide, h.symm⟩
    · exact ⟨6, by decide, h.symm⟩
    · exact ⟨7, by decide, h.symm⟩
    · exact ⟨8, by decide, h.symm⟩
    · exact ⟨9, by decide, h.symm⟩
  · rintro ⟨i, hi, rfl⟩
    have : i = 0 ∨ i = 1 ∨ i = 2 ∨ i = 3 ∨ i = 4 ∨ i = 5 ∨ i = 6 ∨ i = 7 ∨ i = 8 ∨ i = 9 := by omega
    rcases this with h | h | h | h | h | h | h | h | h | h <;> (subst h; simp)
def evOf (G : Nat → Int) (o : Nat) : Ev := ⟨fun x => if x ∈ plL G then 2 else if G 12 = x then 1 else 0, fun u => if u = o then cntG G else 0, fileD G⟩
theorem evOf_ne {G : Nat → Int} {o : Nat} {x : Int} (z : G 10 = 0 ∧ G 11 = 0) (hx : x ≠ 0) : (evOf G o).g x ≠ 0 ↔ ∃ i, i < 13 ∧ G i = x := by
  show (if x ∈ plL G then (2 : Int) else if G 12 = x then 1 else 0) ≠ 0 ↔ _
  by_cases h : x ∈ plL G
  · rw [if_pos h]
    obtain ⟨i, hi, e⟩ := plL_mem.mp h
    exact ⟨fun _ => ⟨i, by omega, e⟩, fun _ => by decide⟩
  · rw [if_neg h]
    by_cases h2 : G 12 = x
    · rw [if_pos h2]
      exact ⟨fun _ => ⟨12, by decide, h2⟩, fun _ => by decide⟩
    · rw [if_neg h2]
      refine ⟨fun w => absurd rfl w, fun ⟨i, hi, e⟩ => ?_⟩
      by_cases q : i < 10
      · exact absurd (plL_mem.mpr ⟨i, q, e⟩) h
      · have : i = 10 ∨ i = 11 ∨ i = 12 := by omega
        rcases this with r | r | r
        · rw [r, z.1] at e; exact absurd e.symm hx
        · rw [r, z.2] at e; exact absurd e.symm hx
        · rw [r] at e; exact absurd e h2
theorem Stt.other {b n m mk : Int} {li : List Int} {o1 : Nat} {m2 mk2 sz2 : Int} {M M' : List (List Int)} {G2 G' : Nat → Int} {C2 C' : Nat → List Int} {kd2 us2 kd' us' : List Int} {sz' : Int} {o2 i2 i' : Nat} {M2 : List (List Int)} {e2 : Ev}
    (B : Stt b n e2 m2 M2 li mk2 M G2 C2 kd2 us2 sz2 o2 i2) (A' : Stt b n (evOf G2 o2) m M li mk M' G' C' kd' us' sz' o1 i') (hne : m ≠ m2) : Stt b n (evOf G' o1) m2 M' li mk2 M' G2 C2 kd' us' sz2 o2 i' := by
  have hf : fdOf b n = 2 + (b + 8 - 1) / 8 + n := rfl
  have n1 := A'.k.n1
  have hb := A'.f.b0
  have hn1 := nrow_in A'.f.m1 hb
  have hn2 := nrow_in B.f.m1 hb
  have m1 := B.f.m1
  have m1a := A'.f.m1
  have mna := A'.f.mn
  have mn := B.f.mn
  have z2 := B.f.z1
  have z' := A'.f.z1
  have g2 : ∀ (x : Int), x ≠ 0 → ((evOf G2 o2).g x ≠ 0 ↔ ∃ i, i < 13 ∧ G2 i = x) := fun x hx => evOf_ne z2 hx
  have g1 : ∀ (x : Int), x ≠ 0 → ((evOf G' o1).g x ≠ 0 ↔ ∃ i, i < 13 ∧ G' i = x) := fun x hx => evOf_ne z' hx
  refine { k := A'.k, f := ?_, kp := Keeps.refl, kq := fun x h1 h2 => ⟨fun h => ?_, fun h => ?_, fun h => ?_⟩, ff := fun x h1 h2 g i hi ei => ?_, fl := fun x h1 h2 => ?_, zr := fun x h1 h2 hn g => ?_, uq := fun o ho => ?_, o4 := B.o4, s0 := B.s0, s8 := B.s8 }
  · refine B.f.keep (A'.kp _ (.inr ⟨by omega, by omega, fun h => by omega⟩)) fun i hi e => ?_
    have p := B.f.pf i hi e
    refine A'.kp _ (.inr ⟨by omega, by omega, fun h => ⟨by omega, ?_⟩⟩)
    exact (g2 _ (by omega)).mpr ⟨i, hi, by omega⟩
  · obtain ⟨i, hi, ei⟩ := h
    have hg := (g2 (x : Int) (by omega)).mpr ⟨i, by omega, ei⟩
    rw [(A'.kq x h1 h2).2.2 (A'.ff x h1 h2 hg)]
    show some (if (x : Int) ∈ plL G2 then (2 : Int) else _) = _
    rw [if_pos (plL_mem.mpr ⟨i, hi, ei⟩)]
  · have hg := (g2 (x : Int) (by omega)).mpr ⟨12, by decide, h⟩
    rw [(A'.kq x h1 h2).2.2 (A'.ff x h1 h2 hg)]
    show some (if (x : Int) ∈ plL G2 then (2 : Int) else if G2 12 = (x : Int) then 1 else 0) = _
    rw [if_neg fun w => ?_, if_pos h]
    obtain ⟨i, hi, ei⟩ := plL_mem.mp w
    have := B.f.nd i 12 (by omega) (by decide) (by omega) (by omega)
    omega
  · have h0 : (evOf G2 o2).g x = 0 := Classical.byContradiction fun w => by
      obtain ⟨i, hi, ei⟩ := (g2 (x : Int) (by omega)).mp w
      exact h i hi ei
    obtain ⟨a, c, d⟩ := A'.kq x h1 h2
    show _ = some (if (x : Int) ∈ plL G' then (2 : Int) else if G' 12 = (x : Int) then 1 else 0)
    by_cases y : (x : Int) ∈ plL G'
    · rw [if_pos y]
      exact a (plL_mem.mp y)
    · rw [if_neg y]
      by_cases y2 : G' 12 = (x : Int)
      · rw [if_pos y2]
        exact c y2
      · rw [if_neg y2, d fun i hi ei => ?_, h0]
        obtain ⟨j, w⟩ : ∃ j : Nat, j = i := ⟨i, rfl⟩
        have hne' : (evOf G' o1).g x ≠ 0 := (g1 (x : Int) (by omega)).mpr ⟨i, hi, ei⟩
        have : (if (x : Int) ∈ plL G' then (2 : Int) else if G' 12 = (x : Int) then 1 else 0) ≠ 0 := hne'
        rw [if_neg y, if_neg y2] at this
        exact this rfl
  · have hg := (g2 x (by omega)).mpr ⟨i, hi, ei⟩
    obtain ⟨j, hj, ej⟩ := (g1 x (by omega)).mp g
    exact A'.ff x h1 h2 hg j hj ej
  · rw [g1 x (by omega)]
    show _ ↔ x ∈ fileD G'
    rw [fileD_mem]
    constructor
    · rintro ⟨i, hi, ei⟩
      refine ⟨by omega, i, ?_, ei⟩
      by_cases q : i < 10
      · exact .inl q
      · have : i = 10 ∨ i = 11 ∨ i = 12 := by omega
        rcases this with r | r | r
        · rw [r, z'.1] at ei; omega
        · rw [r, z'.2] at ei; omega
        · exact .inr r
    · rintro ⟨_, i, hi, ei⟩
      exact ⟨i, by omega, ei⟩
  · refine A'.zr x h1 h2 (fun i hi ei => ?_) (Classical.byContradiction fun w => ?_)
    · exact (g1 (x : Int) (by omega)).mpr ⟨i, hi, ei⟩ g
    · obtain ⟨i, hi, ei⟩ := (g2 (x : Int) (by omega)).mp w
      exact hn i hi ei
  · rw [A'.uq o ho]
    show some ((if o = o2 then cntG G2 else 0) + if o = o1 then cntG G' else 0) = some ((if o = o1 then cntG G' else 0) + if o = o2 then cntG G2 else 0)
    congr 1
    omega
section
variable {b n : Int}
theorem Fl.nd_ {M : List (List Int)} {m : Int} {G : Nat → Int} {C : Nat → List Int} {sz o1 mk : Int} (A : Fl b n M m G C sz o1 mk) : (fileD G).Nodup := by
  show ((([0, 1, 2, 3, 4, 5, 6, 7, 8, 9, 12] : List Nat).map G).filter fun x => x != 0).Nodup
  unfold List.Nodup
  rw [List.pairwise_filter, List.pairwise_map]
  refine List.Pairwise.imp ?_ (show ([0, 1, 2, 3, 4, 5, 6, 7, 8, 9, 12] : List Nat).Pairwise (fun i j => i ≠ j ∧ i < 13 ∧ j < 13) by decide)
  rintro i j ⟨h1, h2, h3⟩ p1 p2 e
  exact h1 (A.nd i j h2 h3 (by simpa using p1) e)
end
end K09
namespace K09
open PySem PySem.Spec PyProof.Rows L2 Rg
/-! ### the law's world: rows, holdings, stamps, serial -/
structure WA where
  (w r h s : Addr) (rs : List Addr)
def WA.all (W : WA) : List Addr := W.w :: W.r :: W.h :: W.s :: W.rs
structure WAt (H : Hp) (W : WA) (v : IV) : Prop where
  w : H W.w = some (.lst [.ref W.r, .ref W.h, .ref W.s, .int v.se])
  g : Grid H W.r W.rs v.M
  h : H W.h = some (.lst (v.ho.map V.int))
  s : H W.s = some (.lst (v.st.map V.int))
  nd : W.all.Nodup
  ml : v.M.length = 24
  m8 : ∀ m ∈ v.M, m.length = 8
  hl : v.ho.length = 24
  sl : v.st.length = 24
/-- a row of a grid -/
theorem Grid.rowN {H : Hp} {r : Addr} {rs : List Addr} {M : List (List Int)} (G : Grid H r rs M) {i : Nat} (h : i < M.length) : ∃ q m, rs[i]? = some q ∧ M[i]? = some m ∧ H q = some (.lst (m.map V.int)) ∧ q ∈ rs ∧ m ∈ M := by
  have hm := List.getElem?_eq_getElem h
  obtain ⟨q, hq, e, _⟩ := G.get hm
  exact ⟨q, M[i], hq, hm, e, List.mem_of_getElem? hq, List.getElem_mem h⟩
theorem Grid.rep {H : Hp} {r : Addr} {rs : List Addr} {M : List (List Int)} (G : Grid H r rs M) {i : Nat} {q : Addr} {m : List Int} (hq : H q = some (.lst (m.map V.int))) (nq : q ∉ rs) (nr : q ≠ r) (hi : i < rs.length) : Grid (upd H r (.lst ((rs.set i q).map V.ref))) r (rs.set i q) (M.set i m) := by
  refine ⟨upd_same, by rw [List.length_set, List.length_set]; exact G.len, fun j a m' hj hm => ?_, ?_, fun z => ?_⟩
  · have hne : a ≠ r := fun z => by
      rcases mem_set_of (List.mem_of_getElem? hj) with e | e
      · exact nr (e.symm.trans z)
      · exact G.nin (by rw [← z]; exact e)
    rw [upd_ne hne]
    by_cases e : i = j
    · subst e
      rw [List.getElem?_set_self hi] at hj
      rw [List.getElem?_set_self (by rw [← G.len]; exact hi)] at hm
      cases hj
      cases hm
      exact hq
    · rw [List.getElem?_set_ne e] at hj hm
      exact G.row j a m' hj hm
  · refine List.nodup_iff_pairwise_ne.mpr ?_
    rw [List.pairwise_iff_getElem]
    intro a b ha hb hab
    rw [List.length_set] at ha hb
    have ndp := List.pairwise_iff_getElem.mp (List.nodup_iff_pairwise_ne.mp G.nd)
    rw [List.getElem_set, List.getElem_set]
    by_cases e1 : i = a
    · rw [if_pos e1, if_neg (by omega)]
      intro z
      exact nq (by rw [z]; exact List.getElem_mem hb)
    · rw [if_neg e1]
      by_cases e2 : i = b
      · rw [if_pos e2]
        intro z
        exact nq (by rw [← z]; exact List.getElem_mem ha)
      · rw [if_neg e2]
        exact ndp a b ha hb hab
  · rcases mem_set_of z with e | e
    · exact nr e.symm
    · exact G.nin e
section
variable {H : Hp} {W : WA} {v : IV}
theorem WAt.keep {H' : Hp} (A : WAt H W v) (h : ∀ x o, x ∈ W.all → H x = some o → H' x = some o) : WAt H' W v :=
  { A with w := h _ _ (by simp [WA.all]) A.w, g := A.g.keep fun x o hx e => h _ _ (by rcases hx with rfl | hx <;> simp [WA.all, *]) e, h := h _ _ (by simp [WA.all]) A.h, s := h _ _ (by simp [WA.all]) A.s }
theorem WAt.same {H' : Hp} (A : WAt H W v) (h : Same H H') : WAt H' W v := A.keep fun _ _ _ e => h _ _ e
theorem WAt.held (A : WAt H W v) {x : Addr} (h : x ∈ W.all) : ∃ o, H x = some o := by
  simp only [WA.all, List.mem_cons] at h
  rcases h with rfl | rfl | rfl | rfl | h
  · exact ⟨_, A.w⟩
  · exact ⟨_, A.g.out⟩
  · exact ⟨_, A.h⟩
  · exact ⟨_, A.s⟩
  · exact A.g.held h
theorem WA.nds (W : WA) (h : W.all.Nodup) : (W.w ≠ W.r ∧ W.w ≠ W.h ∧ W.w ≠ W.s ∧ W.w ∉ W.rs) ∧ (W.r ≠ W.h ∧ W.r ≠ W.s ∧ W.r ∉ W.rs) ∧ (W.h ≠ W.s ∧ W.h ∉ W.rs) ∧ W.s ∉ W.rs ∧ W.rs.Nodup := by
  unfold WA.all at h
  simp only [List.nodup_cons, List.mem_cons, not_or] at h
  obtain ⟨⟨a, b, c, d⟩, ⟨e, f, g⟩, ⟨i, j⟩, k, l⟩ := h
  exact ⟨⟨a, b, c, d⟩, ⟨e, f, g⟩, ⟨i, j⟩, k, l⟩
/-- the rows changed at their own places -/
theorem WAt.rows {H' : Hp} {M' : List (List Int)} (A : WAt H W v) (G : Grid H' W.r W.rs M') (k : Kp W.rs H H') (ml : M'.length = 24) (m8 : ∀ m ∈ M', m.length = 8) : WAt H' W { v with M := M' } := by
  obtain ⟨⟨_, _, _, d1⟩, _, ⟨_, d2⟩, d3, _⟩ := W.nds A.nd
  exact { w := k _ _ A.w d1, g := G, h := k _ _ A.h d2, s := k _ _ A.s d3, nd := A.nd, ml := ml, m8 := m8, hl := A.hl, sl := A.sl }
theorem WAt.sho (A : WAt H W v) {x : Nat} {a : Int} : WAt (upd H W.h (.lst ((v.ho.set x a).map V.int))) W { v with ho := v.ho.set x a } := by
  obtain ⟨⟨_, d1, _, _⟩, ⟨d2, _, _⟩, ⟨d3, d4⟩, _, _⟩ := W.nds A.nd
  exact { w := by rw [upd_ne d1]; exact A.w, g := A.g.keep fun b o hb e => by rw [upd_ne (by rcases hb with z | z; (· rw [z]; exact d2); (· exact fun y => d4 (by rw [← y]; exact z)))]; exact e, h := upd_same, s := by rw [upd_ne (fun z => d3 z.symm)]; exact A.s, nd := A.nd, ml := A.ml, m8 := A.m8, hl := by rw [List.length_set]; exact A.hl, sl := A.sl }
theorem WAt.sst (A : WAt H W v) {x : Nat} {a : Int} : WAt (upd H W.s (.lst ((v.st.set x a).map V.int))) W { v with st := v.st.set x a } := by
  obtain ⟨⟨_, _, d1, _⟩, ⟨_, d2, _⟩, ⟨d3, _⟩, d4, _⟩ := W.nds A.nd
  exact { w := by rw [upd_ne d1]; exact A.w, g := A.g.keep fun b o hb e => by rw [upd_ne (by rcases hb with z | z; (· rw [z]; exact d2); (· exact fun y => d4 (by rw [← y]; exact z)))]; exact e, h := by rw [upd_ne d3]; exact A.h, s := upd_same, nd := A.nd, ml := A.ml, m8 := A.m8, hl := A.hl, sl := by rw [List.length_set]; exact A.sl }
/-- a row made anew -/
theorem WAt.rep (A : WAt H W v) {i : Nat} {q : Addr} {m : List Int} (hq : H q = some (.lst (m.map V.int))) (nq : q ∉ W.all) (hi : i < 24) (h8 : m.length = 8) : WAt (upd H W.r (.lst ((W.rs.set i q).map V.ref))) { W with rs := W.rs.set i q } { v with M := v.M.set i m } := by
  obtain ⟨⟨a1, a2, a3, a4⟩, ⟨b1, b2, b3⟩, ⟨c1, c2⟩, d1, e1⟩ := W.nds A.nd
  have nn : q ≠ W.w ∧ q ≠ W.r ∧ q ≠ W.h ∧ q ≠ W.s ∧ q ∉ W.rs := by
    unfold WA.all at nq
    simp only [List.mem_cons, not_or] at nq
    exact nq
  obtain ⟨q1, q2, q3, q4, q5⟩ := nn
  have gl := A.g.len
  have ml := A.ml
  have G := A.g.rep (i := i) hq q5 q2 (by omega)
  refine { w := by rw [upd_ne a1]; exact A.w, g := G, h := by rw [upd_ne (fun z => b1 z.symm)]; exact A.h, s := by rw [upd_ne (fun z => b2 z.symm)]; exact A.s, nd := ?_, ml := by show (v.M.set i m).length = 24; rw [List.length_set]; exact ml, m8 := fun x hx => ?_, hl := A.hl, sl := A.sl }
  · unfold WA.all
    have ns : ∀ x, x ∉ W.rs → x ≠ q → x ∉ W.rs.set i q := fun x h1 h2 z => by
      rcases mem_set_of z with e | e
      · exact h2 e
      · exact h1 e
    simp only [List.nodup_cons, List.mem_cons, not_or]
    exact ⟨⟨a1, a2, a3, ns _ a4 (fun z => q1 z.symm)⟩, ⟨b1, b2, ns _ b3 (fun z => q2 z.symm)⟩, ⟨c1, ns _ c2 (fun z => q3 z.symm)⟩, ns _ d1 (fun z => q4 z.symm), G.nd⟩
  · rcases mem_set_of hx with e | e
    · rw [e]; exact h8
    · exact A.m8 x e
end
/-! ### a cell of a grid set -/
theorem Grid.setc {H : Hp} {r : Addr} {rs : List Addr} {M : List (List Int)} (G : Grid H r rs M) {i j : Nat} {x : Int} {q : Addr} {m : List Int} (hq : rs[i]? = some q) (hm : M[i]? = some m) : Grid (upd H q (.lst ((m.set j x).map V.int))) r rs (setC M i j x) := by
  unfold setC
  rw [hm]
  exact G.put hq
theorem setC_m8' {M : List (List Int)} {i j : Nat} {x : Int} (h : ∀ m ∈ M, m.length = 8) (hi : i < M.length) : ∀ m ∈ setC M i j x, m.length = 8 := fun m hm => by
  unfold setC at hm
  rcases mem_set_of hm with e | e
  · rw [e, List.length_set, List.getElem?_eq_getElem hi]
    exact h _ (List.getElem_mem hi)
  · exact h m e
theorem nr24 {m : Int} (h1 : 1 ≤ m) : (nrow 24 m : Int) = 4 + m := by
  unfold nrow
  omega
section
variable {P : Program} {w : World} {K : PySem.W.Frag} {mg : Str → Option Value} {base : Heap}
def sp_Lplace : Sp := fun vs H Q _ => ∃ (r : Addr) (rs : List Addr) (M : List (List Int)) (m : Int) (o : Nat), vs = [.ref r, .int m, .int o] ∧ Grid H r rs M ∧ M.length = 24 ∧ (∀ m ∈ M, m.length = 8) ∧ 1 ≤ m ∧ m ≤ 5 ∧ o < 10 ∧ PlcOk 24 5 M m ∧ Q (.int (plV 24 M m o)) H
theorem ok_Lplace (T : Tx K mg) : FnOk P w K mg base CX0 1 T.f_Lplace T.fd_Lplace ["_law_rows", "_law_n", "_law_o"] sp_Lplace := by
  refine T.F_Lplace.ok sc_Lplace (fun vs H Q E h => ?_) (fun cdv A0 outer s H vs Q E hr h => ?_)
  · obtain ⟨_, _, _, _, _, rfl, _⟩ := h; rfl
  · obtain ⟨r, rs, M, m, o, rfl, G, ml, m8, h1, h5, ho, hp, k⟩ := h
    refine ⟨_, (pss_cons (ps_set (i := 3) sc_Lplace.nd rfl (.inl rfl) (pe_ix ix_list (pv 0) (pe_op op_add pe_int (pv 1)) (fun _ _ => rfl)))
      (pss_cons (ps_if (pt_cmpR op_lt (pv 2) pe_int (nomark _))
        (pss_one (ps_ret (pe_ix ix_list (pv 3) (pe_op op_add pe_int (pv 2)) (fun _ _ => rfl))))
        pss_nil)
      (pss_cons (ps_if (pt_cmpR op_eq (pe_ix ix_list (pv 3) pe_int (fun _ _ => rfl)) pe_int (nomark _))
        (pss_one (ps_ret pe_int))
        pss_nil)
      (pss_one (ps_ret (pe_ix ix_list (pe_ix ix_list (pv 0) (pe_ix ix_list (pv 3) pe_int (fun _ _ => rfl)) (fun _ _ => rfl)) (pe_op op_sub (pv 2) pe_int) (fun _ _ => rfl))))))), ?_⟩
    have hn := nr24 h1
    obtain ⟨q, row, hq, hrow, hH, _, hmem⟩ := G.rowN (i := nrow 24 m) (by omega)
    have l8 := m8 _ hmem
    have at_ : ∀ j, (hj : j < 8) → (row.map V.int)[j]? = some (.int (cellAt M (nrow 24 m) j)) := fun j hj => by
      rw [List.getElem?_map, List.getElem?_eq_getElem (by omega), cellAt_of hrow (List.getElem?_eq_getElem (by omega))]
      rfl
    refine ⟨_, rfl, _, rfl, _, _, rfl, rfl, r, _, _, .ref q, rfl, rfl, .of G.out, at_of (j := nrow 24 m) (by omega) (by rw [List.getElem?_map, hq]; rfl), ?_⟩
    refine ⟨_, rfl, _, _, rfl, rfl, _, rfl, ite2 (fun z => ?_) (fun z => ?_)⟩
    · have z' : (o : Int) < 2 := of_decide_eq_true z
      have e : plV 24 M m o = cellAt M (nrow 24 m) (4 + o) := by unfold plV; rw [if_pos (by omega)]
      rw [e] at k
      exact ⟨_, rfl, _, rfl, _, _, rfl, rfl, q, _, _, _, rfl, rfl, .of hH, at_of (j := 4 + o) (by omega) (at_ (4 + o) (by omega)), k⟩
    · have z' : ¬ (o : Int) < 2 := fun y => z (decide_eq_true y)
      refine ⟨_, rfl, q, _, _, .int (plc 24 M m), rfl, rfl, .of hH, atI_nat (j := 6) (at_ 6 (by decide)), rfl, _, rfl, ?_⟩
      rw [dec_iv]
      by_cases y : plc 24 M m = 0
      · rw [decide_eq_true y]
        have e : plV 24 M m o = 0 := by unfold plV; rw [if_neg (by omega), if_pos y]
        rw [e] at k
        exact iteT k
      · rw [decide_eq_false y]
        have hpr : fdOf 24 5 ≤ plc 24 M m ∧ plc 24 M m < 24 := hp.resolve_left y
        have hf : fdOf 24 5 = 10 := by decide
        obtain ⟨q2, row2, hq2, hrow2, hH2, _, hmem2⟩ := G.rowN (i := (plc 24 M m).toNat) (by omega)
        have l82 := m8 _ hmem2
        have e : plV 24 M m o = cellAt M (plc 24 M m).toNat (o - 2) := by unfold plV; rw [if_neg (by omega), if_neg y]
        rw [e] at k
        refine iteF ⟨_, rfl, _, rfl, q, _, _, .int (plc 24 M m), rfl, rfl, .of hH, atI_nat (j := 6) (at_ 6 (by decide)), r, _, _, .ref q2, rfl, rfl, .of G.out, at_of (j := (plc 24 M m).toNat) (by omega) (by rw [List.getElem?_map, hq2]; rfl), _, rfl, _, _, rfl, rfl, q2, _, _, _, rfl, rfl, .of hH2, at_of (j := o - 2) (by omega) (by rw [List.getElem?_map, List.getElem?_eq_getElem (by omega), cellAt_of hrow2 (List.getElem?_eq_getElem (by omega))]; rfl), k⟩
def sp_Lput : Sp := fun vs H Q _ => ∃ (r : Addr) (rs : List Addr) (M : List (List Int)) (m : Int) (o : Nat) (x : Int), vs = [.ref r, .int m, .int o, .int x] ∧ Grid H r rs M ∧ M.length = 24 ∧ (∀ m ∈ M, m.length = 8) ∧ 1 ≤ m ∧ m ≤ 5 ∧ o < 10 ∧ (2 ≤ o → 10 ≤ plc 24 M m ∧ plc 24 M m < 24) ∧
  ∀ H', Grid H' r rs (putPl 24 M m o x) → Kp rs H H' → Q .non H'
theorem ok_Lput (T : Tx K mg) : FnOk P w K mg base CX0 1 T.f_Lput T.fd_Lput ["_law_rows", "_law_n", "_law_o", "_law_x"] sp_Lput := by
  refine T.F_Lput.ok sc_Lput (fun vs H Q E h => ?_) (fun cdv A0 outer s H vs Q E hr h => ?_)
  · obtain ⟨_, _, _, _, _, _, rfl, _⟩ := h; rfl
  · obtain ⟨r, rs, M, m, o, x, rfl, G, ml, m8, h1, h5, ho, hp, k⟩ := h
    refine ⟨_, (pss_cons (ps_set (i := 4) sc_Lput.nd rfl (.inl rfl) (pe_ix ix_list (pv 0) (pe_op op_add pe_int (pv 1)) (fun _ _ => rfl)))
      (pss_one (ps_if (pt_cmpR op_lt (pv 2) pe_int (nomark _))
        (pss_one (ps_asg (pv 3) (pg_sub (pv 4) (pe_op op_add pe_int (pv 2)) set_list)))
        (pss_cons (ps_set (i := 5) sc_Lput.nd rfl (.inl rfl) (pe_ix ix_list (pv 0) (pe_ix ix_list (pv 4) pe_int (fun _ _ => rfl)) (fun _ _ => rfl)))
        (pss_one (ps_asg (pv 3) (pg_sub (pv 5) (pe_op op_sub (pv 2) pe_int) set_list))))))), ?_⟩
    have hn := nr24 h1
    obtain ⟨q, row, hq, hrow, hH, hqm, hmem⟩ := G.rowN (i := nrow 24 m) (by omega)
    have l8 := m8 _ hmem
    have at6 : (row.map V.int)[6]? = some (.int (plc 24 M m)) := by
      rw [List.getElem?_map, List.getElem?_eq_getElem (by omega)]
      unfold plc
      rw [cellAt_of hrow (List.getElem?_eq_getElem (by omega))]
      rfl
    refine ⟨_, rfl, _, rfl, _, _, rfl, rfl, r, _, _, .ref q, rfl, rfl, .of G.out, at_of (j := nrow 24 m) (by omega) (by rw [List.getElem?_map, hq]; rfl), ?_⟩
    refine ⟨_, rfl, _, _, rfl, rfl, _, rfl, ite2 (fun z => ?_) (fun z => ?_)⟩
    · have z' : (o : Int) < 2 := of_decide_eq_true z
      refine ⟨_, rfl, _, rfl, _, rfl, _, _, rfl, rfl, q, _, _, 4 + o, rfl, rfl, hH, ixN_nat (by omega) (by rw [List.length_map]; omega), ?_⟩
      rw [← List.map_set]
      have e : putPl 24 M m o x = setC M (nrow 24 m) (4 + o) x := by unfold putPl; rw [if_pos (by omega)]
      rw [e] at k
      exact k _ (G.setc hq hrow) (Kp.refl.own hqm)
    · have z' : ¬ (o : Int) < 2 := fun y => z (decide_eq_true y)
      have hpr := hp (by omega)
      obtain ⟨q2, row2, hq2, hrow2, hH2, hqm2, hmem2⟩ := G.rowN (i := (plc 24 M m).toNat) (by omega)
      have l82 := m8 _ hmem2
      refine ⟨_, rfl, _, rfl, q, _, _, .int (plc 24 M m), rfl, rfl, .of hH, atI_nat (j := 6) at6, r, _, _, .ref q2, rfl, rfl, .of G.out, at_of (j := (plc 24 M m).toNat) (by omega) (by rw [List.getElem?_map, hq2]; rfl), ?_⟩
      refine ⟨_, rfl, _, rfl, _, rfl, _, _, rfl, rfl, q2, _, _, o - 2, rfl, rfl, hH2, ixN_nat (by omega) (by rw [List.length_map]; omega), ?_⟩
      rw [← List.map_set]
      have e : putPl 24 M m o x = setC M (plc 24 M m).toNat (o - 2) x := by unfold putPl; rw [if_neg (by omega)]
      rw [e] at k
      exact k _ (G.setc hq2 hrow2) (Kp.refl.own hqm2)
end
end K09
namespace K09
open PySem PySem.Spec PyProof.Rows L2 Rg
/-! ### cells of different rows, set in either order -/
theorem setC_comm {M : List (List Int)} {i a r c : Nat} {k y : Int} (h : i ≠ r) : setC (setC M i a k) r c y = setC (setC M r c y) i a k := by
  have h1 : (setC M i a k)[r]? = M[r]? := setC_row h
  have h2 : (setC M r c y)[i]? = M[i]? := setC_row (fun z => h z.symm)
  show (setC M i a k).set r (((setC M i a k)[r]?.getD []).set c y) = (setC M r c y).set i (((setC M r c y)[i]?.getD []).set a k)
  rw [h1, h2]
  exact List.set_comm _ _ h
theorem setC_set_comm {M : List (List Int)} {x r c : Nat} {z : List Int} {y : Int} (h : x ≠ r) : setC (M.set x z) r c y = (setC M r c y).set x z := by
  have h1 : (M.set x z)[r]? = M[r]? := List.getElem?_set_ne h
  show (M.set x z).set r (((M.set x z)[r]?.getD []).set c y) = (M.set r ((M[r]?.getD []).set c y)).set x z
  rw [h1]
  exact List.set_comm _ _ h
theorem tkM_setC {M : List (List Int)} {x o r j : Nat} {k d y : Int} (h0 : r ≠ 0) (h1 : r ≠ 2 + x / 8) (h2 : r ≠ x) : tkM (setC M r j y) x k o d = setC (tkM M x k o d) r j y := by
  unfold tkM
  rw [setC_comm (fun z => h0 z.symm), setC_set_comm (fun z => h2 z.symm), setC_comm (fun z => h1 z.symm), cellAt_congr (setC_row h0)]
theorem giveV_setC {v : IV} {x o r j : Nat} {y : Int} (h0 : r ≠ 0) (h1 : r ≠ 2 + x / 8) (h2 : r ≠ x) : giveV { v with M := setC v.M r j y } x o = { giveV v x o with M := setC (giveV v x o).M r j y } := by
  have e : (giveV { v with M := setC v.M r j y } x o).M = setC (giveV v x o).M r j y := by
    rw [giveV_tk, giveV_tk]
    exact tkM_setC h0 h1 h2
  rw [← e]
  rfl
section
variable {P : Program} {w : World} {K : PySem.W.Frag} {mg : Str → Option Value} {base : Heap}
def sp_Lgive : Sp := fun vs H Q _ => ∃ (W : WA) (v : IV) (x o : Nat), vs = [.ref W.w, .int x, .int o] ∧ WAt H W v ∧ 10 ≤ x ∧ x < 24 ∧ o < 4 ∧ ∀ H' q, H q = none → WAt H' { W with rs := W.rs.set x q } (giveV v x o) → Kp W.all H H' → Q .non H'
theorem ok_Lgive (T : Tx K mg) : FnOk P w K mg base CX0 1 T.f_Lgive T.fd_Lgive ["_law_world", "_law_x", "_law_owner"] sp_Lgive := by
  refine T.F_Lgive.ok sc_Lgive (fun vs H Q E h => ?_) (fun cdv A0 outer s H vs Q E hr h => ?_)
  · obtain ⟨_, _, _, _, rfl, _⟩ := h; rfl
  · obtain ⟨W, v, x, o, rfl, A, hx, hx2, ho, k⟩ := h
    refine ⟨_, (pss_cons (ps_asg (pv 0) (pg_lst rfl (pgs_cons (pg_name (i := 3) sc_Lgive.nd rfl (.inl rfl)) (pgs_cons (pg_name (i := 4) sc_Lgive.nd rfl (.inl rfl)) (pgs_cons (pg_name (i := 5) sc_Lgive.nd rfl (.inl rfl)) (pgs_cons (pg_name (i := 6) sc_Lgive.nd rfl (.inl rfl)) pgs_nil))))))
      (pss_cons (ps_asg (pe_op op_rep (pe_lst (pa_cons pe_int pa_nil)) pe_int) (pg_sub (pv 3) (pv 1) set_list))
      (pss_cons (ps_set (i := 7) sc_Lgive.nd rfl (.inl rfl) (pe_ix ix_list (pv 3) (pe_op op_add pe_int (pe_op op_fdiv (pv 1) pe_int)) (fun _ _ => rfl)))
      (pss_cons (ps_asg pe_int (pg_sub (pv 7) (pe_op op_mod (pe_callTy call_int1 rfl T.b_int (by decide +kernel) (pa_cons (pv 1) pa_nil)) pe_int) set_list))
      (pss_cons (ps_set (i := 8) sc_Lgive.nd rfl (.inl rfl) (pe_ix ix_list (pv 3) pe_int (fun _ _ => rfl)))
      (pss_cons (ps_asg (pe_op op_sub (pe_ix ix_list (pv 8) (pv 2) (fun _ _ => rfl)) pe_int) (pg_sub (pv 8) (pv 2) set_list))
      (pss_cons (ps_asg pe_int (pg_sub (pv 4) (pv 1) set_list))
      (pss_one (ps_asg pe_int (pg_sub (pv 5) (pv 1) set_list)))))))))), ?_⟩
    have ml := A.ml
    have gl := A.g.len
    refine ⟨_, rfl, W.w, _, rfl, .of A.w, rfl, _, _, rfl, _, _, rfl, _, _, rfl, _, _, rfl, rfl, ?_⟩
    refine ⟨(by show 1 ≤ sizeLine; decide), fun qa na => ?_⟩
    have sa := same_upd (o := .lst [V.int 0]) na
    have ea : upd H qa (.lst [V.int 0]) qa = some (.lst [V.int 0]) := upd_same
    generalize upd H qa (.lst [V.int 0]) = Ha at sa ea ⊢
    refine ⟨qa, 8, _, rfl, rfl, ea, by decide, by decide, (by show 1 * 8 ≤ sizeLine; decide), fun q nq => ?_⟩
    have sq := sa.trans (same_upd (o := .lst ((List.replicate 8 (0 : Int)).map V.int)) nq)
    have eq : upd Ha q (.lst ((List.replicate 8 (0 : Int)).map V.int)) q = some (.lst ((List.replicate 8 (0 : Int)).map V.int)) := upd_same
    change Same H (upd Ha q (.lst (List.replicate (8 : Int).toNat [V.int 0]).flatten)) at sq
    change upd Ha q (.lst (List.replicate (8 : Int).toNat [V.int 0]).flatten) q = _ at eq
    have nq0 := sa.free nq
    generalize upd Ha q (.lst (List.replicate (8 : Int).toNat [V.int 0]).flatten) = H1 at sq eq ⊢
    have A1 := A.same sq
    have nqW : q ∉ W.all := fun z => by
      obtain ⟨o', e⟩ := A.held z
      rw [nq0] at e
      cases e
    refine ⟨_, rfl, _, rfl, W.r, _, _, x, rfl, rfl, A1.g.out, ixN_nat rfl (by rw [List.length_map]; omega), ?_⟩
    rw [← List.map_set]
    have A2 := A1.rep (i := x) eq nqW hx2 List.length_replicate
    have k2 : Kp W.all H (upd H1 W.r (.lst ((W.rs.set x q).map V.ref))) := (Kp.of sq).own (by simp [WA.all])
    generalize upd H1 W.r (.lst ((W.rs.set x q).map V.ref)) = H2 at A2 k2 ⊢
    have sub : ∀ y ∈ ({ W with rs := W.rs.set x q } : WA).all, y ∈ W.all ∨ y = q := fun y hy => by
      simp only [WA.all, List.mem_cons] at hy ⊢
      rcases hy with e | e | e | e | e
      · simp [e]
      · simp [e]
      · simp [e]
      · simp [e]
      · rcases mem_set_of e with e | e
        · exact .inr e
        · simp [e]
    -- a change at W2's own places is none of W's others
    have step : ∀ {Ha Hb : Hp}, Kp W.all H Ha → Kp ({ W with rs := W.rs.set x q } : WA).all Ha Hb → Kp W.all H Hb := fun ka kb y u e n => by
      refine kb _ _ (ka _ _ e n) fun z => ?_
      rcases sub y z with z | z
      · exact n z
      · rw [z, nq0] at e
        cases e
    have rsub : ∀ y ∈ ({ W with rs := W.rs.set x q } : WA).rs, y ∈ ({ W with rs := W.rs.set x q } : WA).all := fun y hy => by simp [WA.all, hy]
    -- the map
    obtain ⟨qm, rm, hqm, hrm, hHm, hqmm, hmm⟩ := A2.g.rowN (i := 2 + x / 8) (by have := A2.ml; omega)
    have l8 := A2.m8 _ hmm
    refine ⟨_, rfl, _, rfl, _, _, rfl, rfl, (by show CDiv _ 8; exact ⟨by decide, by decide⟩), _, _, rfl, rfl, W.r, _, _, .ref qm, rfl, rfl, .of A2.g.out, at_of (j := 2 + x / 8) (by omega) (by rw [List.getElem?_map, hqm]; rfl), ?_⟩
    refine ⟨_, rfl, _, rfl, .inl ⟨_, rfl, _, _, rfl, rfl, (by show (0 : Int) < 8; decide), qm, _, _, x % 8, rfl, rfl, hHm, ixN_nat (by omega) (by rw [List.length_map]; omega), ?_⟩⟩
    rw [← List.map_set]
    have G3 := A2.g.setc (j := x % 8) (x := 0) hqm hrm
    have k3' : Kp (W.rs.set x q) H2 (upd H2 qm (.lst ((rm.set (x % 8) 0).map V.int))) := Kp.refl.own hqmm
    have A3 := A2.rows G3 k3' (by rw [setC_len]; exact A2.ml) (setC_m8' A2.m8 (by have := A2.ml; omega))
    have k3 := step k2 (k3'.mono rsub)
    generalize upd H2 qm (.lst ((rm.set (x % 8) 0).map V.int)) = H3 at A3 k3 ⊢
    clear G3 k3' hHm
    -- the sum
    obtain ⟨q0, r0, hq0, hr0, hH0, hqm0, hm0⟩ := A3.g.rowN (i := 0) (by have := A3.ml; omega)
    have l80 := A3.m8 _ hm0
    have ho8 : o < r0.length := by omega
    have ec : r0[o] = cellAt v.M 0 o := by
      have e1 : cellAt (setC (v.M.set x (List.replicate 8 0)) (2 + x / 8) (x % 8) 0) 0 o = r0[o] := cellAt_of hr0 (List.getElem?_eq_getElem ho8)
      rw [← e1, cellAt_congr (show (setC (v.M.set x (List.replicate 8 0)) (2 + x / 8) (x % 8) 0)[0]? = v.M[0]? by rw [setC_row (by omega), List.getElem?_set_ne (by omega)])]
    refine ⟨_, rfl, W.r, _, 0, .ref q0, rfl, rfl, .of A3.g.out, atI_nat (j := 0) (by rw [List.getElem?_map, hq0]; rfl), ?_⟩
    refine ⟨_, rfl, _, rfl, q0, _, _, .int r0[o], rfl, rfl, .of hH0, at_of (j := o) rfl (by rw [List.getElem?_map, List.getElem?_eq_getElem ho8]; rfl), _, _, rfl, rfl, _, rfl, _, rfl, q0, _, _, o, rfl, rfl, hH0, ixN_nat rfl (by rw [List.length_map]; exact ho8), ?_⟩
    rw [← List.map_set, ec]
    have G4 := A3.g.setc (j := o) (x := cellAt v.M 0 o - 1) hq0 hr0
    have k4' : Kp (W.rs.set x q) H3 (upd H3 q0 (.lst ((r0.set o (cellAt v.M 0 o - 1)).map V.int))) := Kp.refl.own hqm0
    have A4 := A3.rows G4 k4' (by rw [setC_len]; exact A3.ml) (setC_m8' A3.m8 (by have := A3.ml; omega))
    have k4 := step k3 (k4'.mono rsub)
    generalize upd H3 q0 (.lst ((r0.set o (cellAt v.M 0 o - 1)).map V.int)) = H4 at A4 k4 ⊢
    clear G4 k4' hH0
    -- holdings, stamps
    have hl := A4.hl
    refine ⟨_, rfl, _, rfl, W.h, _, _, x, rfl, rfl, A4.h, ixN_nat rfl (by rw [List.length_map]; omega), ?_⟩
    rw [← List.map_set]
    have A5 := A4.sho (x := x) (a := 0)
    have k5 := step k4 ((Kp.refl (S := ({ W with rs := W.rs.set x q } : WA).all) (H := H4)).own (a := W.h) (o := .lst ((v.ho.set x 0).map V.int)) (by simp [WA.all]))
    change WAt (upd H4 W.h (.lst ((v.ho.set x 0).map V.int))) _ _ at A5
    generalize upd H4 W.h (.lst ((v.ho.set x 0).map V.int)) = H5 at A5 k5 ⊢
    have sl := A5.sl
    refine ⟨_, rfl, _, rfl, W.s, _, _, x, rfl, rfl, A5.s, ixN_nat rfl (by rw [List.length_map]; omega), ?_⟩
    rw [← List.map_set]
    have A6 := A5.sst (x := x) (a := 0)
    have k6 := step k5 ((Kp.refl (S := ({ W with rs := W.rs.set x q } : WA).all) (H := H5)).own (a := W.s) (o := .lst ((v.st.set x 0).map V.int)) (by simp [WA.all]))
    change WAt (upd H5 W.s (.lst ((v.st.set x 0).map V.int))) _ _ at A6
    refine k _ q nq0 ?_ k6
    have ev : giveV v x o = { v with M := setC (setC (v.M.set x (List.replicate 8 0)) (2 + x / 8) (x % 8) 0) 0 o (cellAt v.M 0 o - 1), ho := v.ho.set x 0, st := v.st.set x 0 } := by
      rw [setC_set_comm (by omega)]
      rfl
    rw [ev]
    exact A6
end
end K09
namespace K09
open PySem PySem.Spec PyProof.Rows L2 Rg
section
variable {H H1 H2 : Hp} {W : WA} {v : IV} {rs1 : List Addr}
theorem WKp (k1 : Kp W.all H H1) (R : RsOf H W.rs rs1) (k2 : Kp ({ W with rs := rs1 } : WA).all H1 H2) : Kp W.all H H2 := fun y u e n => by
  refine k2 _ _ (k1 _ _ e n) fun z => ?_
  simp only [WA.all, List.mem_cons, not_or] at z n
  obtain ⟨n1, n2, n3, n4, n5⟩ := n
  rcases z with z | z | z | z | z
  · exact n1 z
  · exact n2 z
  · exact n3 z
  · exact n4 z
  · rcases R y z with h | h
    · exact n5 h
    · rw [e] at h
      cases h
theorem RsOf.more (R : RsOf H W.rs rs1) (k1 : Kp W.all H H1) (A1 : WAt H1 { W with rs := rs1 } v) {q : Addr} {i : Nat} (hq : H1 q = none) : RsOf H W.rs (rs1.set i q) := fun r hr => by
  rcases mem_set_of hr with e | e
  · subst e
    by_cases z : r ∈ W.all
    · simp only [WA.all, List.mem_cons] at z
      have no : r ∈ ({ W with rs := rs1 } : WA).all → False := fun y => by
        obtain ⟨o, e⟩ := A1.held y
        rw [hq] at e
        cases e
      rcases z with z | z | z | z | z
      · exact (no (by simp [WA.all, z])).elim
      · exact (no (by simp [WA.all, z])).elim
      · exact (no (by simp [WA.all, z])).elim
      · exact (no (by simp [WA.all, z])).elim
      · exact .inl z
    · exact .inr (k1.free z hq)
  · exact R r e
end
theorem sum0 : ∀ {l : List Int}, (∀ x ∈ l, 0 ≤ x) → (l.sum = 0 ↔ l.any (fun x => x != 0) = false)
  | [], _ => by simp
  | x :: l, h => by
    have hx := h x (List.mem_cons_self ..)
    have ih := sum0 (l := l) fun y hy => h y (List.mem_cons_of_mem _ hy)
    have pos : 0 ≤ l.sum := by
      clear ih
      have hl : ∀ y ∈ l, 0 ≤ y := fun y hy => h y (List.mem_cons_of_mem _ hy)
      clear h
      induction l with
      | nil => simp
      | cons a l ih =>
        rw [List.sum_cons]
        have := hl a (List.mem_cons_self ..)
        have := ih fun y hy => hl y (List.mem_cons_of_mem _ hy)
        omega
    rw [List.sum_cons, List.any_cons, Bool.or_eq_false_iff, ← ih]
    constructor
    · intro e
      have : x = 0 := by omega
      exact ⟨by simp [this], by omega⟩
    · rintro ⟨a, c⟩
      have : x = 0 := by simpa using a
      omega
section
variable {P : Program} {w : World} {K : PySem.W.Frag} {mg : Str → Option Value} {base : Heap}
def sp_Ldrop : Sp := fun vs H Q _ => ∃ (W : WA) (v : IV) (m : Int) (o ow : Nat) (G : Nat → Int) (C : Nat → List Int) (sz mk : Int), vs = [.ref W.w, .int m, .int o] ∧ WAt H W v ∧ Fl 24 5 v.M m G C sz ow mk ∧ o < 10 ∧ G o ≠ 0 ∧ ow < 4 ∧
  ∀ H' rs', WAt H' { W with rs := rs' } (dropP 24 v m o ow) → Kp W.all H H' → RsOf H W.rs rs' → Q .non H'
theorem ok_Ldrop (T : Tx K mg) : FnOk P w K mg base CX0 2 T.f_Ldrop T.fd_Ldrop ["_law_world", "_law_n", "_law_o"] sp_Ldrop := by
  refine T.F_Ldrop.ok sc_Ldrop (fun vs H Q E h => ?_) (fun cdv A0 outer s H vs Q E hr h => ?_)
  · obtain ⟨_, _, _, _, _, _, _, _, _, rfl, _⟩ := h; rfl
  · obtain ⟨W, v, m, o, ow, G, C, sz, mk, rfl, A, f, ho, g0, how, k⟩ := h
    refine ⟨_, (pss_cons (ps_set (i := 3) sc_Ldrop.nd rfl (.inl rfl) (pe_ix ix_list (pv 0) pe_int (fun _ _ => rfl)))
      (pss_cons (ps_set (i := 4) sc_Ldrop.nd rfl (.inl rfl) (pe_ix ix_list (pv 3) (pe_op op_add pe_int (pv 1)) (fun _ _ => rfl)))
      (pss_cons (ps_set (i := 5) sc_Ldrop.nd rfl (.inl rfl) (pe_call (ok_Lplace T) hr rfl T.mg_Lplace T.F_Lplace.kp (b_Lplace T) .nil pass0 (pa_cons (pv 3) (pa_cons (pv 1) (pa_cons (pv 2) pa_nil)))))
      (pss_cons (ps_expr (pe_call (ok_Lput T) hr rfl T.mg_Lput T.F_Lput.kp (b_Lput T) .nil pass0 (pa_cons (pv 3) (pa_cons (pv 1) (pa_cons (pv 2) (pa_cons pe_int pa_nil))))))
      (pss_cons (ps_expr (pe_call (ok_Lgive T) hr rfl T.mg_Lgive T.F_Lgive.kp (b_Lgive T) .nil pass0 (pa_cons (pv 0) (pa_cons (pv 5) (pa_cons (pe_ix ix_list (pv 4) pe_int (fun _ _ => rfl)) pa_nil)))))
      (pss_one (ps_if (PW.pt (pw_and (pt_cmpR op_gt (pe_ix ix_list (pv 4) pe_int (fun _ _ => rfl)) pe_int (nomark _)) (pw_and1 (pt_cmpR op_eq (pe_callB (cr_sum rfl) rfl T.b_sum (by decide +kernel) (pa_cons (pe_ix ix_list (pv 3) (pe_ix ix_list (pv 4) pe_int (fun _ _ => rfl)) (fun _ _ => rfl)) pa_nil)) pe_int (nomark _)))))
        (pss_cons (ps_set (i := 5) sc_Ldrop.nd rfl (.inl rfl) (pe_ix ix_list (pv 4) pe_int (fun _ _ => rfl)))
        (pss_cons (ps_asg pe_int (pg_sub (pv 4) pe_int set_list))
        (pss_one (ps_expr (pe_call (ok_Lgive T) hr rfl T.mg_Lgive T.F_Lgive.kp (b_Lgive T) .nil pass0 (pa_cons (pv 0) (pa_cons (pv 5) (pa_cons (pe_ix ix_list (pv 4) pe_int (fun _ _ => rfl)) pa_nil))))))))
        pss_nil))))))), ?_⟩
    have ml := A.ml
    have gl := A.g.len
    have m1 := f.m1
    have mn := f.mn
    have hn := nr24 f.m1
    have hf : fdOf 24 5 = 10 := by decide
    have pq := f.pf o (by omega) g0
    obtain ⟨x, hx⟩ : ∃ x : Nat, G o = x := ⟨(G o).toNat, by omega⟩
    have ht : 2 ≤ o → G 12 ≠ 0 := fun h z => g0 (f.tz z o h ho)
    obtain ⟨qn, rn, hqn, hrn, hHn, hqnm, hnm⟩ := A.g.rowN (i := nrow 24 m) (by omega)
    refine ⟨_, rfl, W.w, _, 0, .ref W.r, rfl, rfl, .of A.w, atI_nat (j := 0) rfl, _, rfl, _, rfl, _, _, rfl, rfl, W.r, _, _, .ref qn, rfl, rfl, .of A.g.out, at_of (j := nrow 24 m) (by omega) (by rw [List.getElem?_map, hqn]; rfl), ?_⟩
    refine ⟨_, rfl, _, rfl, _, rfl, W.r, W.rs, v.M, m, o, rfl, A.g, ml, A.m8, m1, mn, ho, f.ok_, ?_⟩
    rw [f.v_ ho, hx]
    refine ⟨_, rfl, _, rfl, _, rfl, W.r, W.rs, v.M, m, o, 0, rfl, A.g, ml, A.m8, m1, mn, ho, fun h => ?_, fun H1 G1 k1 => ?_⟩
    · rw [f.c_]
      have := f.pf 12 (by decide) (ht h)
      omega
    -- behind the put
    obtain ⟨r, j, hr1, hr2, hr3, ep⟩ : ∃ r j : Nat, 5 ≤ r ∧ r < 24 ∧ (r = nrow 24 m ∨ G 12 = (r : Int)) ∧ ∀ M', plc 24 M' m = plc 24 v.M m → putPl 24 M' m o 0 = setC M' r j 0 := by
      by_cases h2 : o < 2
      · exact ⟨nrow 24 m, 4 + o, by omega, by omega, .inl rfl, fun M' _ => by unfold putPl; rw [if_pos h2]⟩
      · have := f.pf 12 (by decide) (ht (by omega))
        exact ⟨(G 12).toNat, o - 2, by omega, by omega, .inr (by omega), fun M' e => by unfold putPl; rw [if_neg h2, e, f.c_]⟩
    have rx : r ≠ x := fun z => by
      rcases hr3 with h | h
      · omega
      · have := f.nd 12 o (by decide) (by omega) (by omega) (by omega)
        omega
    have r0 : r ≠ 0 := by omega
    have rm : r ≠ 2 + x / 8 := by omega
    have A1 := A.rows G1 k1 (by rw [putPl_len]; exact ml) (by rw [ep _ rfl]; exact setC_m8' A.m8 (by omega))
    obtain ⟨qn1, rn1, hqn1, hrn1, hHn1, _, _⟩ := A1.g.rowN (i := nrow 24 m) (by have := A1.ml; omega)
    have eqn : qn1 = qn := by rw [hqn] at hqn1; exact (Option.some.inj hqn1).symm
    subst eqn
    have kW1 : Kp W.all H H1 := k1.mono fun y hy => by simp [WA.all, hy]
    have ert : (putPl 24 v.M m o 0)[nrow 24 m]? = some ([1, 1, sz, (ow : Int), setG G o 0 0, setG G o 0 1, G 12, mk]) := by
      rw [ep _ rfl]
      rcases hr3 with h | h
      · by_cases h2 : o < 2
        · have e := ep v.M rfl
          unfold putPl at e
          rw [if_pos h2] at e
          rw [← e, setC_at f.r6]
          have : o = 0 ∨ o = 1 := by omega
          rcases this with z | z <;> (subst z; rfl)
        · have := f.pf 12 (by decide) (ht (by omega))
          have e := ep v.M rfl
          unfold putPl at e
          rw [if_neg h2, f.c_] at e
          rw [← e, setC_row (by omega), f.r6, setG_ne (by omega), setG_ne (by omega)]
      · have := f.pf 12 (by decide) (by omega)
        rw [setC_row (by omega), f.r6]
        by_cases h2 : o < 2
        · exfalso
          have e := ep v.M rfl
          unfold putPl at e
          rw [if_pos h2] at e
          have e1 : (setC v.M (nrow 24 m) (4 + o) 0)[nrow 24 m]? = (setC v.M r j 0)[nrow 24 m]? := by rw [e]
          rw [setC_at f.r6, setC_row (by omega), f.r6] at e1
          have e2 := Option.some.inj e1
          have : o = 0 ∨ o = 1 := by omega
          rcases this with z | z
          · subst z
            have : (0 : Int) = G 0 := by injection e2 with _ e2; injection e2 with _ e2; injection e2 with _ e2; injection e2 with _ e2; injection e2 with e2 _
            omega
          · subst z
            have : (0 : Int) = G 1 := by injection e2 with _ e2; injection e2 with _ e2; injection e2 with _ e2; injection e2 with _ e2; injection e2 with _ e2; injection e2 with e2 _
            omega
        · rw [setG_ne (by omega), setG_ne (by omega)]
    rw [ert] at hrn1
    obtain rfl := Option.some.inj hrn1
    refine ⟨_, rfl, _, rfl, _, rfl, qn1, _, 3, .int (ow : Int), rfl, rfl, .of hHn1, atI_nat (j := 3) rfl, W, { v with M := putPl 24 v.M m o 0 }, x, ow, rfl, A1, by omega, by omega, how, fun H2 q nq A2 k2 => ?_⟩
    have hxt : (G o).toNat = x := by omega
    have f1 := f.clr (o := ow) (k := 0) (d := -1) (by rw [ml]; rfl) ho g0
    rw [hxt] at f1
    have f2 := f1.put (x := 0) (c := List.replicate 8 0) ho ht List.length_replicate (.inl rfl)
    have eplc : plc 24 (giveV v x ow).M m = plc 24 v.M m := by
      rw [giveV_tk]
      exact cellAt_congr (tkh (by omega) (by omega))
    have ev2 : giveV { v with M := putPl 24 v.M m o 0 } x ow = { giveV v x ow with M := putPl 24 (giveV v x ow).M m o 0 } := by
      rw [ep _ rfl, ep _ eplc]
      exact giveV_setC r0 rm rx
    obtain ⟨v2, hv2⟩ : ∃ v2, giveV { v with M := putPl 24 v.M m o 0 } x ow = v2 := ⟨_, rfl⟩
    have ev2' : v2 = { giveV v x ow with M := putPl 24 (giveV v x ow).M m o 0 } := hv2.symm.trans ev2
    rw [hv2] at A2
    have f2' : Fl 24 5 v2.M m (setG G o 0) (setB (setB C o (List.replicate 8 0)) o (List.replicate 8 0)) sz ow mk := by rw [ev2']; exact f2
    have edrop : dropP 24 v m o ow = dropB 24 v2 m ow := by
      unfold dropP
      rw [f.v_ ho, if_neg g0, hxt, ← ev2']
    rw [edrop] at k
    clear f1 f2 ev2 ev2' hv2 ert hHn1
    have e12 : setG G o 0 12 = G 12 := setG_ne (by omega)
    have kW2 : Kp W.all H H2 := kW1.trans k2
    have R2 : RsOf H W.rs (W.rs.set x q) := RsOf.more (rs1 := W.rs) RsOf.refl kW1 A1 nq
    have hqn2 : (W.rs.set x q)[nrow 24 m]? = some qn1 := by rw [List.getElem?_set_ne (by omega)]; exact hqn
    have hHn2 : H2 qn1 = some (.lst (([1, 1, sz, (ow : Int), setG G o 0 0, setG G o 0 1, setG G o 0 12, mk] : List Int).map V.int)) := A2.g.row _ _ _ hqn2 f2'.r6
    have ml2 := A2.ml
    refine ⟨_, rfl, qn1, _, 6, .int (setG G o 0 12), rfl, rfl, .of hHn2, atI_nat (j := 6) rfl, _, _, rfl, rfl, _, rfl, ?_⟩
    rw [e12]
    by_cases z12 : G 12 = 0
    · rw [decide_eq_false (by omega)]
      refine iteF ?_
      have ed : dropB 24 v2 m ow = v2 := by
        unfold dropB
        rw [f2'.c_, e12, if_pos (.inl z12)]
      rw [ed] at k
      exact k H2 _ A2 kW2 R2
    have p12 := f.pf 12 (by decide) z12
    rw [decide_eq_true (by omega)]
    obtain ⟨t, htt⟩ : ∃ t : Nat, G 12 = t := ⟨(G 12).toNat, by omega⟩
    obtain ⟨qt, rt, hqt, hrt, hHt, _, _⟩ := A2.g.rowN (i := t) (by omega)
    have hrt' : rt = tabR (setG G o 0) := by
      have := f2'.rt (by rw [e12]; exact z12)
      rw [e12, show (G 12).toNat = t by omega, hrt] at this
      exact Option.some.inj this
    subst hrt'
    refine iteT ⟨_, rfl, _, rfl, qn1, _, 6, .int (setG G o 0 12), rfl, rfl, .of hHn2, atI_nat (j := 6) rfl, W.r, _, _, .ref qt, rfl, rfl, .of A2.g.out, at_of (j := t) (by rw [e12]; omega) (by rw [List.getElem?_map, hqt]; rfl), qt, _, rfl, .of hHt, rfl, _, rfl, ?_⟩
    rw [dec_iv]
    have hs := sum0 (l := tabR (setG G o 0)) fun y hy => by
      unfold tabR at hy
      simp only [List.mem_cons, List.not_mem_nil, or_false] at hy
      have pos : ∀ i, i < 13 → 0 ≤ setG G o 0 i := fun i hi => by
        by_cases e : setG G o 0 i = 0
        · omega
        · have := f2'.pf i hi e
          omega
      rcases hy with e | e | e | e | e | e | e | e <;> (rw [e]; exact pos _ (by decide))
    have em : ((v2.M[(setG G o 0 12).toNat]?).getD []) = tabR (setG G o 0) := by
      rw [f2'.rt (by rw [e12]; exact z12)]
      rfl
    by_cases zs : (tabR (setG G o 0)).sum = 0
    · rw [decide_eq_true zs]
      have ed : dropB 24 v2 m ow = { giveV v2 t ow with M := setC (giveV v2 t ow).M (nrow 24 m) 6 0 } := by
        unfold dropB
        rw [f2'.c_, em, e12, if_neg, show (G 12).toNat = t by omega]
        rintro (h | h)
        · exact z12 h
        · rw [hs.mp zs] at h
          cases h
      rw [ed] at k
      refine iteT ⟨_, rfl, qn1, _, 6, .int (setG G o 0 12), rfl, rfl, .of hHn2, atI_nat (j := 6) rfl, ?_⟩
      refine ⟨_, rfl, qn1, _, _, 6, rfl, rfl, hHn2, ixN_nat rfl (by show 6 < 8; decide), ?_⟩
      have G3 := A2.g.setc (j := 6) (x := 0) hqn2 f2'.r6
      have qnm2 : qn1 ∈ W.rs.set x q := List.mem_of_getElem? hqn2
      have k3 : Kp ({ W with rs := W.rs.set x q } : WA).rs H2 (upd H2 qn1 (.lst ((([1, 1, sz, (ow : Int), setG G o 0 0, setG G o 0 1, setG G o 0 12, mk] : List Int).set 6 0).map V.int))) := Kp.refl.own qnm2
      have A3 := A2.rows G3 k3 (by rw [setC_len]; exact ml2) (setC_m8' A2.m8 (by omega))
      rw [← List.map_set]
      have kW3 := WKp kW2 R2 (k3.mono fun y hy => by simp [WA.all, hy])
      generalize upd H2 qn1 (.lst ((([1, 1, sz, (ow : Int), setG G o 0 0, setG G o 0 1, setG G o 0 12, mk] : List Int).set 6 0).map V.int)) = H3 at A3 kW3 ⊢
      clear G3 k3
      have hHn3 : H3 qn1 = some (.lst ((([1, 1, sz, (ow : Int), setG G o 0 0, setG G o 0 1, setG G o 0 12, mk] : List Int).set 6 0).map V.int)) := A3.g.row _ _ _ hqn2 (setC_at f2'.r6)
      refine ⟨_, rfl, _, rfl, _, rfl, qn1, _, 3, .int (ow : Int), rfl, rfl, .of hHn3, atI_nat (j := 3) rfl, { W with rs := W.rs.set x q }, { v2 with M := setC v2.M (nrow 24 m) 6 0 }, t, ow, by rw [e12, htt]; rfl, A3, by omega, by omega, how, fun H4 q4 nq4 A4 k4 => ?_⟩
      rw [giveV_setC (by omega) (by omega) (by omega)] at A4
      exact k H4 _ A4 (WKp kW3 R2 k4) (RsOf.more (rs1 := W.rs.set x q) R2 kW3 A3 nq4)
    · rw [decide_eq_false zs]
      refine iteF ?_
      have ed : dropB 24 v2 m ow = v2 := by
        unfold dropB
        rw [f2'.c_, em, e12, if_pos]
        right
        cases h : (tabR (setG G o 0)).any (fun x => x != 0) with
        | true => rfl
        | false => exact absurd (hs.mpr h) zs
      rw [ed] at k
      exact k H2 _ A2 kW2 R2
end
end K09
namespace K09
open PySem PySem.Spec PyProof.Rows L2 Rg
theorem RsOf.tr {H H1 : Hp} {W : WA} {v : IV} {rs1 rs2 : List Addr} (R : RsOf H W.rs rs1) (k1 : Kp W.all H H1) (A1 : WAt H1 { W with rs := rs1 } v) (R2 : RsOf H1 rs1 rs2) : RsOf H W.rs rs2 := fun r hr => by
  rcases R2 r hr with e | hq
  · exact R r e
  · by_cases z : r ∈ W.all
    · simp only [WA.all, List.mem_cons] at z
      have no : r ∈ ({ W with rs := rs1 } : WA).all → False := fun y => by
        obtain ⟨o, e⟩ := A1.held y
        rw [hq] at e
        cases e
      rcases z with z | z | z | z | z
      · exact (no (by simp [WA.all, z])).elim
      · exact (no (by simp [WA.all, z])).elim
      · exact (no (by simp [WA.all, z])).elim
      · exact (no (by simp [WA.all, z])).elim
      · exact .inl z
    · exact .inr (k1.free z hq)
theorem dropS_snoc {b m : Int} {ow o : Nat} : ∀ (l : List Nat) {v : IV}, dropS b v m ow (l ++ [o]) = dropP b (dropS b v m ow l) m o ow
  | [], _ => rfl
  | a :: l, v => by
    show dropS b (dropP b v m a ow) m ow (l ++ [o]) = dropP b (dropS b (dropP b v m a ow) m ow l) m o ow
    exact dropS_snoc l
section
variable {P : Program} {w : World} {K : PySem.W.Frag} {mg : Str → Option Value} {base : Heap}
structure RowsAt (H : Hp) (r : Addr) (rs : List Addr) (M : List (List Int)) (m : Int) (G : Nat → Int) (C : Nat → List Int) (sz o1 mk : Int) : Prop where
  g : Grid H r rs M
  ml : M.length = 24
  m8 : ∀ m ∈ M, m.length = 8
  f : Fl 24 5 M m G C sz o1 mk
  s0 : 0 ≤ sz
  s8 : sz ≤ 80
theorem RowsAt.same {H H' : Hp} {r : Addr} {rs : List Addr} {M : List (List Int)} {m : Int} {G : Nat → Int} {C : Nat → List Int} {sz o1 mk : Int} (A : RowsAt H r rs M m G C sz o1 mk) (s : Same H H') : RowsAt H' r rs M m G C sz o1 mk := { A with g := A.g.same s }
/-- the node's row -/
theorem RowsAt.node {H : Hp} {r : Addr} {rs : List Addr} {M : List (List Int)} {m : Int} {G : Nat → Int} {C : Nat → List Int} {sz o1 mk : Int} (A : RowsAt H r rs M m G C sz o1 mk) : ∃ q, rs[nrow 24 m]? = some q ∧ H q = some (.lst (([1, 1, sz, o1, G 0, G 1, G 12, mk] : List Int).map V.int)) ∧ (nrow 24 m : Int) = 4 + m := by
  obtain ⟨q, hq, e, _⟩ := A.g.get A.f.r6
  exact ⟨q, hq, e, nr24 A.f.m1⟩
theorem RowsAt.plc {H : Hp} {r : Addr} {rs : List Addr} {M : List (List Int)} {m : Int} {G : Nat → Int} {C : Nat → List Int} {sz o1 mk : Int} (A : RowsAt H r rs M m G C sz o1 mk) {Q : VK} {E : XK} {o : Nat} (ho : o < 10) (k : Q (.int (G o)) H) : sp_Lplace [.ref r, .int m, .int o] H Q E :=
  ⟨r, rs, M, m, o, rfl, A.g, A.ml, A.m8, A.f.m1, A.f.mn, ho, A.f.ok_, by rw [A.f.v_ ho]; exact k⟩
/-! ### the words -/
def sp_Lwords : Sp := fun vs H Q _ => ∃ (r : Addr) (rs : List Addr) (M : List (List Int)) (m : Int) (G : Nat → Int) (C : Nat → List Int) (sz o1 mk : Int), vs = [.ref r, .int m] ∧ RowsAt H r rs M m G C sz o1 mk ∧ ∀ H' t, Same H H' → H t = none → H' t = some (.tup ((wordsL 24 M m).map V.int)) → Q (.ref t) H'
theorem ok_Lwords (T : Tx K mg) : FnOk P w K mg base CX0 2 T.f_Lwords T.fd_Lwords ["_law_rows", "_law_n"] sp_Lwords := by
  refine T.F_Lwords.ok sc_Lwords (fun vs H Q E h => ?_) (fun cdv A0 outer s H vs Q E hr h => ?_)
  · obtain ⟨_, _, _, _, _, _, _, _, _, rfl, _⟩ := h; rfl
  · obtain ⟨r, rs, M, m, G, C, sz, o1, mk, rfl, A, k⟩ := h
    refine ⟨_, (pss_cons (ps_set (i := 2) sc_Lwords.nd rfl (.inl rfl) (pe_lst pa_nil))
      (pss_cons (ps_for PassesOwn.never rfl (pi_range1 rfl T.b_range (pa_cons (pe_ix ix_list (pe_ix ix_list (pv 0) (pe_op op_add pe_int (pv 1)) (fun _ _ => rfl)) pe_int (fun _ _ => rfl)) pa_nil)) (pg_name (i := 3) sc_Lwords.nd rfl (.inl rfl))
        (pss_cons (ps_set (i := 4) sc_Lwords.nd rfl (.inl rfl) (pe_call (ok_Lplace T) hr rfl T.mg_Lplace T.F_Lplace.kp (b_Lplace T) .nil pass0 (pa_cons (pv 0) (pa_cons (pv 1) (pa_cons (pe_op op_fdiv (pv 3) pe_int) pa_nil)))))
        (pss_one (ps_if (pt_cmpR op_eq (pv 4) pe_int (nomark _))
          (pss_one (ps_expr (pe_bm PySem.F.plainAttrs_list PySem.F.slot_list_append PySem.F.type_list_append mt_append (pv 2) (pa_cons pe_int pa_nil))))
          (pss_one (ps_expr (pe_bm PySem.F.plainAttrs_list PySem.F.slot_list_append PySem.F.type_list_append mt_append (pv 2) (pa_cons (pe_ix ix_list (pe_ix ix_list (pv 0) (pv 4) (fun _ _ => rfl)) (pe_op op_mod (pe_callTy call_int1 rfl T.b_int (by decide +kernel) (pa_cons (pv 3) pa_nil)) pe_int) (fun _ _ => rfl)) pa_nil))))))))
      (pss_one (ps_ret (pe_callTy call_tuple_of rfl T.b_tuple (by decide +kernel) (pa_cons (pv 2) pa_nil)))))), ?_⟩
    have s0 := A.s0
    have s8 := A.s8
    refine ⟨(by show 0 ≤ sizeLine; decide), fun q nq => ?_⟩
    have s1 := same_upd (o := .lst []) nq
    have A1 := A.same s1
    obtain ⟨qn, hqn, hHn, hn⟩ := A1.node
    have esz : cellAt M (nrow 24 m) 2 = sz := A.f.sz_
    have lw : (wordsL 24 M m).length = sz.toNat := by unfold wordsL; rw [List.length_map, rng_len, esz]
    refine ⟨_, rfl, _, rfl, _, _, rfl, rfl, r, _, _, .ref qn, rfl, rfl, .of A1.g.out, at_of (j := nrow 24 m) (by omega) (by rw [List.getElem?_map, hqn]; rfl), qn, _, 2, .int sz, rfl, rfl, .of hHn, atI_nat (j := 2) rfl, sz, rfl, by omega, by omega, for_range (lo := 0) (n := sz.toNat) (fun i σ H' => ∃ (u3 u4 : Option V), σ = [some (.ref r), some (.int m), some (.ref q), u3, u4] ∧ H' = upd H q (.lst (((wordsL 24 M m).take i).map V.int))) ⟨_, _, rfl, rfl⟩ ?_ ?_⟩
    · rintro i σ H' hi ⟨u3, u4, rfl, rfl⟩
      have sH := same_upd (o := .lst (((wordsL 24 M m).take i).map V.int)) nq
      have A2 := A.same sH
      have eH : upd H q (.lst (((wordsL 24 M m).take i).map V.int)) q = some (.lst (((wordsL 24 M m).take i).map V.int)) := upd_same
      have ew : (wordsL 24 M m)[i]? = some (rdW 24 M m (i : Int)) := by
        unfold wordsL
        rw [List.getElem?_map, rng_get (by rw [esz]; exact hi)]
        show some (rdW 24 M m ((0 : Int) + (i : Int))) = _
        rw [show (0 : Int) + (i : Int) = (i : Int) by omega]
      have er : rdW 24 M m (i : Int) = if G (i / 8) = 0 then 0 else cellAt M (G (i / 8)).toNat (i % 8) := by
        unfold rdW
        rw [esz, if_neg (by omega), show ((i : Int) / 8).toNat = i / 8 by omega, show ((i : Int) % 8).toNat = i % 8 by omega, A.f.v_ (by omega)]
      have lt : (((wordsL 24 M m).take i).map V.int).length < sizeLine := by rw [List.length_map]; exact small1000 (by rw [List.length_take]; omega)
      have fin : ∀ x, rdW 24 M m (i : Int) = x → upd (upd H q (.lst (((wordsL 24 M m).take i).map V.int))) q (.lst (((wordsL 24 M m).take i).map V.int ++ [V.int x])) = upd H q (.lst (((wordsL 24 M m).take (i + 1)).map V.int)) := fun x hx => by
        rw [upd_upd, take_get (ew.trans (by rw [hx])), List.map_append]
        rfl
      refine ⟨_, rfl, _, rfl, _, rfl, _, _, rfl, rfl, (by show CDiv _ 8; exact ⟨by decide, by decide⟩), ?_⟩
      have ed : ((0 : Int) + (i : Int)) / 8 = ((i / 8 : Nat) : Int) := by omega
      refine ⟨r, rs, M, m, i / 8, by rw [← ed]; rfl, A2.g, A2.ml, A2.m8, A2.f.m1, A2.f.mn, by omega, A2.f.ok_, ?_⟩
      rw [A2.f.v_ (by omega)]
      refine ⟨_, rfl, rfl, _, rfl, ?_⟩
      rw [dec_iv]
      by_cases z : G (i / 8) = 0
      · rw [decide_eq_true z]
        exact iteT ⟨_, rfl, .inl ⟨rfl, _, .inl (.inl eH)⟩, q, _, _, rfl, rfl, eH, lt, _, _, rfl, fin 0 (by rw [er, if_pos z])⟩
      · rw [decide_eq_false z]
        have p := A2.f.pf (i / 8) (by omega) z
        have hf : fdOf 24 5 = 10 := by decide
        have hcr := A2.f.rc (i / 8) (by omega) z
        obtain ⟨q2, hq2, e2, _⟩ := A2.g.get hcr
        have l8 := A2.f.c8 (i / 8)
        refine iteF ⟨_, rfl, .inl ⟨rfl, _, .inl (.inl eH)⟩, _, rfl, _, rfl, r, _, _, .ref q2, rfl, rfl, .of A2.g.out, at_of (j := (G (i / 8)).toNat) (by omega) (by rw [List.getElem?_map, hq2]; rfl), _, rfl, .inl ⟨_, rfl, _, _, rfl, rfl, (by show (0 : Int) < 8; decide), q2, _, _, .int ((C (i / 8))[i % 8]'(by omega)), rfl, rfl, .of e2, at_of (j := i % 8) (by omega) (by rw [List.getElem?_map, List.getElem?_eq_getElem (by omega)]; rfl), q, _, _, rfl, rfl, eH, lt, _, _, rfl, fin _ ?_⟩⟩
        rw [er, if_neg z]
        exact cellAt_of hcr (List.getElem?_eq_getElem (by omega))
    · rintro σ H' ⟨u3, u4, rfl, rfl⟩
      rw [← lw, List.take_length]
      have sH := same_upd (o := .lst ((wordsL 24 M m).map V.int)) nq
      refine ⟨_, rfl, q, _, rfl, .inl ⟨.of upd_same, fun t nt => ?_⟩⟩
      exact k _ t (sH.trans (same_upd nt)) (sH.free nt) upd_same
end
end K09
namespace K09
open PySem PySem.Spec PyProof.Rows L2 Rg
section
variable {P : Program} {w : World} {K : PySem.W.Frag} {mg : Str → Option Value} {base : Heap}
/-! ### the cells behind a size cleared -/
def sp_Lclear : Sp := fun vs H Q _ => ∃ (r : Addr) (rs : List Addr) (M : List (List Int)) (m : Int) (G : Nat → Int) (C : Nat → List Int) (sz o1 mk : Int) (en : Nat), vs = [.ref r, .int m, .int en] ∧ RowsAt H r rs M m G C sz o1 mk ∧ en ≤ 80 ∧ ∀ H', Grid H' r rs (cutM 24 M m en) → Kp rs H H' → Q .non H'
theorem zeroC_len {x j : Nat} {M : List (List Int)} : ∀ n, (zeroC M x j n).length = M.length
  | 0 => rfl
  | n + 1 => by
    show (setC (zeroC M x j n) x (j + n) 0).length = _
    rw [setC_len, zeroC_len n]
theorem zeroC_m8 {x j : Nat} {M : List (List Int)} (h : ∀ m ∈ M, m.length = 8) (hx : x < M.length) : ∀ n, ∀ m ∈ zeroC M x j n, m.length = 8
  | 0 => h
  | n + 1 => setC_m8' (zeroC_m8 h hx n) (by rw [zeroC_len]; exact hx)
theorem ok_Lclear (T : Tx K mg) : FnOk P w K mg base CX0 2 T.f_Lclear T.fd_Lclear ["_law_rows", "_law_n", "_law_size"] sp_Lclear := by
  refine T.F_Lclear.ok sc_Lclear (fun vs H Q E h => ?_) (fun cdv A0 outer s H vs Q E hr h => ?_)
  · obtain ⟨_, _, _, _, _, _, _, _, _, _, rfl, _⟩ := h; rfl
  · obtain ⟨r, rs, M, m, G, C, sz, o1, mk, en, rfl, A, he, k⟩ := h
    refine ⟨_, (pss_cons (ps_set (i := 3) sc_Lclear.nd rfl (.inl rfl) pe_int)
      (Evl.pss_cut (ps_if (pt_cmpR op_gt (pe_op op_mod (pe_callTy call_int1 rfl T.b_int (by decide +kernel) (pa_cons (pv 2) pa_nil)) pe_int) pe_int (nomark _))
        (pss_one (ps_set (i := 3) sc_Lclear.nd rfl (.inl rfl) (pe_call (ok_Lplace T) hr rfl T.mg_Lplace T.F_Lplace.kp (b_Lplace T) .nil pass0 (pa_cons (pv 0) (pa_cons (pv 1) (pa_cons (pe_op op_fdiv (pv 2) pe_int) pa_nil))))))
        pss_nil)
      (pss_one (ps_if (pt_cmpR op_gt (pv 3) pe_int (nomark _))
        (pss_cons (ps_set (i := 4) sc_Lclear.nd rfl (.inl rfl) (pe_ix ix_list (pv 0) (pv 3) (fun _ _ => rfl)))
        (pss_one (ps_for PassesOwn.never rfl (pi_range2 rfl T.b_range (pa_cons (pe_op op_mod (pe_callTy call_int1 rfl T.b_int (by decide +kernel) (pa_cons (pv 2) pa_nil)) pe_int) (pa_cons pe_int pa_nil))) (pg_name (i := 5) sc_Lclear.nd rfl (.inl rfl))
          (pss_one (ps_asg pe_int (pg_sub (pv 4) (pv 5) set_list))))))
        pss_nil)))), ?_⟩
    have e8 : ((en : Int) / 8).toNat = en / 8 := by omega
    have e9 : ((en : Int) % 8).toNat = en % 8 := by omega
    refine ⟨fun σ H' => ∃ x : Int, σ = [some (.ref r), some (.int m), some (.int (en : Int)), some (.int x), none, none] ∧ H = H' ∧ ((en % 8 = 0 ∧ x = 0) ∨ (en % 8 ≠ 0 ∧ x = G (en / 8))), ?_, ?_⟩
    · refine ⟨_, rfl, .inl ⟨_, rfl, _, _, rfl, rfl, (by show (0 : Int) < 8; decide), _, _, rfl, rfl, _, rfl, ?_⟩⟩
      by_cases z : en % 8 = 0
      · rw [decide_eq_false (by omega)]
        exact iteF ⟨0, rfl, rfl, .inl ⟨z, rfl⟩⟩
      · rw [decide_eq_true (by omega)]
        refine iteT ⟨_, rfl, _, rfl, _, rfl, _, _, rfl, rfl, (by show CDiv _ 8; exact ⟨by decide, by decide⟩), ?_⟩
        have ed : (en : Int) / 8 = ((en / 8 : Nat) : Int) := by omega
        refine ⟨r, rs, M, m, en / 8, by rw [← ed]; rfl, A.g, A.ml, A.m8, A.f.m1, A.f.mn, by omega, A.f.ok_, ?_⟩
        rw [A.f.v_ (by omega)]
        exact ⟨_, rfl, rfl, .inr ⟨z, rfl⟩⟩
    rintro σ H' ⟨x, rfl, rfl, hx⟩
    refine ⟨_, rfl, _, _, rfl, rfl, _, rfl, ?_⟩
    have hcut : ∀ y, (en % 8 = 0 ∨ y = 0) → (x = y) → x = 0 → cutM 24 M m en = M := fun y h1 h2 h3 => by
      unfold cutM
      rw [e8, e9, if_pos]
      rcases hx with ⟨a, _⟩ | ⟨a, c⟩
      · exact .inl (by omega)
      · rw [A.f.v_ (by omega), ← c]
        exact .inr h3
    by_cases z : x = 0
    · rw [decide_eq_false (by omega)]
      have := hcut x (.inr z) rfl z
      rw [this] at k
      exact iteF (k _ A.g Kp.refl)
    · obtain ⟨hm8, hxg⟩ : en % 8 ≠ 0 ∧ x = G (en / 8) := by
        rcases hx with ⟨_, c⟩ | h
        · exact absurd c z
        · exact h
      have g0 : G (en / 8) ≠ 0 := by rw [← hxg]; exact z
      have p := A.f.pf (en / 8) (by omega) g0
      have hf : fdOf 24 5 = 10 := by decide
      rw [decide_eq_true (by omega)]
      have hcr := A.f.rc (en / 8) (by omega) g0
      obtain ⟨q2, hq2, e2, _⟩ := A.g.get hcr
      have ecut : cutM 24 M m en = zeroC M (G (en / 8)).toNat (en % 8) (8 - en % 8) := by
        unfold cutM
        rw [e8, e9, A.f.v_ (by omega), if_neg]
        rintro (h | h)
        · omega
        · exact g0 h
      rw [ecut] at k
      have ml := A.ml
      refine iteT ⟨_, rfl, _, rfl, r, _, _, .ref q2, rfl, rfl, .of A.g.out, at_of (j := (G (en / 8)).toNat) (by omega) (by rw [List.getElem?_map, hq2]; rfl), ?_⟩
      refine ⟨_, rfl, .inl ⟨_, rfl, _, _, rfl, rfl, (by show (0 : Int) < 8; decide), (en : Int) % 8, 8, rfl, ⟨by omega, by omega, by omega, by omega⟩, for_range (lo := (en : Int) % 8) (n := ((8 : Int) - (en : Int) % 8).toNat) (fun i σ H' => ∃ u5 : Option V, σ = [some (.ref r), some (.int m), some (.int (en : Int)), some (.int x), some (.ref q2), u5] ∧ Grid H' r rs (zeroC M (G (en / 8)).toNat (en % 8) i) ∧ Kp rs H H') ⟨_, rfl, A.g, Kp.refl⟩ ?_ ?_⟩⟩
      · rintro i σ H' hi ⟨u5, rfl, G1, k1⟩
        have hi8 : i < 8 - en % 8 := by omega
        obtain ⟨q3, row, hq3, hrow, hH3, hqm, hmm⟩ := G1.rowN (i := (G (en / 8)).toNat) (by rw [zeroC_len]; omega)
        have eq3 : q3 = q2 := by rw [hq2] at hq3; exact (Option.some.inj hq3).symm
        subst eq3
        have l8 := zeroC_m8 A.m8 (by rw [ml]; omega) i _ hmm
        refine ⟨_, rfl, _, rfl, q3, _, _, en % 8 + i, rfl, rfl, hH3, ixN_nat (by omega) (by rw [List.length_map]; omega), ?_⟩
        rw [← List.map_set]
        exact ⟨_, rfl, G1.setc hq3 hrow, k1.own hqm⟩
      · rintro σ H' ⟨u5, rfl, G1, k1⟩
        rw [show ((8 : Int) - (en : Int) % 8).toNat = 8 - en % 8 by omega] at G1
        exact k _ G1 k1
/-! ### unfinished -/
def sp_Lunfinished : Sp := fun vs H Q _ => ∃ (r : Addr) (rs : List Addr) (M : List (List Int)) (m : Int) (G : Nat → Int) (C : Nat → List Int) (sz o1 mk : Int), vs = [.ref r, .int m] ∧ RowsAt H r rs M m G C sz o1 mk ∧ Q (.bl (decide (0 < (tbL 24 M m).length))) H
theorem RowsAt.tb {H : Hp} {r : Addr} {rs : List Addr} {M : List (List Int)} {m : Int} {G : Nat → Int} {C : Nat → List Int} {sz o1 mk : Int} (A : RowsAt H r rs M m G C sz o1 mk) {x : Int} : x ∈ tbL 24 M m ↔ 0 ≤ x ∧ x < 10 ∧ 8 * x ≥ sz ∧ G x.toNat ≠ 0 := by
  unfold tbL
  rw [List.mem_filter]
  unfold tbP
  rw [A.f.sz_]
  constructor
  · rintro ⟨h1, h2⟩
    have := rng_mem h1
    rw [A.f.v_ (by omega)] at h2
    have h3 := Bool.and_eq_true_iff.mp h2
    exact ⟨this.1, by omega, of_decide_eq_true h3.1, by simpa using h3.2⟩
  · rintro ⟨h1, h2, h3, h4⟩
    refine ⟨rng_in (by omega) (by omega), ?_⟩
    rw [A.f.v_ (by omega), decide_eq_true h3]
    simpa using h4
theorem ok_Lunfinished (T : Tx K mg) : FnOk P w K mg base CX0 2 T.f_Lunfinished T.fd_Lunfinished ["_law_rows", "_law_n"] sp_Lunfinished := by
  refine T.F_Lunfinished.ok sc_Lunfinished (fun vs H Q E h => ?_) (fun cdv A0 outer s H vs Q E hr h => ?_)
  · obtain ⟨_, _, _, _, _, _, _, _, _, rfl, _⟩ := h; rfl
  · obtain ⟨r, rs, M, m, G, C, sz, o1, mk, rfl, A, k⟩ := h
    refine ⟨_, (pss_cons (ps_for PassesOwn.never rfl (pi_range1 rfl T.b_range (pa_cons pe_int pa_nil)) (pg_name (i := 2) sc_Lunfinished.nd rfl (.inl rfl))
        (pss_one (ps_if (PW.pt (pw_and (pt_cmpR op_ge (pe_op op_mul pe_int (pv 2)) (pe_ix ix_list (pe_ix ix_list (pv 0) (pe_op op_add pe_int (pv 1)) (fun _ _ => rfl)) pe_int (fun _ _ => rfl)) (nomark _)) (pw_and1 (pt_cmpR op_gt (pe_call (ok_Lplace T) hr rfl T.mg_Lplace T.F_Lplace.kp (b_Lplace T) .nil pass0 (pa_cons (pv 0) (pa_cons (pv 1) (pa_cons (pv 2) pa_nil)))) pe_int (nomark _)))))
          (pss_one (ps_ret pe_bl))
          pss_nil)))
      (pss_one (ps_ret pe_bl))), ?_⟩
    obtain ⟨qn, hqn, hHn, hn⟩ := A.node
    have hf : fdOf 24 5 = 10 := by decide
    refine ⟨10, rfl, by decide, by decide, for_range (lo := 0) (n := (10 : Int).toNat) (fun i σ H' => ∃ u2 : Option V, σ = [some (.ref r), some (.int m), u2] ∧ H' = H ∧ ∀ o, o < i → ¬ (8 * (o : Int) ≥ sz ∧ G o ≠ 0)) ⟨_, rfl, rfl, fun o h => absurd h (Nat.not_lt_zero o)⟩ ?_ ?_⟩
    · rintro i σ H' hi ⟨u2, rfl, rfl, hno⟩
      have hi : i < 10 := hi
      have ez : (0 : Int) + (i : Int) = (i : Int) := by omega
      refine ⟨_, rfl, _, _, rfl, rfl, (by show CMul 8 _; exact .inl ⟨by decide, by decide⟩), _, rfl, _, rfl, _, _, rfl, rfl, r, _, _, .ref qn, rfl, rfl, .of A.g.out, at_of (j := nrow 24 m) (by omega) (by rw [List.getElem?_map, hqn]; rfl), qn, _, 2, .int sz, rfl, rfl, .of hHn, atI_nat (j := 2) rfl, _, _, rfl, rfl, _, rfl, ?_⟩
      have nx : ¬ (8 * (i : Int) ≥ sz ∧ G i ≠ 0) → ∀ o, o < i + 1 → ¬ (8 * (o : Int) ≥ sz ∧ G o ≠ 0) := fun h o ho => by
        by_cases e : o = i
        · rw [e]; exact h
        · exact hno o (by omega)
      by_cases z : 8 * ((0 : Int) + (i : Int)) ≥ sz
      · rw [decide_eq_true z]
        refine iteT ⟨_, rfl, _, rfl, _, rfl, r, rs, M, m, i, by rw [ez]; rfl, A.g, A.ml, A.m8, A.f.m1, A.f.mn, hi, A.f.ok_, ?_⟩
        rw [A.f.v_ hi]
        refine ⟨_, _, rfl, rfl, _, rfl, ?_⟩
        by_cases y : G i = 0
        · rw [decide_eq_false (by omega)]
          exact iteF ⟨_, rfl, rfl, nx fun h => h.2 y⟩
        · have := A.f.pf i (by omega) y
          rw [decide_eq_true (by omega)]
          refine iteT ?_
          have ht : (i : Int) ∈ tbL 24 M m := A.tb.mpr ⟨by omega, by omega, by omega, by rw [show ((i : Int)).toNat = i by omega]; exact y⟩
          rw [decide_eq_true (List.length_pos_of_mem ht)] at k
          exact k
      · rw [decide_eq_false z]
        exact iteF ⟨_, rfl, rfl, nx fun h => z (by omega)⟩
    · rintro σ H' ⟨u2, rfl, rfl, hno⟩
      have ht : tbL 24 M m = [] := List.eq_nil_iff_forall_not_mem.mpr fun x hx => by
        obtain ⟨h1, h2, h3, h4⟩ := A.tb.mp hx
        exact hno x.toNat (by show x.toNat < 10; omega) ⟨by omega, h4⟩
      rw [ht] at k
      exact k
/-! ### its blocks -/
def sp_Lblocks : Sp := fun vs H Q _ => ∃ (r : Addr) (rs : List Addr) (M : List (List Int)) (m : Int) (G : Nat → Int) (C : Nat → List Int) (sz o1 mk : Int), vs = [.ref r, .int m] ∧ RowsAt H r rs M m G C sz o1 mk ∧ ∀ H' t, Same H H' → H t = none → H' t = some (.lst ((fileD G).map V.int)) → Q (.ref t) H'
theorem ok_Lblocks (T : Tx K mg) : FnOk P w K mg base CX0 2 T.f_Lblocks T.fd_Lblocks ["_law_rows", "_law_n"] sp_Lblocks := by
  refine T.F_Lblocks.ok sc_Lblocks (fun vs H Q E h => ?_) (fun cdv A0 outer s H vs Q E hr h => ?_)
  · obtain ⟨_, _, _, _, _, _, _, _, _, rfl, _⟩ := h; rfl
  · obtain ⟨r, rs, M, m, G, C, sz, o1, mk, rfl, A, k⟩ := h
    refine ⟨_, (pss_cons (ps_set (i := 2) sc_Lblocks.nd rfl (.inl rfl) (pe_op op_cat (pe_lc rfl (own := [("_law_o", 3)]) (g := gName 3) (tt := tYes) sc_Lblocks.nd (pi_range1 rfl T.b_range (pa_cons pe_int pa_nil)) (blkOk_by (N := ["_law_rows", "_law_n", "_law_blocks_here", "_law_o", "_law_x"]) (sc := defScope s_Lblocks) (by decide +kernel)) (fun _ _ _ _ _ => pg_name (i := 3) sc_Lblocks.nd rfl (Or.inl rfl)) (fun _ _ _ _ _ => pts_nil) (fun _ _ _ _ _ => (pe_call (ok_Lplace T) hr rfl T.mg_Lplace T.F_Lplace.kp (b_Lplace T) .nil pass0 (pa_cons (pv 0) (pa_cons (pv 1) (pa_cons (pv 3) pa_nil)))))) (pe_lst (pa_cons (pe_ix ix_list (pe_ix ix_list (pv 0) (pe_op op_add pe_int (pv 1)) (fun _ _ => rfl)) pe_int (fun _ _ => rfl)) pa_nil))))
      (pss_one (ps_ret (pe_lc rfl (own := [("_law_x", 4)]) (g := gName 4) (tt := _) sc_Lblocks.nd (pi_list (pv 2)) (blkOk_by (N := ["_law_rows", "_law_n", "_law_blocks_here", "_law_o", "_law_x"]) (sc := defScope s_Lblocks) (by decide +kernel)) (fun _ _ _ _ _ => pg_name (i := 4) sc_Lblocks.nd rfl (Or.inl rfl)) (fun _ _ _ _ _ => pts_one (pt_cmpR op_gt (pv 4) pe_int (nomark _))) (fun _ _ _ _ _ => (pv 4)))))), ?_⟩
    have hf : fdOf 24 5 = 10 := by decide
    obtain ⟨L, hL⟩ : ∃ L : List Int, [G 0, G 1, G 2, G 3, G 4, G 5, G 6, G 7, G 8, G 9] = L := ⟨_, rfl⟩
    have lL : L.length = 10 := by rw [← hL]; rfl
    have at_ : ∀ i, i < 10 → L[i]? = some (G i) := fun i hi => by
      rw [← hL]
      have : i = 0 ∨ i = 1 ∨ i = 2 ∨ i = 3 ∨ i = 4 ∨ i = 5 ∨ i = 6 ∨ i = 7 ∨ i = 8 ∨ i = 9 := by omega
      rcases this with h | h | h | h | h | h | h | h | h | h <;> (subst h; rfl)
    refine ⟨10, rfl, by decide, by decide, fun D hD => ?_⟩
    refine lc_range (lo := 0) (n := (10 : Int).toNat) (fun i H' => H' = upd H D (.lst ((L.take i).map V.int))) rfl ?_ ?_
    · rintro i H' hi rfl
      have hi : i < 10 := hi
      have ez : (0 : Int) + (i : Int) = (i : Int) := by omega
      have A1 := A.same (same_upd (o := .lst ((L.take i).map V.int)) hD)
      refine ⟨rfl, yes_ ⟨_, rfl, _, rfl, _, rfl, r, rs, M, m, i, by rw [ez]; rfl, A1.g, A1.ml, A1.m8, A1.f.m1, A1.f.mn, hi, A1.f.ok_, ?_⟩⟩
      rw [A1.f.v_ hi]
      refine ⟨_, upd_same, ?_, ?_⟩
      · rw [List.length_map]
        exact small1000 (by rw [List.length_take]; omega)
      · rw [upd_upd, take_get (at_ i hi), List.map_append]
        rfl
    rintro H1 rfl
    rw [show L.take (10 : Int).toNat = L from List.take_of_length_le (by rw [lL]; decide)]
    have s1 := same_upd (o := .lst (L.map V.int)) hD
    have e1 : upd H D (.lst (L.map V.int)) D = some (.lst (L.map V.int)) := upd_same
    generalize upd H D (.lst (L.map V.int)) = H1 at s1 e1 ⊢
    have A1 := A.same s1
    obtain ⟨qn, hqn, hHn, hn⟩ := A1.node
    refine ⟨_, rfl, _, rfl, _, _, rfl, rfl, r, _, _, .ref qn, rfl, rfl, .of A1.g.out, at_of (j := nrow 24 m) (by omega) (by rw [List.getElem?_map, hqn]; rfl), qn, _, 6, .int (G 12), rfl, rfl, .of hHn, atI_nat (j := 6) rfl, (by show 1 ≤ sizeLine; decide), fun q2 n2 => ?_⟩
    have s2 := same_upd (o := .lst [V.int (G 12)]) n2
    have e2 : upd H1 q2 (.lst [V.int (G 12)]) q2 = some (.lst (([G 12] : List Int).map V.int)) := upd_same
    generalize upd H1 q2 (.lst [V.int (G 12)]) = H2 at s2 e2 ⊢
    refine ⟨D, q2, _, _, rfl, rfl, s2 _ _ e1, e2, by rw [List.length_map, lL]; exact Nat.le_of_lt (small1000 (by show 10 + 1 ≤ 1000; decide)), fun q3 n3 => ?_⟩
    have s3 := same_upd (o := .lst (L.map V.int ++ ([G 12] : List Int).map V.int)) n3
    have e3 : upd H2 q3 (.lst (L.map V.int ++ ([G 12] : List Int).map V.int)) q3 = some (.lst ((L ++ [G 12]).map V.int)) := by rw [upd_same, List.map_append]
    generalize upd H2 q3 (.lst (L.map V.int ++ ([G 12] : List Int).map V.int)) = H3 at s3 e3 ⊢
    have S3 := (s1.trans s2).trans s3
    refine ⟨_, rfl, q3, rfl, ⟨_, .of e3⟩, fun D4 hD4 => ?_⟩
    refine lc_list (K := K) (a := q3) (xs := (L ++ [G 12]).map V.int) (PvF H3 D4 (L ++ [G 12]) (fun x => x != 0)) (PvF.start hD4) (fun i H' _ Pv => .of (Pv.1 _ _ e3)) ?_ ?_
    · rintro i y H' hi Pv
      rw [List.getElem?_map] at hi
      obtain ⟨x, hx, rfl⟩ := Option.map_eq_some_iff.mp hi
      have pos : x = 0 ∨ 0 < x := by
        rcases List.mem_append.mp (List.mem_of_getElem? hx) with h | h
        · rw [← hL] at h
          have hj : ∃ j, j < 10 ∧ x = G j := by
            simp only [List.mem_cons, List.not_mem_nil, or_false] at h
            rcases h with h | h | h | h | h | h | h | h | h | h
            · exact ⟨0, by decide, h⟩
            · exact ⟨1, by decide, h⟩
            · exact ⟨2, by decide, h⟩
            · exact ⟨3, by decide, h⟩
            · exact ⟨4, by decide, h⟩
            · exact ⟨5, by decide, h⟩
            · exact ⟨6, by decide, h⟩
            · exact ⟨7, by decide, h⟩
            · exact ⟨8, by decide, h⟩
            · exact ⟨9, by decide, h⟩
          obtain ⟨j, hj, rfl⟩ := hj
          by_cases e : G j = 0
          · exact .inl e
          · have := A.f.pf j (by omega) e
            exact .inr (by omega)
        · rw [List.mem_singleton] at h
          rw [h]
          by_cases e : G 12 = 0
          · exact .inl e
          · have := A.f.pf 12 (by decide) e
            exact .inr (by omega)
      refine ⟨rfl, ?_⟩
      refine ⟨_, rfl, _, _, rfl, rfl, _, rfl, ?_⟩
      by_cases e : x = 0
      · rw [decide_eq_false (by omega)]
        exact iteF (Pv.no (Same.refl _) hx (by simp [e]))
      · rw [decide_eq_true (by omega)]
        exact iteT ⟨_, rfl, Pv.yes hD4 (Same.refl _) hx (by rw [List.length_append, lL]; show 10 + 1 < 1000; decide) (by simp [e])⟩
    intro H4 Pv
    obtain ⟨s4, e4⟩ := Pv.all (by rw [List.length_map])
    have ef : (L ++ [G 12]).filter (fun x => x != 0) = fileD G := by rw [← hL]; rfl
    rw [ef] at e4
    exact k H4 D4 (S3.trans s4) (S3.free hD4) e4
/-! ### a piece -/
def tbR (sz : Int) (G : Nat → Int) (k : Nat) : List Nat := ((List.range k).map fun j => 9 - j).filter fun o => decide (8 * (o : Int) ≥ sz) && (G o != 0)
theorem tbR_succ {sz : Int} {G : Nat → Int} {k : Nat} : tbR sz G (k + 1) = tbR sz G k ++ if (decide (8 * ((9 - k : Nat) : Int) ≥ sz) && (G (9 - k) != 0)) = true then [9 - k] else [] := by
  unfold tbR
  rw [List.range_succ, List.map_append, List.filter_append]
  congr 1
  show List.filter _ [9 - k] = _
  rw [List.filter_cons]
  rfl
theorem tbR_mem {sz : Int} {G : Nat → Int} {k o : Nat} (hk : k ≤ 10) (h : o ∈ tbR sz G k) : o < 10 ∧ 10 ≤ o + k ∧ 8 * (o : Int) ≥ sz ∧ G o ≠ 0 := by
  unfold tbR at h
  obtain ⟨h1, h2⟩ := List.mem_filter.mp h
  obtain ⟨j, hj, rfl⟩ := List.mem_map.mp h1
  have := List.mem_range.mp hj
  have h3 := Bool.and_eq_true_iff.mp h2
  exact ⟨by omega, by omega, of_decide_eq_true h3.1, by simpa using h3.2⟩
theorem tbR_nd {sz : Int} {G : Nat → Int} {k : Nat} (hk : k ≤ 10) : (tbR sz G k).Nodup := by
  unfold tbR
  refine List.Pairwise.filter _ ?_
  rw [List.pairwise_map]
  refine List.Pairwise.imp_of_mem ?_ (List.nodup_range (n := k))
  intro a b ha hb hne e
  have := List.mem_range.mp ha
  have := List.mem_range.mp hb
  exact hne (by omega)
theorem RowsAt.tbR {H : Hp} {r : Addr} {rs : List Addr} {M : List (List Int)} {m : Int} {G : Nat → Int} {C : Nat → List Int} {sz o1 mk : Int} (A : RowsAt H r rs M m G C sz o1 mk) : (pieceL 24 M m).reverse.map Int.toNat = (K09.tbR sz G 10).take 2 := by
  unfold pieceL
  rw [← List.take_reverse, List.map_take]
  congr 1
  unfold tbL K09.tbR
  rw [← List.filter_reverse, show ((List.range 10).map fun j => 9 - j) = ((rng 0 10).reverse.map Int.toNat) by decide, List.filter_map]
  congr 1
  refine List.filter_congr fun x hx => ?_
  have hr := rng_mem (List.mem_reverse.mp hx)
  unfold tbP
  rw [A.f.sz_, A.f.v_ (by omega)]
  show _ = (decide (8 * ((x.toNat : Nat) : Int) ≥ sz) && (G x.toNat != 0))
  rw [show ((x.toNat : Nat) : Int) = x by omega]
def sp_Lpiece : Sp := fun vs H Q _ => ∃ (W : WA) (v : IV) (m : Int) (e : Ev) (M0 : List (List Int)) (li : List Int) (mk : Int) (G : Nat → Int) (C : Nat → List Int) (kd us : List Int) (sz : Int) (o1 i : Nat), vs = [.ref W.w, .int m] ∧ WAt H W v ∧ Stt 24 5 e m M0 li mk v.M G C kd us sz o1 i ∧ Te G ∧
  ∀ H' rs', WAt H' { W with rs := rs' } (dropS 24 v m o1 ((pieceL 24 v.M m).reverse.map Int.toNat)) → Kp W.all H H' → RsOf H W.rs rs' → Q (.int ((pieceL 24 v.M m).length : Nat)) H'
theorem ok_Lpiece (T : Tx K mg) : FnOk P w K mg base CX0 3 T.f_Lpiece T.fd_Lpiece ["_law_world", "_law_n"] sp_Lpiece := by
  refine T.F_Lpiece.ok sc_Lpiece (fun vs H Q E h => ?_) (fun cdv A0 outer s H vs Q E hr h => ?_)
  · obtain ⟨_, _, _, _, _, _, _, _, _, _, _, _, _, _, rfl, _⟩ := h; rfl
  · obtain ⟨W, v, m, e, M0, li, mk, G, C, kd, us, sz, o1, ii, rfl, A, S, te, k⟩ := h
    have hr1 : Room 1 _ := hr.mono (by decide)
    refine ⟨_, (pss_cons (ps_set (i := 2) sc_Lpiece.nd rfl (.inl rfl) (pe_ix ix_list (pv 0) pe_int (fun _ _ => rfl)))
      (pss_cons (ps_set (i := 3) sc_Lpiece.nd rfl (.inl rfl) (pe_ix ix_list (pe_ix ix_list (pv 2) (pe_op op_add pe_int (pv 1)) (fun _ _ => rfl)) pe_int (fun _ _ => rfl)))
      (pss_cons (ps_set (i := 4) sc_Lpiece.nd rfl (.inl rfl) pe_int)
      (pss_cons (ps_for PassesOwn.never rfl (pi_range1 rfl T.b_range (pa_cons pe_int pa_nil)) (pg_name (i := 5) sc_Lpiece.nd rfl (.inl rfl))
        (pss_cons (ps_set (i := 6) sc_Lpiece.nd rfl (.inl rfl) (pe_op op_sub pe_int (pv 5)))
        (pss_one (ps_if (PW.pt (pw_and (pt_cmpR op_lt (pv 4) pe_int (nomark _)) (pw_and (pt_cmpR op_ge (pe_op op_mul pe_int (pv 6)) (pv 3) (nomark _)) (pw_and1 (pt_cmpR op_gt (pe_call (ok_Lplace T) hr1 rfl T.mg_Lplace T.F_Lplace.kp (b_Lplace T) .nil pass0 (pa_cons (pv 2) (pa_cons (pv 1) (pa_cons (pv 6) pa_nil)))) pe_int (nomark _))))))
          (pss_cons (ps_expr (pe_call (ok_Ldrop T) hr rfl T.mg_Ldrop T.F_Ldrop.kp (b_Ldrop T) .nil pass0 (pa_cons (pv 0) (pa_cons (pv 1) (pa_cons (pv 6) pa_nil)))))
          (pss_one (ps_set (i := 4) sc_Lpiece.nd rfl (.inl rfl) (pe_op op_add (pv 4) pe_int))))
          pss_nil))))
      (pss_one (ps_ret (pv 4))))))), ?_⟩
    have hf : fdOf 24 5 = 10 := by decide
    have R0 : RowsAt H W.r W.rs v.M m G C sz (o1 : Int) mk := ⟨A.g, A.ml, A.m8, S.f, S.s0, S.s8⟩
    obtain ⟨qn, hqn, hHn, hn⟩ := R0.node
    rw [R0.tbR] at k
    have hpl : (pieceL 24 v.M m).length = ((tbR sz G 10).take 2).length := by
      rw [← R0.tbR, List.length_map, List.length_reverse]
    rw [hpl] at k
    refine ⟨_, rfl, W.w, _, 0, .ref W.r, rfl, rfl, .of A.w, atI_nat (j := 0) rfl, ?_⟩
    refine ⟨_, rfl, _, rfl, _, _, rfl, rfl, W.r, _, _, .ref qn, rfl, rfl, .of A.g.out, at_of (j := nrow 24 m) (by omega) (by rw [List.getElem?_map, hqn]; rfl), qn, _, 2, .int sz, rfl, rfl, .of hHn, atI_nat (j := 2) rfl, ?_⟩
    refine ⟨10, rfl, by decide, by decide, for_range (lo := 0) (n := (10 : Int).toNat) (fun i σ H' => ∃ (u5 u6 : Option V) (rs' : List Addr), σ = [some (.ref W.w), some (.int m), some (.ref W.r), some (.int sz), some (.int (((tbR sz G i).take 2).length : Nat)), u5, u6] ∧ WAt H' { W with rs := rs' } (dropS 24 v m o1 ((tbR sz G i).take 2)) ∧ Kp W.all H H' ∧ RsOf H W.rs rs') ⟨_, _, W.rs, rfl, A, Kp.refl, RsOf.refl⟩ ?_ ?_⟩
    · rintro i σ H' hi ⟨u5, u6, rs1, rfl, A1, k1, R1⟩
      have hi : i < 10 := hi
      obtain ⟨D, hD⟩ : ∃ D, tbR sz G i = D := ⟨_, rfl⟩
      have hsucc := tbR_succ (sz := sz) (G := G) (k := i)
      rw [hD] at hsucc A1 ⊢
      have hDm : ∀ o ∈ D, o < 10 ∧ 10 ≤ o + i ∧ 8 * (o : Int) ≥ sz ∧ G o ≠ 0 := fun o ho => tbR_mem (by omega) (by rw [hD]; exact ho)
      have hDn : D.Nodup := by rw [← hD]; exact tbR_nd (by omega)
      obtain ⟨G', C', kd', us', _, S', _, g1, g2, te', _, _⟩ := Stt.dropS (D.take 2) S te (hDn.sublist (List.take_sublist _ _)) fun o ho => by
        have := hDm o (List.mem_of_mem_take ho)
        exact ⟨this.1, this.2.2.2⟩
      have e9 : (9 : Int) - (0 + (i : Int)) = ((9 - i : Nat) : Int) := by omega
      have g9 : G' (9 - i) = G (9 - i) := (g2 (9 - i) (by omega) fun z => by
        have := hDm _ (List.mem_of_mem_take z)
        omega).1
      refine ⟨_, rfl, _, _, rfl, rfl, ?_⟩
      change gName 6 (V.int (9 - (0 + (i : Int)))) _ _ _
      rw [e9]
      refine ⟨_, rfl, _, _, rfl, rfl, _, rfl, ?_⟩
      by_cases h2 : D.length < 2
      rotate_left
      · rw [decide_eq_false (by rw [List.length_take]; omega)]
        have et : (tbR sz G (i + 1)).take 2 = D.take 2 := by rw [hsucc, List.take_append_of_le_length (by omega)]
        exact iteF ⟨_, _, rs1, by rw [et]; rfl, by rw [et]; exact A1, k1, R1⟩
      have eD : D.take 2 = D := List.take_of_length_le (by omega)
      rw [eD] at A1 S' g1 ⊢
      have no : (decide (8 * ((9 - i : Nat) : Int) ≥ sz) && (G (9 - i) != 0)) = false → (tbR sz G (i + 1)).take 2 = D := fun h => by
        rw [hsucc, h, if_neg (by decide), List.append_nil, eD]
      rw [decide_eq_true (by omega)]
      refine iteT ⟨_, rfl, _, _, rfl, rfl, (by show CMul 8 _; exact .inl ⟨by decide, by decide⟩), _, rfl, _, _, rfl, rfl, _, rfl, ?_⟩
      by_cases hz : 8 * ((9 - i : Nat) : Int) ≥ sz
      rotate_left
      · rw [decide_eq_false hz]
        have et := no (by rw [decide_eq_false hz]; rfl)
        exact iteF ⟨_, _, rs1, by rw [et]; rfl, by rw [et]; exact A1, k1, R1⟩
      rw [decide_eq_true hz]
      refine iteT ⟨_, rfl, _, rfl, _, rfl, W.r, rs1, _, m, 9 - i, rfl, A1.g, A1.ml, A1.m8, S'.f.m1, S'.f.mn, by omega, S'.f.ok_, ?_⟩
      rw [S'.f.v_ (by omega), g9]
      refine ⟨_, _, rfl, rfl, _, rfl, ?_⟩
      by_cases hg : G (9 - i) = 0
      · rw [decide_eq_false (by omega)]
        have et := no (by rw [hg]; simp)
        exact iteF ⟨_, _, rs1, by rw [et]; rfl, by rw [et]; exact A1, k1, R1⟩
      have pg := S.f.pf (9 - i) (by omega) hg
      rw [decide_eq_true (by omega)]
      have et : (tbR sz G (i + 1)).take 2 = D ++ [9 - i] := by
        rw [hsucc, decide_eq_true hz, if_pos (by simp [hg]), List.take_of_length_le (by rw [List.length_append]; simp; omega)]
      refine iteT ⟨_, rfl, _, rfl, _, rfl, { W with rs := rs1 }, _, m, 9 - i, o1, G', C', sz, mk, rfl, A1, S'.f, by omega, by rw [g9]; exact hg, S'.o4, fun H2 rs2 A2 k2 R2 => ?_⟩
      refine ⟨_, rfl, _, _, rfl, rfl, some (.int (0 + (i : Int))), some (.int ((9 - i : Nat) : Int)), rs2, ?_, ?_, WKp k1 R1 k2, R1.tr k1 A1 R2⟩
      · rw [et, List.length_append, List.length_singleton]
        rfl
      · rw [et, dropS_snoc]
        exact A2
    · rintro σ H' ⟨u5, u6, rs1, rfl, A1, k1, R1⟩
      exact ⟨_, rfl, k H' rs1 A1 k1 R1⟩
end
end K09
namespace K09
open PySem PySem.Spec PyProof.Rows L2 Rg
theorem Sm.ints {H : Hp} {a b : Addr} {xs : List Int} (h : (H a = some (.lst (xs.map V.int)) ∧ H b = some (.lst (xs.map V.int))) ∨ (H a = some (.tup (xs.map V.int)) ∧ H b = some (.tup (xs.map V.int)))) (hl : xs.length < 1000) : Sm H 1 (.ref a) (.ref b) := by
  refine .inr ⟨a, b, xs.map V.int, xs.map V.int, rfl, rfl, h, rfl, by rw [List.length_map]; exact hl, fun i x y h1 h2 => ?_⟩
  rw [h1] at h2
  obtain rfl := Option.some.inj h2
  rw [List.getElem?_map] at h1
  obtain ⟨n, _, rfl⟩ := Option.map_eq_some_iff.mp h1
  exact Sm.int
section
variable {P : Program} {w : World} {K : PySem.W.Frag} {mg : Str → Option Value} {base : Heap}
/-! ### the world settled -/
def sp_Lsettle : Sp := fun vs H Q _ => ∃ (W : WA) (v : IV) (rq : Addr) (rsq : List Addr) (M0 : List (List Int)), vs = [.ref W.w, .ref rq] ∧ WAt H W v ∧ Grid H rq rsq M0 ∧ M0.length = 24 ∧ W.s ≠ rq ∧ W.s ∉ rsq ∧ (∀ x : Nat, x < 24 → ∃ h, v.ho[x]? = some h ∧ (0 < h ↔ kindOf 24 5 v.M x ≠ 0)) ∧
  ∀ H', WAt H' W { v with st := setl 24 5 v.M M0 v.ho v.se v.st 24 } → Kp [W.s] H H' → Q .non H'
theorem ok_Lsettle (T : Tx K mg) : FnOk P w K mg base CX0 1 T.f_Lsettle T.fd_Lsettle ["_law_world", "_law_elder"] sp_Lsettle := by
  refine T.F_Lsettle.ok sc_Lsettle (fun vs H Q E h => ?_) (fun cdv A0 outer s H vs Q E hr h => ?_)
  · obtain ⟨_, _, _, _, _, rfl, _⟩ := h; rfl
  · obtain ⟨W, v, rq, rsq, M0, rfl, A, G0, ml0, nsq, nsr, hk, k⟩ := h
    refine ⟨_, (pss_cons (ps_asg (pv 0) (pg_lst rfl (pgs_cons (pg_name (i := 2) sc_Lsettle.nd rfl (.inl rfl)) (pgs_cons (pg_name (i := 3) sc_Lsettle.nd rfl (.inl rfl)) (pgs_cons (pg_name (i := 4) sc_Lsettle.nd rfl (.inl rfl)) (pgs_cons (pg_name (i := 5) sc_Lsettle.nd rfl (.inl rfl)) pgs_nil))))))
      (pss_one (ps_for PassesOwn.never rfl (pi_range1 rfl T.b_range (pa_cons pe_int pa_nil)) (pg_name (i := 6) sc_Lsettle.nd rfl (.inl rfl))
        (pss_one (ps_if (PW.pt (pw_or (pt_cmpR op_eq (pe_ix ix_list (pv 3) (pv 6) (fun _ _ => rfl)) (pv 5) (nomark _)) (pw_or1 (PW.pt (pw_and (pt_cmpR op_gt (pe_ix ix_list (pv 3) (pv 6) (fun _ _ => rfl)) pe_int (nomark _)) (pw_and1 (pt_cmpR (op_neD hr.units) (pe_ix ix_list (pv 2) (pv 6) (fun _ _ => rfl)) (pe_ix ix_list (pv 1) (pv 6) (fun _ _ => rfl)) (nomark _))))))))
          (pss_one (ps_asg (pv 5) (pg_sub (pv 4) (pv 6) set_list)))
          pss_nil))))), ?_⟩
    have ml := A.ml
    have hl := A.hl
    refine ⟨_, rfl, W.w, _, rfl, .of A.w, rfl, _, _, rfl, _, _, rfl, _, _, rfl, _, _, rfl, rfl, ?_⟩
    refine ⟨24, rfl, by decide, by decide, for_range (lo := 0) (n := (24 : Int).toNat) (fun i σ H' => ∃ u6 : Option V, σ = [some (.ref W.w), some (.ref rq), some (.ref W.r), some (.ref W.h), some (.ref W.s), some (.int v.se), u6] ∧ WAt H' W { v with st := setl 24 5 v.M M0 v.ho v.se v.st i } ∧ Kp [W.s] H H') ⟨_, rfl, A, Kp.refl⟩ ?_ ?_⟩
    · rintro i σ H' hi ⟨u6, rfl, A1, k1⟩
      have hi : i < 24 := hi
      have ez : (0 : Int) + (i : Int) = (i : Nat) := by omega
      obtain ⟨h, hh, hkk⟩ := hk i hi
      have G1 := G0.keep fun b o hb e => k1 _ _ e (by
        simp only [List.mem_singleton]
        rcases hb with z | z
        · rw [z]; exact fun y => nsq y.symm
        · exact fun y => nsr (by rw [← y]; exact z))
      have hho : ∀ {x : V}, x = .int h → (v.ho.map V.int)[i]? = some x := fun e => by rw [e, List.getElem?_map, hh]; rfl
      have set_ : ∀ σ' : L2.St, True := fun _ => trivial
      have go : Chg 24 5 v.M M0 v.ho v.se i → WAt (upd H' W.s (.lst (((setl 24 5 v.M M0 v.ho v.se v.st i).set i v.se).map V.int))) W { v with st := setl 24 5 v.M M0 v.ho v.se v.st (i + 1) } ∧ Kp [W.s] H (upd H' W.s (.lst (((setl 24 5 v.M M0 v.ho v.se v.st i).set i v.se).map V.int))) := fun c => by
        have B := A1.sst (x := i) (a := v.se)
        refine ⟨?_, k1.own1⟩
        rw [setl_succ, if_pos c]
        exact B
      have stay : ¬ Chg 24 5 v.M M0 v.ho v.se i → WAt H' W { v with st := setl 24 5 v.M M0 v.ho v.se v.st (i + 1) } := fun c => by
        rw [setl_succ, if_neg c]
        exact A1
      have sl := A1.sl
      have store : ∀ {Ω : Prop}, (WAt (upd H' W.s (.lst (((setl 24 5 v.M M0 v.ho v.se v.st i).set i v.se).map V.int))) W { v with st := setl 24 5 v.M M0 v.ho v.se v.st (i + 1) } ∧ Kp [W.s] H (upd H' W.s (.lst (((setl 24 5 v.M M0 v.ho v.se v.st i).set i v.se).map V.int))) → Ω) → Chg 24 5 v.M M0 v.ho v.se i → Ω := fun f c => f (go c)
      refine ⟨_, rfl, _, rfl, W.h, _, _, .int h, rfl, rfl, .of A1.h, at_of (j := i) ez (hho rfl), _, rfl, rfl, _, rfl, ?_⟩
      rw [dec_iv]
      by_cases z : h = v.se
      · rw [decide_eq_true z]
        refine iteT ⟨_, rfl, _, rfl, _, rfl, W.s, _, _, i, rfl, rfl, A1.s, ixN_nat ez (by rw [List.length_map]; omega), ?_⟩
        rw [← List.map_set]
        have g := go (.inr (by rw [hh, z]))
        exact ⟨_, rfl, g.1, g.2⟩
      · rw [decide_eq_false z]
        refine iteF ⟨_, rfl, _, rfl, W.h, _, _, .int h, rfl, rfl, .of A1.h, at_of (j := i) ez (hho rfl), _, _, rfl, rfl, _, rfl, ?_⟩
        by_cases y : 0 < h
        · rw [decide_eq_true y]
          obtain ⟨q1, row1, hq1, hrow1, hH1, _, _⟩ := A1.g.rowN (i := i) (by show i < v.M.length; omega)
          obtain ⟨q2, row2, hq2, hrow2, hH2, _, _⟩ := G1.rowN (i := i) (by omega)
          refine iteT ⟨_, rfl, _, rfl, W.r, _, _, .ref q1, rfl, rfl, .of A1.g.out, at_of (j := i) ez (by rw [List.getElem?_map, hq1]; rfl), _, rfl, _, rfl, rq, _, _, .ref q2, rfl, rfl, .of G1.out, at_of (j := i) ez (by rw [List.getElem?_map, hq2]; rfl), ?_⟩
          refine ⟨_, _, dpI hH1, dpI hH2, shI _, shI _, _, rfl, ?_⟩
          rw [eqvI]
          have hrow1' : v.M[i]? = some row1 := hrow1
          by_cases q : row1 = row2
          · rw [decide_eq_true q]
            refine iteF ⟨_, rfl, stay ?_, k1⟩
            rintro (⟨_, c⟩ | c)
            · exact c (by rw [hrow1', hrow2, q])
            · rw [hh] at c
              exact z (Option.some.inj c)
          · rw [decide_eq_false q]
            refine iteT ⟨_, rfl, _, rfl, _, rfl, W.s, _, _, i, rfl, rfl, A1.s, ixN_nat ez (by rw [List.length_map]; omega), ?_⟩
            rw [← List.map_set]
            have g := go (.inl ⟨hkk.mp y, by rw [hrow1', hrow2]; exact fun c => q (Option.some.inj c)⟩)
            exact ⟨_, rfl, g.1, g.2⟩
        · rw [decide_eq_false y]
          refine iteF ⟨_, rfl, stay ?_, k1⟩
          rintro (⟨c, _⟩ | c)
          · exact y (hkk.mpr c)
          · rw [hh] at c
            exact z (Option.some.inj c)
    · rintro σ H' ⟨u6, rfl, A1, k1⟩
      exact k H' A1 k1
/-! ### what the law keeps of its world -/
def sp_Lkept : Sp := fun vs H Q _ => ∃ (W : WA) (v : IV), vs = [.ref W.w] ∧ WAt H W v ∧ ∀ H' p d, Same H H' → H p = none → H d = none → Kd H' ⟨p, W.r, W.h, W.s, d, W.rs⟩ v.M v.ho v.st v.se → Q (.ref p) H'
theorem ok_Lkept (T : Tx K mg) : FnOk P w K mg base CX0 1 T.f_Lkept T.fd_Lkept ["_law_world"] sp_Lkept := by
  refine T.F_Lkept.ok sc_Lkept (fun vs H Q E h => ?_) (fun cdv A0 outer s H vs Q E hr h => ?_)
  · obtain ⟨_, _, rfl, _⟩ := h; rfl
  · obtain ⟨W, v, rfl, A, k⟩ := h
    refine ⟨_, (pss_one (ps_ret (pe_lst (pa_cons (pe_ix ix_list (pv 0) pe_int (fun _ _ => rfl)) (pa_cons (pe_ix ix_list (pv 0) pe_int (fun _ _ => rfl)) (pa_cons (pe_ix ix_list (pv 0) pe_int (fun _ _ => rfl)) (pa_cons (pe_lst pa_nil) (pa_cons (pe_ix ix_list (pv 0) pe_int (fun _ _ => rfl)) pa_nil)))))))), ?_⟩
    refine ⟨_, rfl, W.w, _, 0, .ref W.r, rfl, rfl, .of A.w, atI_nat (j := 0) rfl, _, rfl, W.w, _, 1, .ref W.h, rfl, rfl, .of A.w, atI_nat (j := 1) rfl, _, rfl, W.w, _, 2, .ref W.s, rfl, rfl, .of A.w, atI_nat (j := 2) rfl, (by show 0 ≤ sizeLine; decide), fun d nd => ?_⟩
    have s1 := same_upd (o := .lst []) nd
    have A1 := A.same s1
    refine ⟨_, rfl, W.w, _, 3, .int v.se, rfl, rfl, .of A1.w, atI_nat (j := 3) rfl, (by show 5 ≤ sizeLine; decide), fun p np => ?_⟩
    have s2 := same_upd (o := .lst [.ref W.r, .ref W.h, .ref W.s, .ref d, .int v.se]) np
    have A2 := A1.same s2
    exact k _ p d (s1.trans s2) (s1.free np) nd ⟨upd_same, A2.g, A2.h, A2.s, s2 _ _ upd_same⟩
theorem smG {H : Hp} {a a' : Addr} {rs rs' : List Addr} {M : List (List Int)} (G : Grid H a rs M) (G' : Grid H a' rs' M) (hl : M.length < 1000) (h8 : ∀ m ∈ M, m.length < 1000) : Sm H 2 (.ref a) (.ref a') := by
  have l1 := G.len
  have l2 := G'.len
  refine .inr ⟨a, a', _, _, rfl, rfl, .inl ⟨G.out, G'.out⟩, by rw [List.length_map, List.length_map]; omega, by rw [List.length_map]; omega, fun i x y h1 h2 => ?_⟩
  rw [List.getElem?_map] at h1 h2
  obtain ⟨q1, hq1, rfl⟩ := Option.map_eq_some_iff.mp h1
  obtain ⟨q2, hq2, rfl⟩ := Option.map_eq_some_iff.mp h2
  have hi : i < M.length := by
    have := (List.getElem?_eq_some_iff.mp hq1).1
    omega
  have hm := List.getElem?_eq_getElem hi
  exact Sm.ints (.inl ⟨G.row _ _ _ hq1 hm, G'.row _ _ _ hq2 hm⟩) (h8 _ (List.getElem_mem hi))
theorem smKd {H : Hp} {k k' : KA} {M : List (List Int)} {ho st : List Int} {se : Int} (A : Kd H k M ho st se) (A' : Kd H k' M ho st se) (hl : M.length < 1000) (h8 : ∀ m ∈ M, m.length < 1000) (lh : ho.length < 1000) (ls : st.length < 1000) : Sm H 3 (.ref k.p) (.ref k'.p) := by
  refine .inr ⟨k.p, k'.p, _, _, rfl, rfl, .inl ⟨A.p, A'.p⟩, rfl, (by show 5 < 1000; decide), fun i x y h1 h2 => ?_⟩
  match i, h1, h2 with
  | 0, h1, h2 =>
    cases h1
    cases h2
    exact smG A.c A'.c hl h8
  | 1, h1, h2 =>
    cases h1
    cases h2
    exact (Sm.ints (.inl ⟨A.h, A'.h⟩) lh).up
  | 2, h1, h2 =>
    cases h1
    cases h2
    exact (Sm.ints (.inl ⟨A.s, A'.s⟩) ls).up
  | 3, h1, h2 =>
    cases h1
    cases h2
    exact (Sm.ints (xs := []) (.inl ⟨A.d, A'.d⟩) (by decide)).up
  | 4, h1, h2 =>
    cases h1
    cases h2
    exact Sm.int
end
end K09
namespace K09
open PySem PySem.Spec PyProof.Rows L2 Rg
/-! ### a deed and what it comes to -/
inductive DK where
  | piece
  | size (s : Int)
def DeedAt (H : Hp) (dq : Addr) (m : Int) : DK → Prop
  | .piece => H dq = some (.tup [.str "piece", .int m])
  | .size s => H dq = some (.tup [.str "size", .int m, .int s]) ∧ 0 ≤ s
theorem DeedAt.keep {H H' : Hp} {dq : Addr} {m : Int} {dk : DK} (D : DeedAt H dq m dk) (h : ∀ xs, H dq = some (.tup xs) → H' dq = some (.tup xs)) : DeedAt H' dq m dk := by
  cases dk with
  | piece => exact h _ D
  | size s => exact ⟨h _ D.1, D.2⟩
theorem DeedAt.same {H H' : Hp} {dq : Addr} {m : Int} {dk : DK} (D : DeedAt H dq m dk) (h : Same H H') : DeedAt H' dq m dk := D.keep fun _ e => h _ _ e
inductive Oc where
  | ref (nm : Str)
  | ok (d : V) (v : IV)
def ocM (v : IV) (m : Int) (o1 : Nat) : DK → Oc
  | .piece => .ok (.int ((pieceL 24 v.M m).length : Nat)) (dropS 24 v m o1 ((pieceL 24 v.M m).reverse.map Int.toNat))
  | .size s => if s > cellAt v.M (nrow 24 m) 2 ∧ late 24 v.M m = true then .ref "Unfinished" else if s > 80 then .ref "TooLong" else .ok .non { v with M := psM 24 v.M m s }
section
variable {P : Program} {w : World} {K : PySem.W.Frag} {mg : Str → Option Value} {base : Heap}
def MoK (H : Hp) (W : WA) (Q : VK) : Oc → Prop
  | .ref nm => Q (.str nm) H
  | .ok d v' => ∀ H' rs', WAt H' { W with rs := rs' } v' → Kp W.all H H' → RsOf H W.rs rs' → Q d H'
def sp_Lmodel : Sp := fun vs H Q _ => ∃ (W : WA) (v : IV) (dq : Addr) (m : Int) (e : Ev) (M0 : List (List Int)) (li : List Int) (mk : Int) (G : Nat → Int) (C : Nat → List Int) (kd us : List Int) (sz : Int) (o1 i : Nat) (dk : DK), vs = [.ref W.w, .ref dq] ∧ WAt H W v ∧ Stt 24 5 e m M0 li mk v.M G C kd us sz o1 i ∧ Te G ∧ DeedAt H dq m dk ∧ MoK H W Q (ocM v m o1 dk)
theorem ok_Lmodel (T : Tx K mg) : FnOk P w K mg base CX0 4 T.f_Lmodel T.fd_Lmodel ["_law_world", "_law_deed"] sp_Lmodel := by
  refine T.F_Lmodel.ok sc_Lmodel (fun vs H Q E h => ?_) (fun cdv A0 outer s H vs Q E hr h => ?_)
  · obtain ⟨_, _, _, _, _, _, _, _, _, _, _, _, _, _, _, _, rfl, _⟩ := h; rfl
  · obtain ⟨W, v, dq, m, e, M0, li, mk, G, C, kd, us, sz, o1, ii, dk, rfl, A, S, te, D, k⟩ := h
    have hr2 : Room 2 _ := hr.mono (by decide)
    refine ⟨_, (pss_cons (ps_set (i := 2) sc_Lmodel.nd rfl (.inl rfl) (pe_ix ix_list (pv 0) pe_int (fun _ _ => rfl)))
      (pss_cons (ps_if (pt_cmpR op_eq (pe_ix ix_tup (pv 1) pe_int (fun _ _ => rfl)) pe_str (nomark _))
        (pss_one (ps_ret (pe_call (ok_Lpiece T) hr rfl T.mg_Lpiece T.F_Lpiece.kp (b_Lpiece T) .nil pass0 (pa_cons (pv 0) (pa_cons (pe_ix ix_tup (pv 1) pe_int (fun _ _ => rfl)) pa_nil)))))
        pss_nil)
      (pss_cons (ps_set (i := 3) sc_Lmodel.nd rfl (.inl rfl) (pe_ix ix_list (pv 2) (pe_op op_add pe_int (pe_ix ix_tup (pv 1) pe_int (fun _ _ => rfl))) (fun _ _ => rfl)))
      (Evl.pss_cut (ps_if (PW.pt (pw_and (pt_cmpR op_gt (pe_ix ix_tup (pv 1) pe_int (fun _ _ => rfl)) (pe_ix ix_list (pv 3) pe_int (fun _ _ => rfl)) (nomark _)) (pw_and1 (pt_val (pe_call (ok_Lunfinished T) hr2 rfl T.mg_Lunfinished T.F_Lunfinished.kp (b_Lunfinished T) .nil pass0 (pa_cons (pv 2) (pa_cons (pe_ix ix_tup (pv 1) pe_int (fun _ _ => rfl)) pa_nil)))))))
        (pss_one (ps_ret pe_str))
        pss_nil)
      (pss_cons (ps_if (pt_cmpR op_gt (pe_ix ix_tup (pv 1) pe_int (fun _ _ => rfl)) pe_int (nomark _))
        (pss_one (ps_ret pe_str))
        pss_nil)
      (pss_cons (ps_expr (pe_call (ok_Lclear T) hr2 rfl T.mg_Lclear T.F_Lclear.kp (b_Lclear T) .nil pass0 (pa_cons (pv 2) (pa_cons (pe_ix ix_tup (pv 1) pe_int (fun _ _ => rfl)) (pa_cons (pe_callB (call_min2 rfl) rfl T.b_min (by decide +kernel) (pa_cons (pe_ix ix_tup (pv 1) pe_int (fun _ _ => rfl)) (pa_cons (pe_ix ix_list (pv 3) pe_int (fun _ _ => rfl)) pa_nil))) pa_nil)))))
      (pss_cons (ps_asg (pe_ix ix_tup (pv 1) pe_int (fun _ _ => rfl)) (pg_sub (pv 3) pe_int set_list))
      (pss_one (ps_ret pe_non))))))))), ?_⟩
    have hf : fdOf 24 5 = 10 := by decide
    have R0 : RowsAt H W.r W.rs v.M m G C sz (o1 : Int) mk := ⟨A.g, A.ml, A.m8, S.f, S.s0, S.s8⟩
    obtain ⟨qn, hqn, hHn, hn⟩ := R0.node
    have ml := A.ml
    refine ⟨_, rfl, W.w, _, 0, .ref W.r, rfl, rfl, .of A.w, atI_nat (j := 0) rfl, ?_⟩
    cases dk with
    | piece =>
      have hq : H dq = some (.tup [.str "piece", .int m]) := D
      refine ⟨_, rfl, dq, _, 0, .str "piece", rfl, rfl, .of hq, atI_nat (j := 0) rfl, rfl, _, rfl, ?_⟩
      rw [decide_eq_true rfl]
      exact iteT ⟨_, rfl, _, rfl, dq, _, 1, .int m, rfl, rfl, .of hq, atI_nat (j := 1) rfl, W, v, m, e, M0, li, mk, G, C, kd, us, sz, o1, ii, rfl, A, S, te, k⟩
    | size sv =>
      obtain ⟨hq, h0⟩ : H dq = some (.tup [.str "size", .int m, .int sv]) ∧ 0 ≤ sv := D
      have s0 := S.s0
      have s8 := S.s8
      refine ⟨_, rfl, dq, _, 0, .str "size", rfl, rfl, .of hq, atI_nat (j := 0) rfl, rfl, _, rfl, ?_⟩
      rw [decide_eq_false (fun z => absurd (V.str.inj z) (by decide))]
      simp only [ocM, S.f.sz_] at k
      refine iteF ⟨_, rfl, _, rfl, dq, _, 1, .int m, rfl, rfl, .of hq, atI_nat (j := 1) rfl, _, _, rfl, rfl, W.r, _, _, .ref qn, rfl, rfl, .of A.g.out, at_of (j := nrow 24 m) (by omega) (by rw [List.getElem?_map, hqn]; rfl), ?_⟩
      refine ⟨fun σ H' => σ = [some (.ref W.w), some (.ref dq), some (.ref W.r), some (.ref qn)] ∧ H = H' ∧ ¬ (sv > sz ∧ late 24 v.M m = true), ?_, ?_⟩
      · refine ⟨_, rfl, dq, _, 2, .int sv, rfl, rfl, .of hq, atI_nat (j := 2) rfl, _, rfl, qn, _, 2, .int sz, rfl, rfl, .of hHn, atI_nat (j := 2) rfl, _, _, rfl, rfl, _, rfl, ?_⟩
        by_cases z : sv > sz
        · rw [decide_eq_true z]
          refine iteT ⟨_, rfl, _, rfl, dq, _, 1, .int m, rfl, rfl, .of hq, atI_nat (j := 1) rfl, W.r, W.rs, v.M, m, G, C, sz, (o1 : Int), mk, rfl, R0, _, rfl, ?_⟩
          rw [← late_eq S]
          cases hl : late 24 v.M m with
          | true =>
            rw [if_pos ⟨z, hl⟩] at k
            exact iteT k
          | false => exact iteF ⟨rfl, rfl, fun h => absurd h.2 (by decide)⟩
        · rw [decide_eq_false z]
          exact iteF ⟨rfl, rfl, fun h => z h.1⟩
      rintro σ H' ⟨rfl, rfl, hno⟩
      rw [if_neg hno] at k
      refine ⟨_, rfl, dq, _, 2, .int sv, rfl, rfl, .of hq, atI_nat (j := 2) rfl, _, _, rfl, rfl, _, rfl, ?_⟩
      by_cases h80 : sv > 80
      · rw [decide_eq_true h80]
        rw [if_pos h80] at k
        exact iteT k
      rw [decide_eq_false h80]
      rw [if_neg h80] at k
      obtain ⟨en, hen⟩ : ∃ en : Nat, (if sz < sv then sz else sv) = (en : Int) := ⟨(if sz < sv then sz else sv).toNat, by split <;> omega⟩
      have hen80 : en ≤ 80 := by split at hen <;> omega
      have eend : endV 24 v.M m sv = en := by
        unfold endV
        rw [S.f.sz_, ← hen]
        split <;> split <;> omega
      refine iteF ⟨_, rfl, _, rfl, dq, _, 1, .int m, rfl, rfl, .of hq, atI_nat (j := 1) rfl, _, rfl, dq, _, 2, .int sv, rfl, rfl, .of hq, atI_nat (j := 2) rfl, _, rfl, qn, _, 2, .int sz, rfl, rfl, .of hHn, atI_nat (j := 2) rfl, _, _, rfl, W.r, W.rs, v.M, m, G, C, sz, (o1 : Int), mk, en, (by show [V.ref W.r, .int m, .int (if sz < sv then sz else sv)] = [V.ref W.r, .int m, .int (en : Int)]; rw [hen]), R0, hen80, fun H1 G1 k1 => ?_⟩
      have hq1 : H1 dq = some (.tup [.str "size", .int m, .int sv]) := k1 _ _ hq fun z => by
        obtain ⟨i, hi, ei⟩ := List.getElem_of_mem z
        have hm : i < v.M.length := by have := A.g.len; omega
        have := A.g.row i dq v.M[i] (by rw [List.getElem?_eq_getElem hi, ei]) (List.getElem?_eq_getElem hm)
        rw [hq] at this
        cases this
      have hcr : (cutM 24 v.M m (en : Int))[nrow 24 m]? = some [1, 1, sz, (o1 : Int), G 0, G 1, G 12, mk] := by
        rw [← S.f.r6]
        unfold cutM
        split
        · rfl
        · rename_i hc
          have hx : plV 24 v.M m ((en : Int) / 8).toNat ≠ 0 := fun z => hc (.inr z)
          have h8 : ¬ (en : Int) % 8 = 0 := fun z => hc (.inl z)
          rw [show ((en : Int) / 8).toNat = en / 8 by omega, S.f.v_ (by omega)] at hx ⊢
          have p := S.f.pf (en / 8) (by omega) hx
          have m1 := S.f.m1
          have mn := S.f.mn
          have hne : (G (en / 8)).toNat ≠ nrow 24 m := by omega
          generalize 8 - ((en : Int) % 8).toNat = r
          induction r with
          | zero => rfl
          | succ r ih =>
            show (setC (zeroC v.M (G (en / 8)).toNat ((en : Int) % 8).toNat r) (G (en / 8)).toNat (((en : Int) % 8).toNat + r) 0)[nrow 24 m]? = _
            rw [setC_row hne]
            exact ih
      have mlc : (cutM 24 v.M m (en : Int)).length = 24 := by
        unfold cutM
        split
        · exact ml
        · rw [zeroC_len]; exact ml
      have m8c : ∀ x ∈ cutM 24 v.M m (en : Int), x.length = 8 := by
        unfold cutM
        split
        · exact A.m8
        · rename_i hc
          have hx : plV 24 v.M m ((en : Int) / 8).toNat ≠ 0 := fun z => hc (.inr z)
          have h8 : ¬ (en : Int) % 8 = 0 := fun z => hc (.inl z)
          refine zeroC_m8 A.m8 ?_ _
          rw [show ((en : Int) / 8).toNat = en / 8 by omega, S.f.v_ (by omega)] at hx ⊢
          have p := S.f.pf (en / 8) (by omega) hx
          omega
      have A1 := A.rows G1 k1 mlc m8c
      have hHn1 := A1.g.row _ _ _ hqn hcr
      have qnm : qn ∈ W.rs := List.mem_of_getElem? hqn
      refine ⟨_, rfl, dq, _, 2, .int sv, rfl, rfl, .of hq1, atI_nat (j := 2) rfl, _, rfl, qn, _, _, 2, rfl, rfl, hHn1, ixN_nat rfl (by show 2 < 8; decide), ?_⟩
      rw [← List.map_set]
      have G2 := A1.g.setc (j := 2) (x := sv) hqn hcr
      have k2 : Kp W.rs H1 (upd H1 qn (.lst ((([1, 1, sz, (o1 : Int), G 0, G 1, G 12, mk] : List Int).set 2 sv).map V.int))) := Kp.refl.own qnm
      have A2 := A1.rows G2 k2 (by rw [setC_len]; exact mlc) (setC_m8' m8c (by show nrow 24 m < (cutM 24 v.M m (en : Int)).length; rw [mlc]; have := S.f.mn; omega))
      have ep : psM 24 v.M m sv = setC (cutM 24 v.M m (en : Int)) (nrow 24 m) 2 sv := by
        unfold psM
        rw [eend]
      rw [ep] at k
      exact k _ W.rs A2 ((k1.trans k2).mono fun y hy => by simp [WA.all, hy]) RsOf.refl
end
end K09
namespace K09
open PySem PySem.Spec PyProof.Rows L2 Rg
section
variable {X : Cx} {K : PySem.W.Frag}
theorem pe_ixTK {a b : Expr} {pos : Pos} {ta tb : TE} (ha : PE X a ta) (hb : PE X b tb) (hs : PlainIx b) (hK : X.K = K := by rfl) : PE X (.Subscript a b pos) (tOp (rIxT K) ta tb) := by
  subst hK
  exact pe_ix ix_tup ha hb hs
end
section
variable {P : Program} {w : World} {K : PySem.W.Frag} {mg : Str → Option Value} {base : Heap}
def Told (H : Hp) (nm : Str) (Q : VK) : Prop := ∀ H' t q, Same H H' → H t = none → H q = none → q ≠ t → H' q = some (.lst [.str nm]) → H' t = some (.tup [.str "refused", .ref q]) → Q (.ref t) H'
def CaK (CI CP : Addr) (H : Hp) (im : Addr) (A : IA) (s : Int) (Q : VK) : Oc → Prop
  | .ref nm => Told H nm Q
  | .ok d v' => ∀ H' rs', RsOf H A.rs rs' → ImgAt CI CP H' im { A with rs := rs' } v' 24 5 s → Kp (ft3 A ++ A.rs) H H' → Q d H'
def sp_Lcall (CI CP : Addr) : Sp := fun vs H Q _ => ∃ (im : Addr) (A : IA) (v : IV) (s : Int) (dq : Addr) (m : Int) (e : Ev) (M0 : List (List Int)) (li : List Int) (mk : Int) (G : Nat → Int) (C : Nat → List Int) (kd us : List Int) (sz : Int) (o1 i : Nat) (dk : DK), vs = [.ref im, .ref dq] ∧ ImgAt CI CP H im A v 24 5 s ∧ Stt 24 5 e m M0 li mk v.M G C kd us sz o1 i ∧ Te G ∧ DeedAt H dq m dk ∧ CaK CI CP H im A s Q (ocM v m o1 dk)
theorem ok_Lcall (T : Tx K mg) : FnOk P w K mg base CX0 7 T.f_Lcall T.fd_Lcall ["_law_image", "_law_deed"] (sp_Lcall T.C_Image T.C_Plan) := by
  refine T.F_Lcall.ok sc_Lcall (fun vs H Q E h => ?_) (fun cdv A0 outer s H vs Q E hr h => ?_)
  · obtain ⟨_, _, _, _, _, _, _, _, _, _, _, _, _, _, _, _, _, _, rfl, _⟩ := h; rfl
  · obtain ⟨im, A, v, sl, dq, m, e, M0, li, mk, G, C, kd, us, sz, o1, ii, dk, rfl, I, S, te, D, k⟩ := h
    refine ⟨_, (pss_one (L2N.ps_try_as (i := 2) rfl rfl sc_Lcall.nd rfl rfl ⟨rfl, by decide, .inl T.mg_Refused⟩ takes0N
        (fun W pn xe tk _ => pss_cons (ps_if (pt_cmpR op_eq (pe_ixTK (K := K) (pv 1) pe_int (fun _ _ => rfl)) pe_str (nomark _))
            (pss_one (ps_ret (by exact (pe_call (ok_free_piece T) hr rfl T.mg_free_piece T.F_free_piece.kp (b_free_piece T) .nil pass0 (by exact (pa_cons (pv 0) (pa_cons (pe_ixTK (K := K) (pv 1) pe_int (fun _ _ => rfl)) pa_nil)))))))
            pss_nil)
          (pss_one (ps_ret (by exact (pe_callS (ok_set_size T) hr rfl T.mg_set_size T.F_set_size.kp (b_set_size T) (fun σ => L2N.passAt tk σ) (by exact (pa_cons (pv 0) (pa_cons (pe_ixTK (K := K) (pv 1) pe_int (fun _ _ => rfl)) (pa_cons (pe_ixTK (K := K) (pv 1) pe_int (fun _ _ => rfl)) pa_nil)))))))))
        (fun a oe cls d pn hz hf => pss_either
          (pss_only (cls := cls) (d := d) (D := T.C_Unfinished) fun e1 e2 => by
            subst e1
            subst e2
            refine pss_one (ps_ret (te := tCallE (sp_Lerror ["Unfinished"]) a (tCons (tVar 2) tNil)) ?_)
            exact pe_callE (p := (a, oe)) (ok_Lerror_Unfinished T) (L2H.RoomH.mono (j := 1) (k := 6) ⟨hr.dp, hr.un⟩ (by decide)) ⟨rfl, hf.elim fun vs h => ⟨vs, h, hz.2.2 vs h⟩⟩ hz.zc (List.mem_cons_self ..) rfl T.mg_Lerror T.F_Lerror.kp (b_Lerror T) (by exact (pa_cons (pv 2) pa_nil)))
          (pss_only (cls := cls) (d := d) (D := T.C_TooLong) fun e1 e2 => by
            subst e1
            subst e2
            refine pss_one (ps_ret (te := tCallE (sp_Lerror ["TooLong"]) a (tCons (tVar 2) tNil)) ?_)
            exact pe_callE (p := (a, oe)) (ok_Lerror_TooLong T) (L2H.RoomH.mono (j := 1) (k := 6) ⟨hr.dp, hr.un⟩ (by decide)) ⟨rfl, hf.elim fun vs h => ⟨vs, h, hz.2.2 vs h⟩⟩ hz.zc (List.mem_cons_self ..) rfl T.mg_Lerror T.F_Lerror.kp (b_Lerror T) (by exact (pa_cons (pv 2) pa_nil)))))), ?_⟩
    have f := S.f
    cases dk with
    | piece =>
      have hq : H dq = some (.tup [.str "piece", .int m]) := D
      obtain ⟨pn, pm, pl⟩ := piece_ok S
      obtain ⟨G', C', kd', us', DO, _⟩ := Stt.dropS _ S te pn fun o ho => ⟨(pm o ho).1, (pm o ho).2.1⟩
      refine ⟨_, rfl, dq, _, 0, .str "piece", rfl, rfl, .of hq, atI_nat (j := 0) rfl, rfl, _, rfl, ?_⟩
      rw [decide_eq_true rfl]
      exact iteT ⟨_, rfl, _, rfl, dq, _, 1, .int m, rfl, rfl, .of hq, atI_nat (j := 1) rfl, im, A, v, 24, 5, sl, m, o1, rfl, I, f.m1, f.mn, f.ok_, S.o4, DO, k⟩
    | size sv =>
      obtain ⟨hq, h0⟩ : H dq = some (.tup [.str "size", .int m, .int sv]) ∧ 0 ≤ sv := D
      have s0 := S.s0
      have s8 := S.s8
      refine ⟨_, rfl, dq, _, 0, .str "size", rfl, rfl, .of hq, atI_nat (j := 0) rfl, rfl, _, rfl, ?_⟩
      rw [decide_eq_false (fun z => absurd (V.str.inj z) (by decide))]
      simp only [ocM] at k
      refine iteF ⟨_, rfl, _, rfl, dq, _, 1, .int m, rfl, rfl, .of hq, atI_nat (j := 1) rfl, _, rfl, dq, _, 2, .int sv, rfl, rfl, .of hq, atI_nat (j := 2) rfl, im, A, v, 24, 5, sl, m, sv, rfl, I, f.m1, f.mn, f.ok_, fun o ho => f.pl_ ho, by rw [f.sz_]; exact s0, by rw [f.sz_]; exact s8, h0, fun g e H' Sm' => ?_, fun g e H' Sm' => ?_, fun g e H' I' k' => ?_⟩
      · rw [if_pos ⟨g, e⟩] at k
        refine ⟨true, exm_sub T.be_Refused T.ie_Refused T.te_Refused T.sub_Unfinished_Refused, fun _ a ha => .inl ⟨rfl, rfl, _, rfl, rfl, fun H2 q t S2 nq nt ne eq et => ?_⟩, fun q => nomatch q⟩
        exact k H2 t q (Sm'.trans S2) (Sm'.free nt) (Sm'.free nq) ne eq et
      · rw [if_neg g, if_pos e] at k
        refine ⟨true, exm_sub T.be_Refused T.ie_Refused T.te_Refused T.sub_TooLong_Refused, fun _ a ha => .inr ⟨rfl, rfl, _, rfl, rfl, fun H2 q t S2 nq nt ne eq et => ?_⟩, fun q => nomatch q⟩
        exact k H2 t q (Sm'.trans S2) (Sm'.free nt) (Sm'.free nq) ne eq et
      · rw [if_neg g, if_neg (by omega)] at k
        exact k H' A.rs (fun r hr => .inl hr) I' (k'.mono fun x hx => List.mem_append.mpr (.inr hx))
end
end K09
namespace K09
open PySem PySem.Spec PyProof.Rows L2 Rg
/-! ### the two files of the law's image -/
structure FD where
  (mi sz : Int) (G : Nat → Int) (C : Nat → List Int) (o : Nat)
structure Two (v : IV) (f1 f2 : FD) (kd us : List Int) (i : Nat) : Prop where
  s1 : Stt 24 5 (evOf f2.G f2.o) 2 v.M [0, 0, 0, 0] f1.mi v.M f1.G f1.C kd us f1.sz f1.o i
  s2 : Stt 24 5 (evOf f1.G f1.o) 3 v.M [0, 0, 0, 0] f2.mi v.M f2.G f2.C kd us f2.sz f2.o i
  t1 : Te f1.G
  t2 : Te f2.G
  ho : HoS 24 5 v.ho v.st kd
  h1 : ∀ h ∈ v.ho, h ≤ 1
  se : 1 ≤ v.se
  hd : v.hd = []
theorem Stt.rebase {b n m mk : Int} {e : Ev} {M0 M : List (List Int)} {li : List Int} {G : Nat → Int} {C : Nat → List Int} {kd us : List Int} {sz : Int} {o1 i : Nat} (S : Stt b n e m M0 li mk M G C kd us sz o1 i) : Stt b n e m M li mk M G C kd us sz o1 i := { S with kp := Keeps.refl }
section
variable {v v' : IV} {f1 f2 : FD} {kd us kd' us' : List Int} {i i' : Nat}
/-- a change of the first file, of the second -/
theorem Two.first (T : Two v f1 f2 kd us i) {f : FD} (ho_ : f.o = f1.o) (S : Stt 24 5 (evOf f2.G f2.o) 2 v.M [0, 0, 0, 0] f.mi v'.M f.G f.C kd' us' f.sz f.o i') (te : Te f.G) (ho : HoS 24 5 v'.ho v'.st kd') (h1 : ∀ h ∈ v'.ho, h ≤ 1) (se : 1 ≤ v'.se) (hd : v'.hd = []) : Two v' f f2 kd' us' i' :=
  ⟨S.rebase, Stt.other T.s2 S (by decide), te, T.t2, ho, h1, se, hd⟩
theorem Two.second (T : Two v f1 f2 kd us i) {f : FD} (ho_ : f.o = f2.o) (S : Stt 24 5 (evOf f1.G f1.o) 3 v.M [0, 0, 0, 0] f.mi v'.M f.G f.C kd' us' f.sz f.o i') (te : Te f.G) (ho : HoS 24 5 v'.ho v'.st kd') (h1 : ∀ h ∈ v'.ho, h ≤ 1) (se : 1 ≤ v'.se) (hd : v'.hd = []) : Two v' f1 f kd' us' i' :=
  ⟨Stt.other T.s1 S (by decide), S.rebase, T.t1, te, ho, h1, se, hd⟩
/-- kinds and holdings -/
theorem kindHo {b n : Int} {M : List (List Int)} {ho st kd us li : List Int} {i : Nat} (K : Kds b n M kd us li i) (A : HoS b n ho st kd) {x : Nat} (hx : (x : Int) < b) : ∃ h, ho[x]? = some h ∧ (0 < h ↔ kindOf b n M x ≠ 0) := by
  have hf : fdOf b n = 2 + (b + 8 - 1) / 8 + n := rfl
  have hl : x < kd.length := by have := K.kl; omega
  have ek := K.kind hx
  rw [List.getElem?_eq_getElem hl] at ek
  have ek' : kindOf b n M x = kd[x] := ek
  by_cases h : (x : Int) < fdOf b n
  · obtain ⟨h', e, p⟩ := A.fx x h
    have := K.kf x h
    rw [List.getElem?_eq_getElem hl] at this
    refine ⟨h', e, fun _ => ?_, fun _ => p⟩
    rw [ek', Option.some.inj this]
    decide
  · by_cases z : kd[x] = 0
    · obtain ⟨e, _⟩ := A.f0 x (by omega) (by rw [List.getElem?_eq_getElem hl, z])
      exact ⟨0, e, fun q => absurd q (by decide), fun q => absurd (ek'.trans z) q⟩
    · obtain ⟨h', e, p⟩ := A.f1 x kd[x] (by omega) (List.getElem?_eq_getElem hl) z
      exact ⟨h', e, fun _ => by rw [ek']; exact z, fun _ => p⟩
/-- settled stamps -/
theorem hosSetl {b n : Int} {M M0 : List (List Int)} {ho st kd us li : List Int} {i : Nat} {se : Int} (K : Kds b n M kd us li i) (A : HoS b n ho st kd) (hs : 0 < se) (c : Nat) : HoS b n ho (setl b n M M0 ho se st c) kd := by
  refine { A with sl := by rw [setl_len]; exact A.sl, f0 := fun x hx e => ?_ }
  obtain ⟨e1, e2⟩ := A.f0 x hx e
  have hkl : x < kd.length := (List.getElem?_eq_some_iff.mp e).1
  have hxl : x < st.length := by have := A.sl; have := K.kl; omega
  refine ⟨e1, ?_⟩
  rw [setl_get hxl, if_neg, e2]
  rintro ⟨_, h | h⟩
  · have := K.kind (x := x) (by have := K.kl; omega)
    rw [e] at this
    exact h.1 this
  · rw [e1] at h
    have := Option.some.inj h
    omega
theorem setl_id {b n : Int} {M : List (List Int)} {ho st : List Int} {se : Int} (h : ∀ x ∈ ho, x ≠ se) : ∀ c, setl b n M M ho se st c = st
  | 0 => rfl
  | c + 1 => by
    rw [setl_succ, if_neg, setl_id h c]
    rintro (q | q)
    · exact q.2 rfl
    · exact h _ (List.mem_of_getElem? q) rfl
theorem give_h1 {v : IV} {x o : Nat} (h : ∀ y ∈ v.ho, y ≤ 1) : ∀ y ∈ (giveV v x o).ho, y ≤ 1 := fun y hy => by
  rcases mem_set_of (show y ∈ v.ho.set x 0 from hy) with e | e
  · omega
  · exact h y e
theorem dropP_h1 {v : IV} {m : Int} {q o : Nat} (h : ∀ y ∈ v.ho, y ≤ 1) : ∀ y ∈ (dropP 24 v m q o).ho, y ≤ 1 := by
  unfold dropP dropB
  split
  · exact h
  · split
    · exact give_h1 (o := o) h
    · exact give_h1 (o := o) (v := { giveV v (plV 24 v.M m q).toNat o with M := putPl 24 (giveV v (plV 24 v.M m q).toNat o).M m q 0 }) (give_h1 (o := o) h)
theorem dropS_h1 {m : Int} {ow : Nat} : ∀ (os : List Nat) {v : IV}, (∀ y ∈ v.ho, y ≤ 1) → ∀ y ∈ (dropS 24 v m ow os).ho, y ≤ 1
  | [], _, h => h
  | o :: os, v, h => dropS_h1 os (v := dropP 24 v m o ow) (dropP_h1 h)
theorem dropB_hd {b m : Int} {v : IV} {o : Nat} : (dropB b v m o).hd = v.hd := by unfold dropB; split <;> rfl
theorem dropP_hd {b m : Int} {v : IV} {q o : Nat} : (dropP b v m q o).hd = v.hd := by
  unfold dropP
  split
  · rfl
  · rw [dropB_hd]
    rfl
theorem dropS_hd {b m : Int} {ow : Nat} : ∀ (os : List Nat) (v : IV), (dropS b v m ow os).hd = v.hd
  | [], _ => rfl
  | o :: os, v => by
    show (dropS b (dropP b v m o ow) m ow os).hd = v.hd
    rw [dropS_hd os, dropP_hd]
/-- what a deed done leaves, settled -/
theorem done_ok {e : Ev} {m mk sz : Int} {M0 : List (List Int)} {li : List Int} {G : Nat → Int} {C : Nat → List Int} {o1 : Nat} {dk : DK} {d : V} {v2 : IV} {se wi : Int} {ba : List Int} (S : Stt 24 5 e m M0 li mk v.M G C kd us sz o1 i) (te : Te G) (ho : HoS 24 5 v.ho v.st kd) (h1 : ∀ h ∈ v.ho, h ≤ 1) (hse : 1 < se) (hd : v.hd = []) (hdk : ∀ s, dk = .size s → 0 ≤ s)
    (hoc : ocM { v with se := se, wi := wi, ba := ba } m o1 dk = .ok d v2) : ∃ G' C' kd' us' sz' i', Stt 24 5 e m M0 li mk v2.M G' C' kd' us' sz' o1 i' ∧ Te G' ∧ HoS 24 5 v2.ho v2.st kd' ∧ (∀ h ∈ v2.ho, h ≤ 1) ∧ v2.se = se ∧ v2.hd = [] ∧ (d = .non ∨ ∃ x, d = .int x) := by
  have s0 := S.s0
  have s8 := S.s8
  cases dk with
  | piece =>
    simp only [ocM, Oc.ok.injEq] at hoc
    obtain ⟨hd', rfl⟩ := hoc
    obtain ⟨pn, pm, pl⟩ := piece_ok S
    obtain ⟨G', C', kd', us', _, S', _, _, _, te', ho', se'⟩ := Stt.dropS (v := { v with se := se, wi := wi, ba := ba }) _ S te pn fun o ho => ⟨(pm o ho).1, (pm o ho).2.1⟩
    exact ⟨G', C', kd', us', sz, _, S', te', ho' ho, dropS_h1 _ h1, se', by rw [dropS_hd]; exact hd, .inr ⟨_, hd'.symm⟩⟩
  | size s =>
    have h0 := hdk s rfl
    simp only [ocM, S.f.sz_] at hoc
    split at hoc
    · cases hoc
    · rename_i hno
      split at hoc
      · cases hoc
      · rename_i h80
        simp only [Oc.ok.injEq] at hoc
        obtain ⟨hd', rfl⟩ := hoc
        have hl : s ≤ sz ∨ ∀ o : Nat, o < 10 → 8 * (o : Int) ≥ sz → G o = 0 ∨ C o = List.replicate 8 0 := by
          by_cases z : s ≤ sz
          · exact .inl z
          · refine .inr fun o ho h8 => .inl (tb0 S (fun y => hno ⟨by omega, ?_⟩) ho h8)
            rw [late_eq S]
            exact decide_eq_true y
        obtain ⟨C', S', _⟩ := S.psM h0 (by omega) hl
        exact ⟨G, C', kd, us, s, i, S', te, ho, h1, rfl, hd, .inl hd'.symm⟩
end
end K09
namespace K09
open PySem PySem.Spec PyProof.Rows L2 Rg
/-! ### how many places a file has behind its end -/
def tbN (G : Nat → Int) (sz : Int) : Nat := ((rng 0 10).filter fun x => decide (8 * x ≥ sz) && (G x.toNat != 0)).length
theorem tbN_le {G : Nat → Int} {sz : Int} : tbN G sz ≤ 10 := by
  have := List.length_filter_le (fun x => decide (8 * x ≥ sz) && (G x.toNat != 0)) (rng 0 10)
  rw [rng_len] at this
  exact this
theorem tbL_eq {m mk sz : Int} {M : List (List Int)} {G : Nat → Int} {C : Nat → List Int} {o1 : Int} (f : Fl 24 5 M m G C sz o1 mk) : tbL 24 M m = (rng 0 10).filter fun x => decide (8 * x ≥ sz) && (G x.toNat != 0) := by
  unfold tbL
  refine List.filter_congr fun x hx => ?_
  have := rng_mem hx
  unfold tbP
  rw [f.sz_, f.v_ (by omega)]
theorem tbL_N {m mk sz : Int} {M : List (List Int)} {G : Nat → Int} {C : Nat → List Int} {o1 : Int} (f : Fl 24 5 M m G C sz o1 mk) : (tbL 24 M m).length = tbN G sz := by
  rw [tbL_eq f]
  rfl
/-- what a deed does to a file's numbers -/
def NumR (sz : Int) (G : Nat → Int) (sz' : Int) (G' : Nat → Int) : DK → Prop
  | .piece => sz' = sz ∧ tbN G' sz' ≤ tbN G sz - 2
  | .size s => s ≤ 80 → (s ≤ sz ∨ tbN G sz = 0) → sz' = s
theorem num_ref {e : Ev} {m mk sz : Int} {M0 : List (List Int)} {li : List Int} {v : IV} {G : Nat → Int} {C : Nat → List Int} {kd us : List Int} {o1 i : Nat} {dk : DK} {nm : Str} (S : Stt 24 5 e m M0 li mk v.M G C kd us sz o1 i) (hoc : ocM v m o1 dk = .ref nm) : NumR sz G sz G dk := by
  cases dk with
  | piece => simp only [ocM] at hoc; cases hoc
  | size s =>
    simp only [ocM, S.f.sz_, late_eq S, tbL_N S.f] at hoc
    intro h8 h
    split at hoc
    · rename_i z
      have := of_decide_eq_true z.2
      rcases h with h | h <;> omega
    · split at hoc
      · omega
      · cases hoc
theorem drop_len2 {l : List Int} {p : Int → Bool} (h : ∀ x ∈ l.drop (l.length - 2), p x = false) : (l.filter p).length ≤ l.length - 2 := by
  have e : l.filter p = (l.take (l.length - 2)).filter p := by
    conv => lhs; rw [← List.take_append_drop (l.length - 2) l]
    have e0 : (l.drop (l.length - 2)).filter p = [] := List.filter_eq_nil_iff.mpr (fun x hx => by rw [h x hx]; decide)
    rw [List.filter_append, e0, List.append_nil]
  rw [e]
  have := List.length_filter_le p (l.take (l.length - 2))
  rw [List.length_take] at this
  omega
theorem num_piece {m mk sz : Int} {M : List (List Int)} {G G' : Nat → Int} {C : Nat → List Int} {o1 : Int} (f : Fl 24 5 M m G C sz o1 mk) (z : ∀ o ∈ (pieceL 24 M m).reverse.map Int.toNat, G' o = 0) (r : ∀ j, j < 10 → j ∉ (pieceL 24 M m).reverse.map Int.toNat → G' j = G j) : tbN G' sz ≤ tbN G sz - 2 := by
  have e : (rng 0 10).filter (fun x => decide (8 * x ≥ sz) && (G' x.toNat != 0)) = (tbL 24 M m).filter fun x => G' x.toNat != 0 := by
    rw [tbL_eq f, List.filter_filter]
    refine List.filter_congr fun x hx => ?_
    have hx := rng_mem hx
    by_cases y : x.toNat ∈ (pieceL 24 M m).reverse.map Int.toNat
    · rw [z _ y]
      simp
    · rw [r _ (by omega) y]
      cases decide (8 * x ≥ sz) <;> cases (G x.toNat != 0) <;> rfl
  have l0 : (tbL 24 M m).length = tbN G sz := tbL_N f
  unfold tbN
  rw [e]
  show _ ≤ tbN G sz - 2
  rw [← l0]
  refine drop_len2 fun x hx => ?_
  have hx : x ∈ pieceL 24 M m := hx
  rw [z x.toNat (List.mem_map.mpr ⟨x, List.mem_reverse.mpr hx, rfl⟩)]
  rfl
/-- what a deed done leaves, settled -/
theorem done_okN {e : Ev} {m mk sz : Int} {M0 : List (List Int)} {li : List Int} {G : Nat → Int} {C : Nat → List Int} {o1 : Nat} {dk : DK} {d : V} {v v2 : IV} {kd us : List Int} {i : Nat} {se wi : Int} {ba : List Int} (S : Stt 24 5 e m M0 li mk v.M G C kd us sz o1 i) (te : Te G) (ho : HoS 24 5 v.ho v.st kd) (h1 : ∀ h ∈ v.ho, h ≤ 1) (hse : 1 < se) (hd : v.hd = []) (hdk : ∀ s, dk = .size s → 0 ≤ s)
    (hoc : ocM { v with se := se, wi := wi, ba := ba } m o1 dk = .ok d v2) : ∃ G' C' kd' us' sz' i', Stt 24 5 e m M0 li mk v2.M G' C' kd' us' sz' o1 i' ∧ Te G' ∧ HoS 24 5 v2.ho v2.st kd' ∧ (∀ h ∈ v2.ho, h ≤ 1) ∧ v2.se = se ∧ v2.hd = [] ∧ (d = .non ∨ ∃ x, d = .int x) ∧ NumR sz G sz' G' dk := by
  have s0 := S.s0
  have s8 := S.s8
  cases dk with
  | piece =>
    simp only [ocM, Oc.ok.injEq] at hoc
    obtain ⟨hd', rfl⟩ := hoc
    obtain ⟨pn, pm, pl⟩ := piece_ok S
    obtain ⟨G', C', kd', us', _, S', _, gz, gr, te', ho', se'⟩ := Stt.dropS (v := { v with se := se, wi := wi, ba := ba }) _ S te pn fun o ho => ⟨(pm o ho).1, (pm o ho).2.1⟩
    exact ⟨G', C', kd', us', sz, _, S', te', ho' ho, dropS_h1 _ h1, se', by rw [dropS_hd]; exact hd, .inr ⟨_, hd'.symm⟩, rfl, num_piece S.f gz fun j hj hn => (gr j hj hn).1⟩
  | size s =>
    have h0 := hdk s rfl
    simp only [ocM, S.f.sz_] at hoc
    split at hoc
    · cases hoc
    · rename_i hno
      split at hoc
      · cases hoc
      · rename_i h80
        simp only [Oc.ok.injEq] at hoc
        obtain ⟨hd', rfl⟩ := hoc
        have hl : s ≤ sz ∨ ∀ o : Nat, o < 10 → 8 * (o : Int) ≥ sz → G o = 0 ∨ C o = List.replicate 8 0 := by
          by_cases z : s ≤ sz
          · exact .inl z
          · refine .inr fun o ho h8 => .inl (tb0 S (fun y => hno ⟨by omega, ?_⟩) ho h8)
            rw [late_eq S]
            exact decide_eq_true y
        obtain ⟨C', S', _⟩ := S.psM h0 (by omega) hl
        exact ⟨G, C', kd, us, s, i, S', te, ho, h1, rfl, hd, .inl hd'.symm, fun _ _ => rfl⟩
end K09
namespace K09
open PySem PySem.Spec PyProof.Rows L2 Rg
/-! ### image, world and other places, all apart -/
structure Run (CI CP : Addr) (H : Hp) (im : Addr) (A : IA) (v : IV) (W : WA) (L : List (Addr × HO)) : Prop where
  X : SI CI CP H im A v 24 5 30 L
  Y : WAt H W v
  ap : ∀ x ∈ W.all, x ∉ A.reads im
  al : ∀ p ∈ L, p.1 ∉ W.all
theorem Run.same {CI CP : Addr} {H H' : Hp} {im : Addr} {A : IA} {v : IV} {W : WA} {L : List (Addr × HO)} (R : Run CI CP H im A v W L) (s : Same H H') : Run CI CP H' im A v W L := ⟨R.X.same s, R.Y.same s, R.ap, R.al⟩
theorem WAt.cong {H : Hp} {W : WA} {v v' : IV} (A : WAt H W v) (h1 : v'.M = v.M) (h2 : v'.ho = v.ho) (h3 : v'.st = v.st) (h4 : v'.se = v.se) : WAt H W v' :=
  ⟨by rw [h4]; exact A.w, by rw [h1]; exact A.g, by rw [h2]; exact A.h, by rw [h3]; exact A.s, A.nd, by rw [h1]; exact A.ml, by rw [h1]; exact A.m8, by rw [h2]; exact A.hl, by rw [h3]; exact A.sl⟩
theorem ImgAt.lsts {CI CP : Addr} {H : Hp} {im : Addr} {A : IA} {v : IV} {b n s : Int} (I : ImgAt CI CP H im A v b n s) : ∀ x ∈ ft3 A ++ A.rs, ∃ xs, H x = some (.lst xs) := fun x hx => by
  rcases List.mem_append.mp hx with h | h
  · simp only [ft3, List.mem_cons, List.not_mem_nil, or_false] at h
    rcases h with rfl | rfl | rfl
    · exact ⟨_, I.gr.out⟩
    · exact ⟨_, I.ho⟩
    · exact ⟨_, I.st⟩
  · obtain ⟨i, hi, e⟩ := List.getElem_of_mem h
    have hm : i < v.M.length := by rw [← I.gr.len]; exact hi
    exact ⟨_, I.gr.row i x v.M[i] (by rw [List.getElem?_eq_getElem hi, e]) (List.getElem?_eq_getElem hm)⟩
theorem ImgAt.pl_im {CI CP : Addr} {H : Hp} {im : Addr} {A : IA} {v : IV} {b n s : Int} (I : ImgAt CI CP H im A v b n s) : A.pl ≠ im := fun z => by
  obtain ⟨dxp, hpl⟩ := I.pl.ob
  rw [z, I.ob] at hpl
  have := HO.ins.inj (Option.some.inj hpl)
  have := this.2.2
  simp [planF, imgF] at this
theorem SI.kp {CI CP : Addr} {H H' : Hp} {im : Addr} {A : IA} {v : IV} {b n s : Int} {L : List (Addr × HO)} {F : List Addr} (S : SI CI CP H im A v b n s L) (k : Kp F H H') (h1 : ∀ x ∈ F, x ∉ A.reads im) (h2 : ∀ p ∈ L, p.1 ∉ F) : SI CI CP H' im A v b n s L :=
  ⟨S.I.keepF fun x o hx e => k _ _ e fun z => h1 x z hx, S.F.keep fun p hp o e => k _ _ e (h2 p hp), S.ap⟩
theorem WAt.sse {H : Hp} {W : WA} {v : IV} (A : WAt H W v) {a : Int} : WAt (upd H W.w (.lst [.ref W.r, .ref W.h, .ref W.s, .int a])) W { v with se := a } := by
  obtain ⟨⟨d1, d2, d3, d4⟩, _⟩ := W.nds A.nd
  exact { w := upd_same, g := A.g.keep fun b o hb e => by rw [upd_ne (by rcases hb with z | z; (· rw [z]; exact fun y => d1 y.symm); (· exact fun y => d4 (by rw [← y]; exact z)))]; exact e, h := by rw [upd_ne (fun y => d2 y.symm)]; exact A.h, s := by rw [upd_ne (fun y => d3 y.symm)]; exact A.s, nd := A.nd, ml := A.ml, m8 := A.m8, hl := A.hl, sl := A.sl }
section
variable {P : Program} {w : World} {K : PySem.W.Frag} {mg : Str → Option Value} {base : Heap}
def sp_Lrun (CI CP : Addr) : Sp := fun vs H Q _ => ∃ (im : Addr) (A : IA) (v : IV) (W : WA) (L : List (Addr × HO)) (dq : Addr) (f1 f2 : FD) (kd us : List Int) (i : Nat) (m : Int) (dk : DK), vs = [.ref im, .ref W.w, .ref dq] ∧ Run CI CP H im A v W L ∧ Two v f1 f2 kd us i ∧ (m = 2 ∨ m = 3) ∧ DeedAt H dq m dk ∧
  ∀ H' A' v' W' f1' f2' kd' us' i', Run CI CP H' im A' v' W' L → W'.w = W.w → Two v' f1' f2' kd' us' i' → (m = 2 → f2' = f2 ∧ NumR f1.sz f1.G f1'.sz f1'.G dk) → (m = 3 → f1' = f1 ∧ NumR f2.sz f2.G f2'.sz f2'.G dk) → Q (.bl true) H'
/-- the deed's file -/
theorem Two.file {v : IV} {f1 f2 : FD} {kd us : List Int} {i : Nat} {m : Int} {dk : DK} (T : Two v f1 f2 kd us i) (hm : m = 2 ∨ m = 3) : ∃ (e : Ev) (f : FD), Stt 24 5 e m v.M [0, 0, 0, 0] f.mi v.M f.G f.C kd us f.sz f.o i ∧ Te f.G ∧
    ∀ v' G' C' kd' us' sz' i', Stt 24 5 e m v.M [0, 0, 0, 0] f.mi v'.M G' C' kd' us' sz' f.o i' → Te G' → HoS 24 5 v'.ho v'.st kd' → (∀ h ∈ v'.ho, h ≤ 1) → 1 ≤ v'.se → v'.hd = [] → NumR f.sz f.G sz' G' dk → ∃ f1' f2', Two v' f1' f2' kd' us' i' ∧ (m = 2 → f2' = f2 ∧ NumR f1.sz f1.G f1'.sz f1'.G dk) ∧ (m = 3 → f1' = f1 ∧ NumR f2.sz f2.G f2'.sz f2'.G dk) := by
  rcases hm with rfl | rfl
  · exact ⟨_, f1, T.s1, T.t1, fun v' G' C' kd' us' sz' i' S te ho h1 se hd nm => ⟨_, _, T.first (f := { f1 with G := G', C := C', sz := sz' }) rfl S te ho h1 se hd, fun _ => ⟨rfl, nm⟩, fun h => absurd h (by decide)⟩⟩
  · exact ⟨_, f2, T.s2, T.t2, fun v' G' C' kd' us' sz' i' S te ho h1 se hd nm => ⟨_, _, T.second (f := { f2 with G := G', C := C', sz := sz' }) rfl S te ho h1 se hd, fun h => absurd h (by decide), fun _ => ⟨rfl, nm⟩⟩⟩
theorem ok_Lrun (T : Tx K mg) : FnOk P w K mg base CX0 8 T.f_Lrun T.fd_Lrun ["_law_image", "_law_world", "_law_deed"] (sp_Lrun T.C_Image T.C_Plan) := by
  refine T.F_Lrun.ok sc_Lrun (fun vs H Q E h => ?_) (fun cdv A0 outer s H vs Q E hr h => ?_)
  · obtain ⟨_, _, _, _, _, _, _, _, _, _, _, _, _, rfl, _⟩ := h; rfl
  · obtain ⟨im, A, v, W, L, dq, f1, f2, kd, us, ii, m, dk, rfl, R, T2, hm, D, k⟩ := h
    have hr1 : Room 1 _ := hr.mono (by decide)
    have hr3 : Room 3 _ := hr.mono (by decide)
    have hr4 : Room 4 _ := hr.mono (by decide)
    have hr5 : Room 5 _ := hr.mono (by decide)
    refine ⟨_, (pss_cons (ps_set (i := 3) sc_Lrun.nd rfl (.inl rfl) (pe_meth0 (pv 0) T.cl_Image T.m_Image_twin (ok_twin T) hr3 (b_Image_twin T) .nil pass0))
      (pss_cons (ps_expr (pe_meth (pv 0) T.cl_Image T.m_Image_begin (ok_begin T) hr1 (b_Image_begin T) .nil pass0 (pa_cons pe_int (pa_cons (pe_lst pa_nil) pa_nil))))
      (pss_cons (ps_asg (pe_op op_add (pe_ix ix_list (pv 1) pe_int (fun _ _ => rfl)) pe_int) (pg_sub (pv 1) pe_int set_list))
      (pss_cons (ps_set (i := 4) sc_Lrun.nd rfl (.inl rfl) (pe_lst (pa_cons (pe_lc rfl (own := [("_law_row", 5)]) (g := gName 5) (tt := tYes) sc_Lrun.nd (pi_list (pe_ix ix_list (pv 1) pe_int (fun _ _ => rfl))) (blkOk_by (N := ["_law_image", "_law_world", "_law_deed", "_law_before", "_law_trial", "_law_row", "_law_due", "_law_actual", "_law_refused", "_law_k"]) (sc := defScope s_Lrun) (by decide +kernel)) (fun _ _ _ _ _ => pg_name (i := 5) sc_Lrun.nd rfl (Or.inl rfl)) (fun _ _ _ _ _ => pts_nil) (fun _ _ _ _ _ => (pe_listof (K := K) (pv 5) T.b_list))) (pa_cons (pe_listof (K := K) (pe_ix ix_list (pv 1) pe_int (fun _ _ => rfl)) T.b_list) (pa_cons (pe_listof (K := K) (pe_ix ix_list (pv 1) pe_int (fun _ _ => rfl)) T.b_list) (pa_cons (pe_ix ix_list (pv 1) pe_int (fun _ _ => rfl)) pa_nil))))))
      (pss_cons (ps_set (i := 6) sc_Lrun.nd rfl (.inl rfl) (pe_call (ok_Lmodel T) hr4 rfl T.mg_Lmodel T.F_Lmodel.kp (b_Lmodel T) .nil pass0 (pa_cons (pv 4) (pa_cons (pv 2) pa_nil))))
      (pss_cons (ps_set (i := 7) sc_Lrun.nd rfl (.inl rfl) (pe_call (ok_Lcall T) hr rfl T.mg_Lcall T.F_Lcall.kp (b_Lcall T) .nil pass0 (pa_cons (pv 0) (pa_cons (pv 2) pa_nil))))
      (pss_cons (ps_if (pt_val (pe_callB call_isi rfl T.b_isinstance (by decide +kernel) (pa_cons (pv 6) (pa_cons (pe_bltn (v := .ty "str") rfl T.b_str (by decide +kernel) rfl) pa_nil))))
        (pss_cons (ps_set (i := 8) sc_Lrun.nd rfl (.inl rfl) (pe_and (pe_call (ok_Lsame T 2) hr4 rfl T.mg_Lsame T.F_Lsame.kp (b_Lsame T) .nil pass0 (pa_cons (pv 7) (pa_cons (pe_tup (pa_cons pe_str (pa_cons (pe_lst (pa_cons (pv 6) pa_nil)) pa_nil))) pa_nil))) (pe_one (pe_cmpR (op_eqD hr.units) (pe_call (ok_Lstate T) hr1 rfl T.mg_Lstate T.F_Lstate.kp (b_Lstate T) .nil pass0 (pa_cons (pv 0) pa_nil)) (pe_call (ok_Lkept T) hr1 rfl T.mg_Lkept T.F_Lkept.kp (b_Lkept T) .nil pass0 (pa_cons (pv 1) pa_nil)) (nomark _)))))
        (pss_cons (ps_expr (pe_meth (pv 0) T.cl_Image T.m_Image_settle (ok_settle T) hr3 (b_Image_settle T) .nil pass0 (pa_cons (pv 3) pa_nil)))
        (pss_one (ps_ret (pv 8)))))
        pss_nil)
      (pss_cons (ps_expr (pe_meth (pv 0) T.cl_Image T.m_Image_settle (ok_settle T) hr3 (b_Image_settle T) .nil pass0 (pa_cons (pv 3) pa_nil)))
      (pss_cons (ps_expr (pe_call (ok_Lsettle T) hr1 rfl T.mg_Lsettle T.F_Lsettle.kp (b_Lsettle T) .nil pass0 (pa_cons (pv 4) (pa_cons (pe_ix ix_list (pv 1) pe_int (fun _ _ => rfl)) pa_nil))))
      (pss_cons (ps_for PassesOwn.never rfl (pi_range1 rfl T.b_range (pa_cons pe_int pa_nil)) (pg_name (i := 9) sc_Lrun.nd rfl (.inl rfl))
        (pss_one (ps_asg (pe_ix ix_list (pv 4) (pv 9) (fun _ _ => rfl)) (pg_sub (pv 1) (pv 9) set_list))))
      (pss_one (ps_ret (pe_and (pe_call (ok_Lsame T 2) hr4 rfl T.mg_Lsame T.F_Lsame.kp (b_Lsame T) .nil pass0 (pa_cons (pv 7) (pa_cons (pv 6) pa_nil))) (pe_one (pe_cmpR (op_eqD hr.units) (pe_call (ok_Lstate T) hr1 rfl T.mg_Lstate T.F_Lstate.kp (b_Lstate T) .nil pass0 (pa_cons (pv 0) pa_nil)) (pe_call (ok_Lkept T) hr1 rfl T.mg_Lkept T.F_Lkept.kp (b_Lkept T) .nil pass0 (pa_cons (pv 1) pa_nil)) (nomark _)))))))))))))))), ?_⟩
    obtain ⟨e, f, S, te, kf⟩ := T2.file (dk := dk) hm
    have I := R.X.I
    have hvd := T2.hd
    have hse := T2.se
    have nW := W.nds R.Y.nd
    -- the image before
    refine ⟨_, rfl, im, _, _, rfl, I.ob, rfl, im, A, v, 24, 5, 30, rfl, I, fun H1 i0 A0' S1 ni0 I0 N0 ep0 eb0 => ?_⟩
    have R1 := R.same S1
    -- what the twin reads is new, or the plan, or the barred
    have r0 : ∀ x ∈ A0'.reads i0, H x = none ∨ x = A.pl ∨ x = A.ba := fun x hx => by
      simp only [IA.reads, List.mem_cons] at hx
      rcases hx with z | z | z | z | z | z | z | z
      · exact .inl (by rw [z]; exact ni0)
      · exact .inr (.inl (z.trans ep0))
      · exact .inl (by rw [z]; exact N0.ca)
      · exact .inl (by rw [z]; exact N0.ho)
      · exact .inl (by rw [z]; exact N0.st)
      · exact .inl (by rw [z]; exact N0.hd)
      · exact .inr (.inr (z.trans eb0))
      · exact .inl (N0.rs _ z)
    have r0im : im ∉ A0'.reads i0 := fun z => by
      rcases r0 im z with h | h | h
      · rw [I.ob] at h; cases h
      · exact I.pl_im h.symm
      · have := I.ba
        rw [← h, I.ob] at this
        cases this
    have r0W : ∀ x ∈ W.all, x ∉ A0'.reads i0 := fun x hx z => by
      obtain ⟨o, e⟩ := R.Y.held hx
      rcases r0 x z with h | h | h
      · rw [e] at h; cases h
      · exact R.ap x hx (by simp [IA.reads, h])
      · exact R.ap x hx (by simp [IA.reads, h])
    have r0f : ∀ x ∈ ft3 A ++ A.rs, x ∉ A0'.reads i0 := fun x hx z => by
      obtain ⟨xs, e⟩ := I.lsts x hx
      rcases r0 x z with h | h | h
      · rw [e] at h; cases h
      · obtain ⟨dxp, hpl⟩ := I.pl.ob
        rw [← h, e] at hpl
        cases hpl
      · have := I.ba
        rw [← h, e] at this
        cases this
    -- begin
    refine ⟨_, rfl, im, _, _, rfl, R1.X.I.ob, rfl, (by show 0 ≤ sizeLine; decide), fun q2 nq2 => ?_⟩
    have s2 := same_upd (o := .lst []) nq2
    have e2 : upd H1 q2 (.lst []) q2 = some (.lst (([] : List Int).map V.int)) := upd_same
    generalize upd H1 q2 (.lst []) = H2 at s2 e2 ⊢
    have R2 := R1.same s2
    have I02 := I0.keep s2
    refine ⟨im, A, v, 24, 5, 30, 0, q2, [], rfl, R2.X.I, .inl e2, fun H3 t3 I3 k3 ht3 => ?_⟩
    have X3 := R2.X.begun e2 I3 k3 ht3
    have imW : im ∉ W.all := fun z => R.ap im z (by simp [IA.reads])
    have Y3 := R2.Y.keep fun x o hx e => k3 _ _ e (by simp only [List.mem_singleton]; exact fun z => imW (by rw [← z]; exact hx))
    have I03 := I02.keepF fun x o hx e => k3 _ _ e (by simp only [List.mem_singleton]; exact fun z => r0im (by rw [← z]; exact hx))
    have D3 := (D.same (S1.trans s2)).keep fun xs e => k3 _ _ e (by
      simp only [List.mem_singleton]
      intro z
      rw [z, R2.X.I.ob] at e
      cases e)
    obtain ⟨v1, hv1⟩ : ∃ v1 : IV, v1 = { v with se := v.se + 1, wi := 0, ba := [] } := ⟨_, rfl⟩
    obtain ⟨A3, hA3⟩ : ∃ A3 : IA, A3 = { A with ba := t3 } := ⟨_, rfl⟩
    rw [← hv1, ← hA3] at X3
    have t3n : H2 t3 = none := ht3.resolve_right fun z => by
      have q2im : q2 ≠ im := fun y => by
        have := R2.X.I.ob
        rw [← y, e2] at this
        cases this
      have h1 := k3 _ _ e2 (by simp [q2im])
      have h2 : H3 t3 = some (.tup (([] : List Int).map V.int)) := I3.ba
      rw [z, h1] at h2
      cases h2
    clear I3
    have apW3 : ∀ x ∈ W.all, x ∉ A3.reads im := fun x hx z => by
      obtain ⟨o, e⟩ := R2.Y.held hx
      rw [hA3] at z
      simp only [IA.reads, List.mem_cons] at z
      rcases z with y | y | y | y | y | y | y | y
      · exact R.ap x hx (by simp [IA.reads, y])
      · exact R.ap x hx (by simp [IA.reads, y])
      · exact R.ap x hx (by simp [IA.reads, y])
      · exact R.ap x hx (by simp [IA.reads, y])
      · exact R.ap x hx (by simp [IA.reads, y])
      · exact R.ap x hx (by simp [IA.reads, y])
      · rw [y, t3n] at e; cases e
      · exact R.ap x hx (by simp [IA.reads, y])
    -- the world's serial
    refine ⟨_, rfl, W.w, _, 3, .int v.se, rfl, rfl, .of Y3.w, atI_nat (j := 3) rfl, _, _, rfl, rfl, _, rfl, W.w, _, _, 3, rfl, rfl, Y3.w, ixN_nat rfl (by show 3 < 4; decide), ?_⟩
    have Y4 : WAt (upd H3 W.w (.lst [.ref W.r, .ref W.h, .ref W.s, .int (v.se + 1)])) W v1 := (Y3.sse (a := v.se + 1)).cong (by rw [hv1]) (by rw [hv1]) (by rw [hv1]) (by rw [hv1])
    have k4 : Kp [W.w] H3 (upd H3 W.w (.lst [.ref W.r, .ref W.h, .ref W.s, .int (v.se + 1)])) := Kp.refl.own1
    have hWw : W.w ∈ W.all := by simp [WA.all]
    have X4 := X3.kp k4 (fun x hx => by rw [List.mem_singleton.mp hx]; exact apW3 _ hWw) (fun p hp z => R.al p hp (by rw [List.mem_singleton.mp z]; exact hWw))
    have I04 := I03.keepF fun x o hx e => k4 _ _ e (by simp only [List.mem_singleton]; exact fun z => r0W _ hWw (by rw [← z]; exact hx))
    have D4 := D3.keep fun xs e => k4 _ _ e (by
      simp only [List.mem_singleton]
      intro z
      rw [z, Y3.w] at e
      cases e)
    change WAt (upd H3 W.w (.lst ([.ref W.r, .ref W.h, .ref W.s, .int v.se].set 3 (.int (v.se + 1))))) _ _ at Y4
    change SI _ _ (upd H3 W.w (.lst ([.ref W.r, .ref W.h, .ref W.s, .int v.se].set 3 (.int (v.se + 1))))) _ _ _ _ _ _ _ at X4
    change ImgAt _ _ (upd H3 W.w (.lst ([.ref W.r, .ref W.h, .ref W.s, .int v.se].set 3 (.int (v.se + 1))))) _ _ _ _ _ _ at I04
    change DeedAt (upd H3 W.w (.lst ([.ref W.r, .ref W.h, .ref W.s, .int v.se].set 3 (.int (v.se + 1))))) _ _ _ at D4
    generalize upd H3 W.w (.lst ([.ref W.r, .ref W.h, .ref W.s, .int v.se].set 3 (.int (v.se + 1)))) = H4 at Y4 X4 I04 D4 ⊢
    clear k4 k3 Y3 X3 I03 D3
    -- the trial
    refine ⟨_, rfl, W.w, _, 0, .ref W.r, rfl, rfl, .of Y4.w, atI_nat (j := 0) rfl, W.r, rfl, ⟨_, .of Y4.g.out⟩, fun C hC => ?_⟩
    refine lc_list (K := K) (a := W.r) (xs := W.rs.map V.ref) (fun i H' => ∃ qs, NewGrid H4 H' C qs (v1.M.take i))
      ⟨[], NewGrid.start (Same.refl _) hC hC⟩ (fun i H' _ ⟨qs, G⟩ => .of (G.same _ _ Y4.g.out)) ?_ ?_
    · rintro i y H' hi ⟨qs, G⟩
      have hil : i < W.rs.length := by
        have := (List.getElem?_eq_some_iff.mp hi).1
        rw [List.length_map] at this
        exact this
      rw [List.getElem?_map, List.getElem?_eq_getElem hil] at hi
      have hi : V.ref W.rs[i] = y := Option.some.inj hi
      subst hi
      have hiR : i < v1.M.length := by rw [← Y4.g.len]; exact hil
      have hrow := G.same _ _ (Y4.g.row i W.rs[i] v1.M[i] (List.getElem?_eq_getElem hil) (List.getElem?_eq_getElem hiR))
      refine ⟨rfl, ?_⟩
      refine yes_ ?_
      refine ⟨_, rfl, W.rs[i], _, rfl, .inl (.of hrow), fun q hq => ?_⟩
      refine ⟨_, by rw [upd_ne (ne_of_none G.grid.out hq)]; exact G.grid.out, ?_, qs ++ [q], ?_⟩
      · have := Y4.ml
        rw [List.length_map, G.grid.len, List.length_take]
        exact small1000 (by omega)
      · rw [List.take_succ, List.getElem?_eq_getElem hiR]
        exact G.snoc (same_upd hq) hq upd_same
    rintro H5 ⟨qs, G5⟩
    rw [List.length_map, Y4.g.len, List.take_length] at G5
    have Y5 := Y4.same G5.same
    refine ⟨_, rfl, W.w, _, 1, .ref W.h, rfl, rfl, .of Y5.w, atI_nat (j := 1) rfl, W.h, _, rfl, .inl (.of Y5.h), fun kh nkh => ?_⟩
    have s6 := same_upd (o := .lst (v1.ho.map V.int)) nkh
    have ekh : upd H5 kh (.lst (v1.ho.map V.int)) kh = some (.lst (v1.ho.map V.int)) := upd_same
    generalize upd H5 kh (.lst (v1.ho.map V.int)) = H6 at s6 ekh ⊢
    have Y6 := Y5.same s6
    refine ⟨_, rfl, W.w, _, 2, .ref W.s, rfl, rfl, .of Y6.w, atI_nat (j := 2) rfl, W.s, _, rfl, .inl (.of Y6.s), fun ks nks => ?_⟩
    have s7 := same_upd (o := .lst (v1.st.map V.int)) nks
    have eks : upd H6 ks (.lst (v1.st.map V.int)) ks = some (.lst (v1.st.map V.int)) := upd_same
    generalize upd H6 ks (.lst (v1.st.map V.int)) = H7 at s7 eks ⊢
    have Y7 := Y6.same s7
    refine ⟨_, rfl, W.w, _, 3, .int v1.se, rfl, rfl, .of Y7.w, atI_nat (j := 3) rfl, (by show 4 ≤ sizeLine; decide), fun tr ntr => ?_⟩
    have s8 := same_upd (o := .lst [.ref C, .ref kh, .ref ks, .int v1.se]) ntr
    have etr : upd H7 tr (.lst [.ref C, .ref kh, .ref ks, .int v1.se]) tr = some (.lst [.ref C, .ref kh, .ref ks, .int v1.se]) := upd_same
    generalize upd H7 tr (.lst [.ref C, .ref kh, .ref ks, .int v1.se]) = H8 at s8 etr ⊢
    have S48 := ((G5.same.trans s6).trans s7).trans s8
    have g6 := G5.grid.same s6
    have g7 := g6.same s7
    have heldne : ∀ {Hx : Hp} {x y : Addr} {o : HO}, Hx x = some o → Hx y = none → y ≠ x := fun h1 h2 z => by
      rw [z, h1] at h2
      cases h2
    have inq : ∀ {Hx : Hp} (g : Grid Hx C qs v1.M) {y : Addr}, Hx y = none → y ∉ qs := fun g y h1 z => by
      obtain ⟨o, e⟩ := g.held z
      rw [h1] at e
      cases e
    have nd8 : (⟨tr, C, kh, ks, qs⟩ : WA).all.Nodup := by
      unfold WA.all
      simp only [List.nodup_cons, List.mem_cons, not_or]
      exact ⟨⟨heldne g7.out ntr, heldne (s7 _ _ ekh) ntr, heldne eks ntr, inq g7 ntr⟩, ⟨fun z => heldne G5.grid.out nkh z.symm, fun z => heldne g6.out nks z.symm, G5.grid.nin⟩, ⟨fun z => heldne ekh nks z.symm, inq G5.grid nkh⟩, inq g6 nks, G5.grid.nd⟩
    have Y8' : WAt H8 ⟨tr, C, kh, ks, qs⟩ v1 := ⟨etr, g7.same s8, s8 _ _ (s7 _ _ ekh), s8 _ _ eks, nd8, Y4.ml, Y4.m8, Y4.hl, Y4.sl⟩
    have nx8 : ∀ x ∈ (⟨tr, C, kh, ks, qs⟩ : WA).all, H4 x = none := fun x hx => by
      simp only [WA.all, List.mem_cons] at hx
      rcases hx with z | z | z | z | z
      · rw [z]; exact ((G5.same.trans s6).trans s7).free ntr
      · rw [z]; exact G5.freshD
      · rw [z]; exact G5.same.free nkh
      · rw [z]; exact (G5.same.trans s6).free nks
      · exact G5.fresh _ z
    have X8 := X4.same S48
    have Y8 := Y4.same S48
    have I08 := I04.keep S48
    have D8 := D4.same S48
    obtain ⟨W', hW'⟩ : ∃ W' : WA, W' = ⟨tr, C, kh, ks, qs⟩ := ⟨_, rfl⟩
    have ew' : tr = W'.w := by rw [hW']
    rw [← hW'] at Y8' nx8
    subst ew'
    have S1' : Stt 24 5 e m v.M [0, 0, 0, 0] f.mi v1.M f.G f.C kd us f.sz f.o ii := by rw [hv1]; exact S
    have v1se : v1.se = v.se + 1 := by rw [hv1]
    have v1ho : v1.ho = v.ho := by rw [hv1]
    have v1st : v1.st = v.st := by rw [hv1]
    have v1M : v1.M = v.M := by rw [hv1]
    have v1hd : v1.hd = [] := by rw [hv1]; exact hvd
    clear s8 s7 s6 Y7 Y6 Y5 g6 g7 ekh eks etr hW'
    refine ⟨_, rfl, _, rfl, W', v1, dq, m, e, v.M, [0, 0, 0, 0], f.mi, f.G, f.C, kd, us, f.sz, f.o, ii, dk, rfl, Y8', S1', te, D8, ?_⟩
    have hcall : ∀ {Hx : Hp} {Ax : IA} {Q : VK}, ImgAt T.C_Image T.C_Plan Hx im Ax v1 24 5 30 → DeedAt Hx dq m dk → CaK T.C_Image T.C_Plan Hx im Ax 30 Q (ocM v1 m f.o dk) → sp_Lcall T.C_Image T.C_Plan ([.ref im, .ref dq] ++ []) Hx Q E0 := fun {Hx Ax Q} Ix Dx kx => ⟨im, Ax, v1, 30, dq, m, e, v.M, [0, 0, 0, 0], f.mi, f.G, f.C, kd, us, f.sz, f.o, ii, dk, rfl, Ix, S1', te, Dx, kx⟩
    have reads3 : ∀ x ∈ ft3 A3 ++ A3.rs, x ∈ A3.reads im := fun x hx => by
      rcases List.mem_append.mp hx with h | h
      · simp only [ft3, List.mem_cons, List.not_mem_nil, or_false] at h
        simp only [IA.reads, List.mem_cons]
        rcases h with z | z | z <;> simp [z]
      · simp [IA.reads, h]
    have ft3A : ∀ x ∈ ft3 A3 ++ A3.rs, x ∈ ft3 A ++ A.rs := fun x hx => by rw [hA3] at hx; exact hx
    cases hoc : ocM v1 m f.o dk with
    | ref nm =>
      rw [hoc] at hcall
      unfold tNil
      refine ⟨_, rfl, _, rfl, ?_⟩
      show sp_Lcall T.C_Image T.C_Plan ([.ref im, .ref dq] ++ []) H8 _ E0
      refine hcall X8.I D8 ?_
      intro H9 t9 q9 S9 nt9 nq9 nqt eq9 et9
      have X9 := X8.same S9
      refine ⟨_, rfl, _, _, _, _, true, rfl, .ty _, .base (.str _), kit_ty (by decide +kernel), _, rfl, iteT ?_⟩
      refine ⟨_, rfl, _, rfl, (by show 1 ≤ sizeLine; decide), fun q5 n5 => ⟨(by show 2 ≤ sizeLine; decide), fun t6 n6 => ?_⟩⟩
      have s5 := same_upd (o := .lst [V.str nm]) n5
      have s6 := same_upd (o := .tup [V.str "refused", .ref q5]) n6
      have S6 := s5.trans s6
      have sm : Sm (upd (upd H9 q5 (.lst [V.str nm])) t6 (.tup [V.str "refused", .ref q5])) 2 (.ref t9) (.ref t6) := by
        refine .inr ⟨t9, t6, _, _, rfl, rfl, .inr ⟨S6 _ _ et9, upd_same⟩, rfl, (by show 2 < 1000; decide), fun i x y h1 h2 => ?_⟩
        match i, h1, h2 with
        | 0, h1, h2 =>
          cases h1
          cases h2
          exact Sm.flat ⟨rfl, .inr (.inr (.inr ⟨_, rfl⟩))⟩
        | 1, h1, h2 =>
          cases h1
          cases h2
          refine .inr ⟨q9, q5, _, _, rfl, rfl, .inl ⟨S6 _ _ eq9, s6 _ _ upd_same⟩, rfl, (by show 1 < 1000; decide), fun i x y h1 h2 => ?_⟩
          match i, h1, h2 with
          | 0, h1, h2 =>
            cases h1
            cases h2
            exact Sm.flat ⟨rfl, .inr (.inr (.inr ⟨_, rfl⟩))⟩
      refine ⟨_, _, rfl, sm, fun H10 S10 => ?_⟩
      have T10 := (S9.trans S6).trans S10
      have X10 := X8.same T10
      refine ⟨_, rfl, iteT ⟨_, rfl, im, _, _, 24, 5, 30, rfl, X10.I, v1hd, fun H11 k11 S11 nk11 Kd11 => ?_⟩⟩
      have Y11 := (Y8.same T10).same S11
      refine ⟨_, rfl, W, v1, rfl, Y11, fun H12 p12 d12 S12 np12 nd12 Kd12 => ?_⟩
      refine ⟨_, _, dpS (Kd11.same S12), dpS Kd12, shS, shS, ?_⟩
      rw [eqS]
      have T12 := (T10.trans S11).trans S12
      have X12 := X8.same T12
      have Y12 := Y8.same T12
      have I012 := I08.keep T12
      refine ⟨_, rfl, im, _, _, rfl, X12.I.ob, rfl, _, rfl, im, A3, v1, 24, 5, 30, i0, A0', v, rfl, X12.I, I012, r0f _ (ft3A _ (by simp [ft3])), fun H13 I13 k13 => ?_⟩
      have est : setl 24 5 v1.M v.M v1.ho v1.se v1.st (24 : Int).toNat = v1.st := by
        rw [v1M]
        exact setl_id (fun x hx => by rw [v1ho] at hx; have := T2.h1 x hx; omega) _
      rw [est] at I13
      have X13 := X12.imgN_ I13 k13 (fun x hx => by rw [List.mem_singleton.mp hx]; simp [IA.reads]) fun x hx => .inl hx
      have Y13 := Y12.keep fun x o hx e => k13 _ _ e (by simp only [List.mem_singleton]; exact fun z => apW3 x hx (by rw [z]; simp [IA.reads]))
      obtain ⟨g1, g2, T13, nm1, nm2⟩ := kf v1 f.G f.C kd us f.sz ii S1' te (by rw [v1ho, v1st]; exact T2.ho) (by rw [v1ho]; exact T2.h1) (by omega) v1hd (num_ref S1' hoc)
      exact ⟨_, rfl, k H13 A3 v1 W g1 g2 kd us ii ⟨X13, Y13, apW3, R.al⟩ rfl T13 nm1 nm2⟩
    | ok d v2 =>
      rw [hoc] at hcall
      intro H9 rs9 Y9 k9 R9
      have nx9 : ∀ x ∈ ({ W' with rs := rs9 } : WA).all, H4 x = none := fun x hx => by
        simp only [WA.all, List.mem_cons] at hx
        rcases hx with z | z | z | z | z
        · exact nx8 x (by simp [WA.all, z])
        · exact nx8 x (by simp [WA.all, z])
        · exact nx8 x (by simp [WA.all, z])
        · exact nx8 x (by simp [WA.all, z])
        · rcases R9 x z with y | y
          · exact nx8 x (by simp [WA.all, y])
          · exact S48.free y
      have no4 : ∀ {x : Addr} {o : HO}, H4 x = some o → x ∉ W'.all := fun h z => by
        rw [nx8 _ z] at h
        cases h
      have no9 : ∀ {x : Addr} {o : HO}, H4 x = some o → x ∉ ({ W' with rs := rs9 } : WA).all := fun h z => by
        rw [nx9 _ z] at h
        cases h
      have X9 := X8.kp k9 (fun x hx z => by obtain ⟨o, e⟩ := X4.I.held z; exact no4 e hx) (fun p hp z => no4 (X4.F.at_ p hp) z)
      have Y9o := Y8.keep fun x o hx e => k9 _ _ e (by obtain ⟨o', e'⟩ := Y4.held hx; exact no4 e')
      have I09 := I08.keepF fun x o hx e => k9 _ _ e (by obtain ⟨o', e'⟩ := I04.held hx; exact no4 e')
      have dq4 : ∃ o, H4 dq = some o := by
        cases dk with
        | piece => exact ⟨_, D4⟩
        | size sv => exact ⟨_, D4.1⟩
      have D9 := D8.keep fun xs e => k9 _ _ e (by obtain ⟨o', e'⟩ := dq4; exact no4 e')
      have hdk : ∀ sv, dk = .size sv → 0 ≤ sv := fun sv hh => by
        subst hh
        exact D.2
      obtain ⟨G', C', kd', us', sz', i', S', te', ho', h1', se', hd', hdd, nmR⟩ := done_okN (v := v) (se := v.se + 1) (wi := 0) (ba := []) S te T2.ho T2.h1 (by omega) hvd hdk (by rw [← hv1]; exact hoc)
      unfold tNil
      refine ⟨_, rfl, _, rfl, ?_⟩
      show sp_Lcall T.C_Image T.C_Plan ([.ref im, .ref dq] ++ []) H9 _ E0
      refine hcall X9.I D9 ?_
      intro H10 rs10 R10 I10 k10
      have X10 := X9.rows R10 I10 k10
      have Y10o := Y9o.keep fun x o hx e => k10 _ _ e (fun z => apW3 x hx (reads3 x z))
      have Y10 := Y9.keep fun x o hx e => k10 _ _ e (fun z => by
        obtain ⟨o', e'⟩ := X4.I.held (reads3 x z)
        exact no9 e' hx)
      have I010 := I09.keepF fun x o hx e => k10 _ _ e (fun z => r0f x (ft3A x z) hx)
      -- no text
      have tail : ∀ {Ω : Prop}, ((d = .non ∨ ∃ x, d = .int x) → Ω) → Ω := fun f => f hdd
      have hst : A3.st ∈ ft3 A3 ++ A3.rs := by simp [ft3]
      have kinds : ∀ x : Nat, x < 24 → ∃ h, v2.ho[x]? = some h ∧ (0 < h ↔ kindOf 24 5 v2.M x ≠ 0) := fun x hx => kindHo S'.k ho' (by omega)
      obtain ⟨v3, hv3⟩ : ∃ v3 : IV, v3 = { v2 with st := setl 24 5 v2.M v.M v2.ho v2.se v2.st 24 } := ⟨_, rfl⟩
      obtain ⟨g1, g2, T13, nm1, nm2⟩ := kf v3 G' C' kd' us' sz' i' (by rw [hv3]; exact S') te' (by rw [hv3]; exact hosSetl S'.k ho' (by omega) 24) (by rw [hv3]; exact h1') (by rw [hv3]; show 1 ≤ v2.se; omega) (by rw [hv3]; exact hd') nmR
      have hnotstr : (∃ x, d = .int x) ∨ d = .non := hdd.symm
      rcases hnotstr with ⟨x0, hx0⟩ | hx0
      refine ⟨_, rfl, _, _, _, _, false, rfl, .ty _, (by rw [hx0]; exact .base (.int _) : TyX _ _ d (.type "int")), kit_ty (by decide +kernel), _, rfl, iteF ?_⟩
      rotate_left
      refine ⟨_, rfl, _, _, _, _, false, rfl, .ty _, (by rw [hx0]; exact .base .non : TyX _ _ d (.type "NoneType")), kit_ty (by decide +kernel), _, rfl, iteF ?_⟩
      all_goals
        refine ⟨_, rfl, im, _, _, rfl, X10.I.ob, rfl, _, rfl, im, { A3 with rs := rs10 }, v2, 24, 5, 30, i0, A0', v, rfl, X10.I, I010, r0f _ (ft3A _ hst), fun H11 I11 k11 => ?_⟩
        have X11 := X10.imgN_ I11 k11 (fun x hx => by rw [List.mem_singleton.mp hx]; simp [IA.reads]) fun x hx => .inl hx
        have Y11o := Y10o.keep fun x o hx e => k11 _ _ e (by simp only [List.mem_singleton]; exact fun z => apW3 x hx (by rw [z]; simp [IA.reads]))
        have Y11 := Y10.keep fun x o hx e => k11 _ _ e (by
          simp only [List.mem_singleton]
          intro z
          obtain ⟨o', e'⟩ := X4.I.held (reads3 _ hst)
          exact no9 e' (by rw [← z]; exact hx))
        change SI _ _ H11 im { A3 with rs := rs10 } { v2 with st := setl 24 5 v2.M v.M v2.ho v2.se v2.st 24 } _ _ _ _ at X11
        rw [← hv3] at X11
        have Gold : Grid H11 W.r W.rs v.M := by rw [← v1M]; exact Y11o.g
        have sW : ∀ x ∈ W.all, ({ W' with rs := rs9 } : WA).s ≠ x := fun x hx z => by
          obtain ⟨o', e'⟩ := Y4.held hx
          exact no9 e' (by rw [← z]; simp [WA.all])
        refine ⟨_, rfl, _, rfl, W.w, _, 0, .ref W.r, rfl, rfl, .of Y11o.w, atI_nat (j := 0) rfl, { W' with rs := rs9 }, v2, W.r, W.rs, v.M, rfl, Y11, Gold, by rw [← v1M]; exact Y4.ml, sW _ (by simp [WA.all]), (fun z => sW _ (by simp [WA.all, z]) rfl), kinds, fun H12 Y12 k12 => ?_⟩
        rw [← hv3] at Y12
        have s9 : ({ W' with rs := rs9 } : WA).s ∈ ({ W' with rs := rs9 } : WA).all := by simp [WA.all]
        have X12 := X11.kp k12 (fun x hx z => by
          rw [List.mem_singleton.mp hx] at z
          have z' : W'.s ∈ A3.reads im ∨ W'.s ∈ rs10 := by
            simp only [IA.reads, List.mem_cons] at z ⊢
            rcases z with y | y | y | y | y | y | y | y <;> simp [y]
          rcases z' with y | y
          · obtain ⟨o', e'⟩ := X4.I.held y
            exact no9 e' s9
          · rcases R10 _ y with q | q
            · obtain ⟨o', e'⟩ := X4.I.held (reads3 W'.s (List.mem_append.mpr (.inr q)))
              exact no9 e' s9
            · rw [Y9.s] at q
              cases q) (fun p hp z => by
          rw [List.mem_singleton] at z
          exact no9 (X4.F.at_ p hp) (by rw [z]; exact s9))
        have hWw12 := k12 _ _ Y11o.w (by simp only [List.mem_singleton]; exact fun z => sW _ hWw z.symm)
        refine ⟨3, rfl, by decide, by decide, for_range (lo := 0) (n := (3 : Int).toNat) (fun i σ H' => ∃ u9 : Option V, σ = [some (.ref im), some (.ref W.w), some (.ref dq), some (.ref i0), some (.ref W'.w), none, some d, some d, none, u9] ∧ H' W.w = some (.lst [.ref (if 0 < i then W'.r else W.r), .ref (if 1 < i then W'.h else W.h), .ref (if 2 < i then W'.s else W.s), .int v1.se]) ∧ Kp [W.w] H12 H') ⟨none, rfl, hWw12, Kp.refl⟩ ?_ ?_⟩
        · rintro i σ H' hi ⟨u9, rfl, hw, kw⟩
          have hi : i < 3 := hi
          have htr : H' W'.w = some (.lst [.ref W'.r, .ref W'.h, .ref W'.s, .int v3.se]) := kw _ _ Y12.w (by
            simp only [List.mem_singleton]
            intro z
            obtain ⟨o', e'⟩ := Y4.held hWw
            exact no9 e' (by rw [← z]; simp [WA.all]))
          have : i = 0 ∨ i = 1 ∨ i = 2 := by omega
          rcases this with q | q | q
          · subst q
            refine ⟨_, rfl, _, rfl, W'.w, _, _, .ref W'.r, rfl, rfl, .of htr, at_of (j := 0) rfl rfl, _, rfl, _, rfl, W.w, _, _, 0, rfl, rfl, hw, ixN_nat rfl (by show 0 < 4; decide), some (.int (0 + ((0 : Nat) : Int))), rfl, upd_same, kw.own1⟩
          · subst q
            refine ⟨_, rfl, _, rfl, W'.w, _, _, .ref W'.h, rfl, rfl, .of htr, at_of (j := 1) rfl rfl, _, rfl, _, rfl, W.w, _, _, 1, rfl, rfl, hw, ixN_nat rfl (by show 1 < 4; decide), some (.int (0 + ((1 : Nat) : Int))), rfl, upd_same, kw.own1⟩
          · subst q
            refine ⟨_, rfl, _, rfl, W'.w, _, _, .ref W'.s, rfl, rfl, .of htr, at_of (j := 2) rfl rfl, _, rfl, _, rfl, W.w, _, _, 2, rfl, rfl, hw, ixN_nat rfl (by show 2 < 4; decide), some (.int (0 + ((2 : Nat) : Int))), rfl, upd_same, kw.own1⟩
        rintro σ H13 ⟨u9, rfl, hw, kw⟩
        have nwW : W.w ∉ ({ W' with rs := rs9 } : WA).all := fun z => by
          obtain ⟨o', e'⟩ := Y4.held hWw
          exact no9 e' z
        obtain ⟨W3, hW3⟩ : ∃ W3 : WA, W3 = ⟨W.w, W'.r, W'.h, W'.s, rs9⟩ := ⟨_, rfl⟩
        have sub3 : ∀ x ∈ W3.all, x = W.w ∨ x ∈ ({ W' with rs := rs9 } : WA).all := fun x hx => by
          rw [hW3] at hx
          simp only [WA.all, List.mem_cons] at hx ⊢
          rcases hx with z | z | z | z | z <;> simp [z]
        have k13 : ∀ {x : Addr} {o : HO}, x ∈ ({ W' with rs := rs9 } : WA).all → H12 x = some o → H13 x = some o := fun hx e => kw _ _ e (by simp only [List.mem_singleton]; exact fun z => nwW (by rw [← z]; exact hx))
        have v3se : v3.se = v1.se := by rw [hv3]; show v2.se = _; rw [se', v1se]
        have nd3 : W3.all.Nodup := by
          have h9 := Y12.nd
          unfold WA.all at h9
          rw [hW3]
          unfold WA.all
          have h9' := (List.nodup_cons.mp h9).2
          refine List.nodup_cons.mpr ⟨fun z => nwW ?_, h9'⟩
          unfold WA.all
          exact List.mem_cons_of_mem _ z
        have Y13 : WAt H13 W3 v3 := by
          have hr := Y12.g.keep (H' := H13) fun b o hb e => k13 (by rcases hb with z | z <;> simp [WA.all, z]) e
          have hh := k13 (by simp [WA.all]) Y12.h
          have hs := k13 (by simp [WA.all]) Y12.s
          refine ⟨?_, ?_, ?_, ?_, nd3, Y12.ml, Y12.m8, Y12.hl, Y12.sl⟩
          · rw [hW3, v3se]; exact hw
          · rw [hW3]; exact hr
          · rw [hW3]; exact hh
          · rw [hW3]; exact hs
        have apA : ∀ x, x ∈ ({ A3 with rs := rs10 } : IA).reads im → x ∈ A3.reads im ∨ x ∈ rs10 := fun x z => by
          simp only [IA.reads, List.mem_cons] at z ⊢
          rcases z with y | y | y | y | y | y | y | y <;> simp [y]
        have ww10 : W.w ∉ ({ A3 with rs := rs10 } : IA).reads im := fun z => by
          rcases apA _ z with y | y
          · exact apW3 _ hWw y
          · rcases R10 _ y with q | q
            · exact apW3 _ hWw (by simp [IA.reads, q])
            · rw [Y9o.w] at q
              cases q
        have ap13 : ∀ x ∈ W3.all, x ∉ ({ A3 with rs := rs10 } : IA).reads im := fun x hx z => by
          rcases sub3 x hx with rfl | h9
          · exact ww10 z
          · rcases apA _ z with y | y
            · obtain ⟨o', e'⟩ := X4.I.held y
              exact no9 e' h9
            · rcases R10 _ y with q | q
              · obtain ⟨o', e'⟩ := X4.I.held (reads3 x (List.mem_append.mpr (.inr q)))
                exact no9 e' h9
              · obtain ⟨o', e'⟩ := Y9.held h9
                rw [q] at e'
                cases e'
        have al13 : ∀ p ∈ L, p.1 ∉ W3.all := fun p hp z => by
          rcases sub3 _ z with h | h
          · exact R.al p hp (by rw [h]; exact hWw)
          · exact no9 (X4.F.at_ p hp) h
        have X13 := X12.kp kw (fun x hx => by rw [List.mem_singleton.mp hx]; exact ww10) (fun p hp z => R.al p hp (by rw [List.mem_singleton.mp z]; exact hWw))
        have v3d : v3.hd = [] := by rw [hv3]; exact hd'
        have fl : flatE d d := by
          refine ⟨rfl, ?_⟩
          rcases hdd with z | ⟨x, z⟩
          · exact .inl z
          · exact .inr (.inr (.inl ⟨x, z⟩))
        have hw3 : W.w = W3.w := by rw [hW3]
        refine ⟨_, rfl, _, rfl, _, _, rfl, Sm.flat fl, fun H14 S14 => ⟨_, rfl, iteT ⟨_, rfl, im, _, _, 24, 5, 30, rfl, (X13.same S14).I, v3d, fun H15 k15 S15 nk15 Kd15 => ?_⟩⟩⟩
        refine ⟨_, rfl, W3, v3, by rw [← hw3]; rfl, (Y13.same S14).same S15, fun H16 p16 d16 S16 np16 nd16 Kd16 => ?_⟩
        refine ⟨_, _, dpS (Kd15.same S16), dpS Kd16, shS, shS, ?_⟩
        rw [eqS]
        have T16 := (S14.trans S15).trans S16
        exact k H16 { A3 with rs := rs10 } v3 W3 g1 g2 kd' us' i' ⟨X13.same T16, Y13.same T16, ap13, al13⟩ hw3.symm T13 nm1 nm2
end
end K09
namespace K09
open PySem PySem.Spec PyProof.Rows L2 Rg
theorem Same.updN {H0 H : Hp} (s : Same H0 H) {a : Addr} {o : HO} (h : H0 a = none) : Same H0 (upd H a o) := fun x u e => by
  rw [upd_ne (ne_of_none e h)]
  exact s x u e
theorem Two.node {v : IV} {f1 f2 : FD} {kd us : List Int} {i : Nat} {m : Int} (T : Two v f1 f2 kd us i) (hm : m = 2 ∨ m = 3) : ∃ (e : Ev) (f : FD), Stt 24 5 e m v.M [0, 0, 0, 0] f.mi v.M f.G f.C kd us f.sz f.o i ∧ (m = 2 → f = f1) ∧ (m = 3 → f = f2) := by
  rcases hm with rfl | rfl
  · exact ⟨_, f1, T.s1, fun _ => rfl, fun h => absurd h (by decide)⟩
  · exact ⟨_, f2, T.s2, fun h => absurd h (by decide), fun _ => rfl⟩
theorem win9 {M : List (List Int)} {m : Int} {a c : Nat} (h0 : 0 ≤ cellAt M (nrow 24 m) 2) (ha : a < 100) (hc : c < 100) (h8 : cellAt M (nrow 24 m) 2 ≤ 80) : ((wordsL 24 M m ++ List.replicate 200 0).drop a).take c = (rng (a : Int) c).map (rdW 24 M m) := by
  have lw : (wordsL 24 M m).length = (cellAt M (nrow 24 m) 2).toNat := by unfold wordsL; rw [List.length_map, rng_len]
  apply List.ext_getElem?
  intro j
  by_cases h : j < c
  · rw [List.getElem?_map, rng_get h, List.getElem?_take_of_lt h, List.getElem?_drop]
    show _ = some (rdW 24 M m ((a : Int) + (j : Int)))
    by_cases z : a + j < (cellAt M (nrow 24 m) 2).toNat
    · rw [List.getElem?_append_left (by omega)]
      unfold wordsL
      rw [List.getElem?_map, rng_get z]
      show some (rdW 24 M m ((0 : Int) + ((a + j : Nat) : Int))) = _
      congr 2
      omega
    · rw [List.getElem?_append_right (by omega), List.getElem?_replicate, if_pos (by omega)]
      unfold rdW
      rw [if_pos (by omega)]
  · rw [List.getElem?_eq_none (by rw [List.length_take]; omega), List.getElem?_eq_none (by rw [List.length_map, rng_len]; omega)]
theorem Sm.bl_ {H : Hp} {n : Nat} {b : Bool} : Sm H n (.bl b) (.bl b) := Sm.flat (by first | exact ⟨rfl, .inl rfl⟩ | exact ⟨rfl, .inr (.inl ⟨_, rfl⟩)⟩ | exact ⟨rfl, .inr (.inr (.inl ⟨_, rfl⟩))⟩)
theorem Fl.held {M : List (List Int)} {m : Int} {G : Nat → Int} {C : Nat → List Int} {sz o1 mk : Int} (A : Fl 24 5 M m G C sz o1 mk) : (plsOf 24 M m).filter (fun x => x != 0) = fileD G := by
  have h : ∀ o, o < 10 → plV 24 M m o = G o := fun o ho => A.v_ ho
  show ([plV 24 M m 0, plV 24 M m 1, plV 24 M m 2, plV 24 M m 3, plV 24 M m 4, plV 24 M m 5, plV 24 M m 6, plV 24 M m 7, plV 24 M m 8, plV 24 M m 9, plc 24 M m]).filter (fun x => x != 0) = _
  rw [h 0 (by decide), h 1 (by decide), h 2 (by decide), h 3 (by decide), h 4 (by decide), h 5 (by decide), h 6 (by decide), h 7 (by decide), h 8 (by decide), h 9 (by decide), A.c_]
  rfl
section
variable {P : Program} {w : World} {K : PySem.W.Frag} {mg : Str → Option Value} {base : Heap}
def sp_Llooks (CI CP : Addr) : Sp := fun vs H Q _ => ∃ (im : Addr) (A : IA) (v : IV) (r : Addr) (rs : List Addr) (f1 f2 : FD) (kd us : List Int) (i a c : Nat), vs = [.ref im, .ref r, .int a, .int c] ∧ ImgAt CI CP H im A v 24 5 30 ∧ Grid H r rs v.M ∧ v.M.length = 24 ∧ (∀ m ∈ v.M, m.length = 8) ∧ Two v f1 f2 kd us i ∧ a < 100 ∧ c < 100 ∧ ∀ H', Same H H' → Q (.bl true) H'
theorem ok_Llooks (T : Tx K mg) : FnOk P w K mg base CX0 6 T.f_Llooks T.fd_Llooks ["_law_image", "_law_rows", "_law_at", "_law_count"] (sp_Llooks T.C_Image T.C_Plan) := by
  refine T.F_Llooks.ok sc_Llooks (fun vs H Q E h => ?_) (fun cdv A0 outer s H vs Q E hr h => ?_)
  · obtain ⟨_, _, _, _, _, _, _, _, _, _, _, _, rfl, _⟩ := h; rfl
  · obtain ⟨im, A, v, r, rs, f1, f2, kd, us, ii, a, c, rfl, I, Gr, ml, m8, T2, ha, hc, k⟩ := h
    have hr1 : Room 1 _ := hr.mono (by decide)
    have hr2 : Room 2 _ := hr.mono (by decide)
    have hr3 : Room 3 _ := hr.mono (by decide)
    have hr4 : Room 4 _ := hr.mono (by decide)
    refine ⟨_, (pss_cons (ps_for PassesOwn.never rfl (pi_list (pe_lst (pa_cons pe_int (pa_cons pe_int pa_nil)))) (pg_name (i := 4) sc_Llooks.nd rfl (.inr rfl))
        (pss_cons (ps_set (i := 5) sc_Llooks.nd rfl (.inl rfl) (pe_op op_cat (pe_listof (K := K) (pe_call (ok_Lwords T) hr2 rfl T.mg_Lwords T.F_Lwords.kp (b_Lwords T) .nil pass0 (pa_cons (pv 1) (pa_cons (pv 4) pa_nil))) T.b_list) (pe_op op_rep (pe_lst (pa_cons pe_int pa_nil)) pe_int)))
        (pss_cons (ps_if (pt_not (pt_val (pe_call (ok_Lsame T 1) hr3 rfl T.mg_Lsame T.F_Lsame.kp (b_Lsame T) .nil pass0 (pa_cons (pe_call (ok_unfinished T) hr rfl T.mg_unfinished T.F_unfinished.kp (b_unfinished T) .nil pass0 (pa_cons (pv 0) (pa_cons (pv 4) pa_nil))) (pa_cons (pe_call (ok_Lunfinished T) hr2 rfl T.mg_Lunfinished T.F_Lunfinished.kp (b_Lunfinished T) .nil pass0 (pa_cons (pv 1) (pa_cons (pv 4) pa_nil))) pa_nil)))))
          (pss_one (ps_ret pe_bl))
          pss_nil)
        (pss_cons (ps_if (pt_not (pt_val (pe_call (ok_Lsame T 1) hr3 rfl T.mg_Lsame T.F_Lsame.kp (b_Lsame T) .nil pass0 (pa_cons (pe_call (ok_read_words T) hr rfl T.mg_read_words T.F_read_words.kp (b_read_words T) .nil pass0 (pa_cons (pv 0) (pa_cons (pv 4) (pa_cons (pv 2) (pa_cons (pv 3) pa_nil))))) (pa_cons (pe_slice sl_list (pv 5) (po_some (pv 2)) (po_some (pe_op op_add (pv 2) (pv 3)))) pa_nil)))))
          (pss_one (ps_ret pe_bl))
          pss_nil)
        (pss_cons (ps_if (pt_not (pt_val (pe_call (ok_Lsame T 1) hr3 rfl T.mg_Lsame T.F_Lsame.kp (b_Lsame T) .nil pass0 (pa_cons (pe_lc rfl (own := [("_law_o", 6)]) (g := gName 6) (tt := tYes) sc_Llooks.nd (pi_range1 rfl T.b_range (pa_cons pe_int pa_nil)) (blkOk_by (N := ["_law_image", "_law_rows", "_law_at", "_law_count", "_law_n", "_law_words_here", "_law_o", "_law_told", "_law_free", "_law_x"]) (sc := defScope s_Llooks) (by decide +kernel)) (fun _ _ _ _ _ => pg_name (i := 6) sc_Llooks.nd rfl (Or.inl rfl)) (fun _ _ _ _ _ => pts_nil) (fun _ _ _ _ _ => (pe_call (ok_place_block T) hr3 rfl T.mg_place_block T.F_place_block.kp (b_place_block T) .nil pass0 (pa_cons (pv 0) (pa_cons (pv 4) (pa_cons (pv 6) pa_nil)))))) (pa_cons (pe_lc rfl (own := [("_law_o", 6)]) (g := gName 6) (tt := tYes) sc_Llooks.nd (pi_range1 rfl T.b_range (pa_cons pe_int pa_nil)) (blkOk_by (N := ["_law_image", "_law_rows", "_law_at", "_law_count", "_law_n", "_law_words_here", "_law_o", "_law_told", "_law_free", "_law_x"]) (sc := defScope s_Llooks) (by decide +kernel)) (fun _ _ _ _ _ => pg_name (i := 6) sc_Llooks.nd rfl (Or.inl rfl)) (fun _ _ _ _ _ => pts_nil) (fun _ _ _ _ _ => (pe_call (ok_Lplace T) hr1 rfl T.mg_Lplace T.F_Lplace.kp (b_Lplace T) .nil pass0 (pa_cons (pv 1) (pa_cons (pv 4) (pa_cons (pv 6) pa_nil)))))) pa_nil)))))
          (pss_one (ps_ret pe_bl))
          pss_nil)
        (pss_cons (ps_set (i := 7) sc_Llooks.nd rfl (.inl rfl) (pe_callR (ok_held T) hr4 T.F_held_blocks.kp rfl T.mg_held_blocks pass0 (pa_cons (pv 0) (pa_cons (pv 4) pa_nil))))
        (pss_cons (ps_if (pt_not (pt_val (pe_call (ok_Lsame T 1) hr3 rfl T.mg_Lsame T.F_Lsame.kp (b_Lsame T) .nil pass0 (pa_cons (pv 7) (pa_cons (pe_call (ok_Lblocks T) hr2 rfl T.mg_Lblocks T.F_Lblocks.kp (b_Lblocks T) .nil pass0 (pa_cons (pv 1) (pa_cons (pv 4) pa_nil))) pa_nil)))))
          (pss_one (ps_ret pe_bl))
          pss_nil)
        (pss_one (ps_expr (pe_bm PySem.F.plainAttrs_list PySem.F.slot_list_append PySem.F.type_list_append mt_append (pv 7) (pa_cons pe_int pa_nil)))))))))))
      (pss_cons (ps_set (i := 8) sc_Llooks.nd rfl (.inl rfl) (pe_meth0 (pv 0) T.cl_Image T.m_Image_free_blocks (ok_free_blocks T) hr3 (b_Image_free_blocks T) .nil pass0))
      (pss_cons (ps_if (pt_not (pt_val (pe_call (ok_Lsame T 1) hr3 rfl T.mg_Lsame T.F_Lsame.kp (b_Lsame T) .nil pass0 (pa_cons (pv 8) (pa_cons (pe_lc rfl (own := [("_law_x", 9)]) (g := gName 9) (tt := _) sc_Llooks.nd (pi_range2 rfl T.b_range (pa_cons pe_int (pa_cons pe_int pa_nil))) (blkOk_by (N := ["_law_image", "_law_rows", "_law_at", "_law_count", "_law_n", "_law_words_here", "_law_o", "_law_told", "_law_free", "_law_x"]) (sc := defScope s_Llooks) (by decide +kernel)) (fun _ _ _ _ _ => pg_name (i := 9) sc_Llooks.nd rfl (Or.inl rfl)) (fun _ _ _ _ _ => pts_one (pt_cmpR op_eq (pe_ixK (K := K) (pe_ixK (K := K) (pv 1) (pe_op op_add pe_int (pe_op op_fdiv (pv 9) pe_int)) (fun _ _ => rfl)) (pe_op op_mod (pe_callTy call_int1 rfl T.b_int (by decide +kernel) (pa_cons (pv 9) pa_nil)) pe_int) (fun _ _ => rfl)) pe_int (nomark _))) (fun _ _ _ _ _ => (pv 9))) pa_nil)))))
        (pss_one (ps_ret pe_bl))
        pss_nil)
      (pss_cons (ps_expr (pe_bm PySem.F.plainAttrs_list PySem.F.slot_list_append PySem.F.type_list_append mt_append (pv 8) (pa_cons pe_int pa_nil)))
      (pss_cons (ps_if (PW.pt (pw_or (pt_cmpR op_ne (pe_op op_add (pe_callB call_len_seq rfl T.b_len (by decide +kernel) (pa_cons (pe_meth0 (pv 0) T.cl_Image T.m_Image_free_blocks (ok_free_blocks T) hr3 (b_Image_free_blocks T) .nil pass0) pa_nil)) pe_int) (pe_callB call_len_seq rfl T.b_len (by decide +kernel) (pa_cons (pv 8) pa_nil)) (nomark _)) (pw_or1 (pt_not (pt_val (pe_call (ok_Lsame T 1) hr3 rfl T.mg_Lsame T.F_Lsame.kp (b_Lsame T) .nil pass0 (pa_cons (pe_callR (ok_held T) hr4 T.F_held_blocks.kp rfl T.mg_held_blocks pass0 (pa_cons (pv 0) pa_nil)) (pa_cons (pe_lst pa_nil) pa_nil))))))))
        (pss_one (ps_ret pe_bl))
        pss_nil)
      (pss_one (ps_ret (pe_call (ok_Lsame T 1) hr3 rfl T.mg_Lsame T.F_Lsame.kp (b_Lsame T) .nil pass0 (pa_cons (pe_callR (ok_held T) hr4 T.F_held_blocks.kp rfl T.mg_held_blocks pass0 (pa_cons (pv 0) (pa_cons pe_int (pa_cons pe_int pa_nil)))) (pa_cons (pe_op op_cat (pe_call (ok_Lblocks T) hr2 rfl T.mg_Lblocks T.F_Lblocks.kp (b_Lblocks T) .nil pass0 (pa_cons (pv 1) (pa_cons pe_int pa_nil))) (pe_call (ok_Lblocks T) hr2 rfl T.mg_Lblocks T.F_Lblocks.kp (b_Lblocks T) .nil pass0 (pa_cons (pv 1) (pa_cons pe_int pa_nil)))) pa_nil)))))))))), ?_⟩
    refine ⟨(by show 2 ≤ sizeLine; decide), fun q0 n0 => ?_⟩
    have s0 := same_upd (o := .lst [V.int 2, .int 3]) n0
    have e0 : upd H q0 (.lst [V.int 2, .int 3]) q0 = some (.lst [V.int 2, .int 3]) := upd_same
    generalize upd H q0 (.lst [V.int 2, .int 3]) = H0 at s0 e0 ⊢
    have ml0 : v.M.length = 24 := ml
    refine ⟨q0, rfl, ⟨_, .of e0⟩, for_list (K := K) (a := q0) (xs := [V.int 2, .int 3]) (fun i σ H' => ∃ u4 u5 u7 : Option V, σ = [some (.ref im), some (.ref r), some (.int a), some (.int c), u4, u5, none, u7, none, none] ∧ Same H0 H') ⟨_, _, _, rfl, Same.refl _⟩ (fun i σ H' _ ⟨_, _, _, _, S⟩ => .of (S _ _ e0)) ?_ ?_⟩
    · rintro i y σ H1 hi ⟨u4, u5, u7, rfl, S1'⟩
      obtain ⟨m, rfl, hm⟩ : ∃ m : Int, y = .int m ∧ (m = 2 ∨ m = 3) := by
        match i, hi with
        | 0, hi => cases hi; exact ⟨2, rfl, .inl rfl⟩
        | 1, hi => cases hi; exact ⟨3, rfl, .inr rfl⟩
      clear hi
      have S1 := s0.trans S1'
      obtain ⟨e, f, S, -, -⟩ := T2.node hm
      have hf := S.f
      have sz0 := S.s0
      have sz8 := S.s8
      have esz : cellAt v.M (nrow 24 m) 2 = f.sz := hf.sz_
      have RA : ∀ {Hx : Hp}, Same H Hx → RowsAt Hx r rs v.M m f.G f.C f.sz (f.o : Int) f.mi := fun s => ⟨Gr.same s, ml, m8, hf, sz0, sz8⟩
      have lw : (wordsL 24 v.M m).length ≤ 80 := by unfold wordsL; rw [List.length_map, rng_len, esz]; omega
      refine ⟨_, rfl, _, rfl, r, rs, v.M, m, f.G, f.C, f.sz, f.o, f.mi, rfl, RA S1, fun H2 t2 S2' n2 e2 => ?_⟩
      refine ⟨t2, _, rfl, .inr (.of e2), fun q3 n3 => ?_⟩
      have s3 := same_upd (o := .lst ((wordsL 24 v.M m).map V.int)) n3
      have e3 : upd H2 q3 (.lst ((wordsL 24 v.M m).map V.int)) q3 = some (.lst ((wordsL 24 v.M m).map V.int)) := upd_same
      generalize upd H2 q3 (.lst ((wordsL 24 v.M m).map V.int)) = H3 at s3 e3 ⊢
      refine ⟨(by show 1 ≤ sizeLine; decide), fun q4 n4 => ?_⟩
      have s4 := same_upd (o := .lst [V.int 0]) n4
      have e4 : upd H3 q4 (.lst [V.int 0]) q4 = some (.lst [V.int 0]) := upd_same
      generalize upd H3 q4 (.lst [V.int 0]) = H4 at s4 e4 ⊢
      refine ⟨q4, 200, _, rfl, rfl, e4, by decide, by decide, (by show 1 * 200 ≤ sizeLine; exact Nat.le_of_lt (small1000 (by decide))), fun q5 n5 => ?_⟩
      have erp : (List.replicate (200 : Int).toNat [V.int 0]).flatten = (List.replicate 200 (0 : Int)).map V.int := by
        rw [show (200 : Int).toNat = 200 by decide]
        generalize 200 = r
        induction r with
        | zero => rfl
        | succ r ih => rw [List.replicate_succ, List.flatten_cons, ih, List.replicate_succ]; rfl
      rw [erp]
      have s5 := same_upd (o := .lst ((List.replicate 200 (0 : Int)).map V.int)) n5
      have e5 : upd H4 q5 (.lst ((List.replicate 200 (0 : Int)).map V.int)) q5 = some (.lst ((List.replicate 200 (0 : Int)).map V.int)) := upd_same
      generalize upd H4 q5 (.lst ((List.replicate 200 (0 : Int)).map V.int)) = H5 at s5 e5 ⊢
      replace e3 := s5 _ _ (s4 _ _ e3)
      refine ⟨q3, q5, _, _, rfl, rfl, e3, e5, by rw [List.length_map, List.length_map, List.length_replicate]; exact Nat.le_of_lt (small1000 (by omega)), fun q6 n6 => ?_⟩
      have s6 := same_upd (o := .lst ((wordsL 24 v.M m).map V.int ++ (List.replicate 200 (0 : Int)).map V.int)) n6
      have e6 : upd H5 q6 (.lst ((wordsL 24 v.M m).map V.int ++ (List.replicate 200 (0 : Int)).map V.int)) q6 = some (.lst ((wordsL 24 v.M m ++ List.replicate 200 0).map V.int)) := by rw [upd_same, List.map_append]
      generalize upd H5 q6 (.lst ((wordsL 24 v.M m).map V.int ++ (List.replicate 200 (0 : Int)).map V.int)) = H6 at s6 e6 ⊢
      have T6 := ((S2'.trans s3).trans (s4.trans s5)).trans s6
      have S6 := S1.trans T6
      -- unfinished
      refine ⟨_, rfl, _, rfl, im, A, v, 24, 5, 30, m, rfl, I.keep S6, hf.m1, hf.mn, hf.ok_, fun H7 S7' => ?_⟩
      refine ⟨_, rfl, _, rfl, r, rs, v.M, m, f.G, f.C, f.sz, f.o, f.mi, rfl, RA (S6.trans S7'), ?_⟩
      rw [late_eq S]
      refine ⟨_, _, rfl, Sm.bl_, fun H8 S8' => ⟨_, rfl, iteF ?_⟩⟩
      have S8 := S6.trans (S7'.trans S8')
      replace e6 := S8' _ _ (S7' _ _ e6)
      -- the window
      refine ⟨_, rfl, _, rfl, _, rfl, _, rfl, im, A, v, 24, 5, 30, m, (a : Int), c, rfl, I.keep S8, hf.m1, hf.mn, hf.ok_, fun o ho => hf.pl_ ho, by rw [esz]; exact sz8, by omega, by omega, by omega, fun H9 p9 S9' n9 e9 => ?_⟩
      rw [← win9 (by rw [esz]; exact sz0) ha hc (by rw [esz]; exact sz8)] at e9
      refine ⟨_, rfl, _, rfl, _, rfl, _, rfl, _, rfl, _, _, rfl, rfl, _, rfl, q6, _, rfl, .of (S9' _ _ e6), fun q10 n10 => ?_⟩
      have ecut2 : cutV ((wordsL 24 v.M m ++ List.replicate 200 0).map V.int) (some (a : Int)) (some ((a : Int) + (c : Int))) = (((wordsL 24 v.M m ++ List.replicate 200 0).drop a).take c).map V.int := by
        have hl : ((wordsL 24 v.M m ++ List.replicate 200 0).map V.int).length = (wordsL 24 v.M m).length + 200 := by rw [List.length_map, List.length_append, List.length_replicate]
        unfold cutV
        rw [hl]
        generalize hn : (wordsL 24 v.M m).length + 200 = n at hl ⊢
        have e1 : HT.sIx n 0 (some (a : Int)) = a := by
          rw [HT.sIx_nat]
          omega
        have e2 : HT.sIx n n (some ((a : Int) + (c : Int))) = a + c := by
          rw [show (a : Int) + (c : Int) = ((a + c : Nat) : Int) by omega, HT.sIx_nat]
          omega
        rw [e1, e2, show a + c - a = c by omega, ← List.map_drop, ← List.map_take]
      rw [ecut2]
      have s10 := same_upd (o := .lst ((((wordsL 24 v.M m ++ List.replicate 200 0).drop a).take c).map V.int)) n10
      have e10 : upd H9 q10 (.lst ((((wordsL 24 v.M m ++ List.replicate 200 0).drop a).take c).map V.int)) q10 = _ := upd_same
      generalize upd H9 q10 (.lst ((((wordsL 24 v.M m ++ List.replicate 200 0).drop a).take c).map V.int)) = H10 at s10 e10 ⊢
      refine ⟨_, _, rfl, Sm.ints (.inl ⟨s10 _ _ e9, e10⟩) (by rw [List.length_take]; omega), fun H11 S11' => ⟨_, rfl, iteF ?_⟩⟩
      have S11 := S8.trans ((S9'.trans s10).trans S11')
      have I11 := I.keep S11
      -- the places, told
      refine ⟨10, rfl, by decide, by decide, fun D hD => ?_⟩
      have g10 : ∀ j, j < 10 → ((List.range 10).map f.G)[j]? = some (f.G j) := fun j hj => by rw [List.getElem?_map, List.getElem?_range hj]; rfl
      refine lc_range (lo := 0) (n := (10 : Int).toNat) (fun j Hx => Same H11 Hx ∧ Hx D = some (.lst ((((List.range 10).map f.G).take j).map V.int))) ⟨same_upd hD, upd_same⟩ ?_ ?_
      · rintro j Hx hj ⟨Sx, ex⟩
        have hj : j < 10 := hj
        refine ⟨rfl, ?_⟩
        refine yes_ ?_
        refine ⟨_, rfl, _, rfl, _, rfl, im, A, v, 24, 5, 30, m, j, (by show [V.ref im, .int m, .int (0 + (j : Int))] = _; rw [show (0 : Int) + (j : Int) = (j : Int) by omega]), I11.keep Sx, hf.m1, hf.mn, hj, hf.ok_, ?_⟩
        rw [hf.v_ hj]
        refine ⟨_, ex, ?_, fun x o e => ?_, ?_⟩
        · rw [List.length_map, List.length_take, List.length_map, List.length_range]
          exact small1000 (by omega)
        · rw [upd_ne (ne_of_none e hD)]
          exact Sx _ _ e
        · rw [upd_same, take_get (g10 j hj), List.map_append]
          rfl
      rintro H12 ⟨S12', e12⟩
      have Gr12 := Gr.same (S11.trans S12')
      refine ⟨10, rfl, by decide, by decide, fun D' hD' => ?_⟩
      refine lc_range (lo := 0) (n := (10 : Int).toNat) (fun j Hx => Same H12 Hx ∧ Hx D' = some (.lst ((((List.range 10).map f.G).take j).map V.int))) ⟨same_upd hD', upd_same⟩ ?_ ?_
      · rintro j Hx hj ⟨Sx, ex⟩
        have hj : j < 10 := hj
        refine ⟨rfl, ?_⟩
        refine yes_ ?_
        refine ⟨_, rfl, _, rfl, _, rfl, r, rs, v.M, m, j, (by show [V.ref r, .int m, .int (0 + (j : Int))] = _; rw [show (0 : Int) + (j : Int) = (j : Int) by omega]), Gr12.same Sx, ml, m8, hf.m1, hf.mn, hj, hf.ok_, ?_⟩
        rw [hf.v_ hj]
        refine ⟨_, ex, ?_, fun x o e => ?_, ?_⟩
        · rw [List.length_map, List.length_take, List.length_map, List.length_range]
          exact small1000 (by omega)
        · rw [upd_ne (ne_of_none e hD')]
          exact Sx _ _ e
        · rw [upd_same, take_get (g10 j hj), List.map_append]
          rfl
      rintro H13 ⟨S13', e13⟩
      refine ⟨_, _, rfl, Sm.ints (.inl ⟨S13' _ _ e12, e13⟩) (by rw [List.length_take, List.length_map, List.length_range]; omega), fun H14 S14' => ⟨_, rfl, iteF ?_⟩⟩
      have S14 := S11.trans ((S12'.trans S13').trans S14')
      -- the blocks held
      refine ⟨_, rfl, _, rfl, [.ref im], [.int m], rfl, rfl, (by show 1 ≤ sizeLine; decide), fun t1 nt1 => ⟨im, A, v, 24, 5, 30, t1, [m], rfl, (I.keep S14).keep (same_upd nt1), upd_same, by show 1 ≤ 16; decide, fun x hx => ?_, fun H15 q15 S15' n15 e15 => ?_⟩⟩
      · rw [List.mem_singleton.mp hx]
        exact ⟨hf.m1, hf.mn, hf.ok_⟩
      have eh : heldV 24 v.M [m] = fileD f.G := by
        rw [heldV, heldV, hf.held, List.append_nil]
      rw [eh] at e15
      have s15 := (same_upd (o := .tup [V.int m]) nt1).trans S15'
      have S15 := S14.trans s15
      have l11 : (fileD f.G).length ≤ 11 := fileD_le
      refine ⟨_, rfl, _, rfl, _, rfl, r, rs, v.M, m, f.G, f.C, f.sz, f.o, f.mi, rfl, RA S15, fun H16 q16 S16' n16 e16 => ?_⟩
      refine ⟨_, _, rfl, Sm.ints (.inl ⟨S16' _ _ e15, e16⟩) (by omega), fun H17 S17' => ⟨_, rfl, iteF ?_⟩⟩
      have s17 := S16'.trans S17'
      refine ⟨_, rfl, .inl ⟨rfl, _, .inl (.inl (s17 _ _ e15))⟩, q15, _, _, rfl, rfl, s17 _ _ e15, by rw [List.length_map]; exact small1000 (by omega), ?_⟩
      refine ⟨_, _, _, rfl, ?_⟩
      have S14a : Same H0 H14 := by
        refine S1'.trans (T6.trans ((S7'.trans S8').trans (((S9'.trans s10).trans S11').trans ((S12'.trans S13').trans S14'))))
      exact Same.updN ((S14a.trans s15).trans s17) (((S14a.trans (same_upd nt1))).free n15)
    rintro σ H1 ⟨u4, u5, u7, rfl, S1'⟩
    have S1 := s0.trans S1'
    have k1 := T2.s1
    have k2 := T2.s2
    -- the free blocks
    have I1 := I.keep S1
    have hfd : fdOf 24 5 = 10 := by decide
    refine ⟨_, rfl, im, _, _, rfl, I1.ob, rfl, im, A, v, 24, 5, 30, rfl, I1, fun H2 pf S2' npf ef => ?_⟩
    have S2 := S1.trans S2'
    have I2 := I.keep S2
    have Gr2 := Gr.same S2
    refine ⟨_, rfl, 10, 24, rfl, ⟨by decide, by decide, by decide, by decide⟩, fun D hD => ?_⟩
    have h14 : (rng 10 14).length < 1000 := by rw [rng_len]; decide
    refine lc_range (lo := 10) (n := ((24 : Int) - 10).toNat) (PvF H2 D (rng 10 14) (fun x => decide (kindOf 24 5 v.M x = 0))) (PvF.start hD) ?_ ?_
    · rintro i H' hi Pv
      have hi : i < 14 := hi
      have hx := rng_get (lo := 10) hi
      obtain ⟨x, hxe⟩ : ∃ x : Nat, (10 : Int) + (i : Int) = x := ⟨10 + i, by omega⟩
      have hx24 : x < 24 := by omega
      have Gx := Gr2.same Pv.1
      have h2 : 2 + x / 8 < v.M.length := by omega
      obtain ⟨qr, hqr, hHr, _⟩ := Gx.get (List.getElem?_eq_getElem h2)
      have lr : x % 8 < (v.M[2 + x / 8]).length := by rw [m8 _ (List.getElem_mem h2)]; omega
      have ekd : kindOf 24 5 v.M (x : Int) = (v.M[2 + x / 8])[x % 8] := by
        rw [k1.k.kind (by omega), ← k1.k.mp x (by omega)]
        exact cellAt_of (List.getElem?_eq_getElem h2) (List.getElem?_eq_getElem lr)
      refine ⟨rfl, ?_⟩
      rw [hxe] at hx ⊢
      refine ⟨_, rfl, _, rfl, _, _, rfl, rfl, (by show CDiv _ 8; exact ⟨by decide, by decide⟩), _, _, rfl, rfl, r, _, _, .ref qr, rfl, rfl, .of Gx.out, at_of (j := 2 + x / 8) (by omega) (by rw [List.getElem?_map, hqr]; rfl), _, rfl, .inl ⟨_, rfl, _, _, rfl, rfl, (by show (0 : Int) < 8; decide), qr, _, _, _, rfl, rfl, .of hHr, at_of (j := x % 8) (by omega) (by rw [List.getElem?_map, List.getElem?_eq_getElem lr]; rfl), rfl, _, rfl, ?_⟩⟩
      rw [dec_iv, ← ekd]
      by_cases z : kindOf 24 5 v.M (x : Int) = 0
      · rw [decide_eq_true z]
        exact iteT ⟨_, rfl, Pv.yes hD (Same.refl _) hx h14 (decide_eq_true z)⟩
      · rw [decide_eq_false z]
        exact iteF (Pv.no (Same.refl _) hx (decide_eq_false z))
    intro H3 Pv
    obtain ⟨S3', e3⟩ := Pv.all (by rw [rng_len]; rfl)
    clear Pv
    have efr : (rng 10 14).filter (fun x => decide (kindOf 24 5 v.M x = 0)) = freeL 24 5 v.M := rfl
    rw [efr] at e3
    have lfr : (freeL 24 5 v.M).length ≤ 14 := freeL_len
    refine ⟨_, _, rfl, Sm.ints (.inl ⟨S3' _ _ ef, e3⟩) (by omega), fun H4 S4' => ⟨_, rfl, iteF ?_⟩⟩
    have s4 := S3'.trans S4'
    refine ⟨_, rfl, .inl ⟨rfl, _, .inl (.inl (s4 _ _ ef))⟩, pf, _, _, rfl, rfl, s4 _ _ ef, by rw [List.length_map]; exact small1000 (by omega), ?_⟩
    have S5 : Same H (upd H4 pf (.lst ((freeL 24 5 v.M).map V.int ++ [V.int 24]))) := Same.updN (S2.trans s4) (S1.free npf)
    have e5 : upd H4 pf (.lst ((freeL 24 5 v.M).map V.int ++ [V.int 24])) pf = some (.lst ((freeL 24 5 v.M).map V.int ++ [V.int 24])) := upd_same
    generalize upd H4 pf (.lst ((freeL 24 5 v.M).map V.int ++ [V.int 24])) = H5 at S5 e5 ⊢
    have I5 := I.keep S5
    refine ⟨_, rfl, im, _, _, rfl, I5.ob, rfl, im, A, v, 24, 5, 30, rfl, I5, fun H6 p6 S6' n6 e6 => ?_⟩
    have S6 := S5.trans S6'
    refine ⟨p6, _, rfl, .inl (.of e6), _, _, rfl, rfl, _, rfl, pf, _, rfl, .inl (.of (S6' _ _ e5)), rfl, _, rfl, ?_⟩
    rw [dec_iv]
    have elen : (((freeL 24 5 v.M).map V.int).length : Int) + 1 = (((freeL 24 5 v.M).map V.int ++ [V.int 24]).length : Nat) := by
      rw [List.length_append]
      rfl
    rw [decide_eq_true elen]
    refine iteF ⟨_, rfl, [.ref im], [], rfl, rfl, (by show 0 ≤ sizeLine; decide), fun t1 nt1 => ⟨im, A, v, 24, 5, 30, t1, [], rfl, (I.keep S6).keep (same_upd nt1), upd_same, by show 0 ≤ 16; decide, (fun m hm => nomatch hm), fun H7 q7 S7' n7 e7 => ?_⟩⟩
    have S7 := S6.trans ((same_upd (o := .tup []) nt1).trans S7')
    refine ⟨(by show 0 ≤ sizeLine; decide), fun q8 n8 => ?_⟩
    have s8 := same_upd (o := .lst []) n8
    have e8 : upd H7 q8 (.lst []) q8 = some (.lst (([] : List Int).map V.int)) := upd_same
    generalize upd H7 q8 (.lst []) = H8 at s8 e8 ⊢
    refine ⟨_, _, rfl, Sm.ints (.inl ⟨s8 _ _ e7, e8⟩) (by show 0 < 1000; decide), fun H9 S9' => ⟨_, rfl, iteF ?_⟩⟩
    have S9 := S7.trans (s8.trans S9')
    have hf1 := k1.f
    have hf2 := k2.f
    refine ⟨_, rfl, [.ref im], [.int 3, .int 2], rfl, rfl, (by show 2 ≤ sizeLine; decide), fun t1 nt1 => ⟨im, A, v, 24, 5, 30, t1, [3, 2], rfl, (I.keep S9).keep (same_upd nt1), upd_same, by show 2 ≤ 16; decide, fun m hm => ?_, fun H10 q10 S10' n10 e10 => ?_⟩⟩
    · rcases List.mem_cons.mp hm with rfl | hm
      · exact ⟨hf2.m1, hf2.mn, hf2.ok_⟩
      · rw [List.mem_singleton.mp hm]
        exact ⟨hf1.m1, hf1.mn, hf1.ok_⟩
    have eh : heldV 24 v.M [3, 2] = fileD f2.G ++ fileD f1.G := by
      rw [heldV, heldV, heldV, hf1.held, hf2.held, List.append_nil]
    rw [eh] at e10
    have S10 := S9.trans ((same_upd (o := .tup [V.int 3, .int 2]) nt1).trans S10')
    have l1 : (fileD f1.G).length ≤ 11 := fileD_le
    have l2 : (fileD f2.G).length ≤ 11 := fileD_le
    refine ⟨_, rfl, r, rs, v.M, 3, f2.G, f2.C, f2.sz, f2.o, f2.mi, rfl, ⟨Gr.same S10, ml, m8, hf2, k2.s0, k2.s8⟩, fun H11 q11 S11' n11 e11 => ?_⟩
    have S11 := S10.trans S11'
    refine ⟨_, rfl, r, rs, v.M, 2, f1.G, f1.C, f1.sz, f1.o, f1.mi, rfl, ⟨Gr.same S11, ml, m8, hf1, k1.s0, k1.s8⟩, fun H12 q12 S12' n12 e12 => ?_⟩
    refine ⟨q11, q12, _, _, rfl, rfl, S12' _ _ e11, e12, by rw [List.length_map, List.length_map]; exact Nat.le_of_lt (small1000 (by omega)), fun q13 n13 => ?_⟩
    have s13 := same_upd (o := .lst ((fileD f2.G).map V.int ++ (fileD f1.G).map V.int)) n13
    have e13 : upd H12 q13 (.lst ((fileD f2.G).map V.int ++ (fileD f1.G).map V.int)) q13 = some (.lst ((fileD f2.G ++ fileD f1.G).map V.int)) := by rw [upd_same, List.map_append]
    generalize upd H12 q13 (.lst ((fileD f2.G).map V.int ++ (fileD f1.G).map V.int)) = H13 at s13 e13 ⊢
    exact ⟨_, _, rfl, Sm.ints (.inl ⟨s13 _ _ (S12' _ _ (S11' _ _ e10)), e13⟩) (by rw [List.length_append]; omega), fun H14 S14 => k H14 ((S11.trans (S12'.trans s13)).trans S14)⟩
end
end K09
namespace K09
open PySem PySem.Spec PyProof.Rows L2 Rg
theorem NewGrid.swap {H0 H H1 : Hp} {D : Addr} {qs : List Addr} {M : List (List Int)} {i : Nat} {q : Addr} {m : List Int} (G : NewGrid H0 H D qs M) (s1 : Same H H1) (hq : H q = none) (h1 : H1 q = some (.lst (m.map V.int))) : NewGrid H0 (upd H1 D (.lst ((qs.map V.ref).set i (V.ref q)))) D (qs.set i q) (M.set i m) :=
  ⟨G.grid.swap s1 hq h1, fun x hx => by
    rcases mem_set_of hx with e | e
    · rw [e]; exact G.same.free hq
    · exact G.fresh x e, G.freshD, fun x u e => by
    rw [upd_ne (ne_of_none e G.freshD)]
    exact s1 _ _ (G.same x u e)⟩
/-- a block claimed on the map and in the sums -/
def clM (M : List (List Int)) (x : Nat) (k : Int) (o : Nat) : List (List Int) := setC (setC M (2 + x / 8) (x % 8) k) 0 o (cellAt M 0 o + 1)
theorem clM_tk {M : List (List Int)} {x o : Nat} {k : Int} (hx : 10 ≤ x) (hx2 : x < 24) (hz : M[x]? = some (List.replicate 8 0)) : tkM M x k o 1 = clM M x k o := by
  unfold tkM clM
  congr 1
  apply List.ext_getElem?
  intro y
  by_cases e : x = y
  · subst e
    have : x < M.length := (List.getElem?_eq_some_iff.mp hz).1
    rw [List.getElem?_set_self (by rw [setC_len]; exact this), setC_row (by omega), hz]
  · rw [List.getElem?_set_ne e]
def baseM : List (List Int) := (((List.replicate 24 (List.replicate 8 0)).set 2 (List.replicate 8 1)).set 3 [1, 1, 0, 0, 0, 0, 0, 0]).set 5 [2, 1, 0, 0, 0, 0, 0, 1]
/-- the holdings that the map tells -/
def heldL (M : List (List Int)) : List Int := (List.range 24).map fun x => if x < 10 ∨ cellAt M (2 + x / 8) (x % 8) > 0 then 1 else 0
section
variable {P : Program} {w : World} {K : PySem.W.Frag} {mg : Str → Option Value} {base : Heap}
def sp_Lclaim : Sp := fun vs H Q _ => ∃ (r : Addr) (rs : List Addr) (M : List (List Int)) (x o : Nat) (k : Int), vs = [.ref r, .int x, .int k, .int o] ∧ Grid H r rs M ∧ M.length = 24 ∧ (∀ m ∈ M, m.length = 8) ∧ 10 ≤ x ∧ x < 24 ∧ o < 4 ∧ ∀ H', Grid H' r rs (clM M x k o) → Kp rs H H' → Q .non H'
theorem ok_Lclaim (T : Tx K mg) : FnOk P w K mg base CX0 1 T.f_Lclaim T.fd_Lclaim ["_law_rows", "_law_x", "_law_kind", "_law_owner"] sp_Lclaim := by
  refine T.F_Lclaim.ok sc_Lclaim (fun vs H Q E h => ?_) (fun cdv A outer s H vs Q E hr h => ?_)
  · obtain ⟨_, _, _, _, _, _, rfl, _⟩ := h; rfl
  · obtain ⟨r, rs, M, x, o, kk, rfl, G, ml, m8, hx, hx2, ho, k⟩ := h
    refine ⟨_, (pss_cons (ps_set (i := 4) sc_Lclaim.nd rfl (.inl rfl) (pe_ix ix_list (pv 0) (pe_op op_add pe_int (pe_op op_fdiv (pv 1) pe_int)) (fun _ _ => rfl)))
      (pss_cons (ps_asg (pv 2) (pg_sub (pv 4) (pe_op op_mod (pe_callTy call_int1 rfl T.b_int (by decide +kernel) (pa_cons (pv 1) pa_nil)) pe_int) set_list))
      (pss_cons (ps_set (i := 5) sc_Lclaim.nd rfl (.inl rfl) (pe_ix ix_list (pv 0) pe_int (fun _ _ => rfl)))
      (pss_one (ps_asg (pe_op op_add (pe_ix ix_list (pv 5) (pv 3) (fun _ _ => rfl)) pe_int) (pg_sub (pv 5) (pv 3) set_list)))))), ?_⟩
    obtain ⟨q, row, hq, hrow, hH, hqm, hmem⟩ := G.rowN (i := 2 + x / 8) (by omega)
    have l8 := m8 _ hmem
    refine ⟨_, rfl, _, rfl, _, _, rfl, rfl, (by show CDiv _ 8; exact ⟨by decide, by decide⟩), _, _, rfl, rfl, r, _, _, .ref q, rfl, rfl, .of G.out, at_of (j := 2 + x / 8) (by omega) (by rw [List.getElem?_map, hq]; rfl), ?_⟩
    refine ⟨_, rfl, _, rfl, _, rfl, .inl ⟨_, rfl, _, _, rfl, rfl, (by show (0 : Int) < 8; decide), q, _, _, x % 8, rfl, rfl, hH, ixN_nat (by omega) (by rw [List.length_map]; omega), ?_⟩⟩
    rw [← List.map_set]
    have G1 := G.setc (j := x % 8) (x := kk) hq hrow
    have k1 : Kp rs H (upd H q (.lst ((row.set (x % 8) kk).map V.int))) := Kp.refl.own hqm
    generalize upd H q (.lst ((row.set (x % 8) kk).map V.int)) = H1 at G1 k1 ⊢
    obtain ⟨q0, row0, hq0, hrow0, hH0, hqm0, hmem0⟩ := G1.rowN (i := 0) (by rw [setC_len]; omega)
    have l80 := setC_m8' m8 (i := 2 + x / 8) (by omega) _ hmem0
    have ho8 : o < row0.length := by omega
    have e0 : row0[o] = cellAt M 0 o := by
      rw [← cellAt_setC_row (M := M) (i := 2 + x / 8) (i' := 0) (j := x % 8) (k := o) (x := kk) (by omega)]
      exact (cellAt_of hrow0 (List.getElem?_eq_getElem ho8)).symm
    refine ⟨_, rfl, r, _, 0, .ref q0, rfl, rfl, .of G1.out, atI_nat (j := 0) (by rw [List.getElem?_map, hq0]; rfl), ?_⟩
    refine ⟨_, rfl, _, rfl, q0, _, _, .int row0[o], rfl, rfl, .of hH0, at_of (j := o) rfl (by rw [List.getElem?_map, List.getElem?_eq_getElem ho8]; rfl), _, _, rfl, rfl, _, rfl, _, rfl, q0, _, _, o, rfl, rfl, hH0, ixN_nat rfl (by rw [List.length_map]; exact ho8), ?_⟩
    rw [← List.map_set, e0]
    have G2 := G1.setc (j := o) (x := cellAt M 0 o + 1) hq0 hrow0
    exact k _ G2 (k1.own hqm0)
def sp_Lbase : Sp := fun vs H Q _ => vs = [] ∧ ∀ H' r rs, NewGrid H H' r rs baseM → Q (.ref r) H'
theorem ok_Lbase (T : Tx K mg) : FnOk P w K mg base CX0 1 T.f_Lbase T.fd_Lbase [] sp_Lbase := by
  refine T.F_Lbase.ok sc_Lbase (fun vs H Q E h => ?_) (fun cdv A outer s H vs Q E hr h => ?_)
  · obtain ⟨rfl, _⟩ := h; rfl
  · obtain ⟨rfl, k⟩ := h
    refine ⟨_, (pss_cons (ps_setLc (i := 0) (own := [("_law_x", 1)]) (g := gName 1) (tt := tYes) rfl sc_Lbase.nd rfl rfl (sw_true rfl rfl rfl (by decide +kernel)) (pi_range1 rfl T.b_range (pa_cons pe_int pa_nil)) (blkOk_by (N := ["_law_rows", "_law_x"]) (sc := defScope s_Lbase) (by decide +kernel)) (fun _ _ _ _ _ => pg_name (i := 1) sc_Lbase.nd rfl (Or.inl rfl)) (fun _ _ _ _ _ => pts_nil) (fun _ _ _ _ _ => (pe_op op_rep (pe_lst (pa_cons pe_int pa_nil)) pe_int)))
      (pss_cons (ps_asg (pe_op op_rep (pe_lst (pa_cons pe_int pa_nil)) pe_int) (pg_sub (pv 0) pe_int set_list))
      (pss_cons (ps_asg (pe_lst (pa_cons pe_int (pa_cons pe_int (pa_cons pe_int (pa_cons pe_int (pa_cons pe_int (pa_cons pe_int (pa_cons pe_int (pa_cons pe_int pa_nil))))))))) (pg_sub (pv 0) pe_int set_list))
      (pss_cons (ps_asg (pe_lst (pa_cons pe_int (pa_cons pe_int (pa_cons pe_int (pa_cons pe_int (pa_cons pe_int (pa_cons pe_int (pa_cons pe_int (pa_cons pe_int pa_nil))))))))) (pg_sub (pv 0) pe_int set_list))
      (pss_one (ps_ret (pv 0))))))), ?_⟩
    refine ⟨24, rfl, by decide, by decide, fun D hD => ?_⟩
    refine lc_range (lo := 0) (n := (24 : Int).toNat) (fun j H' => ∃ qs, NewGrid H H' D qs (List.replicate j (List.replicate 8 0))) ⟨[], NewGrid.start (Same.refl _) hD hD⟩ ?_ ?_
    · rintro j H' hj ⟨qs, G⟩
      have hj : j < 24 := hj
      refine ⟨rfl, ?_⟩
      refine yes_ ?_
      refine ⟨(by show 1 ≤ sizeLine; decide), fun q1 n1 => ?_⟩
      have s1 := same_upd (o := .lst [V.int 0]) n1
      have e1 : upd H' q1 (.lst [V.int 0]) q1 = some (.lst [V.int 0]) := upd_same
      generalize upd H' q1 (.lst [V.int 0]) = H1 at s1 e1 ⊢
      refine ⟨q1, 8, _, rfl, rfl, e1, by decide, by decide, (by show 1 * 8 ≤ sizeLine; decide), fun q2 n2 => ?_⟩
      have s2 := same_upd (o := .lst ((List.replicate 8 (0 : Int)).map V.int)) n2
      have e2 : upd H1 q2 (.lst ((List.replicate 8 (0 : Int)).map V.int)) q2 = some (.lst ((List.replicate 8 (0 : Int)).map V.int)) := upd_same
      change Same H1 (upd H1 q2 (.lst (List.replicate (8 : Int).toNat [V.int 0]).flatten)) at s2
      change (upd H1 q2 (.lst (List.replicate (8 : Int).toNat [V.int 0]).flatten)) q2 = _ at e2
      generalize upd H1 q2 (.lst (List.replicate (8 : Int).toNat [V.int 0]).flatten) = H2 at s2 e2 ⊢
      refine ⟨_, (s1.trans s2) _ _ G.grid.out, ?_, qs ++ [q2], ?_⟩
      · rw [List.length_map, G.grid.len, List.length_replicate]
        exact small1000 (by omega)
      · have := G.snoc (s1.trans s2) (s1.free n2) e2
        rw [List.replicate_succ']
        exact this
    rintro H1 ⟨qs1, G1⟩
    have G1 : NewGrid H H1 D qs1 (List.replicate 24 (List.replicate 8 0)) := G1
    have l1 : qs1.length = 24 := by rw [G1.grid.len, List.length_replicate]
    refine ⟨(by show 1 ≤ sizeLine; decide), fun qa na => ?_⟩
    have sa := same_upd (o := .lst [V.int 1]) na
    have ea : upd H1 qa (.lst [V.int 1]) qa = some (.lst [V.int 1]) := upd_same
    generalize upd H1 qa (.lst [V.int 1]) = Ha at sa ea ⊢
    refine ⟨qa, 8, _, rfl, rfl, ea, by decide, by decide, (by show 1 * 8 ≤ sizeLine; decide), fun qb nb => ?_⟩
    have sb := same_upd (o := .lst ((List.replicate 8 (1 : Int)).map V.int)) nb
    have eb : upd Ha qb (.lst ((List.replicate 8 (1 : Int)).map V.int)) qb = some (.lst ((List.replicate 8 (1 : Int)).map V.int)) := upd_same
    change Same Ha (upd Ha qb (.lst (List.replicate (8 : Int).toNat [V.int 1]).flatten)) at sb
    change (upd Ha qb (.lst (List.replicate (8 : Int).toNat [V.int 1]).flatten)) qb = _ at eb
    generalize upd Ha qb (.lst (List.replicate (8 : Int).toNat [V.int 1]).flatten) = Hb at sb eb ⊢
    have sab := sa.trans sb
    refine ⟨_, rfl, D, _, _, 2, rfl, rfl, sab _ _ G1.grid.out, ixN_nat rfl (by rw [List.length_map, l1]; decide), ?_⟩
    have G2 := G1.swap (i := 2) sab (sa.free nb) eb
    generalize upd Hb D (.lst ((qs1.map V.ref).set 2 (V.ref qb))) = H2 at G2 ⊢
    have l2 : (qs1.set 2 qb).length = 24 := by rw [List.length_set]; exact l1
    refine ⟨(by show 8 ≤ sizeLine; decide), fun qc nc => ?_⟩
    have sc := same_upd (o := .lst (([1, 1, 0, 0, 0, 0, 0, 0] : List Int).map V.int)) nc
    have ec : upd H2 qc (.lst (([1, 1, 0, 0, 0, 0, 0, 0] : List Int).map V.int)) qc = _ := upd_same
    refine ⟨_, rfl, D, _, _, 3, rfl, rfl, sc _ _ G2.grid.out, ixN_nat rfl (by rw [List.length_map, l2]; decide), ?_⟩
    have G3 := G2.swap (i := 3) sc nc ec
    change NewGrid H (upd (upd H2 qc (.lst [V.int 1, .int 1, .int 0, .int 0, .int 0, .int 0, .int 0, .int 0])) D (.lst (((qs1.set 2 qb).map V.ref).set 3 (V.ref qc)))) _ _ _ at G3
    generalize upd (upd H2 qc (.lst [V.int 1, .int 1, .int 0, .int 0, .int 0, .int 0, .int 0, .int 0])) D (.lst (((qs1.set 2 qb).map V.ref).set 3 (V.ref qc))) = H3 at G3 ⊢
    have l3 : ((qs1.set 2 qb).set 3 qc).length = 24 := by rw [List.length_set]; exact l2
    refine ⟨(by show 8 ≤ sizeLine; decide), fun qd nd => ?_⟩
    have sd := same_upd (o := .lst (([2, 1, 0, 0, 0, 0, 0, 1] : List Int).map V.int)) nd
    have ed : upd H3 qd (.lst (([2, 1, 0, 0, 0, 0, 0, 1] : List Int).map V.int)) qd = _ := upd_same
    refine ⟨_, rfl, D, _, _, 5, rfl, rfl, sd _ _ G3.grid.out, ixN_nat rfl (by rw [List.length_map, l3]; decide), ?_⟩
    have G4 := G3.swap (i := 5) sd nd ed
    exact ⟨_, rfl, k _ D _ G4⟩
def sp_Lheld : Sp := fun vs H Q _ => ∃ (r : Addr) (rs : List Addr) (M : List (List Int)), vs = [.ref r] ∧ Grid H r rs M ∧ M.length = 24 ∧ (∀ m ∈ M, m.length = 8) ∧ ∀ H' t, Same H H' → H t = none → H' t = some (.lst ((heldL M).map V.int)) → Q (.ref t) H'
theorem heldL_get {M : List (List Int)} {x : Nat} (h : x < 24) : (heldL M)[x]? = some (if x < 10 ∨ cellAt M (2 + x / 8) (x % 8) > 0 then 1 else 0) := by
  unfold heldL
  rw [List.getElem?_map, List.getElem?_range h]
  rfl
theorem ok_Lheld (T : Tx K mg) : FnOk P w K mg base CX0 1 T.f_Lheld T.fd_Lheld ["_law_rows"] sp_Lheld := by
  refine T.F_Lheld.ok sc_Lheld (fun vs H Q E h => ?_) (fun cdv A outer s H vs Q E hr h => ?_)
  · obtain ⟨_, _, _, rfl, _⟩ := h; rfl
  · obtain ⟨r, rs, M, rfl, G, ml, m8, k⟩ := h
    refine ⟨_, (pss_one (ps_ret (pe_lc rfl (own := [("_law_x", 1)]) (g := gName 1) (tt := tYes) sc_Lheld.nd (pi_range1 rfl T.b_range (pa_cons pe_int pa_nil)) (blkOk_by (N := ["_law_rows", "_law_x"]) (sc := defScope s_Lheld) (by decide +kernel)) (fun _ _ _ _ _ => pg_name (i := 1) sc_Lheld.nd rfl (Or.inl rfl)) (fun _ _ _ _ _ => pts_nil) (fun _ _ _ _ _ => (pe_callTy call_int1 rfl T.b_int (by decide +kernel) (pa_cons (pe_or (pe_cmpR op_lt (pv 1) pe_int (nomark _)) (pe_one (pe_cmpR op_gt (pe_ixK (K := K) (pe_ixK (K := K) (pv 0) (pe_op op_add pe_int (pe_op op_fdiv (pv 1) pe_int)) (fun _ _ => rfl)) (pe_op op_mod (pe_callTy call_int1 rfl T.b_int (by decide +kernel) (pa_cons (pv 1) pa_nil)) pe_int) (fun _ _ => rfl)) pe_int (nomark _)))) pa_nil)))))), ?_⟩
    refine ⟨24, rfl, by decide, by decide, fun D hD => ?_⟩
    refine lc_range (lo := 0) (n := (24 : Int).toNat) (fun j Hx => Same H Hx ∧ Hx D = some (.lst (((heldL M).take j).map V.int))) ⟨same_upd hD, upd_same⟩ ?_ ?_
    · rintro j Hx hj ⟨Sx, ex⟩
      have hj : j < 24 := hj
      have Gx := G.same Sx
      obtain ⟨q, row, hq, hrow, hH, hqm, hmem⟩ := Gx.rowN (i := 2 + j / 8) (by omega)
      have l8 := m8 _ hmem
      have lr : j % 8 < row.length := by omega
      have ec : cellAt M (2 + j / 8) (j % 8) = row[j % 8] := cellAt_of hrow (List.getElem?_eq_getElem lr)
      have done : ∀ b : Bool, (b = true ↔ (j < 10 ∨ cellAt M (2 + j / 8) (j % 8) > 0)) → Same H (upd Hx D (.lst (((heldL M).take j).map V.int ++ [V.int (if b = true then 1 else 0)]))) ∧ (upd Hx D (.lst (((heldL M).take j).map V.int ++ [V.int (if b = true then 1 else 0)]))) D = some (.lst (((heldL M).take (j + 1)).map V.int)) := fun b hb => by
        refine ⟨fun x o e => ?_, ?_⟩
        · rw [upd_ne (ne_of_none e hD)]
          exact Sx _ _ e
        · have e : (if b = true then (1 : Int) else 0) = if j < 10 ∨ cellAt M (2 + j / 8) (j % 8) > 0 then 1 else 0 := by
            by_cases z : b = true
            · rw [if_pos z, if_pos (hb.mp z)]
            · rw [if_neg z, if_neg (fun y => z (hb.mpr y))]
          rw [upd_same, take_get (heldL_get hj), List.map_append, e]
          rfl
      have len : (((heldL M).take j).map V.int).length < sizeLine := by
        rw [List.length_map, List.length_take]
        exact small1000 (by omega)
      have ez : (0 : Int) + (j : Int) = j := by omega
      refine ⟨rfl, ?_⟩
      refine yes_ ?_
      refine ⟨_, rfl, _, _, rfl, rfl, ?_⟩
      rw [ez]
      refine ⟨_, rfl, ite2 (fun z => ?_) (fun z => ?_)⟩
      · exact .inr ⟨_, rfl, _, ex, len, done true ⟨fun _ => .inl (by have := of_decide_eq_true z; omega), fun _ => rfl⟩⟩
      · have z : ¬ (j : Int) < 10 := fun y => z (decide_eq_true y)
        refine ⟨_, rfl, _, rfl, _, _, rfl, rfl, (by show CDiv _ 8; exact ⟨by decide, by decide⟩), _, _, rfl, rfl, r, _, _, .ref q, rfl, rfl, .of Gx.out, at_of (j := 2 + j / 8) (by omega) (by rw [List.getElem?_map, hq]; rfl), _, rfl, .inl ⟨_, rfl, _, _, rfl, rfl, (by show (0 : Int) < 8; decide), q, _, _, _, rfl, rfl, .of hH, at_of (j := j % 8) (by omega) (by rw [List.getElem?_map, List.getElem?_eq_getElem lr]; rfl), _, _, rfl, rfl, .inr ⟨_, rfl, _, ex, len, ?_⟩⟩⟩
        exact done (decide (row[j % 8] > 0)) (by rw [ec, decide_eq_true_iff]; constructor; (· exact .inr); (· rintro (h | h); (· omega); (· exact h)))
    rintro H1 ⟨S1, e1⟩
    rw [show (heldL M).take (24 : Int).toNat = heldL M from List.take_of_length_le (by unfold heldL; simp)] at e1
    exact k H1 D S1 hD e1
end
end K09
namespace K09
open PySem PySem.Spec PyProof.Rows L2 Rg
/-! ### the blocks to spare -/
def spL (a st : Int) : List Int := (List.range 14).map fun k : Nat => 10 + (a + (k : Int) * st) % 14
theorem spL_get {a st : Int} {k : Nat} (h : k < 14) : (spL a st)[k]? = some (10 + (a + (k : Int) * st) % 14) := by
  unfold spL
  rw [List.getElem?_map, List.getElem?_range h]
  rfl
theorem spL_nd {a st : Int} (h : st = 1 ∨ st = 3 ∨ st = 5 ∨ st = 9 ∨ st = 11 ∨ st = 13) : (spL a st).Nodup := by
  refine List.nodup_iff_pairwise_ne.mpr ?_
  rw [List.pairwise_iff_getElem]
  intro i j hi hj hij
  have hl : (spL a st).length = 14 := by unfold spL; simp
  have e1 := spL_get (a := a) (st := st) (show i < 14 by omega)
  have e2 := spL_get (a := a) (st := st) (show j < 14 by omega)
  rw [List.getElem?_eq_getElem hi] at e1
  rw [List.getElem?_eq_getElem hj] at e2
  rw [Option.some.inj e1, Option.some.inj e2]
  rcases h with q | q | q | q | q | q <;> (subst q; omega)
theorem spL_in {a st x : Int} (h : x ∈ spL a st) : 10 ≤ x ∧ x < 24 := by
  obtain ⟨k, _, rfl⟩ := List.mem_map.mp h
  omega
section
variable {P : Program} {w : World} {K : PySem.W.Frag} {mg : Str → Option Value} {base : Heap}
def sp_Lspare : Sp := fun vs H Q _ => ∃ (fa : Addr) (fs : List Int), vs = [.ref fa] ∧ H fa = some (.lst (fs.map V.int)) ∧ ∀ (fs' : List Int) (H' : Hp) (q : Addr) (sp : List Int), fs'.length ≤ fs.length → Same (upd H fa (.lst (fs'.map V.int))) H' → H q = none → H' q = some (.lst (sp.map V.int)) → sp.length = 14 → sp.Nodup → (∀ x ∈ sp, 10 ≤ x ∧ x < 24) → Q (.ref q) H'
theorem ok_Lspare (T : Tx K mg) : FnOk P w K mg base CX0 2 T.f_Lspare T.fd_Lspare ["_law_feed_here"] sp_Lspare := by
  refine T.F_Lspare.ok sc_Lspare (fun vs H Q E h => ?_) (fun cdv A outer s H vs Q E hr h => ?_)
  · obtain ⟨_, _, rfl, _⟩ := h; rfl
  · obtain ⟨fa, fs, rfl, hfa, k⟩ := h
    have hr1 : Room 1 _ := hr.mono (by decide)
    refine ⟨_, (pss_cons (ps_set (i := 1) sc_Lspare.nd rfl (.inr rfl) (pe_call (ok_Lpick T) hr1 rfl T.mg_Lpick T.F_Lpick.kp (b_Lpick T) .nil pass0 (pa_cons (pv 0) (pa_cons pe_int pa_nil))))
      (pss_cons (ps_set (i := 2) sc_Lspare.nd rfl (.inr rfl) (pe_ix ix_list (pe_lst (pa_cons pe_int (pa_cons pe_int (pa_cons pe_int (pa_cons pe_int (pa_cons pe_int (pa_cons pe_int pa_nil))))))) (pe_op op_mod (pe_callTy call_int1 rfl T.b_int (by decide +kernel) (pa_cons (pe_op op_fdiv (pv 1) pe_int) pa_nil)) pe_int) (fun _ _ => rfl)))
      (pss_one (ps_ret (pe_lc rfl (own := [("_law_k", 3)]) (g := gName 3) (tt := tYes) sc_Lspare.nd (pi_range1 rfl T.b_range (pa_cons pe_int pa_nil)) (blkOk_by (N := ["_law_feed_here", "_law_start", "_law_step", "_law_k"]) (sc := defScope s_Lspare) (by decide +kernel)) (fun _ _ _ _ _ => pg_name (i := 3) sc_Lspare.nd rfl (Or.inl rfl)) (fun _ _ _ _ _ => pts_nil) (fun _ _ _ _ _ => (pe_op op_add pe_int (pe_op op_mod (pe_callTy call_int1 rfl T.b_int (by decide +kernel) (pa_cons (pe_op op_add (pv 1) (pe_op op_mul (pv 3) (pv 2))) pa_nil)) pe_int)))))))), ?_⟩
    refine ⟨_, rfl, fa, fs, 1000, rfl, hfa, by decide, fun a fs' a0 a1 hl => ?_⟩
    have fr : ∀ {x : Addr}, (upd H fa (.lst (fs'.map V.int))) x = none → H x = none := fun {x} h => by
      by_cases e : x = fa
      · rw [e, upd_same] at h; cases h
      · rw [upd_ne e] at h; exact h
    have k1 := k fs'
    generalize upd H fa (.lst (fs'.map V.int)) = H1 at fr k1 ⊢
    refine ⟨(by show 6 ≤ sizeLine; decide), fun q1 n1 => ?_⟩
    have s1 := same_upd (o := .lst (([1, 3, 5, 9, 11, 13] : List Int).map V.int)) n1
    have e1 : upd H1 q1 (.lst (([1, 3, 5, 9, 11, 13] : List Int).map V.int)) q1 = some (.lst (([1, 3, 5, 9, 11, 13] : List Int).map V.int)) := upd_same
    change Same H1 (upd H1 q1 (.lst [V.int 1, .int 3, .int 5, .int 9, .int 11, .int 13])) at s1
    change (upd H1 q1 (.lst [V.int 1, .int 3, .int 5, .int 9, .int 11, .int 13])) q1 = _ at e1
    generalize upd H1 q1 (.lst [V.int 1, .int 3, .int 5, .int 9, .int 11, .int 13]) = H2 at s1 e1 ⊢
    obtain ⟨j, hj, lj⟩ : ∃ j : Nat, a / 14 % 6 = j ∧ j < 6 := ⟨(a / 14 % 6).toNat, by omega, by omega⟩
    obtain ⟨st, hst, cst⟩ : ∃ st : Int, ([1, 3, 5, 9, 11, 13] : List Int)[j]? = some st ∧ (st = 1 ∨ st = 3 ∨ st = 5 ∨ st = 9 ∨ st = 11 ∨ st = 13) := by
      have : j = 0 ∨ j = 1 ∨ j = 2 ∨ j = 3 ∨ j = 4 ∨ j = 5 := by omega
      rcases this with q | q | q | q | q | q <;> (subst q; exact ⟨_, rfl, by decide⟩)
    refine ⟨_, rfl, _, _, rfl, rfl, (by show CDiv _ 14; exact ⟨by decide, by decide⟩), .inl ⟨_, rfl, _, _, rfl, rfl, (by show (0 : Int) < 6; decide), q1, _, _, .int st, rfl, rfl, .of e1, at_of (j := j) hj (by rw [List.getElem?_map, hst]; rfl), ?_⟩⟩
    refine ⟨14, rfl, by decide, by decide, fun D hD => ?_⟩
    have llen : (spL a st).length = 14 := by unfold spL; simp
    refine lc_range (lo := 0) (n := (14 : Int).toNat) (fun j Hx => Same H2 Hx ∧ Hx D = some (.lst (((spL a st).take j).map V.int))) ⟨same_upd hD, upd_same⟩ ?_ ?_
    · rintro j Hx hj ⟨Sx, ex⟩
      have hj : j < 14 := hj
      refine ⟨rfl, ?_⟩
      refine yes_ ?_
      refine ⟨_, rfl, _, rfl, _, rfl, _, _, rfl, rfl, (by show CMul _ st; exact .inr ⟨by omega, by omega⟩), _, _, rfl, rfl, .inl ⟨_, rfl, _, _, rfl, rfl, (by show (0 : Int) < 14; decide), _, _, rfl, rfl, _, ex, ?_, fun x o e => ?_, ?_⟩⟩
      · rw [List.length_map, List.length_take]
        exact small1000 (by omega)
      · rw [upd_ne (ne_of_none e hD)]
        exact Sx _ _ e
      · rw [upd_same, take_get (spL_get hj), List.map_append, show (0 : Int) + (j : Int) = (j : Int) by omega]
        rfl
    rintro H3 ⟨S3, e3⟩
    rw [show (spL a st).take (14 : Int).toNat = spL a st from List.take_of_length_le (by rw [llen]; decide)] at e3
    exact k1 H3 D (spL a st) hl (s1.trans S3) (fr (s1.free hD)) e3 llen (spL_nd cst) fun x hx => spL_in hx
end
/-! ### a block's words put whole -/
section
variable {b n : Int} {M : List (List Int)} {m : Int} {G : Nat → Int} {C : Nat → List Int} {sz o1 mk : Int}
theorem Fl.fill (A : Fl b n M m G C sz o1 mk) (hl : (M.length : Int) = b) {q : Nat} {c : List Int} (hq : q < 10) (e0 : G q ≠ 0) (hc : c.length = 8) : Fl b n (M.set (G q).toNat c) m G (setB C q c) sz o1 mk := by
  have hf : fdOf b n = 2 + (b + 8 - 1) / 8 + n := rfl
  have hn := nrow_in A.m1 A.b0
  have hnn := A.n1
  have hmm := A.mn
  have hm1 := A.m1
  have pq := A.pf q (by omega) e0
  have ne : ∀ i, i < 13 → G i ≠ 0 → i ≠ q → (G q).toNat ≠ (G i).toNat := fun i hi e hne z => by
    have p := A.pf i hi e
    exact hne (A.nd i q hi (by omega) e (by omega))
  refine { A with r6 := ?_, rt := fun e => ?_, rc := fun i hi e => ?_, c8 := fun i => ?_ }
  · rw [List.getElem?_set_ne (by omega)]
    exact A.r6
  · rw [List.getElem?_set_ne (ne 12 (by decide) e (by omega))]
    exact A.rt e
  · by_cases z : i = q
    · subst z
      rw [List.getElem?_set_self (by omega), setB_at]
    · rw [List.getElem?_set_ne (ne i (by omega) e z), setB_ne z]
      exact A.rc i hi e
  · unfold setB
    split
    · exact hc
    · exact A.c8 i
end
section
variable {b n m mk : Int} {e : Ev} {M0 : List (List Int)} {li : List Int} {M : List (List Int)} {G : Nat → Int} {C : Nat → List Int} {kd us : List Int} {sz : Int} {o1 i : Nat}
theorem Kds.row_ {r : Nat} {c : List Int} (A : Kds b n M kd us li i) (hr : 2 + (b + 8 - 1) / 8 ≤ (r : Int)) (hr2 : (r : Int) < b) (hc : c.length = 8) (hb : 0 ≤ b) : Kds b n (M.set r c) kd us li i :=
  { A with ml := by rw [List.length_set]; exact A.ml, m8 := fun m hm => (mem_set_of hm).elim (fun e => e ▸ hc) (A.m8 m), mp := fun y hy => by rw [cellAt_congr' (List.getElem?_set_ne (by omega))]; exact A.mp y hy, r0 := by rw [List.getElem?_set_ne (by omega)]; exact A.r0 }
theorem Stt.fill (A : Stt b n e m M0 li mk M G C kd us sz o1 i) {q : Nat} {c : List Int} (hq : q < 10) (e0 : G q ≠ 0) (hc : c.length = 8) : Stt b n e m M0 li mk (M.set (G q).toNat c) G (setB C q c) kd us sz o1 i := by
  have pq := A.f.pf q (by omega) e0
  have hf : fdOf b n = 2 + (b + 8 - 1) / 8 + n := rfl
  have n1 := A.k.n1
  have hb := A.f.b0
  have g0 : e.g ((G q).toNat : Int) = 0 := A.g0 (q := q) (by omega) (by omega) (by omega) (by omega)
  exact { A with k := A.k.row_ (by omega) (by omega) hc hb, kp := A.kp.step fun y hy => List.getElem?_set_ne (fun z => by
      rcases hy with h | ⟨h1, h2, h3⟩
      · omega
      · rw [← z] at h3
        exact (h3 (by omega)).2 g0), f := A.f.fill A.k.ml hq e0 hc, zr := fun y h1 h2 hn g => by rw [List.getElem?_set_ne (fun z => hn q (by omega) (by omega))]; exact A.zr y h1 h2 hn g }
end
/-! ### before a file is made -/
structure Bare (e : Ev) (M : List (List Int)) (kd us : List Int) (i : Nat) : Prop where
  k : Kds 24 5 M kd us [0, 0, 0, 0] i
  kq : ∀ x : Nat, fdOf 24 5 ≤ x → (x : Int) < 24 → kd[x]? = some (e.g x)
  fl : ∀ x : Int, fdOf 24 5 ≤ x → x < 24 → (e.g x ≠ 0 ↔ x ∈ e.l)
  zr : ∀ x : Nat, fdOf 24 5 ≤ x → (x : Int) < 24 → e.g x = 0 → M[x]? = some (List.replicate 8 0)
  uq : ∀ o, o < 4 → us[o]? = some (e.u o)
theorem Bare.start {e : Ev} {M : List (List Int)} {kd us : List Int} {i : Nat} (B : Bare e M kd us i) {m mk : Int} {o1 : Nat} (h1 : 1 ≤ m) (h5 : m ≤ 5) (ho : o1 < 4) : Stt 24 5 e m M [0, 0, 0, 0] mk (M.set (nrow 24 m) [1, 1, 0, (o1 : Int), 0, 0, 0, mk]) (fun _ => 0) (fun _ => List.replicate 8 0) kd us 0 o1 i := by
  have hf : fdOf 24 5 = 10 := by decide
  have hn := nr24 h1
  have ml := B.k.ml
  refine { k := B.k.row_ (by omega) (by omega) rfl (by decide), f := ?_, kp := ?_, kq := fun x a b => ⟨?_, ?_, fun _ => B.kq x a b⟩, ff := fun x a b _ j _ => ?_, fl := B.fl, zr := fun x a b _ g => ?_, uq := fun o h => ?_, o4 := ho, s0 := by decide, s8 := by decide }
  · exact ⟨List.getElem?_set_self (by omega), fun h => absurd rfl h, fun _ _ h => absurd rfl h, fun _ => List.length_replicate, by decide, h1, h5, by decide, fun _ _ h => absurd rfl h, fun _ _ _ _ h => absurd rfl h, fun _ _ _ _ => rfl, ⟨rfl, rfl⟩⟩
  · intro y hy
    refine List.getElem?_set_ne fun z => ?_
    rcases hy with h | ⟨_, h2, _⟩
    · omega
    · exact h2 z.symm
  · rintro ⟨j, _, h⟩
    have h : (0 : Int) = x := h
    omega
  · intro h
    have h : (0 : Int) = x := h
    omega
  · show (0 : Int) ≠ x
    omega
  · rw [List.getElem?_set_ne (by omega)]
    exact B.zr x a b g
  · rw [B.uq o h]
    congr 1
    by_cases z : o = o1
    · rw [if_pos z]
      show _ = e.u o + 0
      omega
    · rw [if_neg z]
      omega
def ev0 : Ev := ⟨fun _ => 0, fun _ => 0, []⟩
def kd0 : List Int := List.replicate 10 1 ++ List.replicate 14 0
theorem kds_base : Kds 24 5 baseM kd0 [0, 0, 0, 0] [0, 0, 0, 0] 0 := by
  have mp : ∀ x : Nat, x < 24 → cellAt baseM (2 + x / 8) (x % 8) = (kd0[x]?).getD 0 := by decide +kernel
  have kf : ∀ x : Nat, x < 10 → kd0[x]? = some 1 := by decide +kernel
  have hf : fdOf 24 5 = 10 := by decide
  refine ⟨by decide, by decide, by decide, by decide +kernel, by decide, fun x h => kf x (by omega), fun x k h => ?_, fun x h => mp x (by omega), rfl, rfl, rfl, by decide⟩
  have := List.mem_of_getElem? h
  unfold kd0 at this
  rcases List.mem_append.mp this with q | q
  · exact .inr (.inl (List.eq_of_mem_replicate q))
  · exact .inl (List.eq_of_mem_replicate q)
theorem bare_base : Bare ev0 baseM kd0 [0, 0, 0, 0] 0 := by
  have hf : fdOf 24 5 = 10 := by decide
  have kz : ∀ x : Nat, x < 24 → 10 ≤ x → kd0[x]? = some 0 ∧ baseM[x]? = some (List.replicate 8 0) := by decide +kernel
  refine ⟨kds_base, fun x a b => (kz x (by omega) (by omega)).1, fun x _ _ => ⟨fun h => absurd rfl h, fun h => absurd h List.not_mem_nil⟩, fun x a b _ => (kz x (by omega) (by omega)).2, fun o h => ?_⟩
  have : o = 0 ∨ o = 1 ∨ o = 2 ∨ o = 3 := by omega
  rcases this with q | q | q | q <;> (subst q; rfl)
/-- the second file's beginning -/
theorem Stt.bare {m mk sz : Int} {M0 M : List (List Int)} {G : Nat → Int} {C : Nat → List Int} {kd us : List Int} {o1 i : Nat} (S : Stt 24 5 ev0 m M0 [0, 0, 0, 0] mk M G C kd us sz o1 i) : Bare (evOf G o1) M kd us i := by
  have hf : fdOf 24 5 = 10 := by decide
  have ne : ∀ x : Int, x ≠ 0 → ((evOf G o1).g x ≠ 0 ↔ ∃ i, i < 13 ∧ G i = x) := fun x h => evOf_ne S.f.z1 h
  refine ⟨S.k, fun x a b => ?_, fun x a b => ?_, fun x a b g => ?_, fun o h => ?_⟩
  · obtain ⟨h1, h2, h3⟩ := S.kq x a b
    show _ = some (if (x : Int) ∈ plL G then (2 : Int) else if G 12 = (x : Int) then 1 else 0)
    by_cases z : (x : Int) ∈ plL G
    · rw [if_pos z]
      exact h1 (plL_mem.mp z)
    · rw [if_neg z]
      by_cases y : G 12 = (x : Int)
      · rw [if_pos y]
        exact h2 y
      · rw [if_neg y, h3 fun i hi w => ?_]
        · rfl
        · have := S.f.z1
          by_cases q : i < 10
          · exact z (plL_mem.mpr ⟨i, q, w⟩)
          · have : i = 10 ∨ i = 11 ∨ i = 12 := by omega
            rcases this with r | r | r
            · subst r; omega
            · subst r; omega
            · subst r; exact y w
  · rw [ne x (by omega)]
    show _ ↔ x ∈ fileD G
    rw [fileD_mem]
    have := S.f.z1
    constructor
    · rintro ⟨i, hi, w⟩
      refine ⟨by omega, i, ?_, w⟩
      by_cases q : i < 10
      · exact .inl q
      · have : i = 10 ∨ i = 11 ∨ i = 12 := by omega
        rcases this with r | r | r
        · subst r; omega
        · subst r; omega
        · exact .inr r
    · rintro ⟨_, i, hi, w⟩
      exact ⟨i, by omega, w⟩
  · refine S.zr x a b (fun i hi w => ?_) rfl
    exact (ne (x : Int) (by omega)).mpr ⟨i, hi, w⟩ g
  · rw [S.uq o h]
    show some ((0 : Int) + _) = some (if o = o1 then cntG G else 0)
    congr 1
    omega
end K09
namespace K09
open PySem PySem.Spec PyProof.Rows L2 Rg
/-! ### the rows, the feed and the blocks to spare, all apart -/
structure Bu (H : Hp) (r : Addr) (rs : List Addr) (M : List (List Int)) (fa : Addr) (fs : List Int) (sq : Addr) (sp : List Int) : Prop where
  g : Grid H r rs M
  ml : M.length = 24
  m8 : ∀ m ∈ M, m.length = 8
  f : H fa = some (.lst (fs.map V.int))
  s : H sq = some (.lst (sp.map V.int))
  fr : fa ≠ r
  fn : fa ∉ rs
  sr : sq ≠ r
  sn : sq ∉ rs
  ne : fa ≠ sq
section
variable {H H' : Hp} {r : Addr} {rs : List Addr} {M : List (List Int)} {fa : Addr} {fs : List Int} {sq : Addr} {sp : List Int}
theorem Bu.same (B : Bu H r rs M fa fs sq sp) (s : Same H H') : Bu H' r rs M fa fs sq sp := { B with g := B.g.same s, f := s _ _ B.f, s := s _ _ B.s }
theorem Bu.feed (B : Bu H r rs M fa fs sq sp) {fs' : List Int} : Bu (upd H fa (.lst (fs'.map V.int))) r rs M fa fs' sq sp :=
  { B with g := B.g.keep fun b o hb e => by rw [upd_ne (by rcases hb with z | z; (· rw [z]; exact fun y => B.fr y.symm); (· exact fun y => B.fn (by rw [← y]; exact z)))]; exact e, f := upd_same, s := by rw [upd_ne (fun z => B.ne z.symm)]; exact B.s }
theorem Bu.spare (B : Bu H r rs M fa fs sq sp) {sp' : List Int} : Bu (upd H sq (.lst (sp'.map V.int))) r rs M fa fs sq sp' :=
  { B with g := B.g.keep fun b o hb e => by rw [upd_ne (by rcases hb with z | z; (· rw [z]; exact fun y => B.sr y.symm); (· exact fun y => B.sn (by rw [← y]; exact z)))]; exact e, f := by rw [upd_ne B.ne]; exact B.f, s := upd_same }
theorem Bu.rows (B : Bu H r rs M fa fs sq sp) {M' : List (List Int)} (G : Grid H' r rs M') (k : Kp rs H H') (m8 : ∀ m ∈ M', m.length = 8) : Bu H' r rs M' fa fs sq sp :=
  { B with g := G, ml := by rw [← G.len, B.g.len]; exact B.ml, m8 := m8, f := k _ _ B.f B.fn, s := k _ _ B.s B.sn }
theorem Bu.swap (B : Bu H r rs M fa fs sq sp) {H1 : Hp} {i : Nat} {q : Addr} {m : List Int} (s1 : Same H H1) (hq : H q = none) (h1 : H1 q = some (.lst (m.map V.int))) (l8 : m.length = 8) : Bu (upd H1 r (.lst ((rs.map V.ref).set i (V.ref q)))) r (rs.set i q) (M.set i m) fa fs sq sp :=
  { B with g := B.g.swap s1 hq h1, ml := by rw [List.length_set]; exact B.ml, m8 := fun x hx => (mem_set_of hx).elim (fun e => e ▸ l8) (B.m8 x), f := by rw [upd_ne B.fr]; exact s1 _ _ B.f, s := by rw [upd_ne B.sr]; exact s1 _ _ B.s, fn := fun z => (mem_set_of z).elim (fun e => ne_of_none B.f hq e) B.fn, sn := fun z => (mem_set_of z).elim (fun e => ne_of_none B.s hq e) B.sn }
end
/-! ### what is left to spare is free -/
def SpOk (sp kd : List Int) : Prop := sp.Nodup ∧ ∀ x ∈ sp, 10 ≤ x ∧ x < 24 ∧ kd[x.toNat]? = some 0
theorem SpOk.pop {sp kd : List Int} {x k : Int} (h : SpOk (sp ++ [x]) kd) : (10 ≤ x ∧ x < 24 ∧ kd[x.toNat]? = some 0) ∧ SpOk sp (kd.set x.toNat k) := by
  obtain ⟨hn, hx⟩ := h
  have nd := List.nodup_append.mp hn
  have px := hx x (List.mem_append.mpr (.inr (List.mem_singleton.mpr rfl)))
  refine ⟨px, nd.1, fun y hy => ?_⟩
  have py := hx y (List.mem_append.mpr (.inl hy))
  have ne : y ≠ x := nd.2.2 y hy x (List.mem_singleton.mpr rfl)
  exact ⟨py.1, py.2.1, by rw [List.getElem?_set_ne (by omega)]; exact py.2.2⟩
theorem clM_put {M : List (List Int)} {x o r : Nat} {k y : Int} (h0 : r ≠ 0) (hr : r ≠ 2 + x / 8) : clM (setC M r 6 y) x k o = setC (clM M x k o) r 6 y := by
  unfold clM
  rw [cellAt_setC_row h0, ← setC_comm (fun z => hr z.symm), ← setC_comm (fun z => h0 z.symm)]
theorem clM_m8 {M : List (List Int)} {x o : Nat} {k : Int} (ml : M.length = 24) (m8 : ∀ m ∈ M, m.length = 8) (hx : x < 24) : ∀ m ∈ clM M x k o, m.length = 8 := by
  unfold clM
  refine setC_m8' (setC_m8' m8 (by omega)) ?_
  rw [setC_len]
  omega
def wdL (x o : Int) : List Int := (List.range 8).map fun c : Nat => 100 * x + 10 * o + (c : Int) + 1
theorem wdL_get {x o : Int} {c : Nat} (h : c < 8) : (wdL x o)[c]? = some (100 * x + 10 * o + (c : Int) + 1) := by
  unfold wdL
  rw [List.getElem?_map, List.getElem?_range h]
  rfl
theorem wdL_len {x o : Int} : (wdL x o).length = 8 := by unfold wdL; simp
/-! ### one turn of the file's making -/
structure Mk (H : Hp) (r fa : Addr) (fs : List Int) (sq qn : Addr) (e : Ev) (m : Int) (M0 : List (List Int)) (mk : Int) (o1 : Nat) (rs : List Addr) (M : List (List Int)) (G : Nat → Int) (C : Nat → List Int) (kd us : List Int) (i : Nat) (sp : List Int) : Prop where
  b : Bu H r rs M fa fs sq sp
  qn : rs[nrow 24 m]? = some qn
  S : Stt 24 5 e m M0 [0, 0, 0, 0] mk M G C kd us 0 o1 i
  sp : SpOk sp kd
theorem Mk.same {H H' : Hp} {r fa : Addr} {fs : List Int} {sq qn : Addr} {e : Ev} {m : Int} {M0 : List (List Int)} {mk : Int} {o1 : Nat} {rs : List Addr} {M : List (List Int)} {G : Nat → Int} {C : Nat → List Int} {kd us : List Int} {i : Nat} {sp : List Int} (A : Mk H r fa fs sq qn e m M0 mk o1 rs M G C kd us i sp) (s : Same H H') : Mk H' r fa fs sq qn e m M0 mk o1 rs M G C kd us i sp := { A with b := A.b.same s }
theorem Mk.node {H : Hp} {r fa : Addr} {fs : List Int} {sq qn : Addr} {e : Ev} {m : Int} {M0 : List (List Int)} {mk : Int} {o1 : Nat} {rs : List Addr} {M : List (List Int)} {G : Nat → Int} {C : Nat → List Int} {kd us : List Int} {i : Nat} {sp : List Int} (A : Mk H r fa fs sq qn e m M0 mk o1 rs M G C kd us i sp) : H qn = some (.lst (([1, 1, 0, (o1 : Int), G 0, G 1, G 12, mk] : List Int).map V.int)) :=
  A.b.g.row _ _ _ A.qn A.S.f.r6
section
variable {P : Program} {w : World} {K : PySem.W.Frag} {mg : Str → Option Value} {base : Heap}
def sp_Lfile : Sp := fun vs H Q _ => ∃ (r : Addr) (rs : List Addr) (M : List (List Int)) (fa : Addr) (fs : List Int) (sq : Addr) (sp : List Int) (m : Int) (e : Ev) (kd us : List Int) (i : Nat), vs = [.ref r, .ref fa, .int m, .ref sq] ∧ Bu H r rs M fa fs sq sp ∧ Bare e M kd us i ∧ SpOk sp kd ∧ sp.length ≤ 14 ∧ 1 ≤ m ∧ m ≤ 5 ∧
  ∀ H' rs' M' fs' sp' G C kd' us' sz i' o1, Bu H' r rs' M' fa fs' sq sp' → Stt 24 5 e m M [0, 0, 0, 0] (1 + m) M' G C kd' us' sz o1 i' → Te G → SpOk sp' kd' → sp'.length ≤ 14 → fs'.length ≤ fs.length → Q .non H'
theorem ok_Lfile (T : Tx K mg) : FnOk P w K mg base CX0 2 T.f_Lfile T.fd_Lfile ["_law_rows", "_law_feed_here", "_law_n", "_law_spare_here"] sp_Lfile := by
  refine T.F_Lfile.ok sc_Lfile (fun vs H Q E h => ?_) (fun cdv A0_ outer s H vs Q E hr h => ?_)
  · obtain ⟨_, _, _, _, _, _, _, _, _, _, _, _, rfl, _⟩ := h; rfl
  · obtain ⟨r, rs, M, fa, fs, sq, sp, m, e, kd, us, ii, rfl, B, Br, so, sl, m1, m5, k⟩ := h
    have hr1 : Room 1 _ := hr.mono (by decide)
    refine ⟨_, (pss_cons (ps_set (i := 4) sc_Lfile.nd rfl (.inl rfl) (pe_call (ok_Lpick T) hr1 rfl T.mg_Lpick T.F_Lpick.kp (b_Lpick T) .nil pass0 (pa_cons (pv 1) (pa_cons pe_int pa_nil))))
      (pss_cons (ps_set (i := 5) sc_Lfile.nd rfl (.inl rfl) (pe_call (ok_Lpick T) hr1 rfl T.mg_Lpick T.F_Lpick.kp (b_Lpick T) .nil pass0 (pa_cons (pv 1) (pa_cons pe_int pa_nil))))
      (pss_cons (ps_set (i := 6) sc_Lfile.nd rfl (.inl rfl) (pe_call (ok_Lpick T) hr1 rfl T.mg_Lpick T.F_Lpick.kp (b_Lpick T) .nil pass0 (pa_cons (pv 1) (pa_cons pe_int pa_nil))))
      (Evl.pss_cut (ps_if (pt_cmpR op_eq (pe_op op_mod (pe_callTy call_int1 rfl T.b_int (by decide +kernel) (pa_cons (pe_op op_fdiv (pv 4) pe_int) pa_nil)) pe_int) pe_int (nomark _))
        (pss_one (ps_set (i := 5) sc_Lfile.nd rfl (.inl rfl) (pe_op op_sub pe_int (pv 5))))
        pss_nil)
      (pss_cons (ps_set (i := 7) sc_Lfile.nd rfl (.inl rfl) (pe_op op_mod (pe_callTy call_int1 rfl T.b_int (by decide +kernel) (pa_cons (pv 4) pa_nil)) pe_int))
      (pss_cons (ps_asg (pe_lst (pa_cons pe_int (pa_cons pe_int (pa_cons pe_int (pa_cons (pv 7) (pa_cons pe_int (pa_cons pe_int (pa_cons pe_int (pa_cons (pe_op op_add pe_int (pv 2)) pa_nil))))))))) (pg_sub (pv 0) (pe_op op_add pe_int (pv 2)) set_list))
      (pss_cons (ps_set (i := 8) sc_Lfile.nd rfl (.inl rfl) (pe_ix ix_list (pv 0) (pe_op op_add pe_int (pv 2)) (fun _ _ => rfl)))
      (pss_cons (ps_set (i := 9) sc_Lfile.nd rfl (.inl rfl) pe_int)
      (pss_cons (ps_for PassesOwn.never rfl (pi_range1 rfl T.b_range (pa_cons pe_int pa_nil)) (pg_name (i := 10) sc_Lfile.nd rfl (.inr rfl))
        (pss_cons (ps_set (i := 11) sc_Lfile.nd rfl (.inl rfl) (pe_cmpR op_eq (pe_op op_mod (pe_callTy call_int1 rfl T.b_int (by decide +kernel) (pa_cons (pe_op op_fdiv (pv 5) (pe_ix ix_list (pe_lst (pa_cons pe_int (pa_cons pe_int (pa_cons pe_int (pa_cons pe_int (pa_cons pe_int (pa_cons pe_int (pa_cons pe_int (pa_cons pe_int (pa_cons pe_int (pa_cons pe_int pa_nil))))))))))) (pv 10) (fun _ _ => rfl))) pa_nil)) pe_int) pe_int (nomark _)))
        (Evl.pss_cut (ps_if (PW.pt (pw_and (pt_val (pv 11)) (pw_and (pt_cmpR op_gt (pv 10) pe_int (nomark _)) (pw_and (pt_cmpR op_eq (pe_ix ix_list (pv 8) pe_int (fun _ _ => rfl)) pe_int (nomark _)) (pw_and1 (pt_cmpR op_gt (pe_callB call_len_seq rfl T.b_len (by decide +kernel) (pa_cons (pv 3) pa_nil)) pe_int (nomark _)))))))
          (pss_cons (ps_asg (pe_bm0 PySem.F.plainAttrs_list PySem.F.slot_list_pop PySem.F.type_list_pop mt_pop (pv 3)) (pg_sub (pv 8) pe_int set_list))
          (pss_one (ps_expr (pe_call (ok_Lclaim T) hr1 rfl T.mg_Lclaim T.F_Lclaim.kp (b_Lclaim T) .nil pass0 (pa_cons (pv 0) (pa_cons (pe_ix ix_list (pv 8) pe_int (fun _ _ => rfl)) (pa_cons pe_int (pa_cons (pv 7) pa_nil))))))))
          pss_nil)
        (pss_one (ps_if (PW.pt (pw_and (pt_val (pv 11)) (pw_and (pt_cmpR op_gt (pe_callB call_len_seq rfl T.b_len (by decide +kernel) (pa_cons (pv 3) pa_nil)) pe_int (nomark _)) (pw_and1 (PW.pt (pw_or (pt_cmpR op_lt (pv 10) pe_int (nomark _)) (pw_or1 (pt_cmpR op_gt (pe_ix ix_list (pv 8) pe_int (fun _ _ => rfl)) pe_int (nomark _)))))))))
          (pss_cons (ps_set (i := 12) sc_Lfile.nd rfl (.inr rfl) (pe_bm0 PySem.F.plainAttrs_list PySem.F.slot_list_pop PySem.F.type_list_pop mt_pop (pv 3)))
          (pss_cons (ps_expr (pe_call (ok_Lclaim T) hr1 rfl T.mg_Lclaim T.F_Lclaim.kp (b_Lclaim T) .nil pass0 (pa_cons (pv 0) (pa_cons (pv 12) (pa_cons pe_int (pa_cons (pv 7) pa_nil))))))
          (pss_cons (ps_expr (pe_call (ok_Lput T) hr1 rfl T.mg_Lput T.F_Lput.kp (b_Lput T) .nil pass0 (pa_cons (pv 0) (pa_cons (pv 2) (pa_cons (pv 10) (pa_cons (pv 12) pa_nil))))))
          (pss_cons (ps_asg (pe_lc rfl (own := [("_law_c", 13)]) (g := gName 13) (tt := tYes) sc_Lfile.nd (pi_range1 rfl T.b_range (pa_cons pe_int pa_nil)) (blkOk_by (N := ["_law_rows", "_law_feed_here", "_law_n", "_law_spare_here", "_law_code", "_law_mask", "_law_spot", "_law_owner", "_law_node", "_law_last", "_law_o", "_law_held_here", "_law_x", "_law_c"]) (sc := defScope s_Lfile) (by decide +kernel)) (fun _ _ _ _ _ => pg_name (i := 13) sc_Lfile.nd rfl (Or.inl rfl)) (fun _ _ _ _ _ => pts_nil) (fun _ _ _ _ _ => (pe_op op_add (pe_op op_add (pe_op op_add (pe_op op_mul pe_int (pv 12)) (pe_op op_mul pe_int (pv 10))) (pv 13)) pe_int))) (pg_sub (pv 0) (pv 12) set_list))
          (pss_one (ps_set (i := 9) sc_Lfile.nd rfl (.inl rfl) (pe_op op_add (pv 10) pe_int)))))))
          pss_nil)))))
      (pss_cons (ps_asg (pe_op op_mod (pe_callTy call_int1 rfl T.b_int (by decide +kernel) (pa_cons (pv 6) pa_nil)) pe_int) (pg_sub (pv 8) pe_int set_list))
      (pss_one (ps_if (PW.pt (pw_and (pt_cmpR op_eq (pe_op op_mod (pe_callTy call_int1 rfl T.b_int (by decide +kernel) (pa_cons (pv 6) pa_nil)) pe_int) pe_int (nomark _)) (pw_and1 (pt_cmpR op_gt (pv 9) pe_int (nomark _)))))
        (pss_one (ps_asg (pe_op op_sub (pe_op op_mul pe_int (pv 9)) (pe_op op_mod (pe_callTy call_int1 rfl T.b_int (by decide +kernel) (pa_cons (pe_op op_fdiv (pv 6) pe_int) pa_nil)) pe_int)) (pg_sub (pv 8) pe_int set_list)))
        pss_nil)))))))))))), ?_⟩
    have hf : fdOf 24 5 = 10 := by decide
    have hn := nr24 m1
    -- code, mask, spot
    refine ⟨_, rfl, fa, fs, 1000, rfl, B.f, by decide, fun code f1 c0 c1 fl1 => ?_⟩
    have B1 := B.feed (fs' := f1)
    generalize upd H fa (.lst (f1.map V.int)) = H1 at B1 ⊢
    refine ⟨_, rfl, fa, f1, 1000, rfl, B1.f, by decide, fun mask f2 a0 a1 fl2 => ?_⟩
    have B2 := B1.feed (fs' := f2)
    generalize upd H1 fa (.lst (f2.map V.int)) = H2 at B2 ⊢
    refine ⟨_, rfl, fa, f2, 1000, rfl, B2.f, by decide, fun spot f3 p0 p1 fl3 => ?_⟩
    have B3 := B2.feed (fs' := f3)
    generalize upd H2 fa (.lst (f3.map V.int)) = H3 at B3 ⊢
    have fl : f3.length ≤ fs.length := by omega
    refine ⟨fun σ H' => ∃ mk2 : Int, σ = [some (.ref r), some (.ref fa), some (.int m), some (.ref sq), some (.int code), some (.int mk2), some (.int spot), none, none, none, none, none, none, none] ∧ H3 = H', ?_, ?_⟩
    · refine ⟨_, rfl, _, _, rfl, rfl, (by show CDiv _ 4; exact ⟨by decide, by decide⟩), .inl ⟨_, rfl, _, _, rfl, rfl, (by show (0 : Int) < 2; decide), rfl, _, rfl, ite2 (fun _ => ?_) (fun _ => ?_)⟩⟩
      · exact ⟨_, rfl, _, _, rfl, rfl, _, rfl, rfl⟩
      · exact ⟨_, rfl, rfl⟩
    rintro σ H' ⟨mk2, rfl, rfl⟩
    -- the owner, the node's row
    obtain ⟨o1, ho1, lo1⟩ : ∃ o : Nat, code % 4 = o ∧ o < 4 := ⟨(code % 4).toNat, by omega, by omega⟩
    refine ⟨_, rfl, .inl ⟨_, rfl, _, _, rfl, rfl, (by show (0 : Int) < 4; decide), ?_⟩⟩
    change gName 7 (V.int (code % 4)) _ _ _
    rw [ho1]
    refine ⟨_, rfl, _, rfl, _, _, rfl, rfl, (by show 8 ≤ sizeLine; decide), fun qn nqn => ?_⟩
    have sn := same_upd (o := .lst (([1, 1, 0, (o1 : Int), 0, 0, 0, 1 + m] : List Int).map V.int)) nqn
    have en : upd H3 qn (.lst (([1, 1, 0, (o1 : Int), 0, 0, 0, 1 + m] : List Int).map V.int)) qn = some (.lst (([1, 1, 0, (o1 : Int), 0, 0, 0, 1 + m] : List Int).map V.int)) := upd_same
    have B4 := B3.swap (i := nrow 24 m) sn nqn en rfl
    have lrs : rs.length = 24 := by rw [B3.g.len]; exact B3.ml
    have hnl : nrow 24 m < 24 := by omega
    refine ⟨_, rfl, _, rfl, _, _, rfl, rfl, r, _, _, nrow 24 m, rfl, rfl, sn _ _ B3.g.out, ixN_nat (by omega) (by rw [List.length_map, lrs]; exact hnl), ?_⟩
    change Bu (upd (upd H3 qn (.lst [V.int 1, .int 1, .int 0, .int (o1 : Int), .int 0, .int 0, .int 0, .int (1 + m)])) r (.lst ((rs.map V.ref).set (nrow 24 m) (V.ref qn)))) _ _ _ _ _ _ _ at B4
    generalize upd (upd H3 qn (.lst [V.int 1, .int 1, .int 0, .int (o1 : Int), .int 0, .int 0, .int 0, .int (1 + m)])) r (.lst ((rs.map V.ref).set (nrow 24 m) (V.ref qn))) = H4 at B4 ⊢
    have hqn : (rs.set (nrow 24 m) qn)[nrow 24 m]? = some qn := List.getElem?_set_self (by omega)
    refine ⟨_, rfl, _, rfl, _, _, rfl, rfl, r, _, _, .ref qn, rfl, rfl, .of B4.g.out, at_of (j := nrow 24 m) (by omega) (by rw [List.getElem?_map, hqn]; rfl), ?_⟩
    have A4 : Mk H4 r fa f3 sq qn e m M (1 + m) o1 (rs.set (nrow 24 m) qn) (M.set (nrow 24 m) [1, 1, 0, (o1 : Int), 0, 0, 0, 1 + m]) (fun _ => 0) (fun _ => List.replicate 8 0) kd us ii sp := ⟨B4, hqn, Br.start m1 m5 lo1, so⟩
    -- the places one by one
    refine ⟨10, rfl, by decide, by decide, for_range (lo := 0) (n := (10 : Int).toNat) (fun o σ H' => ∃ (u10 u11 u12 : Option V) (last : Nat) (rs' : List Addr) (M' : List (List Int)) (G : Nat → Int) (C : Nat → List Int) (kd' us' : List Int) (i' : Nat) (sp' : List Int), σ = [some (.ref r), some (.ref fa), some (.int m), some (.ref sq), some (.int code), some (.int mk2), some (.int spot), some (.int (o1 : Int)), some (.ref qn), some (.int (last : Int)), u10, u11, u12, none] ∧ Mk H' r fa f3 sq qn e m M (1 + m) o1 rs' M' G C kd' us' i' sp' ∧ Te G ∧ (∀ j, o ≤ j → j < 10 → G j = 0) ∧ last ≤ 10 ∧ sp'.length ≤ 14) ⟨_, _, _, 0, _, _, _, _, _, _, _, _, rfl, A4, fun h => absurd rfl h, fun _ _ _ => rfl, by decide, sl⟩ ?_ ?_⟩
    · rintro o σ H' ho ⟨u10, u11, u12, last, rs1, M1, G, C, kd1, us1, i1, sp1, rfl, A, te, gz, ll, sl1⟩
      have ho : o < 10 := ho
      have eo : (0 : Int) + (o : Int) = o := by omega
      rw [eo]
      -- whether the mask asks for it
      refine ⟨_, rfl, (by show 10 ≤ sizeLine; decide), fun q1 n1 => ?_⟩
      have s1 := same_upd (o := .lst (([1, 2, 4, 8, 16, 32, 64, 128, 256, 512] : List Int).map V.int)) n1
      have e1 : upd H' q1 (.lst (([1, 2, 4, 8, 16, 32, 64, 128, 256, 512] : List Int).map V.int)) q1 = some (.lst (([1, 2, 4, 8, 16, 32, 64, 128, 256, 512] : List Int).map V.int)) := upd_same
      change Same H' (upd H' q1 (.lst [V.int 1, .int 2, .int 4, .int 8, .int 16, .int 32, .int 64, .int 128, .int 256, .int 512])) at s1
      change (upd H' q1 (.lst [V.int 1, .int 2, .int 4, .int 8, .int 16, .int 32, .int 64, .int 128, .int 256, .int 512])) q1 = _ at e1
      generalize upd H' q1 (.lst [V.int 1, .int 2, .int 4, .int 8, .int 16, .int 32, .int 64, .int 128, .int 256, .int 512]) = H1 at s1 e1 ⊢
      obtain ⟨pw, hpw, cpw⟩ : ∃ pw : Int, ([1, 2, 4, 8, 16, 32, 64, 128, 256, 512] : List Int)[o]? = some pw ∧ 0 < pw ∧ pw < 1073741824 := by
        have : o = 0 ∨ o = 1 ∨ o = 2 ∨ o = 3 ∨ o = 4 ∨ o = 5 ∨ o = 6 ∨ o = 7 ∨ o = 8 ∨ o = 9 := by omega
        rcases this with q | q | q | q | q | q | q | q | q | q <;> (subst q; exact ⟨_, rfl, by decide, by decide⟩)
      refine ⟨_, rfl, q1, _, _, .int pw, rfl, rfl, .of e1, at_of (j := o) rfl (by rw [List.getElem?_map, hpw]; rfl), _, _, rfl, rfl, (by show CDiv _ pw; exact cpw), .inl ⟨_, rfl, _, _, rfl, rfl, (by show (0 : Int) < 2; decide), rfl, ?_⟩⟩
      obtain ⟨hb, ehb⟩ : ∃ b : Bool, decide (V.int (mk2 / pw % 2) = V.int 1) = b := ⟨_, rfl⟩
      change gName 11 (.bl (decide (V.int (mk2 / pw % 2) = V.int 1))) _ _ _
      rw [ehb]
      have A1 := A.same s1
      clear A e1 s1
      -- the table
      refine ⟨fun σ H'' => ∃ (u12 : Option V) (rs' : List Addr) (M' : List (List Int)) (G : Nat → Int) (C : Nat → List Int) (kd' us' : List Int) (i' : Nat) (sp' : List Int), σ = [some (.ref r), some (.ref fa), some (.int m), some (.ref sq), some (.int code), some (.int mk2), some (.int spot), some (.int (o1 : Int)), some (.ref qn), some (.int (last : Int)), some (.int (o : Int)), some (.bl hb), u12, none] ∧ Mk H'' r fa f3 sq qn e m M (1 + m) o1 rs' M' G C kd' us' i' sp' ∧ (Te G ∨ (hb = true ∧ 2 ≤ o ∧ G 12 ≠ 0 ∧ 0 < sp'.length)) ∧ (∀ j, o ≤ j → j < 10 → G j = 0) ∧ sp'.length ≤ 14, ?_, ?_⟩
      · refine ⟨_, rfl, _, rfl, ?_⟩
        cases hb with
        | false => exact iteF ⟨_, _, _, _, _, _, _, _, _, rfl, A1, .inl te, gz, sl1⟩
        | true =>
          refine iteT ⟨_, rfl, _, _, rfl, rfl, _, rfl, ?_⟩
          by_cases z : (o : Int) > 1
          · rw [decide_eq_true z]
            refine iteT ⟨_, rfl, qn, _, 6, .int (G 12), rfl, rfl, .of A1.node, atI_nat (j := 6) rfl, rfl, _, rfl, ?_⟩
            rw [dec_iv]
            by_cases y : G 12 = 0
            · rw [decide_eq_true y]
              refine iteT ⟨_, rfl, sq, _, rfl, .inl (.of A1.b.s), _, _, rfl, rfl, _, rfl, ?_⟩
              rw [List.length_map]
              by_cases g1 : (sp1.length : Int) > 1
              · rw [decide_eq_true g1]
                obtain ⟨sp2, xx, rfl⟩ : ∃ l x, sp1 = l ++ [x] := by
                  rcases List.eq_nil_or_concat sp1 with q | ⟨l, x, q⟩
                  · rw [q] at g1; exact absurd g1 (by decide)
                  · exact ⟨l, x, by rw [q, List.concat_eq_append]⟩
                obtain ⟨⟨x10, x24, kx⟩, so2⟩ := A1.sp.pop (k := 1)
                obtain ⟨x, rfl⟩ : ∃ x : Nat, xx = x := ⟨xx.toNat, by omega⟩
                have ex : ((x : Int)).toNat = x := by omega
                rw [ex] at kx so2
                have edl : ((sp2 ++ [(x : Int)]).map V.int).dropLast = sp2.map V.int := by rw [List.map_append]; simp
                have elast : ((sp2 ++ [(x : Int)]).map V.int)[((sp2 ++ [(x : Int)]).map V.int).length - 1]? = some (.int x) := by rw [List.map_append]; simp
                refine iteT ⟨_, rfl, .inl ⟨rfl, _, .inl (.inl A1.b.s)⟩, sq, _, _, rfl, rfl, A1.b.s, elast, ?_⟩
                rw [edl]
                have B2 := A1.b.spare (sp' := sp2)
                generalize upd H1 sq (.lst (sp2.map V.int)) = H2 at B2 ⊢
                have row2 : H2 qn = some (.lst (([1, 1, 0, (o1 : Int), G 0, G 1, G 12, 1 + m] : List Int).map V.int)) := B2.g.row _ _ _ A1.qn A1.S.f.r6
                refine ⟨_, rfl, qn, _, _, 6, rfl, rfl, row2, ixN_nat rfl (by show 6 < 8; decide), ?_⟩
                rw [← List.map_set]
                have G3 := B2.g.setc (j := 6) (x := (x : Int)) A1.qn A1.S.f.r6
                have B3 := B2.rows G3 (Kp.refl.own (List.mem_of_getElem? A1.qn)) (setC_m8' B2.m8 (by rw [B2.ml]; exact hnl))
                have row3 : (upd H2 qn (.lst ((([1, 1, 0, (o1 : Int), G 0, G 1, G 12, 1 + m] : List Int).set 6 (x : Int)).map V.int))) qn = some (.lst ((([1, 1, 0, (o1 : Int), G 0, G 1, G 12, 1 + m] : List Int).set 6 (x : Int)).map V.int)) := upd_same
                generalize upd H2 qn (.lst ((([1, 1, 0, (o1 : Int), G 0, G 1, G 12, 1 + m] : List Int).set 6 (x : Int)).map V.int)) = H3' at B3 row3 ⊢
                refine ⟨_, rfl, _, rfl, qn, _, 6, .int (x : Int), rfl, rfl, .of row3, atI_nat (j := 6) rfl, _, rfl, r, rs1, _, x, o1, 1, rfl, B3.g, B3.ml, B3.m8, by omega, by omega, lo1, fun H4' G4 k4 => ?_⟩
                have B4' := B3.rows G4 k4 (clM_m8 B3.ml B3.m8 (by omega))
                obtain ⟨nx, gx⟩ := (A1.S.free0 (x := x) (by omega) (by omega)).mp kx
                have hz := A1.S.zr x (by omega) (by omega) nx gx
                rw [clM_put (by omega) (by omega), ← clM_tk (by omega) (by omega) hz] at B4'
                have S4 := A1.S.takeT (x := x) (by omega) (by omega) nx gx y
                refine ⟨_, _, _, _, _, _, _, _, sp2, rfl, ⟨B4', A1.qn, S4, so2⟩, .inr ⟨rfl, by omega, ?_, ?_⟩, fun j h1 h2 => ?_, ?_⟩
                · rw [setG_at]; omega
                · rw [List.length_append] at g1
                  have : ([(x : Int)] : List Int).length = 1 := rfl
                  omega
                · rw [setG_ne (by omega)]
                  exact gz j h1 h2
                · rw [List.length_append] at sl1
                  omega
              · rw [decide_eq_false g1]
                exact iteF ⟨_, _, _, _, _, _, _, _, _, rfl, A1, .inl te, gz, sl1⟩
            · rw [decide_eq_false y]
              exact iteF ⟨_, _, _, _, _, _, _, _, _, rfl, A1, .inl te, gz, sl1⟩
          · rw [decide_eq_false z]
            exact iteF ⟨_, _, _, _, _, _, _, _, _, rfl, A1, .inl te, gz, sl1⟩
      clear A1 te gz sl1 sp1 kd1 us1 i1 G C M1 rs1
      rintro σ H2 ⟨v12, rs1, M1, G, C, kd1, us1, i1, sp1, rfl, A, teo, gz, sl1⟩
      -- the place
      have skip : Te G → ∃ (u10 u11 u12 : Option V) (last' : Nat) (rs' : List Addr) (M' : List (List Int)) (G' : Nat → Int) (C : Nat → List Int) (kd' us' : List Int) (i' : Nat) (sp' : List Int), [some (V.ref r), some (.ref fa), some (.int m), some (.ref sq), some (.int code), some (.int mk2), some (.int spot), some (.int (o1 : Int)), some (.ref qn), some (.int (last : Int)), some (.int (o : Int)), some (.bl hb), v12, none] = [some (V.ref r), some (.ref fa), some (.int m), some (.ref sq), some (.int code), some (.int mk2), some (.int spot), some (.int (o1 : Int)), some (.ref qn), some (.int (last' : Int)), u10, u11, u12, none] ∧ Mk H2 r fa f3 sq qn e m M (1 + m) o1 rs' M' G' C kd' us' i' sp' ∧ Te G' ∧ (∀ j, o + 1 ≤ j → j < 10 → G' j = 0) ∧ last' ≤ 10 ∧ sp'.length ≤ 14 := fun te => ⟨_, _, _, last, _, _, _, _, _, _, _, _, rfl, A, te, fun j h1 h2 => gz j (by omega) h2, ll, sl1⟩
      refine ⟨_, rfl, _, rfl, ?_⟩
      cases hb with
      | false => exact iteF (skip (teo.resolve_right fun h => nomatch h.1))
      | true =>
        refine iteT ⟨_, rfl, sq, _, rfl, .inl (.of A.b.s), _, _, rfl, rfl, _, rfl, ?_⟩
        rw [List.length_map]
        by_cases g0 : (sp1.length : Int) > 0
        · rw [decide_eq_true g0]
          refine iteT ?_
          rcases Classical.em ((o : Int) < 2) with w2 | w2
          rotate_left
          rcases Classical.em (G 12 > 0) with w3 | w3
          rotate_left
          · refine ⟨_, rfl, _, _, rfl, rfl, _, rfl, ?_⟩
            rw [decide_eq_false w2]
            refine iteF ⟨_, rfl, qn, _, 6, .int (G 12), rfl, rfl, .of A.node, atI_nat (j := 6) rfl, _, _, rfl, rfl, _, rfl, ?_⟩
            rw [decide_eq_false w3]
            exact iteF (skip (teo.resolve_right fun h => by
              have := (A.S.f.pf 12 (by decide) h.2.2.1).1
              omega))
          · refine ⟨_, rfl, _, _, rfl, rfl, _, rfl, ?_⟩
            rw [decide_eq_true w2]
            refine iteT ?_
            have ht : 2 ≤ o → G 12 ≠ 0 := fun h => by omega
            clear w2
            obtain ⟨sp2, xx, rfl⟩ : ∃ l x, sp1 = l ++ [x] := by
              rcases List.eq_nil_or_concat sp1 with q | ⟨l, x, q⟩
              · rw [q] at g0; exact absurd g0 (by decide)
              · exact ⟨l, x, by rw [q, List.concat_eq_append]⟩
            obtain ⟨⟨x10, x24, kx⟩, so2⟩ := A.sp.pop (k := 2)
            obtain ⟨x, rfl⟩ : ∃ x : Nat, xx = x := ⟨xx.toNat, by omega⟩
            have ex : ((x : Int)).toNat = x := by omega
            rw [ex] at kx so2
            have edl : ((sp2 ++ [(x : Int)]).map V.int).dropLast = sp2.map V.int := by rw [List.map_append]; simp
            have elast : ((sp2 ++ [(x : Int)]).map V.int)[((sp2 ++ [(x : Int)]).map V.int).length - 1]? = some (.int x) := by rw [List.map_append]; simp
            obtain ⟨nx, gx⟩ := (A.S.free0 (x := x) (by omega) (by omega)).mp kx
            have hz := A.S.zr x (by omega) (by omega) nx gx
            refine ⟨_, rfl, .inl ⟨rfl, _, .inl (.inl A.b.s)⟩, sq, _, _, rfl, rfl, A.b.s, elast, ?_⟩
            rw [edl]
            have B3 := A.b.spare (sp' := sp2)
            generalize upd H2 sq (.lst (sp2.map V.int)) = H3' at B3 ⊢
            refine ⟨_, rfl, _, rfl, _, rfl, r, rs1, _, x, o1, 2, rfl, B3.g, B3.ml, B3.m8, by omega, by omega, lo1, fun H4' G4 k4 => ?_⟩
            have B4' := B3.rows G4 k4 (clM_m8 B3.ml B3.m8 (by omega))
            rw [← clM_tk (by omega) (by omega) hz] at B4'
            have f4 := A.S.f.tk (o := o1) (k := 2) (d := 1) (x := x) (by omega) (by omega) nx
            refine ⟨_, rfl, _, rfl, _, rfl, _, rfl, r, rs1, _, m, o, (x : Int), rfl, B4'.g, B4'.ml, B4'.m8, m1, m5, ho, fun h2 => ?_, fun H5' G5 k5 => ?_⟩
            · rw [f4.c_]
              have := f4.pf 12 (by decide) (ht h2)
              omega
            have S5 := A.S.take1 (x := x) (q := o) (by omega) (by omega) nx gx ho (gz o (Nat.le_refl _) ho) ht
            have B5 := B4'.rows G5 k5 S5.k.m8
            refine ⟨8, rfl, by decide, by decide, fun D hD => ?_⟩
            refine lc_range (lo := 0) (n := (8 : Int).toNat) (fun j Hx => Same H5' Hx ∧ Hx D = some (.lst (((wdL x o).take j).map V.int))) ⟨same_upd hD, upd_same⟩ ?_ ?_
            · rintro j Hx hj ⟨Sx, ex⟩
              have hj : j < 8 := hj
              refine ⟨rfl, ?_⟩
              refine yes_ ?_
              refine ⟨_, rfl, _, _, rfl, rfl, (by show CMul 100 _; exact .inl ⟨by decide, by decide⟩), _, rfl, _, _, rfl, rfl, (by show CMul 10 _; exact .inl ⟨by decide, by decide⟩), _, _, rfl, rfl, _, rfl, _, _, rfl, rfl, _, _, rfl, rfl, _, ex, ?_, fun x o e => ?_, ?_⟩
              · rw [List.length_map, List.length_take]
                exact small1000 (by omega)
              · rw [upd_ne (ne_of_none e hD)]
                exact Sx _ _ e
              · rw [upd_same, take_get (wdL_get hj), List.map_append, show (0 : Int) + (j : Int) = (j : Int) by omega]
                rfl
            rintro H6' ⟨S6', e6⟩
            rw [show (wdL (x : Int) (o : Int)).take (8 : Int).toNat = wdL x o from List.take_of_length_le (by rw [wdL_len]; decide)] at e6
            have lr1 : rs1.length = 24 := by rw [B5.g.len]; exact B5.ml
            refine ⟨_, rfl, _, rfl, r, _, _, x, rfl, rfl, S6' _ _ B5.g.out, ixN_nat rfl (by rw [List.length_map, lr1]; omega), ?_⟩
            have B7 := B5.swap (i := x) S6' hD e6 wdL_len
            have ego : (setG G o (x : Int) o).toNat = x := by rw [setG_at]; omega
            have S7 := S5.fill (q := o) (c := wdL x o) ho (by rw [setG_at]; omega) wdL_len
            rw [ego] at S7
            refine ⟨_, rfl, _, _, rfl, rfl, ?_⟩
            refine ⟨_, _, _, o + 1, _, _, _, _, _, _, _, sp2, rfl, ⟨B7, ?_, S7, so2⟩, fun h12 => ?_, fun j h1 h2 => ?_, by omega, ?_⟩
            · rw [List.getElem?_set_ne (by omega)]
              exact A.qn
            · by_cases w : 2 ≤ o
              · exact ⟨o, w, ho, by rw [setG_at]; omega⟩
              · rw [setG_ne (by omega)] at h12
                have te : Te G := teo.resolve_right fun h => w h.2.1
                obtain ⟨j, a, b, c⟩ := te h12
                exact ⟨j, a, b, by rw [setG_ne (by omega)]; exact c⟩
            · rw [setG_ne (by omega)]
              exact gz j (by omega) h2
            · rw [List.length_append] at sl1
              omega
          · refine ⟨_, rfl, _, _, rfl, rfl, _, rfl, ?_⟩
            rw [decide_eq_false w2]
            refine iteF ⟨_, rfl, qn, _, 6, .int (G 12), rfl, rfl, .of A.node, atI_nat (j := 6) rfl, _, _, rfl, rfl, _, rfl, ?_⟩
            rw [decide_eq_true w3]
            refine iteT ?_
            have ht : 2 ≤ o → G 12 ≠ 0 := fun h => by omega
            clear w2 w3
            obtain ⟨sp2, xx, rfl⟩ : ∃ l x, sp1 = l ++ [x] := by
              rcases List.eq_nil_or_concat sp1 with q | ⟨l, x, q⟩
              · rw [q] at g0; exact absurd g0 (by decide)
              · exact ⟨l, x, by rw [q, List.concat_eq_append]⟩
            obtain ⟨⟨x10, x24, kx⟩, so2⟩ := A.sp.pop (k := 2)
            obtain ⟨x, rfl⟩ : ∃ x : Nat, xx = x := ⟨xx.toNat, by omega⟩
            have ex : ((x : Int)).toNat = x := by omega
            rw [ex] at kx so2
            have edl : ((sp2 ++ [(x : Int)]).map V.int).dropLast = sp2.map V.int := by rw [List.map_append]; simp
            have elast : ((sp2 ++ [(x : Int)]).map V.int)[((sp2 ++ [(x : Int)]).map V.int).length - 1]? = some (.int x) := by rw [List.map_append]; simp
            obtain ⟨nx, gx⟩ := (A.S.free0 (x := x) (by omega) (by omega)).mp kx
            have hz := A.S.zr x (by omega) (by omega) nx gx
            refine ⟨_, rfl, .inl ⟨rfl, _, .inl (.inl A.b.s)⟩, sq, _, _, rfl, rfl, A.b.s, elast, ?_⟩
            rw [edl]
            have B3 := A.b.spare (sp' := sp2)
            generalize upd H2 sq (.lst (sp2.map V.int)) = H3' at B3 ⊢
            refine ⟨_, rfl, _, rfl, _, rfl, r, rs1, _, x, o1, 2, rfl, B3.g, B3.ml, B3.m8, by omega, by omega, lo1, fun H4' G4 k4 => ?_⟩
            have B4' := B3.rows G4 k4 (clM_m8 B3.ml B3.m8 (by omega))
            rw [← clM_tk (by omega) (by omega) hz] at B4'
            have f4 := A.S.f.tk (o := o1) (k := 2) (d := 1) (x := x) (by omega) (by omega) nx
            refine ⟨_, rfl, _, rfl, _, rfl, _, rfl, r, rs1, _, m, o, (x : Int), rfl, B4'.g, B4'.ml, B4'.m8, m1, m5, ho, fun h2 => ?_, fun H5' G5 k5 => ?_⟩
            · rw [f4.c_]
              have := f4.pf 12 (by decide) (ht h2)
              omega
            have S5 := A.S.take1 (x := x) (q := o) (by omega) (by omega) nx gx ho (gz o (Nat.le_refl _) ho) ht
            have B5 := B4'.rows G5 k5 S5.k.m8
            refine ⟨8, rfl, by decide, by decide, fun D hD => ?_⟩
            refine lc_range (lo := 0) (n := (8 : Int).toNat) (fun j Hx => Same H5' Hx ∧ Hx D = some (.lst (((wdL x o).take j).map V.int))) ⟨same_upd hD, upd_same⟩ ?_ ?_
            · rintro j Hx hj ⟨Sx, ex⟩
              have hj : j < 8 := hj
              refine ⟨rfl, ?_⟩
              refine yes_ ?_
              refine ⟨_, rfl, _, _, rfl, rfl, (by show CMul 100 _; exact .inl ⟨by decide, by decide⟩), _, rfl, _, _, rfl, rfl, (by show CMul 10 _; exact .inl ⟨by decide, by decide⟩), _, _, rfl, rfl, _, rfl, _, _, rfl, rfl, _, _, rfl, rfl, _, ex, ?_, fun x o e => ?_, ?_⟩
              · rw [List.length_map, List.length_take]
                exact small1000 (by omega)
              · rw [upd_ne (ne_of_none e hD)]
                exact Sx _ _ e
              · rw [upd_same, take_get (wdL_get hj), List.map_append, show (0 : Int) + (j : Int) = (j : Int) by omega]
                rfl
            rintro H6' ⟨S6', e6⟩
            rw [show (wdL (x : Int) (o : Int)).take (8 : Int).toNat = wdL x o from List.take_of_length_le (by rw [wdL_len]; decide)] at e6
            have lr1 : rs1.length = 24 := by rw [B5.g.len]; exact B5.ml
            refine ⟨_, rfl, _, rfl, r, _, _, x, rfl, rfl, S6' _ _ B5.g.out, ixN_nat rfl (by rw [List.length_map, lr1]; omega), ?_⟩
            have B7 := B5.swap (i := x) S6' hD e6 wdL_len
            have ego : (setG G o (x : Int) o).toNat = x := by rw [setG_at]; omega
            have S7 := S5.fill (q := o) (c := wdL x o) ho (by rw [setG_at]; omega) wdL_len
            rw [ego] at S7
            refine ⟨_, rfl, _, _, rfl, rfl, ?_⟩
            refine ⟨_, _, _, o + 1, _, _, _, _, _, _, _, sp2, rfl, ⟨B7, ?_, S7, so2⟩, fun h12 => ?_, fun j h1 h2 => ?_, by omega, ?_⟩
            · rw [List.getElem?_set_ne (by omega)]
              exact A.qn
            · by_cases w : 2 ≤ o
              · exact ⟨o, w, ho, by rw [setG_at]; omega⟩
              · rw [setG_ne (by omega)] at h12
                have te : Te G := teo.resolve_right fun h => w h.2.1
                obtain ⟨j, a, b, c⟩ := te h12
                exact ⟨j, a, b, by rw [setG_ne (by omega)]; exact c⟩
            · rw [setG_ne (by omega)]
              exact gz j (by omega) h2
            · rw [List.length_append] at sl1
              omega
        · rw [decide_eq_false g0]
          exact iteF (skip (teo.resolve_right fun h => by have := h.2.2.2; omega))
    rintro σ H5 ⟨u10, u11, u12, last, rs1, M1, G, C, kd1, us1, i1, sp1, rfl, A, te, _, ll, sl1⟩
    refine ⟨_, rfl, .inl ⟨_, rfl, _, _, rfl, rfl, (by show (0 : Int) < 81; decide), _, rfl, qn, _, _, 2, rfl, rfl, A.node, ixN_nat rfl (by show 2 < 8; decide), ?_⟩⟩
    rw [← List.map_set]
    have S6 := A.S.size (s := spot % 81) (by omega) (by omega)
    have G6 := A.b.g.setc (j := 2) (x := spot % 81) A.qn A.S.f.r6
    have B6 := A.b.rows G6 (Kp.refl.own (List.mem_of_getElem? A.qn)) S6.k.m8
    generalize upd H5 qn (.lst ((([1, 1, 0, (o1 : Int), G 0, G 1, G 12, 1 + m] : List Int).set 2 (spot % 81)).map V.int)) = H6 at B6 ⊢
    have last_ : Q .non H6 := k H6 _ _ _ _ _ _ _ _ _ _ _ B6 S6 te A.sp sl1 fl
    refine ⟨_, rfl, .inl ⟨_, rfl, _, _, rfl, rfl, (by show (0 : Int) < 2; decide), rfl, _, rfl, ite2 (fun _ => ?_) (fun _ => last_)⟩⟩
    refine ⟨_, rfl, _, _, rfl, rfl, _, rfl, ite2 (fun hl0 => ?_) (fun _ => last_)⟩
    have hl0 : (last : Int) > 0 := of_decide_eq_true hl0
    obtain ⟨sz, hsz, z0, z8⟩ : ∃ sz : Int, 8 * (last : Int) - spot / 2 % 8 = sz ∧ 0 ≤ sz ∧ sz ≤ 80 := ⟨_, rfl, by omega, by omega⟩
    have row6 : H6 qn = some (.lst (([1, 1, spot % 81, (o1 : Int), G 0, G 1, G 12, 1 + m] : List Int).map V.int)) := B6.g.row _ _ _ A.qn S6.f.r6
    refine ⟨_, rfl, _, _, rfl, rfl, (by show CMul 8 _; exact .inl ⟨by decide, by decide⟩), _, rfl, _, _, rfl, rfl, (by show CDiv _ 2; exact ⟨by decide, by decide⟩), .inl ⟨_, rfl, _, _, rfl, rfl, (by show (0 : Int) < 8; decide), _, _, rfl, rfl, _, rfl, qn, _, _, 2, rfl, rfl, row6, ixN_nat rfl (by show 2 < 8; decide), ?_⟩⟩
    rw [← List.map_set, hsz]
    have S7 := S6.size (s := sz) z0 z8
    have G7 := B6.g.setc (j := 2) (x := sz) A.qn S6.f.r6
    have B7 := B6.rows G7 (Kp.refl.own (List.mem_of_getElem? A.qn)) S7.k.m8
    exact k _ _ _ _ _ _ _ _ _ _ _ _ B7 S7 te A.sp sl1 fl
end
end K09
namespace K09
open PySem PySem.Spec PyProof.Rows L2 Rg
/-! ### the list of deeds -/
structure Dd where
  (m : Int) (dk : DK) (a c : Nat)
def Dd.core (d : Dd) : Int × DK := (d.m, d.dk)
def Dd.Ok (d : Dd) : Prop := (d.m = 2 ∨ d.m = 3) ∧ d.a < 100 ∧ d.c < 100
structure De (H0 H : Hp) (fa : Addr) (fs : List Int) (q : Addr) (ps qs : List Addr) (ds : List Dd) : Prop where
  f : H fa = some (.lst (fs.map V.int))
  ql : H q = some (.lst (ps.map V.ref))
  ne : fa ≠ q
  lp : ps.length = ds.length
  lq : qs.length = ds.length
  at_ : ∀ (i : Nat) (p x : Addr) (d : Dd), ps[i]? = some p → qs[i]? = some x → ds[i]? = some d → H p = some (.tup [.ref x, .int (d.a : Int), .int (d.c : Int)]) ∧ DeedAt H x d.m d.dk
  nw : ∀ x, x ∈ q :: (ps ++ qs) → H0 x = none
  kp : Kp [fa] H0 H
  ok : ∀ d ∈ ds, d.Ok
theorem De.start {H0 H : Hp} {fa : Addr} {fs : List Int} {q : Addr} (hf : H fa = some (.lst (fs.map V.int))) (k : Kp [fa] H0 H) (hq : H q = some (.lst [])) (nq : H0 q = none) (ne : fa ≠ q) : De H0 H fa fs q [] [] [] :=
  ⟨hf, hq, ne, rfl, rfl, fun i p x d h => by simp at h, fun x hx => by simp at hx; rw [hx]; exact nq, k, fun d h => absurd h List.not_mem_nil⟩
theorem De.same {H0 H H' : Hp} {fa : Addr} {fs : List Int} {q : Addr} {ps qs : List Addr} {ds : List Dd} (D : De H0 H fa fs q ps qs ds) (s : Same H H') : De H0 H' fa fs q ps qs ds :=
  { D with f := s _ _ D.f, ql := s _ _ D.ql, at_ := fun i p x d h1 h2 h3 => ⟨s _ _ (D.at_ i p x d h1 h2 h3).1, (D.at_ i p x d h1 h2 h3).2.same s⟩, kp := D.kp.same s }
theorem De.feed {H0 H : Hp} {fa : Addr} {fs fs' : List Int} {q : Addr} {ps qs : List Addr} {ds : List Dd} (D : De H0 H fa fs q ps qs ds) : De H0 (upd H fa (.lst (fs'.map V.int))) fa fs' q ps qs ds := by
  have t : ∀ {x : Addr} {xs : List V}, H x = some (.tup xs) → (upd H fa (.lst (fs'.map V.int))) x = some (.tup xs) := fun {x xs} h => by
    rw [upd_ne (fun z => by rw [z, D.f] at h; cases h)]
    exact h
  exact { D with f := upd_same, ql := by rw [upd_ne (fun z => D.ne z.symm)]; exact D.ql, at_ := fun i p x d h1 h2 h3 => ⟨t (D.at_ i p x d h1 h2 h3).1, (D.at_ i p x d h1 h2 h3).2.keep fun _ e => t e⟩, kp := D.kp.own1 }
theorem De.push {H0 H : Hp} {fa : Addr} {fs : List Int} {q : Addr} {ps qs : List Addr} {ds : List Dd} (D : De H0 H fa fs q ps qs ds) {t x : Addr} {d : Dd} (ht : H t = some (.tup [.ref x, .int (d.a : Int), .int (d.c : Int)])) (hx : DeedAt H x d.m d.dk) (nt : H0 t = none) (nx : H0 x = none) (ok : d.Ok) : De H0 (upd H q (.lst (ps.map V.ref ++ [.ref t]))) fa fs q (ps ++ [t]) (qs ++ [x]) (ds ++ [d]) := by
  have tk : ∀ {x : Addr} {xs : List V}, H x = some (.tup xs) → (upd H q (.lst (ps.map V.ref ++ [.ref t]))) x = some (.tup xs) := fun {x xs} h => by
    rw [upd_ne (fun z => by rw [z, D.ql] at h; cases h)]
    exact h
  have lp := D.lp
  have lq := D.lq
  refine ⟨?_, ?_, D.ne, by rw [List.length_append, List.length_append, lp]; rfl, by rw [List.length_append, List.length_append, lq]; rfl, fun i p y d' h1 h2 h3 => ?_, fun y hy => ?_, ?_, fun d' h => ?_⟩
  · rw [upd_ne D.ne]; exact D.f
  · rw [upd_same, List.map_append]; rfl
  · by_cases hi : i < ds.length
    · rw [List.getElem?_append_left (by omega)] at h1 h2 h3
      exact ⟨tk (D.at_ i p y d' h1 h2 h3).1, (D.at_ i p y d' h1 h2 h3).2.keep fun _ e => tk e⟩
    · rw [List.getElem?_append_right (by omega)] at h1 h2 h3
      have e3 : i - ds.length = 0 := by
        have := (List.getElem?_eq_some_iff.mp h3).1
        have e : ([d] : List Dd).length = 1 := rfl
        omega
      rw [lp, e3] at h1
      rw [lq, e3] at h2
      rw [e3] at h3
      cases h1
      cases h2
      cases h3
      exact ⟨tk ht, hx.keep fun _ e => tk e⟩
  · simp only [List.mem_cons, List.mem_append, List.not_mem_nil, or_false] at hy
    rcases hy with h | (h | h) | (h | h)
    · exact D.nw y (by simp [h])
    · exact D.nw y (by simp [h])
    · rw [h]; exact nt
    · exact D.nw y (by simp [h])
    · rw [h]; exact nx
  · intro y o e hy
    have : y ≠ q := fun z => by
      rw [z, D.nw q (List.mem_cons_self ..)] at e
      cases e
    rw [upd_ne this]
    exact D.kp _ _ e hy
  · rcases List.mem_append.mp h with h | h
    · exact D.ok d' h
    · rw [List.mem_singleton.mp h]; exact ok
def DeC (H0 H : Hp) (fa q : Addr) (c : List (Int × DK)) : Prop := ∃ fs ps qs ds, De H0 H fa fs q ps qs ds ∧ ds.map Dd.core = c
theorem DeC.same {H0 H H' : Hp} {fa q : Addr} {c : List (Int × DK)} (D : DeC H0 H fa q c) (s : Same H H') : DeC H0 H' fa q c := by
  obtain ⟨fs, ps, qs, ds, D, e⟩ := D
  exact ⟨fs, ps, qs, ds, D.same s, e⟩
theorem DeC.qAt {H0 H : Hp} {fa q : Addr} {c : List (Int × DK)} (D : DeC H0 H fa q c) : ∃ xs, H q = some (.lst xs) ∧ xs.length = c.length := by
  obtain ⟨fs, ps, qs, ds, D, e⟩ := D
  exact ⟨_, D.ql, by rw [List.length_map, D.lp, ← e, List.length_map]⟩
theorem DeC.fAt {H0 H : Hp} {fa q : Addr} {c : List (Int × DK)} (D : DeC H0 H fa q c) : ∃ fs : List Int, H fa = some (.lst (fs.map V.int)) := by
  obtain ⟨fs, ps, qs, ds, D, e⟩ := D
  exact ⟨_, D.f⟩
theorem DeC.feed {H0 H : Hp} {fa q : Addr} {c : List (Int × DK)} (D : DeC H0 H fa q c) (fs' : List Int) : DeC H0 (upd H fa (.lst (fs'.map V.int))) fa q c := by
  obtain ⟨fs, ps, qs, ds, D, e⟩ := D
  exact ⟨fs', ps, qs, ds, D.feed, e⟩
theorem DeC.fresh {H0 H : Hp} {fa q : Addr} {c : List (Int × DK)} (D : DeC H0 H fa q c) {x : Addr} (h : H x = none) : H0 x = none := by
  obtain ⟨fs, ps, qs, ds, D, e⟩ := D
  exact D.kp.free (by rw [List.mem_singleton]; exact fun z => by rw [z, D.f] at h; cases h) h
theorem DeC.push {H0 H : Hp} {fa q : Addr} {c : List (Int × DK)} (D : DeC H0 H fa q c) {xs : List V} (hq : H q = some (.lst xs)) {t x : Addr} {m : Int} {dk : DK} {a cc : Nat} (ht : H t = some (.tup [.ref x, .int (a : Int), .int (cc : Int)])) (hx : DeedAt H x m dk) (nt : H0 t = none) (nx : H0 x = none) (ok : (⟨m, dk, a, cc⟩ : Dd).Ok) : DeC H0 (upd H q (.lst (xs ++ [.ref t]))) fa q (c ++ [(m, dk)]) := by
  obtain ⟨fs, ps, qs, ds, D, e⟩ := D
  have : xs = ps.map V.ref := by
    rw [D.ql] at hq
    exact (HO.lst.inj (Option.some.inj hq)).symm
  rw [this]
  exact ⟨fs, _, _, _, D.push (d := ⟨m, dk, a, cc⟩) ht hx nt nx ok, by rw [List.map_append, e]; rfl⟩
/-- what each file is made to do at the end -/
def finL (n b : Int) : List (Int × DK) := List.replicate 6 (n, .piece) ++ [(n, .size 80)] ++ [(n, .size b)] ++ List.replicate 5 (n, .piece) ++ [(n, .size 80)]
def TlOk : Nat → List (Int × DK) → Prop
  | 0, t => t = []
  | 1, t => ∃ b, 0 ≤ b ∧ b ≤ 80 ∧ t = finL 2 b
  | _, t => ∃ b b', 0 ≤ b ∧ b ≤ 80 ∧ 0 ≤ b' ∧ b' ≤ 80 ∧ t = finL 2 b ++ finL 3 b'
theorem TlOk.len : ∀ {i : Nat} {t : List (Int × DK)}, TlOk i t → t.length ≤ 14 * i
  | 0, _, h => by rw [h]; exact Nat.le_refl _
  | 1, _, h => by obtain ⟨b, _, _, rfl⟩ := h; exact Nat.le_refl _
  | n + 2, _, h => by
    obtain ⟨b, b', _, _, _, _, rfl⟩ := h
    show 28 ≤ _
    omega
section
variable {P : Program} {w : World} {K : PySem.W.Frag} {mg : Str → Option Value} {base : Heap}
def sp_Ldeeds : Sp := fun vs H Q _ => ∃ (fa : Addr) (fs : List Int), vs = [.ref fa] ∧ H fa = some (.lst (fs.map V.int)) ∧ ∀ H' q rnd tl, DeC H H' fa q (rnd ++ tl) → TlOk 2 tl → Q (.ref q) H'
theorem ok_Ldeeds (T : Tx K mg) : FnOk P w K mg base CX0 2 T.f_Ldeeds T.fd_Ldeeds ["_law_feed_here"] sp_Ldeeds := by
  refine T.F_Ldeeds.ok sc_Ldeeds (fun vs H Q E h => ?_) (fun cdv A outer s H vs Q E hr h => ?_)
  · obtain ⟨_, _, rfl, _⟩ := h; rfl
  · obtain ⟨fa, fs, rfl, hfa, k⟩ := h
    have hr1 : Room 1 _ := hr.mono (by decide)
    refine ⟨_, (pss_cons (ps_set (i := 1) sc_Ldeeds.nd rfl (.inl rfl) (pe_lst pa_nil))
      (pss_cons (ps_for PassesOwn.never rfl (pi_range1 rfl T.b_range (pa_cons (pe_callB (call_min2 rfl) rfl T.b_min (by decide +kernel) (pa_cons pe_int (pa_cons (pe_op op_fdiv (pe_callB call_len_seq rfl T.b_len (by decide +kernel) (pa_cons (pv 0) pa_nil)) pe_int) pa_nil))) pa_nil)) (pg_name (i := 2) sc_Ldeeds.nd rfl (.inl rfl))
        (pss_cons (ps_set (i := 3) sc_Ldeeds.nd rfl (.inl rfl) (pe_call (ok_Lpick T) hr1 rfl T.mg_Lpick T.F_Lpick.kp (b_Lpick T) .nil pass0 (pa_cons (pv 0) (pa_cons pe_int pa_nil))))
        (pss_cons (ps_set (i := 4) sc_Ldeeds.nd rfl (.inl rfl) (pe_op op_mod (pe_callTy call_int1 rfl T.b_int (by decide +kernel) (pa_cons (pe_call (ok_Lpick T) hr1 rfl T.mg_Lpick T.F_Lpick.kp (b_Lpick T) .nil pass0 (pa_cons (pv 0) (pa_cons pe_int pa_nil))) pa_nil)) pe_int))
        (Evl.pss_cut (ps_if (pt_cmpR op_eq (pe_op op_mod (pe_callTy call_int1 rfl T.b_int (by decide +kernel) (pa_cons (pe_op op_fdiv (pv 3) pe_int) pa_nil)) pe_int) pe_int (nomark _))
          (pss_one (ps_set (i := 4) sc_Ldeeds.nd rfl (.inl rfl) (pe_op op_mul pe_int (pe_op op_mod (pe_callTy call_int1 rfl T.b_int (by decide +kernel) (pa_cons (pv 4) pa_nil)) pe_int))))
          pss_nil)
        (pss_cons (ps_set (i := 5) sc_Ldeeds.nd rfl (.inl rfl) (pe_tup (pa_cons pe_str (pa_cons (pe_op op_add pe_int (pe_op op_mod (pe_callTy call_int1 rfl T.b_int (by decide +kernel) (pa_cons (pv 3) pa_nil)) pe_int)) pa_nil))))
        (Evl.pss_cut (ps_if (pt_cmpR op_gt (pe_op op_mod (pe_callTy call_int1 rfl T.b_int (by decide +kernel) (pa_cons (pe_op op_fdiv (pv 3) pe_int) pa_nil)) pe_int) pe_int (nomark _))
          (pss_one (ps_set (i := 5) sc_Ldeeds.nd rfl (.inl rfl) (pe_tup (pa_cons pe_str (pa_cons (pe_op op_add pe_int (pe_op op_mod (pe_callTy call_int1 rfl T.b_int (by decide +kernel) (pa_cons (pv 3) pa_nil)) pe_int)) (pa_cons (pe_callB (call_min2 rfl) rfl T.b_min (by decide +kernel) (pa_cons (pv 4) (pa_cons pe_int pa_nil))) pa_nil))))))
          pss_nil)
        (pss_one (ps_expr (pe_bm PySem.F.plainAttrs_list PySem.F.slot_list_append PySem.F.type_list_append mt_append (pv 1) (pa_cons (pe_tup (pa_cons (pv 5) (pa_cons (pe_op op_mod (pe_callTy call_int1 rfl T.b_int (by decide +kernel) (pa_cons (pe_op op_fdiv (pv 3) pe_int) pa_nil)) pe_int) (pa_cons (pe_op op_mod (pe_callTy call_int1 rfl T.b_int (by decide +kernel) (pa_cons (pv 3) pa_nil)) pe_int) pa_nil)))) pa_nil))))))))))
      (pss_cons (ps_for PassesOwn.never rfl (pi_list (pe_lst (pa_cons pe_int (pa_cons pe_int pa_nil)))) (pg_name (i := 6) sc_Ldeeds.nd rfl (.inl rfl))
        (pss_cons (ps_set (i := 7) sc_Ldeeds.nd rfl (.inl rfl) (pe_call (ok_Lpick T) hr1 rfl T.mg_Lpick T.F_Lpick.kp (b_Lpick T) .nil pass0 (pa_cons (pv 0) (pa_cons pe_int pa_nil))))
        (pss_cons (ps_for PassesOwn.never rfl (pi_range1 rfl T.b_range (pa_cons pe_int pa_nil)) (pg_name (i := 2) sc_Ldeeds.nd rfl (.inl rfl))
          (pss_one (ps_expr (pe_bm PySem.F.plainAttrs_list PySem.F.slot_list_append PySem.F.type_list_append mt_append (pv 1) (pa_cons (pe_tup (pa_cons (pe_tup (pa_cons pe_str (pa_cons (pv 6) pa_nil))) (pa_cons (pe_op op_sub pe_int (pe_op op_mul pe_int (pv 2))) (pa_cons pe_int pa_nil)))) pa_nil)))))
        (pss_cons (ps_expr (pe_bm PySem.F.plainAttrs_list PySem.F.slot_list_append PySem.F.type_list_append mt_append (pv 1) (pa_cons (pe_tup (pa_cons (pe_tup (pa_cons pe_str (pa_cons (pv 6) (pa_cons pe_int pa_nil)))) (pa_cons pe_int (pa_cons pe_int pa_nil)))) pa_nil)))
        (pss_cons (ps_expr (pe_bm PySem.F.plainAttrs_list PySem.F.slot_list_append PySem.F.type_list_append mt_append (pv 1) (pa_cons (pe_tup (pa_cons (pe_tup (pa_cons pe_str (pa_cons (pv 6) (pa_cons (pv 7) pa_nil)))) (pa_cons (pv 7) (pa_cons pe_int pa_nil)))) pa_nil)))
        (pss_cons (ps_for PassesOwn.never rfl (pi_range1 rfl T.b_range (pa_cons pe_int pa_nil)) (pg_name (i := 2) sc_Ldeeds.nd rfl (.inl rfl))
          (pss_one (ps_expr (pe_bm PySem.F.plainAttrs_list PySem.F.slot_list_append PySem.F.type_list_append mt_append (pv 1) (pa_cons (pe_tup (pa_cons (pe_tup (pa_cons pe_str (pa_cons (pv 6) pa_nil))) (pa_cons (pe_op op_sub pe_int (pe_op op_mul pe_int (pv 2))) (pa_cons pe_int pa_nil)))) pa_nil)))))
        (pss_one (ps_expr (pe_bm PySem.F.plainAttrs_list PySem.F.slot_list_append PySem.F.type_list_append mt_append (pv 1) (pa_cons (pe_tup (pa_cons (pe_tup (pa_cons pe_str (pa_cons (pv 6) (pa_cons pe_int pa_nil)))) (pa_cons pe_int (pa_cons pe_int pa_nil)))) pa_nil))))))))))
      (pss_one (ps_ret (pv 1)))))), ?_⟩
    refine ⟨(by show 0 ≤ sizeLine; decide), fun q nq => ?_⟩
    have D0 : DeC H (upd H q (.lst [])) fa q [] := by
      have s := same_upd (o := .lst []) nq
      exact ⟨fs, [], [], [], De.start (s _ _ hfa) (Kp.of s) upd_same nq (ne_of_none hfa nq), rfl⟩
    have f0 : (upd H q (.lst [])) fa = some (.lst (fs.map V.int)) := (same_upd (o := .lst []) nq) _ _ hfa
    generalize upd H q (.lst []) = H0 at D0 f0 ⊢
    obtain ⟨nn, hnn, hn0, hn14⟩ : ∃ nn : Int, (if ((fs.map V.int).length : Int) / 2 < 14 then ((fs.map V.int).length : Int) / 2 else 14) = nn ∧ 0 ≤ nn ∧ nn ≤ 14 := ⟨_, rfl, by split <;> omega, by split <;> omega⟩
    refine ⟨_, rfl, fa, _, rfl, .inl (.of f0), _, _, rfl, rfl, (by show CDiv _ 2; exact ⟨by decide, by decide⟩), _, _, rfl, nn, (by show [V.int (if ((fs.map V.int).length : Int) / 2 < 14 then ((fs.map V.int).length : Int) / 2 else 14)] = [V.int nn]; rw [hnn]), by omega, by omega, for_range (lo := 0) (n := nn.toNat) (fun i σ H' => ∃ (u2 u3 u4 u5 : Option V) (c : List (Int × DK)), σ = [some (.ref fa), some (.ref q), u2, u3, u4, u5, none, none] ∧ DeC H H' fa q c ∧ c.length ≤ i) ⟨_, _, _, _, [], rfl, D0, Nat.le_refl _⟩ ?_ ?_⟩
    · rintro i σ H1 hi ⟨u2, u3, u4, u5, c, rfl, D1, lc⟩
      have hi : i < nn.toNat := hi
      obtain ⟨f1, hf1⟩ := D1.fAt
      refine ⟨_, rfl, fa, f1, 1000, rfl, hf1, by decide, fun code f2 c0 c1 _ => ?_⟩
      have D2 := D1.feed f2
      have hf2 : (upd H1 fa (.lst (f2.map V.int))) fa = some (.lst (f2.map V.int)) := upd_same
      generalize upd H1 fa (.lst (f2.map V.int)) = H2 at D2 hf2 ⊢
      refine ⟨_, rfl, fa, f2, 1000, rfl, hf2, by decide, fun sz0 f3 z0 z1 _ => ?_⟩
      have D3 := D2.feed f3
      generalize upd H2 fa (.lst (f3.map V.int)) = H3 at D3 ⊢
      refine .inl ⟨_, rfl, _, _, rfl, rfl, (by show (0 : Int) < 91; decide), ?_⟩
      refine ⟨fun σ H' => ∃ s : Int, 0 ≤ s ∧ σ = [some (.ref fa), some (.ref q), some (.int (0 + (i : Int))), some (.int code), some (.int s), u5, none, none] ∧ H3 = H', ?_, ?_⟩
      · refine ⟨_, rfl, _, _, rfl, rfl, (by show CDiv _ 8; exact ⟨by decide, by decide⟩), .inl ⟨_, rfl, _, _, rfl, rfl, (by show (0 : Int) < 2; decide), rfl, _, rfl, ite2 (fun _ => ?_) (fun _ => ?_)⟩⟩
        · refine ⟨_, rfl, .inl ⟨_, rfl, _, _, rfl, rfl, (by show (0 : Int) < 12; decide), _, _, rfl, rfl, (by show CMul 8 _; exact .inl ⟨by decide, by decide⟩), ?_⟩⟩
          exact ⟨_, by omega, rfl, rfl⟩
        · exact ⟨sz0 % 91, by omega, rfl, rfl⟩
      rintro σ H' ⟨s, hs, rfl, rfl⟩
      obtain ⟨m, hm, cm⟩ : ∃ m : Int, 2 + code % 2 = m ∧ (m = 2 ∨ m = 3) := ⟨_, rfl, by omega⟩
      refine ⟨_, rfl, .inl ⟨_, rfl, _, _, rfl, rfl, (by show (0 : Int) < 2; decide), _, _, rfl, rfl, (by show 2 ≤ sizeLine; decide), fun d1 nd1 => ?_⟩⟩
      have e4 : upd H3 d1 (.tup [.str "piece", .int (2 + code % 2)]) d1 = some (.tup [.str "piece", .int m]) := by rw [upd_same, hm]
      have s4 := same_upd (o := .tup [.str "piece", .int (2 + code % 2)]) nd1
      have D4 := D3.same s4
      have nd0 := D3.fresh nd1
      change Same H3 (upd H3 d1 (.tup [V.str (Str.ofString "piece"), .int (2 + code % 2)])) at s4
      generalize upd H3 d1 (.tup [V.str "piece", .int (2 + code % 2)]) = H4 at e4 s4 D4 ⊢
      refine ⟨fun σ H' => ∃ (d : Addr) (dk : DK), σ = [some (.ref fa), some (.ref q), some (.int (0 + (i : Int))), some (.int code), some (.int s), some (.ref d), none, none] ∧ DeC H H' fa q c ∧ DeedAt H' d m dk ∧ H d = none, ?_, ?_⟩
      · refine ⟨_, rfl, _, _, rfl, rfl, (by show CDiv _ 2; exact ⟨by decide, by decide⟩), .inl ⟨_, rfl, _, _, rfl, rfl, (by show (0 : Int) < 4; decide), _, _, rfl, rfl, _, rfl, ite2 (fun _ => ?_) (fun _ => ⟨d1, .piece, rfl, D4, e4, nd0⟩)⟩⟩
        obtain ⟨s2, hs2, hs0⟩ : ∃ s2 : Int, (if (90 : Int) < s then 90 else s) = s2 ∧ 0 ≤ s2 := ⟨_, rfl, by split <;> omega⟩
        refine ⟨_, rfl, .inl ⟨_, rfl, _, _, rfl, rfl, (by show (0 : Int) < 2; decide), _, _, rfl, rfl, _, rfl, _, _, rfl, (by show 3 ≤ sizeLine; decide), fun d2 nd2 => ?_⟩⟩
        refine ⟨d2, .size s2, rfl, D4.same (same_upd nd2), ⟨?_, hs0⟩, D4.fresh nd2⟩
        rw [upd_same, ← hm, ← hs2]
      rintro σ H5 ⟨d, dk, rfl, D5, hd, nd⟩
      obtain ⟨xs, hxs, lxs⟩ := D5.qAt
      refine ⟨_, rfl, .inl ⟨rfl, _, .inl (.inl hxs)⟩, _, rfl, _, rfl, _, _, rfl, rfl, (by show CDiv _ 16; exact ⟨by decide, by decide⟩), .inl ⟨_, rfl, _, _, rfl, rfl, (by show (0 : Int) < 90; decide), _, rfl, .inl ⟨_, rfl, _, _, rfl, rfl, (by show (0 : Int) < 41; decide), (by show 3 ≤ sizeLine; decide), fun t nt => ?_⟩⟩⟩
      obtain ⟨na, ha, ha1⟩ : ∃ n : Nat, code / 16 % 90 = n ∧ n < 100 := ⟨(code / 16 % 90).toNat, by omega, by omega⟩
      obtain ⟨nc, hc, hc1⟩ : ∃ n : Nat, code % 41 = n ∧ n < 100 := ⟨(code % 41).toNat, by omega, by omega⟩
      have st := same_upd (o := .tup [.ref d, .int (code / 16 % 90), .int (code % 41)]) nt
      have et : upd H5 t (.tup [.ref d, .int (code / 16 % 90), .int (code % 41)]) t = some (.tup [.ref d, .int (na : Int), .int (nc : Int)]) := by rw [upd_same, ha, hc]
      have D6 := D5.same st
      refine ⟨q, xs, _, rfl, rfl, st _ _ hxs, by rw [lxs]; exact small1000 (by omega), ?_⟩
      refine ⟨_, _, _, _, _, rfl, D6.push (st _ _ hxs) et (hd.same st) (D5.fresh nt) nd ⟨cm, ha1, hc1⟩, ?_⟩
      rw [List.length_append]
      show c.length + 1 ≤ i + 1
      omega
    rintro σ H1 ⟨u2, u3, u4, u5, c0, rfl, D1, lc0⟩
    have lc0 : c0.length ≤ 14 := by omega
    -- what each file does at the end
    refine ⟨(by show 2 ≤ sizeLine; decide), fun l nl => ?_⟩
    have sl := same_upd (o := .lst [V.int 2, .int 3]) nl
    have el : upd H1 l (.lst [V.int 2, .int 3]) l = some (.lst [V.int 2, .int 3]) := upd_same
    have D2 := D1.same sl
    have nlq : l ≠ q := by
      obtain ⟨xs, hxs, _⟩ := D1.qAt
      exact fun z => ne_of_none hxs nl z.symm
    have nlf : l ≠ fa := by
      obtain ⟨xs, hxs⟩ := D1.fAt
      exact fun z => ne_of_none hxs nl z.symm
    generalize upd H1 l (.lst [V.int 2, .int 3]) = H2 at el D2 ⊢
    clear sl nl D1
    -- one deed more, its tuples new
    have add : ∀ {Hx : Hp} {c : List (Int × DK)} {m : Int} {dk : DK} {a cc : Nat} {ty : List V} {Ω : Prop}, DeC H Hx fa q c → Hx l = some (.lst [V.int 2, .int 3]) → (m = 2 ∨ m = 3) → a < 100 → cc < 100 → (∀ (Hy : Hp) (x : Addr), Hy x = some (.tup ty) → DeedAt Hy x m dk) → ∀ (x t : Addr), Hx x = none → (upd Hx x (.tup ty)) t = none → ∀ xs : List V, Hx q = some (.lst xs) → (DeC H (upd (upd (upd Hx x (.tup ty)) t (.tup [.ref x, .int (a : Int), .int (cc : Int)])) q (.lst (xs ++ [.ref t]))) fa q (c ++ [(m, dk)]) → (upd (upd (upd Hx x (.tup ty)) t (.tup [.ref x, .int (a : Int), .int (cc : Int)])) q (.lst (xs ++ [.ref t]))) l = some (.lst [V.int 2, .int 3]) → Ω) → Ω := by
      intro Hx c m dk a cc ty Ω Dx hl cm ha hc hty x t nx nt xs hxs kk
      have s1 := same_upd (o := .tup ty) nx
      have s2 := same_upd (o := .tup [.ref x, .int (a : Int), .int (cc : Int)]) nt
      have D' := ((Dx.same s1).same s2).push (dk := dk) (m := m) (s2 _ _ (s1 _ _ hxs)) upd_same (hty _ _ (s2 _ _ upd_same)) ((Dx.same s1).fresh nt) (Dx.fresh nx) ⟨cm, ha, hc⟩
      refine kk D' ?_
      rw [upd_ne nlq]
      exact s2 _ _ (s1 _ _ hl)
    refine ⟨l, rfl, ⟨_, .of el⟩, for_list (K := K) (a := l) (xs := [V.int 2, .int 3]) (fun i σ H' => ∃ (u2 u3 u4 u5 u6 u7 : Option V) (tl : List (Int × DK)), σ = [some (.ref fa), some (.ref q), u2, u3, u4, u5, u6, u7] ∧ DeC H H' fa q (c0 ++ tl) ∧ TlOk i tl ∧ H' l = some (.lst [V.int 2, .int 3])) ⟨_, _, _, _, _, _, [], rfl, by rw [List.append_nil]; exact D2, rfl, el⟩ (fun i σ H' _ ⟨_, _, _, _, _, _, _, _, _, _, e⟩ => .of e) ?_ ?_⟩
    · rintro i y σ H3 hi ⟨u2, u3, u4, u5, u6, u7, tl, rfl, D3, ht, hl3⟩
      have hi2 : i < 2 := (List.getElem?_eq_some_iff.mp hi).1
      obtain ⟨m, rfl, hm⟩ : ∃ m : Int, y = .int m ∧ (m = (i : Int) + 2) := by
        have : i = 0 ∨ i = 1 := by omega
        rcases this with z | z <;> (subst z; cases hi; exact ⟨_, rfl, rfl⟩)
      have cm : m = 2 ∨ m = 3 := by omega
      have ltl := ht.len
      have lc1 : (c0 ++ tl).length ≤ 28 := by rw [List.length_append]; omega
      obtain ⟨c1, hc1⟩ : ∃ c1, c0 ++ tl = c1 := ⟨_, rfl⟩
      rw [hc1] at D3 lc1
      obtain ⟨f3, hf3⟩ := D3.fAt
      refine ⟨_, rfl, fa, f3, 81, rfl, hf3, by decide, fun bl f4 b0 b1 _ => ?_⟩
      have D4 := D3.feed f4
      have hl4 : (upd H3 fa (.lst (f4.map V.int))) l = some (.lst [V.int 2, .int 3]) := by rw [upd_ne nlf]; exact hl3
      generalize upd H3 fa (.lst (f4.map V.int)) = H4 at D4 hl4 ⊢
      clear D3 hl3 hf3
      -- six pieces
      refine ⟨6, rfl, by decide, by decide, for_range (lo := 0) (n := (6 : Int).toNat) (fun j σ H' => ∃ u2 : Option V, σ = [some (.ref fa), some (.ref q), u2, u3, u4, u5, some (.int m), some (.int bl)] ∧ DeC H H' fa q (c1 ++ List.replicate j (m, .piece)) ∧ H' l = some (.lst [V.int 2, .int 3])) ⟨_, rfl, by rw [List.replicate_zero, List.append_nil]; exact D4, hl4⟩ ?_ ?_⟩
      · rintro j σ H5 hj ⟨u2, rfl, D5, hl5⟩
        have hj : j < 6 := hj
        obtain ⟨xs, hxs, lxs⟩ := D5.qAt
        obtain ⟨a, ha, ha1⟩ : ∃ a : Nat, 72 - 8 * (0 + (j : Int)) = a ∧ a < 100 := ⟨72 - 8 * j, by omega, by omega⟩
        refine ⟨_, rfl, .inl ⟨rfl, _, .inl (.inl hxs)⟩, _, rfl, (by show 2 ≤ sizeLine; decide), fun x nx => ?_⟩
        refine ⟨_, rfl, _, _, rfl, rfl, (by show CMul 8 _; exact .inl ⟨by decide, by decide⟩), _, _, rfl, rfl, (by show 3 ≤ sizeLine; decide), fun t nt => ?_⟩
        refine ⟨q, xs, _, rfl, rfl, (same_upd nt) _ _ ((same_upd nx) _ _ hxs), ?_, ?_⟩
        · rw [lxs, List.length_append, List.length_replicate]
          exact small1000 (by omega)
        refine add (dk := .piece) (cc := 9) D5 hl5 cm ha1 (by decide) (fun Hy y e => e) x t nx nt xs hxs fun D6 hl6 => ?_
        rw [← ha] at D6 hl6
        refine ⟨_, rfl, ?_, hl6⟩
        rw [List.replicate_succ', ← List.append_assoc]
        exact D6
      rintro σ H5 ⟨u2, rfl, D5, hl5⟩
      have D5 : DeC H H5 fa q (c1 ++ List.replicate 6 (m, .piece)) := D5
      obtain ⟨c2, hc2⟩ : ∃ c2, c1 ++ List.replicate 6 (m, DK.piece) = c2 := ⟨_, rfl⟩
      have lc2 : c2.length ≤ 34 := by rw [← hc2, List.length_append, List.length_replicate]; omega
      rw [hc2] at D5
      -- to 80
      obtain ⟨xs, hxs, lxs⟩ := D5.qAt
      refine ⟨_, rfl, .inl ⟨rfl, _, .inl (.inl hxs)⟩, _, rfl, (by show 3 ≤ sizeLine; decide), fun x nx => ⟨(by show 3 ≤ sizeLine; decide), fun t nt => ?_⟩⟩
      refine ⟨q, xs, _, rfl, rfl, (same_upd nt) _ _ ((same_upd nx) _ _ hxs), (by rw [lxs]; exact small1000 (by omega)), ?_⟩
      refine add (dk := .size 80) (a := 0) (cc := 81) D5 hl5 cm (by decide) (by decide) (fun Hy y e => ⟨e, by decide⟩) x t nx nt xs hxs fun D6 hl6 => ?_
      change DeC H (upd (upd (upd H5 x (.tup [.str "size", .int m, .int 80])) t (.tup [.ref x, .int 0, .int 81])) q (.lst (xs ++ [.ref t]))) _ _ _ at D6
      change (upd (upd (upd H5 x (.tup [.str "size", .int m, .int 80])) t (.tup [.ref x, .int 0, .int 81])) q (.lst (xs ++ [.ref t]))) _ = _ at hl6
      generalize upd (upd (upd H5 x (.tup [.str "size", .int m, .int 80])) t (.tup [.ref x, .int 0, .int 81])) q (.lst (xs ++ [.ref t])) = H6 at D6 hl6 ⊢
      clear D5 hl5 hxs lxs nx nt xs x t
      -- to less
      obtain ⟨nb, hnb⟩ : ∃ nb : Nat, bl = nb := ⟨bl.toNat, by omega⟩
      obtain ⟨xs, hxs, lxs⟩ := D6.qAt
      have lx : xs.length ≤ 35 := by rw [lxs, List.length_append]; show c2.length + 1 ≤ 35; omega
      refine ⟨_, rfl, .inl ⟨rfl, _, .inl (.inl hxs)⟩, _, rfl, _, rfl, (by show 3 ≤ sizeLine; decide), fun x nx => ⟨_, rfl, (by show 3 ≤ sizeLine; decide), fun t nt => ?_⟩⟩
      refine ⟨q, xs, _, rfl, rfl, (same_upd nt) _ _ ((same_upd nx) _ _ hxs), small1000 (by omega), ?_⟩
      refine add (dk := .size bl) (a := nb) (cc := 30) D6 hl6 cm (by omega) (by decide) (fun Hy y e => ⟨e, b0⟩) x t nx nt xs hxs fun D7 hl7 => ?_
      rw [← hnb] at D7 hl7
      change DeC H (upd (upd (upd H6 x (.tup [.str "size", .int m, .int bl])) t (.tup [.ref x, .int bl, .int 30])) q (.lst (xs ++ [.ref t]))) _ _ _ at D7
      change (upd (upd (upd H6 x (.tup [.str "size", .int m, .int bl])) t (.tup [.ref x, .int bl, .int 30])) q (.lst (xs ++ [.ref t]))) _ = _ at hl7
      generalize upd (upd (upd H6 x (.tup [.str "size", .int m, .int bl])) t (.tup [.ref x, .int bl, .int 30])) q (.lst (xs ++ [.ref t])) = H7 at D7 hl7 ⊢
      clear D6 hl6 hxs lxs nx nt lx xs x t
      obtain ⟨c3, hc3⟩ : ∃ c3, c2 ++ [(m, DK.size 80)] ++ [(m, DK.size bl)] = c3 := ⟨_, rfl⟩
      have lc3 : c3.length ≤ 36 := by rw [← hc3, List.length_append, List.length_append]; show c2.length + 1 + 1 ≤ 36; omega
      rw [hc3] at D7
      -- five pieces
      refine ⟨5, rfl, by decide, by decide, for_range (lo := 0) (n := (5 : Int).toNat) (fun j σ H' => ∃ u2 : Option V, σ = [some (.ref fa), some (.ref q), u2, u3, u4, u5, some (.int m), some (.int bl)] ∧ DeC H H' fa q (c3 ++ List.replicate j (m, .piece)) ∧ H' l = some (.lst [V.int 2, .int 3])) ⟨_, rfl, by rw [List.replicate_zero, List.append_nil]; exact D7, hl7⟩ ?_ ?_⟩
      · rintro j σ H5 hj ⟨u2, rfl, D5, hl5⟩
        have hj : j < 5 := hj
        obtain ⟨xs, hxs, lxs⟩ := D5.qAt
        obtain ⟨a, ha, ha1⟩ : ∃ a : Nat, 72 - 8 * (0 + (j : Int)) = a ∧ a < 100 := ⟨72 - 8 * j, by omega, by omega⟩
        refine ⟨_, rfl, .inl ⟨rfl, _, .inl (.inl hxs)⟩, _, rfl, (by show 2 ≤ sizeLine; decide), fun x nx => ?_⟩
        refine ⟨_, rfl, _, _, rfl, rfl, (by show CMul 8 _; exact .inl ⟨by decide, by decide⟩), _, _, rfl, rfl, (by show 3 ≤ sizeLine; decide), fun t nt => ?_⟩
        refine ⟨q, xs, _, rfl, rfl, (same_upd nt) _ _ ((same_upd nx) _ _ hxs), ?_, ?_⟩
        · rw [lxs, List.length_append, List.length_replicate]
          exact small1000 (by omega)
        refine add (dk := .piece) (cc := 9) D5 hl5 cm ha1 (by decide) (fun Hy y e => e) x t nx nt xs hxs fun D6 hl6 => ?_
        rw [← ha] at D6 hl6
        refine ⟨_, rfl, ?_, hl6⟩
        rw [List.replicate_succ', ← List.append_assoc]
        exact D6
      rintro σ H8 ⟨v2, rfl, D8, hl8⟩
      have D8 : DeC H H8 fa q (c3 ++ List.replicate 5 (m, .piece)) := D8
      obtain ⟨xs, hxs, lxs⟩ := D8.qAt
      rw [List.length_append, List.length_replicate] at lxs
      refine ⟨_, rfl, .inl ⟨rfl, _, .inl (.inl hxs)⟩, _, rfl, (by show 3 ≤ sizeLine; decide), fun x nx => ⟨(by show 3 ≤ sizeLine; decide), fun t nt => ?_⟩⟩
      refine ⟨q, xs, _, rfl, rfl, (same_upd nt) _ _ ((same_upd nx) _ _ hxs), small1000 (by omega), ?_⟩
      refine add (dk := .size 80) (a := 0) (cc := 81) D8 hl8 cm (by decide) (by decide) (fun Hy y e => ⟨e, by decide⟩) x t nx nt xs hxs fun D9 hl9 => ?_
      have ec : c3 ++ List.replicate 5 (m, DK.piece) ++ [(m, DK.size 80)] = c0 ++ (tl ++ finL m bl) := by
        rw [← hc3, ← hc2, ← hc1]
        unfold finL
        simp only [List.append_assoc]
      rw [ec] at D9
      refine ⟨_, _, _, _, _, _, _, rfl, D9, ?_, hl9⟩
      have : i = 0 ∨ i = 1 := by omega
      rcases this with z | z
      · subst z
        have ht : tl = [] := ht
        have hm : m = 2 := by omega
        exact ⟨bl, b0, by omega, by rw [ht, hm]; rfl⟩
      · subst z
        obtain ⟨b, hb0, hb1, ht⟩ := ht
        have hm : m = 3 := by omega
        exact ⟨b, bl, hb0, hb1, b0, by omega, by rw [ht, hm]⟩
    rintro σ H9 ⟨u2, u3, u4, u5, u6, u7, tl, rfl, D9, ht, hl9⟩
    exact ⟨_, rfl, k H9 q c0 tl D9 ht⟩
end
end K09
namespace K09
open PySem PySem.Spec PyProof.Rows L2 Rg
/-! ### where the deeds lead -/
def NR (s : Int) (t : Nat) (s' : Int) (t' : Nat) : DK → Prop
  | .piece => s' = s ∧ t' ≤ t - 2
  | .size x => x ≤ 80 → (x ≤ s ∨ t = 0) → s' = x
theorem NumR.nr {s s' : Int} {G G' : Nat → Int} {dk : DK} (h : NumR s G s' G' dk) : NR s (tbN G s) s' (tbN G' s') dk := by
  cases dk with
  | piece => exact h
  | size x => exact h
def Wp : List (Int × DK) → Int → Nat → Int → Nat → Prop
  | [], s1, _, s2, _ => s1 = 80 ∧ s2 = 80
  | (m, dk) :: r, s1, t1, s2, t2 => ∀ s1' t1' s2' t2', (m = 2 → s2' = s2 ∧ t2' = t2 ∧ NR s1 t1 s1' t1' dk) → (m = 3 → s1' = s1 ∧ t1' = t1 ∧ NR s2 t2 s2' t2' dk) → t1' ≤ 10 → t2' ≤ 10 → Wp r s1' t1' s2' t2'
theorem wp_any {tl : List (Int × DK)} (h : ∀ s1 t1 s2 t2, t1 ≤ 10 → t2 ≤ 10 → Wp tl s1 t1 s2 t2) : ∀ (rnd : List (Int × DK)) (s1 : Int) (t1 : Nat) (s2 : Int) (t2 : Nat), t1 ≤ 10 → t2 ≤ 10 → Wp (rnd ++ tl) s1 t1 s2 t2
  | [], _, _, _, _, a, b => h _ _ _ _ a b
  | _ :: r, _, _, _, _, _, _ => fun _ _ _ _ _ _ a b => wp_any h r _ _ _ _ a b
theorem wp_pc2 {r : List (Int × DK)} {s1 s2 : Int} {t2 : Nat} (b2 : t2 ≤ 10) : ∀ (k t1 : Nat), (∀ t1', t1' ≤ t1 - 2 * k → t1' ≤ 10 → Wp r s1 t1' s2 t2) → t1 ≤ 10 → Wp (List.replicate k (2, .piece) ++ r) s1 t1 s2 t2
  | 0, t1, h, b1 => h t1 (by omega) b1
  | k + 1, t1, h, b1 => fun s1' t1' s2' t2' h2 _ a b => by
    obtain ⟨rfl, rfl, rfl, ht⟩ := h2 rfl
    exact wp_pc2 b2 k t1' (fun t h1 h2 => h t (by omega) h2) a
theorem wp_pc3 {r : List (Int × DK)} {s1 s2 : Int} {t1 : Nat} (b1 : t1 ≤ 10) : ∀ (k t2 : Nat), (∀ t2', t2' ≤ t2 - 2 * k → t2' ≤ 10 → Wp r s1 t1 s2 t2') → t2 ≤ 10 → Wp (List.replicate k (3, .piece) ++ r) s1 t1 s2 t2
  | 0, t2, h, b2 => h t2 (by omega) b2
  | k + 1, t2, h, b2 => fun s1' t1' s2' t2' _ h3 a b => by
    obtain ⟨rfl, rfl, rfl, ht⟩ := h3 rfl
    exact wp_pc3 b1 k t2' (fun t h1 h2 => h t (by omega) h2) b
theorem wp_f2 {r : List (Int × DK)} {b : Int} (hb : b ≤ 80) (h : ∀ t1 s2 t2, t1 ≤ 10 → t2 ≤ 10 → Wp r 80 t1 s2 t2) (s1 : Int) (t1 : Nat) (s2 : Int) (t2 : Nat) (b1 : t1 ≤ 10) (b2 : t2 ≤ 10) : Wp (finL 2 b ++ r) s1 t1 s2 t2 := by
  unfold finL
  simp only [List.append_assoc]
  refine wp_pc2 b2 6 t1 (fun t1' h1 _ => ?_) b1
  intro s1' t1a s2' t2' h2 _ a1 a2
  obtain ⟨rfl, rfl, hs⟩ := h2 rfl
  have e : s1' = 80 := hs (by decide) (.inr (by omega))
  subst e
  intro s1b t1b s2' t2' h2 _ c1 c2
  obtain ⟨rfl, rfl, hs⟩ := h2 rfl
  have e : s1b = b := hs hb (.inl hb)
  subst e
  refine wp_pc2 c2 5 t1b (fun t1' h1 _ => ?_) c1
  intro s1c t1c s2' t2' h2 _ d1 d2
  obtain ⟨rfl, rfl, hs⟩ := h2 rfl
  have e : s1c = 80 := hs (by decide) (.inr (by omega))
  subst e
  exact h _ _ _ d1 d2
theorem wp_f3 {r : List (Int × DK)} {b s1 : Int} (hb : b ≤ 80) (h : ∀ t1 t2, t1 ≤ 10 → t2 ≤ 10 → Wp r s1 t1 80 t2) (t1 : Nat) (s2 : Int) (t2 : Nat) (b1 : t1 ≤ 10) (b2 : t2 ≤ 10) : Wp (finL 3 b ++ r) s1 t1 s2 t2 := by
  unfold finL
  simp only [List.append_assoc]
  refine wp_pc3 b1 6 t2 (fun t2' h1 _ => ?_) b2
  intro s1' t1' s2' t2a _ h3 a1 a2
  obtain ⟨rfl, rfl, hs⟩ := h3 rfl
  have e : s2' = 80 := hs (by decide) (.inr (by omega))
  subst e
  intro s1' t1' s2b t2b _ h3 c1 c2
  obtain ⟨rfl, rfl, hs⟩ := h3 rfl
  have e : s2b = b := hs hb (.inl hb)
  subst e
  refine wp_pc3 c1 5 t2b (fun t2' h1 _ => ?_) c2
  intro s1' t1' s2c t2c _ h3 d1 d2
  obtain ⟨rfl, rfl, hs⟩ := h3 rfl
  have e : s2c = 80 := hs (by decide) (.inr (by omega))
  subst e
  exact h _ _ d1 d2
theorem wp_all {rnd tl : List (Int × DK)} (h : TlOk 2 tl) (s1 : Int) (t1 : Nat) (s2 : Int) (t2 : Nat) (b1 : t1 ≤ 10) (b2 : t2 ≤ 10) : Wp (rnd ++ tl) s1 t1 s2 t2 := by
  obtain ⟨b, b', _, hb, _, hb', rfl⟩ := h
  refine wp_any (fun s1 t1 s2 t2 a1 a2 => ?_) rnd s1 t1 s2 t2 b1 b2
  refine wp_f2 hb (fun t1 s2 t2 a1 a2 => ?_) s1 t1 s2 t2 a1 a2
  rw [← List.append_nil (finL 3 b')]
  exact wp_f3 (r := []) hb' (fun t1 t2 _ _ => (show (80 : Int) = 80 ∧ (80 : Int) = 80 from ⟨rfl, rfl⟩)) t1 s2 t2 a1 a2
/-! ### the image of the rows -/
theorem of_M {e : Ev} {m mk sz : Int} {M0 M : List (List Int)} {li : List Int} {G : Nat → Int} {C : Nat → List Int} {kd us : List Int} {o1 i : Nat} (S : Stt 24 5 e m M0 li mk M G C kd us sz o1 i) : ofM 24 5 M 24 = M := by
  have ml := S.k.ml
  have hf : fdOf 24 5 = 10 := by decide
  apply List.ext_getElem?
  intro x
  by_cases hx : x < 24
  · rw [ofM_get (b := 24) (by omega)]
    by_cases z : x < 24 ∧ kindOf 24 5 M x = 0
    · rw [if_pos z]
      have hk := z.2
      rw [S.k.kind (by omega)] at hk
      have e3 : kd[x]? = some 0 := by
        have hl : x < kd.length := by have := S.k.kl; omega
        rw [List.getElem?_eq_getElem hl] at hk ⊢
        exact congrArg some hk
      have h10 : fdOf 24 5 ≤ x := Classical.byContradiction fun q => by
        have := S.k.kf x (by omega)
        rw [e3] at this
        cases this
      obtain ⟨nx, gx⟩ := (S.free0 h10 (by omega)).mp e3
      exact (S.zr x h10 (by omega) nx gx).symm
    · rw [if_neg z, List.getElem?_eq_getElem (show x < M.length by omega)]
      rfl
  · rw [List.getElem?_eq_none (by unfold ofM; simp; omega), List.getElem?_eq_none (by omega)]
theorem of_H {b n : Int} {M : List (List Int)} {kd us li : List Int} {i : Nat} (K : Kds 24 5 M kd us li i) : ofH 24 5 M 24 = heldL M := by
  have hf : fdOf 24 5 = 10 := by decide
  apply List.ext_getElem?
  intro x
  by_cases hx : x < 24
  · have e1 := ofH_get (b := 24) (n := 5) (R := M) (i := 24) (x := x) (by omega)
    rw [e1, heldL_get hx]
    congr 1
    have hl : x < kd.length := by have := K.kl; omega
    have hk := K.kind (x := x) (by omega)
    have hm := K.mp x (by omega)
    rw [List.getElem?_eq_getElem hl] at hk hm
    have hk : kindOf 24 5 M x = kd[x] := hk
    have hm : cellAt M (2 + x / 8) (x % 8) = kd[x] := hm
    rw [hk, hm]
    have k3 := K.k3 x kd[x] (List.getElem?_eq_getElem hl)
    by_cases h10 : x < 10
    · have := K.kf x (by omega)
      rw [List.getElem?_eq_getElem hl] at this
      rw [if_pos (c := x < 24 ∧ ¬kd[x] = 0) ⟨hx, by rw [Option.some.inj this]; decide⟩, if_pos (c := x < 10 ∨ kd[x] > 0) (.inl h10)]
    · by_cases z : kd[x] = 0
      · rw [if_neg (by omega), if_neg (by omega)]
      · rw [if_pos ⟨hx, z⟩, if_pos (.inr (by omega))]
  · rw [List.getElem?_eq_none (by unfold ofH; simp; omega), List.getElem?_eq_none (by unfold heldL; simp; omega)]
theorem of_ho {M : List (List Int)} {kd us li : List Int} {i : Nat} (K : Kds 24 5 M kd us li i) : HoS 24 5 (heldL M) (heldL M) kd ∧ ∀ h ∈ heldL M, h ≤ 1 := by
  have hf : fdOf 24 5 = 10 := by decide
  have ll : (heldL M).length = 24 := by unfold heldL; simp
  have kl := K.kl
  have at_ : ∀ x : Nat, x < 24 → 10 ≤ x → ∀ k, kd[x]? = some k → (heldL M)[x]? = some (if k > 0 then 1 else 0) := fun x h1 h2 k e => by
    rw [heldL_get h1]
    have hm := K.mp x (by omega)
    rw [e] at hm
    have hm : cellAt M (2 + x / 8) (x % 8) = k := hm
    rw [hm]
    by_cases z : k > 0
    · rw [if_pos (.inr z), if_pos z]
    · rw [if_neg (by omega), if_neg z]
  have lt : ∀ (x : Nat) (k : Int), kd[x]? = some k → x < 24 := fun x k e => by
    have := (List.getElem?_eq_some_iff.mp e).1
    omega
  refine ⟨⟨by omega, by omega, fun x h e => ?_, fun x k h e hk => ?_, fun x h => ?_⟩, fun h hh => ?_⟩
  · have := at_ x (lt x 0 e) (by omega) 0 e
    exact ⟨this, this⟩
  · have k3 := K.k3 x k e
    refine ⟨1, ?_, by decide⟩
    rw [at_ x (lt x k e) (by omega) k e, if_pos (by omega)]
  · refine ⟨1, ?_, by decide⟩
    rw [heldL_get (by omega), if_pos (.inl (by omega))]
  · unfold heldL at hh
    obtain ⟨x, _, rfl⟩ := List.mem_map.mp hh
    split <;> decide
/-- places that are held and stand apart, none twice -/
theorem SI.many {CI CP : Addr} {H0 H : Hp} {im : Addr} {A : IA} {v : IV} {b n s : Int} (S : SI CI CP H im A v b n s []) (I0 : ∀ x ∈ A.reads im, H0 x ≠ none) : ∀ X : List Addr, (∀ x ∈ X, H0 x = none ∧ ∃ o, H x = some o) → ∃ L, SI CI CP H im A v b n s L ∧ (∀ p ∈ L, H0 p.1 = none) ∧ ∀ x ∈ X, ∀ o, H x = some o → (x, o) ∈ L
  | [], _ => ⟨[], S, fun p h => absurd h List.not_mem_nil, fun x h => absurd h List.not_mem_nil⟩
  | x :: X, h => by
    obtain ⟨L, SL, n0, hL⟩ := SI.many S I0 X fun y hy => h y (List.mem_cons_of_mem _ hy)
    obtain ⟨nx, o, ho⟩ := h x (List.mem_cons_self ..)
    by_cases z : ∃ p ∈ L, p.1 = x
    · refine ⟨L, SL, n0, fun y hy o' ho' => ?_⟩
      rcases List.mem_cons.mp hy with e | e
      · obtain ⟨p, hp, ep⟩ := z
        have := SL.F.at_ p hp
        rw [ep, ← e, ho'] at this
        have e2 : p = (y, o') := by
          rw [Prod.ext_iff]
          exact ⟨ep.trans e.symm, (Option.some.inj this).symm⟩
        rw [← e2]
        exact hp
      · exact hL y e o' ho'
    · refine ⟨(x, o) :: L, SL.add ho (fun p hp e => z ⟨p, hp, e⟩) (fun hx => I0 x hx nx), fun p hp => ?_, fun y hy o' ho' => ?_⟩
      · rcases List.mem_cons.mp hp with e | e
        · rw [e]; exact nx
        · exact n0 p e
      · rcases List.mem_cons.mp hy with e | e
        · subst e
          rw [ho] at ho'
          rw [Option.some.inj ho']
          exact List.mem_cons_self ..
        · exact List.mem_cons_of_mem _ (hL y e o' ho')
end K09
namespace K09
open PySem PySem.Spec PyProof.Rows L2 Rg
section
variable {P : Program} {w0_ : World} {K : PySem.W.Frag} {mg : Str → Option Value} {base : Heap}
def sp_law (K : PySem.W.Frag) : Sp := fun vs H Q _ => ∃ (a : Addr) (ns : List Int), vs = [.ref a] ∧ SqL K H a (ns.map V.int) ∧ ns.length ≤ 63 ∧ ∀ H', Q (.bl true) H'
theorem ok_law (T : Tx K mg) : FnOk P w0_ K mg base CX0 9 T.f_law T.fd_law ["_law_script"] (sp_law K) := by
  refine T.F_law.ok sc_law (fun vs H Q E h => ?_) (fun cdv A0_ outer s H vs Q E hr h => ?_)
  · obtain ⟨_, _, rfl, _⟩ := h; rfl
  · obtain ⟨a, ns, rfl, hS, hlen, k⟩ := h
    have hr1 : Room 1 _ := hr.mono (by decide)
    have hr2 : Room 2 _ := hr.mono (by decide)
    have hr3 : Room 3 _ := hr.mono (by decide)
    have hr5 : Room 5 _ := hr.mono (by decide)
    have hr6 : Room 6 _ := hr.mono (by decide)
    refine ⟨_, (pss_cons (ps_set (i := 1) sc_law.nd rfl (.inl rfl) (pe_call (ok_Lfeed T) hr1 rfl T.mg_Lfeed T.F_Lfeed.kp (b_Lfeed T) .nil pass0 (pa_cons (pv 0) pa_nil)))
      (pss_cons (ps_set (i := 2) sc_law.nd rfl (.inl rfl) (pe_call0 (ok_Lbase T) hr1 rfl T.mg_Lbase T.F_Lbase.kp (b_Lbase T) .nil pass0))
      (pss_cons (ps_set (i := 3) sc_law.nd rfl (.inl rfl) (pe_call (ok_Lspare T) hr2 rfl T.mg_Lspare T.F_Lspare.kp (b_Lspare T) .nil pass0 (pa_cons (pv 1) pa_nil)))
      (pss_cons (ps_expr (pe_call (ok_Lfile T) hr2 rfl T.mg_Lfile T.F_Lfile.kp (b_Lfile T) .nil pass0 (pa_cons (pv 2) (pa_cons (pv 1) (pa_cons pe_int (pa_cons (pv 3) pa_nil))))))
      (pss_cons (ps_expr (pe_call (ok_Lfile T) hr2 rfl T.mg_Lfile T.F_Lfile.kp (b_Lfile T) .nil pass0 (pa_cons (pv 2) (pa_cons (pv 1) (pa_cons pe_int (pa_cons (pv 3) pa_nil))))))
      (pss_cons (ps_set (i := 4) sc_law.nd rfl (.inl rfl) (pe_smeth T.mg_Image T.cr_Image T.sm_Image_of_cells (ok_of_cells T) hr3 (b_Image_of_cells T) .nil pass0 (pa_cons (pe_makeK T.mk_Plan (ok_Plan_init T) hr2 rfl T.mg_Plan (kb_Plan T) pass0 (pa_cons pe_int pa_nil) (pk_cons pe_int (pk_cons pe_int pk_nil))) (pa_cons (pe_lc rfl (own := [("_law_row", 5)]) (g := gName 5) (tt := tYes) sc_law.nd (pi_list (pv 2)) (blkOk_by (N := ["_law_script", "_law_feed_here", "_law_rows", "_law_spare_here", "_law_image", "_law_row", "_law_world", "_law_deed", "_law_at", "_law_count", "_law_n", "_law_words_here"]) (sc := defScope s_law) (by decide +kernel)) (fun _ _ _ _ _ => pg_name (i := 5) sc_law.nd rfl (Or.inl rfl)) (fun _ _ _ _ _ => pts_nil) (fun _ _ _ _ _ => (pe_listof (K := K) (pv 5) T.b_list))) pa_nil))))
      (pss_cons (ps_set (i := 6) sc_law.nd rfl (.inl rfl) (pe_lst (pa_cons (pv 2) (pa_cons (pe_call (ok_Lheld T) hr1 rfl T.mg_Lheld T.F_Lheld.kp (b_Lheld T) .nil pass0 (pa_cons (pv 2) pa_nil)) (pa_cons (pe_call (ok_Lheld T) hr1 rfl T.mg_Lheld T.F_Lheld.kp (b_Lheld T) .nil pass0 (pa_cons (pv 2) pa_nil)) (pa_cons pe_int pa_nil))))))
      (pss_cons (ps_if (PW.pt (pw_or (pt_not (pt_val (pe_call (ok_Lsame T 3) hr5 rfl T.mg_Lsame T.F_Lsame.kp (b_Lsame T) .nil pass0 (pa_cons (pe_call (ok_Lstate T) hr1 rfl T.mg_Lstate T.F_Lstate.kp (b_Lstate T) .nil pass0 (pa_cons (pv 4) pa_nil)) (pa_cons (pe_call (ok_Lkept T) hr1 rfl T.mg_Lkept T.F_Lkept.kp (b_Lkept T) .nil pass0 (pa_cons (pv 6) pa_nil)) pa_nil))))) (pw_or1 (pt_not (pt_val (pe_call (ok_Llooks T) hr6 rfl T.mg_Llooks T.F_Llooks.kp (b_Llooks T) .nil pass0 (pa_cons (pv 4) (pa_cons (pv 2) (pa_cons pe_int (pa_cons pe_int pa_nil))))))))))
        (pss_one (ps_ret pe_bl))
        pss_nil)
      (pss_cons (ps_for PassesOwn.never rfl (pi_list (pe_call (ok_Ldeeds T) hr2 rfl T.mg_Ldeeds T.F_Ldeeds.kp (b_Ldeeds T) .nil pass0 (pa_cons (pv 1) pa_nil))) (pg_tup rfl (pgs_cons (pg_name (i := 7) sc_law.nd rfl (.inl rfl)) (pgs_cons (pg_name (i := 8) sc_law.nd rfl (.inl rfl)) (pgs_cons (pg_name (i := 9) sc_law.nd rfl (.inl rfl)) pgs_nil))))
        (pss_one (ps_if (PW.pt (pw_or (pt_not (pt_val (pe_call (ok_Lrun T) hr rfl T.mg_Lrun T.F_Lrun.kp (b_Lrun T) .nil pass0 (pa_cons (pv 4) (pa_cons (pv 6) (pa_cons (pv 7) pa_nil)))))) (pw_or1 (pt_not (pt_val (pe_call (ok_Llooks T) hr6 rfl T.mg_Llooks T.F_Llooks.kp (b_Llooks T) .nil pass0 (pa_cons (pv 4) (pa_cons (pe_ix ix_list (pv 6) pe_int (fun _ _ => rfl)) (pa_cons (pv 8) (pa_cons (pv 9) pa_nil))))))))))
          (pss_one (ps_ret pe_bl))
          pss_nil)))
      (pss_cons (ps_for PassesOwn.never rfl (pi_list (pe_lst (pa_cons pe_int (pa_cons pe_int pa_nil)))) (pg_name (i := 10) sc_law.nd rfl (.inl rfl))
        (pss_cons (ps_set (i := 11) sc_law.nd rfl (.inl rfl) (pe_call (ok_Lwords T) hr2 rfl T.mg_Lwords T.F_Lwords.kp (b_Lwords T) .nil pass0 (pa_cons (pe_ix ix_list (pv 6) pe_int (fun _ _ => rfl)) (pa_cons (pv 10) pa_nil))))
        (pss_one (ps_if (PW.pt (pw_or (pt_cmpR op_ne (pe_callB call_len_seq rfl T.b_len (by decide +kernel) (pa_cons (pv 11) pa_nil)) pe_int (nomark _)) (pw_or (pt_val (pe_call (ok_unfinished T) hr5 rfl T.mg_unfinished T.F_unfinished.kp (b_unfinished T) .nil pass0 (pa_cons (pv 4) (pa_cons (pv 10) pa_nil)))) (pw_or1 (pt_not (pt_val (pe_call (ok_Lsame T 1) hr3 rfl T.mg_Lsame T.F_Lsame.kp (b_Lsame T) .nil pass0 (pa_cons (pe_call (ok_file_words T) hr6 rfl T.mg_file_words T.F_file_words.kp (b_file_words T) .nil pass0 (pa_cons (pv 4) (pa_cons (pv 10) pa_nil))) (pa_cons (pv 11) pa_nil)))))))))
          (pss_one (ps_ret pe_bl))
          pss_nil))))
      (pss_one (ps_ret (pe_call (ok_Lsame T 3) hr5 rfl T.mg_Lsame T.F_Lsame.kp (b_Lsame T) .nil pass0 (pa_cons (pe_call (ok_Lstate T) hr1 rfl T.mg_Lstate T.F_Lstate.kp (b_Lstate T) .nil pass0 (pa_cons (pv 4) pa_nil)) (pa_cons (pe_call (ok_Lkept T) hr1 rfl T.mg_Lkept T.F_Lkept.kp (b_Lkept T) .nil pass0 (pa_cons (pv 6) pa_nil)) pa_nil))))))))))))))), ?_⟩
    -- the feed, the rows, the blocks to spare
    refine ⟨_, rfl, a, ns, rfl, hS, hlen, fun H0 fa f0 S0 nfa efa lfs => ?_⟩
    refine ⟨rfl, fun H1 r rs G1 => ?_⟩
    have fa1 := G1.same _ _ efa
    refine ⟨_, rfl, fa, f0, rfl, fa1, fun f1 H2 sq sp hl S2 nsq esq lsp nd rg => ?_⟩
    have ne0 := G1.nin0 efa
    have g2 : Grid H2 r rs baseM := (G1.grid.keep (H' := upd H1 fa (.lst (f1.map V.int))) fun b o hb e => by rw [upd_ne (by rcases hb with z | z; (· rw [z]; exact fun y => ne0.1 y.symm); (· exact fun y => ne0.2 (by rw [← y]; exact z)))]; exact e).same S2
    have kz : ∀ x : Nat, x < 24 → 10 ≤ x → kd0[x]? = some 0 := by decide +kernel
    have B2 : Bu H2 r rs baseM fa f1 sq sp := by
      refine ⟨g2, by decide, by decide +kernel, S2 _ _ upd_same, esq, ne0.1, ne0.2, fun z => ?_, fun z => ?_, fun z => ?_⟩
      · rw [z, G1.grid.out] at nsq; cases nsq
      · obtain ⟨o, e⟩ := G1.grid.held z
        rw [e] at nsq; cases nsq
      · rw [← z, fa1] at nsq; cases nsq
    have so2 : SpOk sp kd0 := ⟨nd, fun x hx => ⟨(rg x hx).1, (rg x hx).2, kz _ (by have := rg x hx; omega) (by have := rg x hx; omega)⟩⟩
    clear g2 S2 esq nsq fa1 ne0 G1 efa
    -- the files
    refine ⟨_, rfl, _, rfl, _, rfl, r, rs, baseM, fa, f1, sq, sp, 2, ev0, kd0, [0, 0, 0, 0], 0, rfl, B2, bare_base, so2, by omega, by decide, by decide, fun H3 rs3 M3 f3 sp3 G3 C3 kd3 us3 sz3 i3 o3 B3 S3 te3 so3 lsp3 lf3 => ?_⟩
    refine ⟨_, rfl, _, rfl, _, rfl, r, rs3, M3, fa, f3, sq, sp3, 3, evOf G3 o3, kd3, us3, i3, rfl, B3, S3.bare, so3, lsp3, by decide, by decide, fun H4 rs4 M4 f4 sp4 G4 C4 kd4 us4 sz4 i4 o4 B4 S4 te4 so4 lsp4 lf4 => ?_⟩
    have Sa := Stt.other S3 S4 (by decide)
    have Sb := S4.rebase
    clear S3 B2 B3 so2 so3 so4 lsp3 lsp4
    have ml4 := B4.ml
    have m84 := B4.m8
    -- the image
    refine ⟨rfl, rfl, fun px pdx npx npdx ned => ?_⟩
    refine ⟨px, pdx, 24, 5, 30, rfl, upd_same, by decide, by decide, by decide, by decide, by decide, by decide, by decide, rfl, ?_⟩
    have Pl : PlanAt T.C_Plan (upd (upd (upd H4 pdx (.own px)) px (.ins T.C_Plan pdx [])) px (.ins T.C_Plan pdx (planF 24 5 30))) px 24 5 30 :=
      ⟨⟨pdx, upd_same⟩, by decide, by decide, by decide, by decide, by decide, by decide, by decide⟩
    have s5 : Same H4 (upd (upd (upd H4 pdx (.own px)) px (.ins T.C_Plan pdx [])) px (.ins T.C_Plan pdx (planF 24 5 30))) := fun x o e => by
      rw [upd_ne (ne_of_none e npx), upd_ne (ne_of_none e npx), upd_ne (ne_of_none e npdx)]
      exact e
    generalize upd (upd (upd H4 pdx (.own px)) px (.ins T.C_Plan pdx [])) px (.ins T.C_Plan pdx (planF 24 5 30)) = H5 at Pl s5 ⊢
    have B5 := B4.same s5
    refine ⟨_, rfl, r, rfl, ⟨_, .of B5.g.out⟩, fun D hD => ?_⟩
    refine lc_list (K := K) (a := r) (xs := rs4.map V.ref) (fun i H' => ∃ qs, NewGrid H5 H' D qs (M4.take i))
      ⟨[], NewGrid.start (Same.refl _) hD hD⟩ (fun i H' _ ⟨qs, G⟩ => .of (G.same _ _ B5.g.out)) ?_ ?_
    · rintro i y H' hi ⟨qs, G⟩
      have hil : i < rs4.length := by
        have := (List.getElem?_eq_some_iff.mp hi).1
        rw [List.length_map] at this
        exact this
      rw [List.getElem?_map, List.getElem?_eq_getElem hil] at hi
      have hi : V.ref rs4[i] = y := Option.some.inj hi
      subst hi
      have hiR : i < M4.length := by rw [← B5.g.len]; exact hil
      have hrow := G.same _ _ (B5.g.row i rs4[i] M4[i] (List.getElem?_eq_getElem hil) (List.getElem?_eq_getElem hiR))
      refine ⟨rfl, ?_⟩
      refine yes_ ?_
      refine ⟨_, rfl, rs4[i], _, rfl, .inl (.of hrow), fun q hq => ?_⟩
      refine ⟨_, by rw [upd_ne (ne_of_none G.grid.out hq)]; exact G.grid.out, ?_, qs ++ [q], ?_⟩
      · rw [List.length_map, G.grid.len, List.length_take]
        exact small1000 (by omega)
      · rw [List.take_succ, List.getElem?_eq_getElem hiR]
        exact G.snoc (same_upd hq) hq upd_same
    rintro H6 ⟨qs, G6⟩
    rw [List.length_map, B5.g.len, List.take_length] at G6
    refine ⟨px, D, qs, M4, 24, 5, 30, rfl, Pl.same G6.same, G6.grid, by omega, m84, fun H7 im A S7 nim I7 N7 eA => ?_⟩
    obtain ⟨v, hv⟩ : ∃ v, ofV 24 5 M4 (24 : Int).toNat = v := ⟨_, rfl⟩
    have vM : v.M = M4 := by rw [← hv]; exact of_M Sb
    have vho : v.ho = heldL M4 := by rw [← hv]; exact of_H (b := 24) (n := 5) Sb.k
    have vst : v.st = heldL M4 := by rw [← hv]; exact of_H (b := 24) (n := 5) Sb.k
    have vse : v.se = 1 := by rw [← hv]; rfl
    have vhd : v.hd = [] := by rw [← hv]; rfl
    rw [hv] at I7
    have B6 := B5.same G6.same
    have B7 := B6.same S7
    -- the world
    refine ⟨_, rfl, _, rfl, r, rs4, M4, rfl, B7.g, ml4, m84, fun H8 t8 S8 n8 e8 => ?_⟩
    have B8 := B7.same S8
    refine ⟨_, rfl, r, rs4, M4, rfl, B8.g, ml4, m84, fun H9 t9 S9 n9 e9 => ⟨(by show 4 ≤ sizeLine; decide), fun w nw => ?_⟩⟩
    have B9 := B8.same S9
    have sw := same_upd (o := .lst [.ref r, .ref t8, .ref t9, .int 1]) nw
    have ew : upd H9 w (.lst [.ref r, .ref t8, .ref t9, .int 1]) w = some (.lst [.ref r, .ref t8, .ref t9, .int 1]) := upd_same
    generalize upd H9 w (.lst [.ref r, .ref t8, .ref t9, .int 1]) = Hw at sw ew ⊢
    have Bw := B9.same sw
    have ll : (heldL M4).length = 24 := by unfold heldL; simp
    have S79 := S8.trans S9
    have S7w := S79.trans sw
    have I9 := I7.keep S7w
    have rd : ∀ {x : Addr} {xs : List V}, H6 x = some (.lst xs) → x ∉ A.reads im := fun {x xs} e z => by
      simp only [IA.reads, List.mem_cons] at z
      rcases z with z | z | z | z | z | z | z | z
      · rw [← z, e] at nim; cases nim
      · obtain ⟨dxp, hpl⟩ := I7.pl.ob
        rw [← z, S7 _ _ e] at hpl
        cases hpl
      · have := N7.ca; rw [← z, e] at this; cases this
      · have := N7.ho; rw [← z, e] at this; cases this
      · have := N7.st; rw [← z, e] at this; cases this
      · have := N7.hd; rw [← z, e] at this; cases this
      · have := I7.ba
        rw [← z, S7 _ _ e] at this
        cases this
      · have := N7.rs _ z; rw [e] at this; cases this
    have rs_l : ∀ x ∈ rs4, ∃ xs, H6 x = some (.lst xs) := fun x hx => by
      obtain ⟨j, hj, e⟩ := List.getElem_of_mem hx
      have hm : j < M4.length := by rw [← B6.g.len]; exact hj
      exact ⟨_, B6.g.row j x M4[j] (by rw [List.getElem?_eq_getElem hj, e]) (List.getElem?_eq_getElem hm)⟩
    have nr : ∀ {Hx : Hp} {x : Addr}, Same H7 Hx → Hx x = none → x ∉ A.reads im := fun {Hx x} s e z => by
      obtain ⟨o, e'⟩ := I7.held z
      rw [s _ _ e'] at e
      cases e
    have hn_ : ∀ {Hx : Hp} {x y : Addr} {o : HO}, Hx x = some o → Hx y = none → y ≠ x := fun h1 h2 z => by
      rw [z, h1] at h2
      cases h2
    have inr_ : ∀ {Hx : Hp} (g : Grid Hx r rs4 M4) {y : Addr}, Hx y = none → y ∉ rs4 := fun g y h1 z => by
      obtain ⟨o, e⟩ := g.held z
      rw [h1] at e
      cases e
    obtain ⟨W, hW⟩ : ∃ W : WA, W = ⟨w, r, t8, t9, rs4⟩ := ⟨_, rfl⟩
    have Y : WAt Hw W v := by
      rw [hW]
      refine ⟨by rw [vse]; exact ew, by rw [vM]; exact Bw.g, by rw [vho]; exact sw _ _ (S9 _ _ e8), by rw [vst]; exact sw _ _ e9, ?_, by rw [vM]; exact ml4, by rw [vM]; exact m84, by rw [vho]; exact ll, by rw [vst]; exact ll⟩
      unfold WA.all
      simp only [List.nodup_cons, List.mem_cons, not_or]
      exact ⟨⟨hn_ B9.g.out nw, hn_ (S9 _ _ e8) nw, hn_ e9 nw, inr_ B9.g nw⟩, ⟨fun z => hn_ B7.g.out n8 z.symm, fun z => hn_ B8.g.out n9 z.symm, B7.g.nin⟩, ⟨fun z => hn_ e8 n9 z.symm, inr_ B7.g n8⟩, inr_ B8.g n9, B7.g.nd⟩
    have ap : ∀ x ∈ W.all, x ∉ A.reads im := fun x hx => by
      rw [hW] at hx
      simp only [WA.all, List.mem_cons] at hx
      rcases hx with z | z | z | z | z
      · rw [z]; exact nr S79 nw
      · rw [z]; exact rd B6.g.out
      · rw [z]; exact nr (Same.refl _) n8
      · rw [z]; exact nr S8 n9
      · obtain ⟨xs, e⟩ := rs_l x z
        exact rd e
    have faW : fa ∉ W.all := fun z => by
      rw [hW] at z
      simp only [WA.all, List.mem_cons] at z
      rcases z with z | z | z | z | z
      · exact hn_ B9.f nw z.symm
      · exact B7.fr z
      · exact hn_ B7.f n8 z.symm
      · exact hn_ B8.f n9 z.symm
      · exact B7.fn z
    have faR : fa ∉ A.reads im := rd B6.f
    have T2 : Two v ⟨1 + 2, sz3, G3, C3, o3⟩ ⟨1 + 3, sz4, G4, C4, o4⟩ kd4 us4 i4 :=
      ⟨by rw [vM]; exact Sa, by rw [vM]; exact Sb, te3, te4, by rw [vho, vst]; exact (of_ho Sb.k).1, by rw [vho]; exact (of_ho Sb.k).2, by rw [vse]; decide, vhd⟩
    have fW := Bw.f
    have gW := Bw.g
    have eWw : w = W.w := by rw [hW]
    have eWr : r = W.r := by rw [hW]
    clear hW ew sw e8 e9 n8 n9 nw B9 B8 B7 B6 B5 B4 Bw S79 S7w S9 S8 S7 rd nr rs_l hn_ inr_ N7 I7 nim G6 hD s5 Pl npx npdx ned eA
    -- one and the other
    have same3 : ∀ {Hx Hy : Hp} {kx ky : KA} {v : IV} {A : IA} {W : WA}, WAt Hx W v → Kd Hy kx v.M v.ho v.st v.se → Kd Hy ky v.M v.ho v.st v.se → Sm Hy 3 (.ref kx.p) (.ref ky.p) := fun {Hx Hy kx ky v A W} Y k1 k2 =>
      smKd k1 k2 (by rw [Y.ml]; decide) (fun m hm => by rw [Y.m8 m hm]; decide) (by rw [Y.hl]; decide) (by rw [Y.sl]; decide)
    refine ⟨_, rfl, im, A, v, 24, 5, 30, rfl, I9, vhd, fun Ha ka Sa' nka Kda => ?_⟩
    refine ⟨_, rfl, W, v, (by rw [eWw]; rfl), Y.same Sa', fun Hb pb db Sb' npb ndb Kdb => ?_⟩
    refine ⟨_, _, rfl, same3 (A := A) Y (Kda.same Sb') Kdb, fun Hc Sc' => ⟨_, rfl, iteF ?_⟩⟩
    have Swc := (Sa'.trans Sb').trans Sc'
    refine ⟨_, rfl, _, rfl, im, A, v, r, rs4, _, _, kd4, us4, i4, 0, 90, rfl, I9.keep Swc, by rw [vM]; exact gW.same Swc, by rw [vM]; exact ml4, by rw [vM]; exact m84, T2, by decide, by decide, fun Hd Sd' => ⟨_, rfl, iteF ?_⟩⟩
    have Swd := Swc.trans Sd'
    clear Kda Kdb nka npb ndb Sa' Sb' Sc' Sd'
    have Id := I9.keep Swd
    have Yd := Y.same Swd
    have fd := Swd _ _ fW
    clear I9 Y fW gW Swc Swd
    -- the deeds
    refine ⟨_, rfl, fa, f4, rfl, fd, fun He q rnd tl DC ht => ?_⟩
    obtain ⟨f5, ps, xsq, ds, D, ec⟩ := DC
    have Xe : SI T.C_Image T.C_Plan He im A v 24 5 30 [] := (⟨Id, Fr.nil, fun p h => absurd h List.not_mem_nil⟩ : SI T.C_Image T.C_Plan Hd im A v 24 5 30 []).kp D.kp (fun x hx => by rw [List.mem_singleton.mp hx]; exact faR) (fun p h => absurd h List.not_mem_nil)
    have Ye : WAt He W v := Yd.keep fun x o hx e => D.kp _ _ e (by rw [List.mem_singleton]; exact fun z => faW (by rw [← z]; exact hx))
    have lps := D.lp
    have lxs := D.lq
    have ith : ∀ i, i < ds.length → ∃ p x d, ps[i]? = some p ∧ xsq[i]? = some x ∧ ds[i]? = some d := fun i h => ⟨ps[i], xsq[i], ds[i], List.getElem?_eq_getElem (by omega), List.getElem?_eq_getElem (by omega), List.getElem?_eq_getElem h⟩
    obtain ⟨L, SL, nL, hL⟩ := SI.many (H0 := Hd) Xe (fun x hx z => by obtain ⟨o, e⟩ := Id.held hx; rw [e] at z; cases z) (q :: (ps ++ xsq)) fun x hx => by
      refine ⟨D.nw x hx, ?_⟩
      rcases List.mem_cons.mp hx with z | z
      · exact ⟨_, by rw [z]; exact D.ql⟩
      · rcases List.mem_append.mp z with z | z
        · obtain ⟨j, hj, e⟩ := List.getElem_of_mem z
          obtain ⟨p, x', d, h1, h2, h3⟩ := ith j (by omega)
          rw [List.getElem?_eq_getElem hj] at h1
          have : ps[j] = p := Option.some.inj h1
          have h := (D.at_ j p x' d (by rw [List.getElem?_eq_getElem hj]; exact h1) h2 h3).1
          exact ⟨_, by rw [← e, this]; exact h⟩
        · obtain ⟨j, hj, e⟩ := List.getElem_of_mem z
          obtain ⟨p, x', d, h1, h2, h3⟩ := ith j (by omega)
          have h := (D.at_ j p x' d h1 h2 h3).2
          rw [List.getElem?_eq_getElem hj] at h2
          have e2 : x = x' := by rw [← e]; exact Option.some.inj h2
          rw [e2]
          cases hdk : d.dk with
          | piece => rw [hdk] at h; exact ⟨_, h⟩
          | size s => rw [hdk] at h; exact ⟨_, h.1⟩
    have R0 : Run T.C_Image T.C_Plan He im A v W L := ⟨SL, Ye, ap, fun p hp z => by
      obtain ⟨o, e⟩ := Yd.held z
      rw [nL p hp] at e
      cases e⟩
    have qL : (q, HO.lst (ps.map V.ref)) ∈ L := hL q (List.mem_cons_self ..) _ D.ql
    refine ⟨q, rfl, ⟨_, .of D.ql⟩, for_list (K := K) (a := q) (xs := ps.map V.ref) (fun i σ H' => ∃ (u7 u8 u9 : Option V) (A' : IA) (v' : IV) (W' : WA) (f1 f2 : FD) (kd us : List Int) (ii : Nat), σ = [some (.ref a), some (.ref fa), some (.ref r), some (.ref sq), some (.ref im), none, some (.ref w), u7, u8, u9, none, none] ∧ Run T.C_Image T.C_Plan H' im A' v' W' L ∧ W'.w = w ∧ Two v' f1 f2 kd us ii ∧ Wp ((rnd ++ tl).drop i) f1.sz (tbN f1.G f1.sz) f2.sz (tbN f2.G f2.sz)) ⟨_, _, _, A, v, W, _, _, kd4, us4, i4, rfl, R0, eWw.symm, T2, by rw [List.drop_zero]; exact wp_all ht _ _ _ _ tbN_le tbN_le⟩ (fun i σ H' _ ⟨_, _, _, _, _, _, _, _, _, _, _, _, R, _⟩ => .of (R.X.F.at_ _ qL)) ?_ ?_⟩
    · rintro i y σ H' hi ⟨u7, u8, u9, A', v', W', f1, f2, kd, us, ii, rfl, R, hw, T2', wp⟩
      rw [List.getElem?_map] at hi
      obtain ⟨p, hp, rfl⟩ := Option.map_eq_some_iff.mp hi
      have hil : i < ds.length := by have := (List.getElem?_eq_some_iff.mp hp).1; omega
      obtain ⟨p', x, d, h1, h2, h3⟩ := ith i hil
      obtain rfl : p = p' := Option.some.inj (hp.symm.trans h1)
      obtain ⟨hpt, hdx⟩ := D.at_ i p x d h1 h2 h3
      have hp' := R.X.F.at_ _ (hL p (List.mem_cons_of_mem _ (List.mem_append.mpr (.inl (List.mem_of_getElem? h1)))) _ hpt)
      have hd' : DeedAt H' x d.m d.dk := hdx.keep fun xs e => R.X.F.at_ _ (hL x (List.mem_cons_of_mem _ (List.mem_append.mpr (.inr (List.mem_of_getElem? h2)))) _ e)
      obtain ⟨hm, ha, hc⟩ := D.ok d (List.mem_of_getElem? h3)
      have edr : (rnd ++ tl).drop i = d.core :: (rnd ++ tl).drop (i + 1) := by
        have hc' : (rnd ++ tl)[i]? = some d.core := by rw [← ec, List.getElem?_map, h3]; rfl
        obtain ⟨hlt, e⟩ := List.getElem?_eq_some_iff.mp hc'
        rw [List.drop_eq_getElem_cons hlt, e]
      rw [edr] at wp
      refine ⟨p, _, rfl, .of hp', rfl, _, _, rfl, _, _, rfl, _, _, rfl, rfl, ?_⟩
      refine ⟨_, rfl, _, rfl, _, rfl, im, A', v', W', L, x, f1, f2, kd, us, ii, d.m, d.dk, (by rw [hw]; rfl), R, T2', hm, hd', fun H2 A2 v2 W2 g1 g2 kd2 us2 i2 R2 hw2 T22 n1 n2 => ⟨_, rfl, iteF ?_⟩⟩
      have hww : H2 w = some (.lst [.ref W2.r, .ref W2.h, .ref W2.s, .int v2.se]) := by
        have := R2.Y.w
        rw [hw2, hw] at this
        exact this
      refine ⟨_, rfl, _, rfl, w, _, 0, .ref W2.r, rfl, rfl, .of hww, atI_nat (j := 0) rfl, _, rfl, _, rfl, im, A2, v2, W2.r, W2.rs, g1, g2, kd2, us2, i2, d.a, d.c, rfl, R2.X.I, R2.Y.g, R2.Y.ml, R2.Y.m8, T22, ha, hc, fun H3 S3 => ⟨_, rfl, iteF ?_⟩⟩
      refine ⟨_, _, _, A2, v2, W2, g1, g2, kd2, us2, i2, rfl, R2.same S3, hw2.trans hw, T22, ?_⟩
      refine wp g1.sz (tbN g1.G g1.sz) g2.sz (tbN g2.G g2.sz) (fun e => ?_) (fun e => ?_) tbN_le tbN_le
      · obtain ⟨e1, e2⟩ := n1 e
        rw [e1]
        exact ⟨rfl, rfl, e2.nr⟩
      · obtain ⟨e1, e2⟩ := n2 e
        rw [e1]
        exact ⟨rfl, rfl, e2.nr⟩
    rintro σ Hf ⟨u7, u8, u9, A', v', W', f1, f2, kd, us, ii, rfl, R, hw, T2', wp⟩
    have edn : (rnd ++ tl).drop (ps.map V.ref).length = [] := List.drop_eq_nil_of_le (by rw [List.length_map, lps, ← ec, List.length_map]; exact Nat.le_refl _)
    rw [edn] at wp
    obtain ⟨z1, z2⟩ : f1.sz = 80 ∧ f2.sz = 80 := wp
    have hww : Hf w = some (.lst [.ref W'.r, .ref W'.h, .ref W'.s, .int v'.se]) := by
      have := R.Y.w
      rw [hw] at this
      exact this
    -- both files at the end
    refine ⟨(by show 2 ≤ sizeLine; decide), fun l nl => ?_⟩
    have s0 := same_upd (o := .lst [V.int 2, .int 3]) nl
    have e0 : upd Hf l (.lst [V.int 2, .int 3]) l = some (.lst [V.int 2, .int 3]) := upd_same
    generalize upd Hf l (.lst [V.int 2, .int 3]) = Hl at s0 e0 ⊢
    refine ⟨l, rfl, ⟨_, .of e0⟩, for_list (K := K) (a := l) (xs := [V.int 2, .int 3]) (fun i σ H' => ∃ u10 u11 : Option V, σ = [some (.ref a), some (.ref fa), some (.ref r), some (.ref sq), some (.ref im), none, some (.ref w), u7, u8, u9, u10, u11] ∧ Same Hl H') ⟨_, _, rfl, Same.refl _⟩ (fun i σ H' _ ⟨_, _, _, S⟩ => .of (S _ _ e0)) ?_ ?_⟩
    · rintro i y σ H1 hi ⟨u10, u11, rfl, S1'⟩
      obtain ⟨m, rfl, hm⟩ : ∃ m : Int, y = .int m ∧ (m = 2 ∨ m = 3) := by
        match i, hi with
        | 0, hi => cases hi; exact ⟨2, rfl, .inl rfl⟩
        | 1, hi => cases hi; exact ⟨3, rfl, .inr rfl⟩
      clear hi
      have S1 := s0.trans S1'
      obtain ⟨e, f, S, y1, y2⟩ := T2'.node hm
      have hz : f.sz = 80 := by
        rcases hm with q | q
        · rw [y1 q]; exact z1
        · rw [y2 q]; exact z2
      have hf := S.f
      have esz : cellAt v'.M (nrow 24 m) 2 = 80 := hf.sz_.trans hz
      have lw : (wordsL 24 v'.M m).length = 80 := by unfold wordsL; rw [List.length_map, rng_len, esz]; rfl
      refine ⟨_, rfl, w, _, 0, .ref W'.r, rfl, rfl, .of (S1 _ _ hww), atI_nat (j := 0) rfl, _, rfl, W'.r, W'.rs, v'.M, m, f.G, f.C, f.sz, f.o, f.mi, rfl, ⟨R.Y.g.same S1, R.Y.ml, R.Y.m8, hf, S.s0, S.s8⟩, fun H2 t2 S2' n2 e2 => ?_⟩
      have S2 := S1.trans S2'
      refine ⟨_, rfl, t2, _, rfl, .inr (.of e2), rfl, _, rfl, ?_⟩
      rw [dec_iv, decide_eq_true (show (((wordsL 24 v'.M m).map V.int).length : Int) = 80 by rw [List.length_map, lw]; rfl)]
      refine iteF ⟨_, rfl, _, rfl, im, A', v', 24, 5, 30, m, rfl, R.X.I.keep S2, hf.m1, hf.mn, hf.ok_, fun H3 S3' => ?_⟩
      have hlate : late 24 v'.M m = false := by
        rw [late_eq S, tbL_eq hf, hz]
        refine decide_eq_false fun q => ?_
        have e0 : ((rng 0 10).filter fun x => decide (8 * x ≥ 80) && (f.G x.toNat != 0)) = [] := List.filter_eq_nil_iff.mpr fun x hx => by
          have := rng_mem hx
          rw [decide_eq_false (by omega)]
          exact Bool.false_ne_true
        rw [e0] at q
        exact absurd q (by decide)
      rw [hlate]
      have S3 := S2.trans S3'
      refine ⟨_, rfl, iteF ⟨_, rfl, _, rfl, im, A', v', 24, 5, 30, m, rfl, R.X.I.keep S3, hf.m1, hf.mn, hf.ok_, fun o ho => hf.pl_ ho, by rw [esz]; decide, by rw [esz]; decide, fun H4 p4 S4' n4 e4 => ⟨_, rfl, _, _, rfl, Sm.ints (.inr ⟨e4, S4' _ _ (S3' _ _ e2)⟩) (by rw [lw]; decide), fun H5 S5' => ⟨_, rfl, iteF ?_⟩⟩⟩⟩
      exact ⟨_, _, rfl, S1'.trans (S2'.trans (S3'.trans (S4'.trans S5')))⟩
    rintro σ Hg ⟨u10, u11, rfl, Sg'⟩
    have Sg := s0.trans Sg'
    have Rg_ := R.same Sg
    refine ⟨_, rfl, im, A', v', 24, 5, 30, rfl, Rg_.X.I, T2'.hd, fun Ha ka Sa' nka Kda => ?_⟩
    refine ⟨_, rfl, W', v', (by rw [hw]; rfl), Rg_.Y.same Sa', fun Hb pb db Sb' npb ndb Kdb => ?_⟩
    exact ⟨_, _, rfl, same3 (A := A') Rg_.Y (Kda.same Sb') Kdb, fun Hc Sc' => k Hc⟩
end
end K09
namespace K09
open PySem PySem.Spec PyProof.Rows L2 Rg
theorem law_binds {K : PySem.W.Frag} {mg : Str → Option Value} (T : Tx K mg) (s : Shared) (v : Value) : BindsTo s T.fd_law ⟨[v], []⟩ [("_law_script", v)] := by
  obtain ⟨oc, od, kV, doc, pm, an, cdv, ct, osl, e, lk, hcd⟩ := T.F_law.ex
  rw [e]
  exact .of_eq rfl
theorem fin_F {P : Program} {w : World} {K : PySem.W.Frag} {mg : Str → Option Value} {fa : Addr} (z : Nonempty (Tx K mg)) (hmg : mg "law" = some (.ref fa)) :
    ∃ fd : FuncData, (∀ (s : Shared) (u : Value), BindsTo s fd ⟨[u], []⟩ [("_law_script", u)]) ∧ ∀ base : Heap, K.In base → base.Ns mainGlobals mg → FnOk P w K mg base CX0 9 fa fd ["_law_script"] (sp_law K) := by
  obtain ⟨T⟩ := z
  have e : T.f_law = fa := Value.ref.inj (Option.some.inj (T.mg_law.symm.trans hmg))
  subst e
  exact ⟨T.fd_law, fun s v => law_binds T s v, fun base _ _ => ok_law T⟩
theorem all_mk {w : World} {K : PySem.W.Frag} {h : Heap} {mg : Str → Option Value} (X : K.In h) (G : h.Ns mainGlobals mg)
    {a_node_cell : Addr}
    {od_node_cell an_node_cell : Option Addr} {sl_node_cell : Array (Option Value)} {oc_node_cell kV_node_cell dc_node_cell pm_node_cell cd_node_cell ct_node_cell : Value}
    (l_node_cell : K.lookup a_node_cell = some ⟨oc_node_cell, od_node_cell, .func (PySem.W.fnOf "node_cell" "node_cell" (defArgs s_node_cell) (defBody s_node_cell) (defScope s_node_cell) .none kV_node_cell dc_node_cell pm_node_cell an_node_cell cd_node_cell ct_node_cell), sl_node_cell⟩)
    (c_node_cell : PySem.W.codeIn K cd_node_cell "node_cell" = true)
    (k_node_cell : PySem.W.keepIn K (.ref a_node_cell) = true)
    (g_node_cell : PySem.W.nsIn K mainGlobals "node_cell" = some (some (.ref a_node_cell)))
    {a_put_node_cell : Addr}
    {od_put_node_cell an_put_node_cell : Option Addr} {sl_put_node_cell : Array (Option Value)} {oc_put_node_cell kV_put_node_cell dc_put_node_cell pm_put_node_cell cd_put_node_cell ct_put_node_cell : Value}
    (l_put_node_cell : K.lookup a_put_node_cell = some ⟨oc_put_node_cell, od_put_node_cell, .func (PySem.W.fnOf "put_node_cell" "put_node_cell" (defArgs s_put_node_cell) (defBody s_put_node_cell) (defScope s_put_node_cell) .none kV_put_node_cell dc_put_node_cell pm_put_node_cell an_put_node_cell cd_put_node_cell ct_put_node_cell), sl_put_node_cell⟩)
    (c_put_node_cell : PySem.W.codeIn K cd_put_node_cell "put_node_cell" = true)
    (k_put_node_cell : PySem.W.keepIn K (.ref a_put_node_cell) = true)
    (g_put_node_cell : PySem.W.nsIn K mainGlobals "put_node_cell" = some (some (.ref a_put_node_cell)))
    {a_place_block : Addr}
    {od_place_block an_place_block : Option Addr} {sl_place_block : Array (Option Value)} {oc_place_block kV_place_block dc_place_block pm_place_block cd_place_block ct_place_block : Value}
    (l_place_block : K.lookup a_place_block = some ⟨oc_place_block, od_place_block, .func (PySem.W.fnOf "place_block" "place_block" (defArgs s_place_block) (defBody s_place_block) (defScope s_place_block) .none kV_place_block dc_place_block pm_place_block an_place_block cd_place_block ct_place_block), sl_place_block⟩)
    (c_place_block : PySem.W.codeIn K cd_place_block "place_block" = true)
    (k_place_block : PySem.W.keepIn K (.ref a_place_block) = true)
    (g_place_block : PySem.W.nsIn K mainGlobals "place_block" = some (some (.ref a_place_block)))
    {a_put_place : Addr}
    {od_put_place an_put_place : Option Addr} {sl_put_place : Array (Option Value)} {oc_put_place kV_put_place dc_put_place pm_put_place cd_put_place ct_put_place : Value}
    (l_put_place : K.lookup a_put_place = some ⟨oc_put_place, od_put_place, .func (PySem.W.fnOf "put_place" "put_place" (defArgs s_put_place) (defBody s_put_place) (defScope s_put_place) .none kV_put_place dc_put_place pm_put_place an_put_place cd_put_place ct_put_place), sl_put_place⟩)
    (c_put_place : PySem.W.codeIn K cd_put_place "put_place" = true)
    (k_put_place : PySem.W.keepIn K (.ref a_put_place) = true)
    (g_put_place : PySem.W.nsIn K mainGlobals "put_place" = some (some (.ref a_put_place)))
    {a_drop_block_of_places : Addr}
    {od_drop_block_of_places an_drop_block_of_places : Option Addr} {sl_drop_block_of_places : Array (Option Value)} {oc_drop_block_of_places kV_drop_block_of_places dc_drop_block_of_places pm_drop_block_of_places cd_drop_block_of_places ct_drop_block_of_places : Value}
    (l_drop_block_of_places : K.lookup a_drop_block_of_places = some ⟨oc_drop_block_of_places, od_drop_block_of_places, .func (PySem.W.fnOf "_drop_block_of_places" "_drop_block_of_places" (defArgs s_drop_block_of_places) (defBody s_drop_block_of_places) (defScope s_drop_block_of_places) .none kV_drop_block_of_places dc_drop_block_of_places pm_drop_block_of_places an_drop_block_of_places cd_drop_block_of_places ct_drop_block_of_places), sl_drop_block_of_places⟩)
    (c_drop_block_of_places : PySem.W.codeIn K cd_drop_block_of_places "_drop_block_of_places" = true)
    (k_drop_block_of_places : PySem.W.keepIn K (.ref a_drop_block_of_places) = true)
    (g_drop_block_of_places : PySem.W.nsIn K mainGlobals "_drop_block_of_places" = some (some (.ref a_drop_block_of_places)))
    {a_drop_place : Addr}
    {od_drop_place an_drop_place : Option Addr} {sl_drop_place : Array (Option Value)} {oc_drop_place kV_drop_place dc_drop_place pm_drop_place cd_drop_place ct_drop_place : Value}
    (l_drop_place : K.lookup a_drop_place = some ⟨oc_drop_place, od_drop_place, .func (PySem.W.fnOf "drop_place" "drop_place" (defArgs s_drop_place) (defBody s_drop_place) (defScope s_drop_place) .none kV_drop_place dc_drop_place pm_drop_place an_drop_place cd_drop_place ct_drop_place), sl_drop_place⟩)
    (c_drop_place : PySem.W.codeIn K cd_drop_place "drop_place" = true)
    (k_drop_place : PySem.W.keepIn K (.ref a_drop_place) = true)
    (g_drop_place : PySem.W.nsIn K mainGlobals "drop_place" = some (some (.ref a_drop_place)))
    {a_held_blocks : Addr}
    {od_held_blocks an_held_blocks : Option Addr} {sl_held_blocks : Array (Option Value)} {oc_held_blocks kV_held_blocks dc_held_blocks pm_held_blocks cd_held_blocks ct_held_blocks : Value}
    (l_held_blocks : K.lookup a_held_blocks = some ⟨oc_held_blocks, od_held_blocks, .func (PySem.W.fnOf "held_blocks" "held_blocks" (defArgs s_held_blocks) (defBody s_held_blocks) (defScope s_held_blocks) .none kV_held_blocks dc_held_blocks pm_held_blocks an_held_blocks cd_held_blocks ct_held_blocks), sl_held_blocks⟩)
    (c_held_blocks : PySem.W.codeIn K cd_held_blocks "held_blocks" = true)
    (k_held_blocks : PySem.W.keepIn K (.ref a_held_blocks) = true)
    (g_held_blocks : PySem.W.nsIn K mainGlobals "held_blocks" = some (some (.ref a_held_blocks)))
    {a_taken_behind : Addr}
    {od_taken_behind an_taken_behind : Option Addr} {sl_taken_behind : Array (Option Value)} {oc_taken_behind kV_taken_behind dc_taken_behind pm_taken_behind cd_taken_behind ct_taken_behind : Value}
    (l_taken_behind : K.lookup a_taken_behind = some ⟨oc_taken_behind, od_taken_behind, .func (PySem.W.fnOf "_taken_behind" "_taken_behind" (defArgs s_taken_behind) (defBody s_taken_behind) (defScope s_taken_behind) .none kV_taken_behind dc_taken_behind pm_taken_behind an_taken_behind cd_taken_behind ct_taken_behind), sl_taken_behind⟩)
    (c_taken_behind : PySem.W.codeIn K cd_taken_behind "_taken_behind" = true)
    (k_taken_behind : PySem.W.keepIn K (.ref a_taken_behind) = true)
    (g_taken_behind : PySem.W.nsIn K mainGlobals "_taken_behind" = some (some (.ref a_taken_behind)))
    {a_unfinished : Addr}
    {od_unfinished an_unfinished : Option Addr} {sl_unfinished : Array (Option Value)} {oc_unfinished kV_unfinished dc_unfinished pm_unfinished cd_unfinished ct_unfinished : Value}
    (l_unfinished : K.lookup a_unfinished = some ⟨oc_unfinished, od_unfinished, .func (PySem.W.fnOf "unfinished" "unfinished" (defArgs s_unfinished) (defBody s_unfinished) (defScope s_unfinished) .none kV_unfinished dc_unfinished pm_unfinished an_unfinished cd_unfinished ct_unfinished), sl_unfinished⟩)
    (c_unfinished : PySem.W.codeIn K cd_unfinished "unfinished" = true)
    (k_unfinished : PySem.W.keepIn K (.ref a_unfinished) = true)
    (g_unfinished : PySem.W.nsIn K mainGlobals "unfinished" = some (some (.ref a_unfinished)))
    {a_put_size : Addr}
    {od_put_size an_put_size : Option Addr} {sl_put_size : Array (Option Value)} {oc_put_size kV_put_size dc_put_size pm_put_size cd_put_size ct_put_size : Value}
    (l_put_size : K.lookup a_put_size = some ⟨oc_put_size, od_put_size, .func (PySem.W.fnOf "put_size" "put_size" (defArgs s_put_size) (defBody s_put_size) (defScope s_put_size) .none kV_put_size dc_put_size pm_put_size an_put_size cd_put_size ct_put_size), sl_put_size⟩)
    (c_put_size : PySem.W.codeIn K cd_put_size "put_size" = true)
    (k_put_size : PySem.W.keepIn K (.ref a_put_size) = true)
    (g_put_size : PySem.W.nsIn K mainGlobals "put_size" = some (some (.ref a_put_size)))
    {a_set_size : Addr}
    {od_set_size an_set_size : Option Addr} {sl_set_size : Array (Option Value)} {oc_set_size kV_set_size dc_set_size pm_set_size cd_set_size ct_set_size : Value}
    (l_set_size : K.lookup a_set_size = some ⟨oc_set_size, od_set_size, .func (PySem.W.fnOf "set_size" "set_size" (defArgs s_set_size) (defBody s_set_size) (defScope s_set_size) .none kV_set_size dc_set_size pm_set_size an_set_size cd_set_size ct_set_size), sl_set_size⟩)
    (c_set_size : PySem.W.codeIn K cd_set_size "set_size" = true)
    (k_set_size : PySem.W.keepIn K (.ref a_set_size) = true)
    (g_set_size : PySem.W.nsIn K mainGlobals "set_size" = some (some (.ref a_set_size)))
    {a_free_piece : Addr}
    {od_free_piece an_free_piece : Option Addr} {sl_free_piece : Array (Option Value)} {oc_free_piece kV_free_piece dc_free_piece pm_free_piece cd_free_piece ct_free_piece : Value}
    (l_free_piece : K.lookup a_free_piece = some ⟨oc_free_piece, od_free_piece, .func (PySem.W.fnOf "free_piece" "free_piece" (defArgs s_free_piece) (defBody s_free_piece) (defScope s_free_piece) .none kV_free_piece dc_free_piece pm_free_piece an_free_piece cd_free_piece ct_free_piece), sl_free_piece⟩)
    (c_free_piece : PySem.W.codeIn K cd_free_piece "free_piece" = true)
    (k_free_piece : PySem.W.keepIn K (.ref a_free_piece) = true)
    (g_free_piece : PySem.W.nsIn K mainGlobals "free_piece" = some (some (.ref a_free_piece)))
    {a_read_word : Addr}
    {od_read_word an_read_word : Option Addr} {sl_read_word : Array (Option Value)} {oc_read_word kV_read_word dc_read_word pm_read_word cd_read_word ct_read_word : Value}
    (l_read_word : K.lookup a_read_word = some ⟨oc_read_word, od_read_word, .func (PySem.W.fnOf "_read_word" "_read_word" (defArgs s_read_word) (defBody s_read_word) (defScope s_read_word) .none kV_read_word dc_read_word pm_read_word an_read_word cd_read_word ct_read_word), sl_read_word⟩)
    (c_read_word : PySem.W.codeIn K cd_read_word "_read_word" = true)
    (k_read_word : PySem.W.keepIn K (.ref a_read_word) = true)
    (g_read_word : PySem.W.nsIn K mainGlobals "_read_word" = some (some (.ref a_read_word)))
    {a_read_words : Addr}
    {od_read_words an_read_words : Option Addr} {sl_read_words : Array (Option Value)} {oc_read_words kV_read_words dc_read_words pm_read_words cd_read_words ct_read_words : Value}
    (l_read_words : K.lookup a_read_words = some ⟨oc_read_words, od_read_words, .func (PySem.W.fnOf "read_words" "read_words" (defArgs s_read_words) (defBody s_read_words) (defScope s_read_words) .none kV_read_words dc_read_words pm_read_words an_read_words cd_read_words ct_read_words), sl_read_words⟩)
    (c_read_words : PySem.W.codeIn K cd_read_words "read_words" = true)
    (k_read_words : PySem.W.keepIn K (.ref a_read_words) = true)
    (g_read_words : PySem.W.nsIn K mainGlobals "read_words" = some (some (.ref a_read_words)))
    {a_file_words : Addr}
    {od_file_words an_file_words : Option Addr} {sl_file_words : Array (Option Value)} {oc_file_words kV_file_words dc_file_words pm_file_words cd_file_words ct_file_words : Value}
    (l_file_words : K.lookup a_file_words = some ⟨oc_file_words, od_file_words, .func (PySem.W.fnOf "file_words" "file_words" (defArgs s_file_words) (defBody s_file_words) (defScope s_file_words) .none kV_file_words dc_file_words pm_file_words an_file_words cd_file_words ct_file_words), sl_file_words⟩)
    (c_file_words : PySem.W.codeIn K cd_file_words "file_words" = true)
    (k_file_words : PySem.W.keepIn K (.ref a_file_words) = true)
    (g_file_words : PySem.W.nsIn K mainGlobals "file_words" = some (some (.ref a_file_words)))
    {a_Lfeed : Addr}
    {od_Lfeed an_Lfeed : Option Addr} {sl_Lfeed : Array (Option Value)} {oc_Lfeed kV_Lfeed dc_Lfeed pm_Lfeed cd_Lfeed ct_Lfeed : Value}
    (l_Lfeed : K.lookup a_Lfeed = some ⟨oc_Lfeed, od_Lfeed, .func (PySem.W.fnOf "_law_feed" "_law_feed" (defArgs s_Lfeed) (defBody s_Lfeed) (defScope s_Lfeed) .none kV_Lfeed dc_Lfeed pm_Lfeed an_Lfeed cd_Lfeed ct_Lfeed), sl_Lfeed⟩)
    (c_Lfeed : PySem.W.codeIn K cd_Lfeed "_law_feed" = true)
    (k_Lfeed : PySem.W.keepIn K (.ref a_Lfeed) = true)
    (g_Lfeed : PySem.W.nsIn K mainGlobals "_law_feed" = some (some (.ref a_Lfeed)))
    {a_Lpick : Addr}
    {od_Lpick an_Lpick : Option Addr} {sl_Lpick : Array (Option Value)} {oc_Lpick kV_Lpick dc_Lpick pm_Lpick cd_Lpick ct_Lpick : Value}
    (l_Lpick : K.lookup a_Lpick = some ⟨oc_Lpick, od_Lpick, .func (PySem.W.fnOf "_law_pick" "_law_pick" (defArgs s_Lpick) (defBody s_Lpick) (defScope s_Lpick) .none kV_Lpick dc_Lpick pm_Lpick an_Lpick cd_Lpick ct_Lpick), sl_Lpick⟩)
    (c_Lpick : PySem.W.codeIn K cd_Lpick "_law_pick" = true)
    (k_Lpick : PySem.W.keepIn K (.ref a_Lpick) = true)
    (g_Lpick : PySem.W.nsIn K mainGlobals "_law_pick" = some (some (.ref a_Lpick)))
    {a_Lsame : Addr}
    {od_Lsame an_Lsame : Option Addr} {sl_Lsame : Array (Option Value)} {oc_Lsame kV_Lsame dc_Lsame pm_Lsame cd_Lsame ct_Lsame : Value}
    (l_Lsame : K.lookup a_Lsame = some ⟨oc_Lsame, od_Lsame, .func (PySem.W.fnOf "_law_same" "_law_same" (defArgs s_Lsame) (defBody s_Lsame) (defScope s_Lsame) .none kV_Lsame dc_Lsame pm_Lsame an_Lsame cd_Lsame ct_Lsame), sl_Lsame⟩)
    (c_Lsame : PySem.W.codeIn K cd_Lsame "_law_same" = true)
    (k_Lsame : PySem.W.keepIn K (.ref a_Lsame) = true)
    (g_Lsame : PySem.W.nsIn K mainGlobals "_law_same" = some (some (.ref a_Lsame)))
    {a_Lstate : Addr}
    {od_Lstate an_Lstate : Option Addr} {sl_Lstate : Array (Option Value)} {oc_Lstate kV_Lstate dc_Lstate pm_Lstate cd_Lstate ct_Lstate : Value}
    (l_Lstate : K.lookup a_Lstate = some ⟨oc_Lstate, od_Lstate, .func (PySem.W.fnOf "_law_state" "_law_state" (defArgs s_Lstate) (defBody s_Lstate) (defScope s_Lstate) .none kV_Lstate dc_Lstate pm_Lstate an_Lstate cd_Lstate ct_Lstate), sl_Lstate⟩)
    (c_Lstate : PySem.W.codeIn K cd_Lstate "_law_state" = true)
    (k_Lstate : PySem.W.keepIn K (.ref a_Lstate) = true)
    (g_Lstate : PySem.W.nsIn K mainGlobals "_law_state" = some (some (.ref a_Lstate)))
    {a_Lerror : Addr}
    {od_Lerror an_Lerror : Option Addr} {sl_Lerror : Array (Option Value)} {oc_Lerror kV_Lerror dc_Lerror pm_Lerror cd_Lerror ct_Lerror : Value}
    (l_Lerror : K.lookup a_Lerror = some ⟨oc_Lerror, od_Lerror, .func (PySem.W.fnOf "_law_error" "_law_error" (defArgs s_Lerror) (defBody s_Lerror) (defScope s_Lerror) .none kV_Lerror dc_Lerror pm_Lerror an_Lerror cd_Lerror ct_Lerror), sl_Lerror⟩)
    (c_Lerror : PySem.W.codeIn K cd_Lerror "_law_error" = true)
    (k_Lerror : PySem.W.keepIn K (.ref a_Lerror) = true)
    (g_Lerror : PySem.W.nsIn K mainGlobals "_law_error" = some (some (.ref a_Lerror)))
    {a_Lbase : Addr}
    {od_Lbase an_Lbase : Option Addr} {sl_Lbase : Array (Option Value)} {oc_Lbase kV_Lbase dc_Lbase pm_Lbase cd_Lbase ct_Lbase : Value}
    (l_Lbase : K.lookup a_Lbase = some ⟨oc_Lbase, od_Lbase, .func (PySem.W.fnOf "_law_base" "_law_base" (defArgs s_Lbase) (defBody s_Lbase) (defScope s_Lbase) .none kV_Lbase dc_Lbase pm_Lbase an_Lbase cd_Lbase ct_Lbase), sl_Lbase⟩)
    (c_Lbase : PySem.W.codeIn K cd_Lbase "_law_base" = true)
    (k_Lbase : PySem.W.keepIn K (.ref a_Lbase) = true)
    (g_Lbase : PySem.W.nsIn K mainGlobals "_law_base" = some (some (.ref a_Lbase)))
    {a_Lclaim : Addr}
    {od_Lclaim an_Lclaim : Option Addr} {sl_Lclaim : Array (Option Value)} {oc_Lclaim kV_Lclaim dc_Lclaim pm_Lclaim cd_Lclaim ct_Lclaim : Value}
    (l_Lclaim : K.lookup a_Lclaim = some ⟨oc_Lclaim, od_Lclaim, .func (PySem.W.fnOf "_law_claim" "_law_claim" (defArgs s_Lclaim) (defBody s_Lclaim) (defScope s_Lclaim) .none kV_Lclaim dc_Lclaim pm_Lclaim an_Lclaim cd_Lclaim ct_Lclaim), sl_Lclaim⟩)
    (c_Lclaim : PySem.W.codeIn K cd_Lclaim "_law_claim" = true)
    (k_Lclaim : PySem.W.keepIn K (.ref a_Lclaim) = true)
    (g_Lclaim : PySem.W.nsIn K mainGlobals "_law_claim" = some (some (.ref a_Lclaim)))
    {a_Lheld : Addr}
    {od_Lheld an_Lheld : Option Addr} {sl_Lheld : Array (Option Value)} {oc_Lheld kV_Lheld dc_Lheld pm_Lheld cd_Lheld ct_Lheld : Value}
    (l_Lheld : K.lookup a_Lheld = some ⟨oc_Lheld, od_Lheld, .func (PySem.W.fnOf "_law_held" "_law_held" (defArgs s_Lheld) (defBody s_Lheld) (defScope s_Lheld) .none kV_Lheld dc_Lheld pm_Lheld an_Lheld cd_Lheld ct_Lheld), sl_Lheld⟩)
    (c_Lheld : PySem.W.codeIn K cd_Lheld "_law_held" = true)
    (k_Lheld : PySem.W.keepIn K (.ref a_Lheld) = true)
    (g_Lheld : PySem.W.nsIn K mainGlobals "_law_held" = some (some (.ref a_Lheld)))
    {a_Lplace : Addr}
    {od_Lplace an_Lplace : Option Addr} {sl_Lplace : Array (Option Value)} {oc_Lplace kV_Lplace dc_Lplace pm_Lplace cd_Lplace ct_Lplace : Value}
    (l_Lplace : K.lookup a_Lplace = some ⟨oc_Lplace, od_Lplace, .func (PySem.W.fnOf "_law_place" "_law_place" (defArgs s_Lplace) (defBody s_Lplace) (defScope s_Lplace) .none kV_Lplace dc_Lplace pm_Lplace an_Lplace cd_Lplace ct_Lplace), sl_Lplace⟩)
    (c_Lplace : PySem.W.codeIn K cd_Lplace "_law_place" = true)
    (k_Lplace : PySem.W.keepIn K (.ref a_Lplace) = true)
    (g_Lplace : PySem.W.nsIn K mainGlobals "_law_place" = some (some (.ref a_Lplace)))
    {a_Lput : Addr}
    {od_Lput an_Lput : Option Addr} {sl_Lput : Array (Option Value)} {oc_Lput kV_Lput dc_Lput pm_Lput cd_Lput ct_Lput : Value}
    (l_Lput : K.lookup a_Lput = some ⟨oc_Lput, od_Lput, .func (PySem.W.fnOf "_law_put" "_law_put" (defArgs s_Lput) (defBody s_Lput) (defScope s_Lput) .none kV_Lput dc_Lput pm_Lput an_Lput cd_Lput ct_Lput), sl_Lput⟩)
    (c_Lput : PySem.W.codeIn K cd_Lput "_law_put" = true)
    (k_Lput : PySem.W.keepIn K (.ref a_Lput) = true)
    (g_Lput : PySem.W.nsIn K mainGlobals "_law_put" = some (some (.ref a_Lput)))
    {a_Lfile : Addr}
    {od_Lfile an_Lfile : Option Addr} {sl_Lfile : Array (Option Value)} {oc_Lfile kV_Lfile dc_Lfile pm_Lfile cd_Lfile ct_Lfile : Value}
    (l_Lfile : K.lookup a_Lfile = some ⟨oc_Lfile, od_Lfile, .func (PySem.W.fnOf "_law_file" "_law_file" (defArgs s_Lfile) (defBody s_Lfile) (defScope s_Lfile) .none kV_Lfile dc_Lfile pm_Lfile an_Lfile cd_Lfile ct_Lfile), sl_Lfile⟩)
    (c_Lfile : PySem.W.codeIn K cd_Lfile "_law_file" = true)
    (k_Lfile : PySem.W.keepIn K (.ref a_Lfile) = true)
    (g_Lfile : PySem.W.nsIn K mainGlobals "_law_file" = some (some (.ref a_Lfile)))
    {a_Lspare : Addr}
    {od_Lspare an_Lspare : Option Addr} {sl_Lspare : Array (Option Value)} {oc_Lspare kV_Lspare dc_Lspare pm_Lspare cd_Lspare ct_Lspare : Value}
    (l_Lspare : K.lookup a_Lspare = some ⟨oc_Lspare, od_Lspare, .func (PySem.W.fnOf "_law_spare" "_law_spare" (defArgs s_Lspare) (defBody s_Lspare) (defScope s_Lspare) .none kV_Lspare dc_Lspare pm_Lspare an_Lspare cd_Lspare ct_Lspare), sl_Lspare⟩)
    (c_Lspare : PySem.W.codeIn K cd_Lspare "_law_spare" = true)
    (k_Lspare : PySem.W.keepIn K (.ref a_Lspare) = true)
    (g_Lspare : PySem.W.nsIn K mainGlobals "_law_spare" = some (some (.ref a_Lspare)))
    {a_Lgive : Addr}
    {od_Lgive an_Lgive : Option Addr} {sl_Lgive : Array (Option Value)} {oc_Lgive kV_Lgive dc_Lgive pm_Lgive cd_Lgive ct_Lgive : Value}
    (l_Lgive : K.lookup a_Lgive = some ⟨oc_Lgive, od_Lgive, .func (PySem.W.fnOf "_law_give" "_law_give" (defArgs s_Lgive) (defBody s_Lgive) (defScope s_Lgive) .none kV_Lgive dc_Lgive pm_Lgive an_Lgive cd_Lgive ct_Lgive), sl_Lgive⟩)
    (c_Lgive : PySem.W.codeIn K cd_Lgive "_law_give" = true)
    (k_Lgive : PySem.W.keepIn K (.ref a_Lgive) = true)
    (g_Lgive : PySem.W.nsIn K mainGlobals "_law_give" = some (some (.ref a_Lgive)))
    {a_Lsettle : Addr}
    {od_Lsettle an_Lsettle : Option Addr} {sl_Lsettle : Array (Option Value)} {oc_Lsettle kV_Lsettle dc_Lsettle pm_Lsettle cd_Lsettle ct_Lsettle : Value}
    (l_Lsettle : K.lookup a_Lsettle = some ⟨oc_Lsettle, od_Lsettle, .func (PySem.W.fnOf "_law_settle" "_law_settle" (defArgs s_Lsettle) (defBody s_Lsettle) (defScope s_Lsettle) .none kV_Lsettle dc_Lsettle pm_Lsettle an_Lsettle cd_Lsettle ct_Lsettle), sl_Lsettle⟩)
    (c_Lsettle : PySem.W.codeIn K cd_Lsettle "_law_settle" = true)
    (k_Lsettle : PySem.W.keepIn K (.ref a_Lsettle) = true)
    (g_Lsettle : PySem.W.nsIn K mainGlobals "_law_settle" = some (some (.ref a_Lsettle)))
    {a_Ldrop : Addr}
    {od_Ldrop an_Ldrop : Option Addr} {sl_Ldrop : Array (Option Value)} {oc_Ldrop kV_Ldrop dc_Ldrop pm_Ldrop cd_Ldrop ct_Ldrop : Value}
    (l_Ldrop : K.lookup a_Ldrop = some ⟨oc_Ldrop, od_Ldrop, .func (PySem.W.fnOf "_law_drop" "_law_drop" (defArgs s_Ldrop) (defBody s_Ldrop) (defScope s_Ldrop) .none kV_Ldrop dc_Ldrop pm_Ldrop an_Ldrop cd_Ldrop ct_Ldrop), sl_Ldrop⟩)
    (c_Ldrop : PySem.W.codeIn K cd_Ldrop "_law_drop" = true)
    (k_Ldrop : PySem.W.keepIn K (.ref a_Ldrop) = true)
    (g_Ldrop : PySem.W.nsIn K mainGlobals "_law_drop" = some (some (.ref a_Ldrop)))
    {a_Lwords : Addr}
    {od_Lwords an_Lwords : Option Addr} {sl_Lwords : Array (Option Value)} {oc_Lwords kV_Lwords dc_Lwords pm_Lwords cd_Lwords ct_Lwords : Value}
    (l_Lwords : K.lookup a_Lwords = some ⟨oc_Lwords, od_Lwords, .func (PySem.W.fnOf "_law_words" "_law_words" (defArgs s_Lwords) (defBody s_Lwords) (defScope s_Lwords) .none kV_Lwords dc_Lwords pm_Lwords an_Lwords cd_Lwords ct_Lwords), sl_Lwords⟩)
    (c_Lwords : PySem.W.codeIn K cd_Lwords "_law_words" = true)
    (k_Lwords : PySem.W.keepIn K (.ref a_Lwords) = true)
    (g_Lwords : PySem.W.nsIn K mainGlobals "_law_words" = some (some (.ref a_Lwords)))
    {a_Lclear : Addr}
    {od_Lclear an_Lclear : Option Addr} {sl_Lclear : Array (Option Value)} {oc_Lclear kV_Lclear dc_Lclear pm_Lclear cd_Lclear ct_Lclear : Value}
    (l_Lclear : K.lookup a_Lclear = some ⟨oc_Lclear, od_Lclear, .func (PySem.W.fnOf "_law_clear" "_law_clear" (defArgs s_Lclear) (defBody s_Lclear) (defScope s_Lclear) .none kV_Lclear dc_Lclear pm_Lclear an_Lclear cd_Lclear ct_Lclear), sl_Lclear⟩)
    (c_Lclear : PySem.W.codeIn K cd_Lclear "_law_clear" = true)
    (k_Lclear : PySem.W.keepIn K (.ref a_Lclear) = true)
    (g_Lclear : PySem.W.nsIn K mainGlobals "_law_clear" = some (some (.ref a_Lclear)))
    {a_Lpiece : Addr}
    {od_Lpiece an_Lpiece : Option Addr} {sl_Lpiece : Array (Option Value)} {oc_Lpiece kV_Lpiece dc_Lpiece pm_Lpiece cd_Lpiece ct_Lpiece : Value}
    (l_Lpiece : K.lookup a_Lpiece = some ⟨oc_Lpiece, od_Lpiece, .func (PySem.W.fnOf "_law_piece" "_law_piece" (defArgs s_Lpiece) (defBody s_Lpiece) (defScope s_Lpiece) .none kV_Lpiece dc_Lpiece pm_Lpiece an_Lpiece cd_Lpiece ct_Lpiece), sl_Lpiece⟩)
    (c_Lpiece : PySem.W.codeIn K cd_Lpiece "_law_piece" = true)
    (k_Lpiece : PySem.W.keepIn K (.ref a_Lpiece) = true)
    (g_Lpiece : PySem.W.nsIn K mainGlobals "_law_piece" = some (some (.ref a_Lpiece)))
    {a_Lunfinished : Addr}
    {od_Lunfinished an_Lunfinished : Option Addr} {sl_Lunfinished : Array (Option Value)} {oc_Lunfinished kV_Lunfinished dc_Lunfinished pm_Lunfinished cd_Lunfinished ct_Lunfinished : Value}
    (l_Lunfinished : K.lookup a_Lunfinished = some ⟨oc_Lunfinished, od_Lunfinished, .func (PySem.W.fnOf "_law_unfinished" "_law_unfinished" (defArgs s_Lunfinished) (defBody s_Lunfinished) (defScope s_Lunfinished) .none kV_Lunfinished dc_Lunfinished pm_Lunfinished an_Lunfinished cd_Lunfinished ct_Lunfinished), sl_Lunfinished⟩)
    (c_Lunfinished : PySem.W.codeIn K cd_Lunfinished "_law_unfinished" = true)
    (k_Lunfinished : PySem.W.keepIn K (.ref a_Lunfinished) = true)
    (g_Lunfinished : PySem.W.nsIn K mainGlobals "_law_unfinished" = some (some (.ref a_Lunfinished)))
    {a_Lblocks : Addr}
    {od_Lblocks an_Lblocks : Option Addr} {sl_Lblocks : Array (Option Value)} {oc_Lblocks kV_Lblocks dc_Lblocks pm_Lblocks cd_Lblocks ct_Lblocks : Value}
    (l_Lblocks : K.lookup a_Lblocks = some ⟨oc_Lblocks, od_Lblocks, .func (PySem.W.fnOf "_law_blocks" "_law_blocks" (defArgs s_Lblocks) (defBody s_Lblocks) (defScope s_Lblocks) .none kV_Lblocks dc_Lblocks pm_Lblocks an_Lblocks cd_Lblocks ct_Lblocks), sl_Lblocks⟩)
    (c_Lblocks : PySem.W.codeIn K cd_Lblocks "_law_blocks" = true)
    (k_Lblocks : PySem.W.keepIn K (.ref a_Lblocks) = true)
    (g_Lblocks : PySem.W.nsIn K mainGlobals "_law_blocks" = some (some (.ref a_Lblocks)))
    {a_Lkept : Addr}
    {od_Lkept an_Lkept : Option Addr} {sl_Lkept : Array (Option Value)} {oc_Lkept kV_Lkept dc_Lkept pm_Lkept cd_Lkept ct_Lkept : Value}
    (l_Lkept : K.lookup a_Lkept = some ⟨oc_Lkept, od_Lkept, .func (PySem.W.fnOf "_law_kept" "_law_kept" (defArgs s_Lkept) (defBody s_Lkept) (defScope s_Lkept) .none kV_Lkept dc_Lkept pm_Lkept an_Lkept cd_Lkept ct_Lkept), sl_Lkept⟩)
    (c_Lkept : PySem.W.codeIn K cd_Lkept "_law_kept" = true)
    (k_Lkept : PySem.W.keepIn K (.ref a_Lkept) = true)
    (g_Lkept : PySem.W.nsIn K mainGlobals "_law_kept" = some (some (.ref a_Lkept)))
    {a_Lmodel : Addr}
    {od_Lmodel an_Lmodel : Option Addr} {sl_Lmodel : Array (Option Value)} {oc_Lmodel kV_Lmodel dc_Lmodel pm_Lmodel cd_Lmodel ct_Lmodel : Value}
    (l_Lmodel : K.lookup a_Lmodel = some ⟨oc_Lmodel, od_Lmodel, .func (PySem.W.fnOf "_law_model" "_law_model" (defArgs s_Lmodel) (defBody s_Lmodel) (defScope s_Lmodel) .none kV_Lmodel dc_Lmodel pm_Lmodel an_Lmodel cd_Lmodel ct_Lmodel), sl_Lmodel⟩)
    (c_Lmodel : PySem.W.codeIn K cd_Lmodel "_law_model" = true)
    (k_Lmodel : PySem.W.keepIn K (.ref a_Lmodel) = true)
    (g_Lmodel : PySem.W.nsIn K mainGlobals "_law_model" = some (some (.ref a_Lmodel)))
    {a_Lcall : Addr}
    {od_Lcall an_Lcall : Option Addr} {sl_Lcall : Array (Option Value)} {oc_Lcall kV_Lcall dc_Lcall pm_Lcall cd_Lcall ct_Lcall : Value}
    (l_Lcall : K.lookup a_Lcall = some ⟨oc_Lcall, od_Lcall, .func (PySem.W.fnOf "_law_call" "_law_call" (defArgs s_Lcall) (defBody s_Lcall) (defScope s_Lcall) .none kV_Lcall dc_Lcall pm_Lcall an_Lcall cd_Lcall ct_Lcall), sl_Lcall⟩)
    (c_Lcall : PySem.W.codeIn K cd_Lcall "_law_call" = true)
    (k_Lcall : PySem.W.keepIn K (.ref a_Lcall) = true)
    (g_Lcall : PySem.W.nsIn K mainGlobals "_law_call" = some (some (.ref a_Lcall)))
    {a_Lrun : Addr}
    {od_Lrun an_Lrun : Option Addr} {sl_Lrun : Array (Option Value)} {oc_Lrun kV_Lrun dc_Lrun pm_Lrun cd_Lrun ct_Lrun : Value}
    (l_Lrun : K.lookup a_Lrun = some ⟨oc_Lrun, od_Lrun, .func (PySem.W.fnOf "_law_run" "_law_run" (defArgs s_Lrun) (defBody s_Lrun) (defScope s_Lrun) .none kV_Lrun dc_Lrun pm_Lrun an_Lrun cd_Lrun ct_Lrun), sl_Lrun⟩)
    (c_Lrun : PySem.W.codeIn K cd_Lrun "_law_run" = true)
    (k_Lrun : PySem.W.keepIn K (.ref a_Lrun) = true)
    (g_Lrun : PySem.W.nsIn K mainGlobals "_law_run" = some (some (.ref a_Lrun)))
    {a_Llooks : Addr}
    {od_Llooks an_Llooks : Option Addr} {sl_Llooks : Array (Option Value)} {oc_Llooks kV_Llooks dc_Llooks pm_Llooks cd_Llooks ct_Llooks : Value}
    (l_Llooks : K.lookup a_Llooks = some ⟨oc_Llooks, od_Llooks, .func (PySem.W.fnOf "_law_looks" "_law_looks" (defArgs s_Llooks) (defBody s_Llooks) (defScope s_Llooks) .none kV_Llooks dc_Llooks pm_Llooks an_Llooks cd_Llooks ct_Llooks), sl_Llooks⟩)
    (c_Llooks : PySem.W.codeIn K cd_Llooks "_law_looks" = true)
    (k_Llooks : PySem.W.keepIn K (.ref a_Llooks) = true)
    (g_Llooks : PySem.W.nsIn K mainGlobals "_law_looks" = some (some (.ref a_Llooks)))
    {a_Ldeeds : Addr}
    {od_Ldeeds an_Ldeeds : Option Addr} {sl_Ldeeds : Array (Option Value)} {oc_Ldeeds kV_Ldeeds dc_Ldeeds pm_Ldeeds cd_Ldeeds ct_Ldeeds : Value}
    (l_Ldeeds : K.lookup a_Ldeeds = some ⟨oc_Ldeeds, od_Ldeeds, .func (PySem.W.fnOf "_law_deeds" "_law_deeds" (defArgs s_Ldeeds) (defBody s_Ldeeds) (defScope s_Ldeeds) .none kV_Ldeeds dc_Ldeeds pm_Ldeeds an_Ldeeds cd_Ldeeds ct_Ldeeds), sl_Ldeeds⟩)
    (c_Ldeeds : PySem.W.codeIn K cd_Ldeeds "_law_deeds" = true)
    (k_Ldeeds : PySem.W.keepIn K (.ref a_Ldeeds) = true)
    (g_Ldeeds : PySem.W.nsIn K mainGlobals "_law_deeds" = some (some (.ref a_Ldeeds)))
    {a_law : Addr}
    {od_law an_law : Option Addr} {sl_law : Array (Option Value)} {oc_law kV_law dc_law pm_law cd_law ct_law : Value}
    (l_law : K.lookup a_law = some ⟨oc_law, od_law, .func (PySem.W.fnOf "law" "law" (defArgs s_law) (defBody s_law) (defScope s_law) .none kV_law dc_law pm_law an_law cd_law ct_law), sl_law⟩)
    (c_law : PySem.W.codeIn K cd_law "law" = true)
    (k_law : PySem.W.keepIn K (.ref a_law) = true)
    (g_law : PySem.W.nsIn K mainGlobals "law" = some (some (.ref a_law)))
    {a_Plan___init__ : Addr}
    {od_Plan___init__ an_Plan___init__ : Option Addr} {sl_Plan___init__ : Array (Option Value)} {oc_Plan___init__ kV_Plan___init__ dc_Plan___init__ pm_Plan___init__ cd_Plan___init__ ct_Plan___init__ : Value}
    (l_Plan___init__ : K.lookup a_Plan___init__ = some ⟨oc_Plan___init__, od_Plan___init__, .func (PySem.W.fnOf "__init__" "Plan.__init__" (defArgs s_Plan___init__) (defBody s_Plan___init__) (defScope s_Plan___init__) .none kV_Plan___init__ dc_Plan___init__ pm_Plan___init__ an_Plan___init__ cd_Plan___init__ ct_Plan___init__), sl_Plan___init__⟩)
    (c_Plan___init__ : PySem.W.codeIn K cd_Plan___init__ "Plan.__init__" = true)
    (k_Plan___init__ : PySem.W.keepIn K (.ref a_Plan___init__) = true)
    {a_Plan_map_place : Addr}
    {od_Plan_map_place an_Plan_map_place : Option Addr} {sl_Plan_map_place : Array (Option Value)} {oc_Plan_map_place kV_Plan_map_place dc_Plan_map_place pm_Plan_map_place cd_Plan_map_place ct_Plan_map_place : Value}
    (l_Plan_map_place : K.lookup a_Plan_map_place = some ⟨oc_Plan_map_place, od_Plan_map_place, .func (PySem.W.fnOf "map_place" "Plan.map_place" (defArgs s_Plan_map_place) (defBody s_Plan_map_place) (defScope s_Plan_map_place) .none kV_Plan_map_place dc_Plan_map_place pm_Plan_map_place an_Plan_map_place cd_Plan_map_place ct_Plan_map_place), sl_Plan_map_place⟩)
    (c_Plan_map_place : PySem.W.codeIn K cd_Plan_map_place "Plan.map_place" = true)
    (k_Plan_map_place : PySem.W.keepIn K (.ref a_Plan_map_place) = true)
    {a_Plan_node_block : Addr}
    {od_Plan_node_block an_Plan_node_block : Option Addr} {sl_Plan_node_block : Array (Option Value)} {oc_Plan_node_block kV_Plan_node_block dc_Plan_node_block pm_Plan_node_block cd_Plan_node_block ct_Plan_node_block : Value}
    (l_Plan_node_block : K.lookup a_Plan_node_block = some ⟨oc_Plan_node_block, od_Plan_node_block, .func (PySem.W.fnOf "node_block" "Plan.node_block" (defArgs s_Plan_node_block) (defBody s_Plan_node_block) (defScope s_Plan_node_block) .none kV_Plan_node_block dc_Plan_node_block pm_Plan_node_block an_Plan_node_block cd_Plan_node_block ct_Plan_node_block), sl_Plan_node_block⟩)
    (c_Plan_node_block : PySem.W.codeIn K cd_Plan_node_block "Plan.node_block" = true)
    (k_Plan_node_block : PySem.W.keepIn K (.ref a_Plan_node_block) = true)
    {a_Plan_data_blocks : Addr}
    {od_Plan_data_blocks an_Plan_data_blocks : Option Addr} {sl_Plan_data_blocks : Array (Option Value)} {oc_Plan_data_blocks kV_Plan_data_blocks dc_Plan_data_blocks pm_Plan_data_blocks cd_Plan_data_blocks ct_Plan_data_blocks : Value}
    (l_Plan_data_blocks : K.lookup a_Plan_data_blocks = some ⟨oc_Plan_data_blocks, od_Plan_data_blocks, .func (PySem.W.fnOf "data_blocks" "Plan.data_blocks" (defArgs s_Plan_data_blocks) (defBody s_Plan_data_blocks) (defScope s_Plan_data_blocks) .none kV_Plan_data_blocks dc_Plan_data_blocks pm_Plan_data_blocks an_Plan_data_blocks cd_Plan_data_blocks ct_Plan_data_blocks), sl_Plan_data_blocks⟩)
    (c_Plan_data_blocks : PySem.W.codeIn K cd_Plan_data_blocks "Plan.data_blocks" = true)
    (k_Plan_data_blocks : PySem.W.keepIn K (.ref a_Plan_data_blocks) = true)
    {a_Image___init__ : Addr}
    {od_Image___init__ an_Image___init__ : Option Addr} {sl_Image___init__ : Array (Option Value)} {oc_Image___init__ kV_Image___init__ dc_Image___init__ pm_Image___init__ cd_Image___init__ ct_Image___init__ : Value}
    (l_Image___init__ : K.lookup a_Image___init__ = some ⟨oc_Image___init__, od_Image___init__, .func (PySem.W.fnOf "__init__" "Image.__init__" (defArgs s_Image___init__) (defBody s_Image___init__) (defScope s_Image___init__) .none kV_Image___init__ dc_Image___init__ pm_Image___init__ an_Image___init__ cd_Image___init__ ct_Image___init__), sl_Image___init__⟩)
    (c_Image___init__ : PySem.W.codeIn K cd_Image___init__ "Image.__init__" = true)
    (k_Image___init__ : PySem.W.keepIn K (.ref a_Image___init__) = true)
    {a_Image_begin : Addr}
    {od_Image_begin an_Image_begin : Option Addr} {sl_Image_begin : Array (Option Value)} {oc_Image_begin kV_Image_begin dc_Image_begin pm_Image_begin cd_Image_begin ct_Image_begin : Value}
    (l_Image_begin : K.lookup a_Image_begin = some ⟨oc_Image_begin, od_Image_begin, .func (PySem.W.fnOf "begin" "Image.begin" (defArgs s_Image_begin) (defBody s_Image_begin) (defScope s_Image_begin) .none kV_Image_begin dc_Image_begin pm_Image_begin an_Image_begin cd_Image_begin ct_Image_begin), sl_Image_begin⟩)
    (c_Image_begin : PySem.W.codeIn K cd_Image_begin "Image.begin" = true)
    (k_Image_begin : PySem.W.keepIn K (.ref a_Image_begin) = true)
    {a_Image_settle : Addr}
    {od_Image_settle an_Image_settle : Option Addr} {sl_Image_settle : Array (Option Value)} {oc_Image_settle kV_Image_settle dc_Image_settle pm_Image_settle cd_Image_settle ct_Image_settle : Value}
    (l_Image_settle : K.lookup a_Image_settle = some ⟨oc_Image_settle, od_Image_settle, .func (PySem.W.fnOf "settle" "Image.settle" (defArgs s_Image_settle) (defBody s_Image_settle) (defScope s_Image_settle) .none kV_Image_settle dc_Image_settle pm_Image_settle an_Image_settle cd_Image_settle ct_Image_settle), sl_Image_settle⟩)
    (c_Image_settle : PySem.W.codeIn K cd_Image_settle "Image.settle" = true)
    (k_Image_settle : PySem.W.keepIn K (.ref a_Image_settle) = true)
    {a_Image_twin : Addr}
    {od_Image_twin an_Image_twin : Option Addr} {sl_Image_twin : Array (Option Value)} {oc_Image_twin kV_Image_twin dc_Image_twin pm_Image_twin cd_Image_twin ct_Image_twin : Value}
    (l_Image_twin : K.lookup a_Image_twin = some ⟨oc_Image_twin, od_Image_twin, .func (PySem.W.fnOf "twin" "Image.twin" (defArgs s_Image_twin) (defBody s_Image_twin) (defScope s_Image_twin) .none kV_Image_twin dc_Image_twin pm_Image_twin an_Image_twin cd_Image_twin ct_Image_twin), sl_Image_twin⟩)
    (c_Image_twin : PySem.W.codeIn K cd_Image_twin "Image.twin" = true)
    (k_Image_twin : PySem.W.keepIn K (.ref a_Image_twin) = true)
    {a_Image_give : Addr}
    {od_Image_give an_Image_give : Option Addr} {sl_Image_give : Array (Option Value)} {oc_Image_give kV_Image_give dc_Image_give pm_Image_give cd_Image_give ct_Image_give : Value}
    (l_Image_give : K.lookup a_Image_give = some ⟨oc_Image_give, od_Image_give, .func (PySem.W.fnOf "give" "Image.give" (defArgs s_Image_give) (defBody s_Image_give) (defScope s_Image_give) .none kV_Image_give dc_Image_give pm_Image_give an_Image_give cd_Image_give ct_Image_give), sl_Image_give⟩)
    (c_Image_give : PySem.W.codeIn K cd_Image_give "Image.give" = true)
    (k_Image_give : PySem.W.keepIn K (.ref a_Image_give) = true)
    {a_Image__put_block : Addr}
    {od_Image__put_block an_Image__put_block : Option Addr} {sl_Image__put_block : Array (Option Value)} {oc_Image__put_block kV_Image__put_block dc_Image__put_block pm_Image__put_block cd_Image__put_block ct_Image__put_block : Value}
    (l_Image__put_block : K.lookup a_Image__put_block = some ⟨oc_Image__put_block, od_Image__put_block, .func (PySem.W.fnOf "_put_block" "Image._put_block" (defArgs s_Image__put_block) (defBody s_Image__put_block) (defScope s_Image__put_block) .none kV_Image__put_block dc_Image__put_block pm_Image__put_block an_Image__put_block cd_Image__put_block ct_Image__put_block), sl_Image__put_block⟩)
    (c_Image__put_block : PySem.W.codeIn K cd_Image__put_block "Image._put_block" = true)
    (k_Image__put_block : PySem.W.keepIn K (.ref a_Image__put_block) = true)
    {a_Image_free_blocks : Addr}
    {od_Image_free_blocks an_Image_free_blocks : Option Addr} {sl_Image_free_blocks : Array (Option Value)} {oc_Image_free_blocks kV_Image_free_blocks dc_Image_free_blocks pm_Image_free_blocks cd_Image_free_blocks ct_Image_free_blocks : Value}
    (l_Image_free_blocks : K.lookup a_Image_free_blocks = some ⟨oc_Image_free_blocks, od_Image_free_blocks, .func (PySem.W.fnOf "free_blocks" "Image.free_blocks" (defArgs s_Image_free_blocks) (defBody s_Image_free_blocks) (defScope s_Image_free_blocks) .none kV_Image_free_blocks dc_Image_free_blocks pm_Image_free_blocks an_Image_free_blocks cd_Image_free_blocks ct_Image_free_blocks), sl_Image_free_blocks⟩)
    (c_Image_free_blocks : PySem.W.codeIn K cd_Image_free_blocks "Image.free_blocks" = true)
    (k_Image_free_blocks : PySem.W.keepIn K (.ref a_Image_free_blocks) = true)
    {a_Image_kind : Addr}
    {od_Image_kind an_Image_kind : Option Addr} {sl_Image_kind : Array (Option Value)} {oc_Image_kind kV_Image_kind dc_Image_kind pm_Image_kind cd_Image_kind ct_Image_kind : Value}
    (l_Image_kind : K.lookup a_Image_kind = some ⟨oc_Image_kind, od_Image_kind, .func (PySem.W.fnOf "kind" "Image.kind" (defArgs s_Image_kind) (defBody s_Image_kind) (defScope s_Image_kind) .none kV_Image_kind dc_Image_kind pm_Image_kind an_Image_kind cd_Image_kind ct_Image_kind), sl_Image_kind⟩)
    (c_Image_kind : PySem.W.codeIn K cd_Image_kind "Image.kind" = true)
    (k_Image_kind : PySem.W.keepIn K (.ref a_Image_kind) = true)
    {a_Image_of_cells : Addr}
    {od_Image_of_cells an_Image_of_cells : Option Addr} {sl_Image_of_cells : Array (Option Value)} {oc_Image_of_cells kV_Image_of_cells dc_Image_of_cells pm_Image_of_cells cd_Image_of_cells ct_Image_of_cells : Value}
    (l_Image_of_cells : K.lookup a_Image_of_cells = some ⟨oc_Image_of_cells, od_Image_of_cells, .func (PySem.W.fnOf "of_cells" "Image.of_cells" (defArgs s_Image_of_cells) (defBody s_Image_of_cells) (defScope s_Image_of_cells) .none kV_Image_of_cells dc_Image_of_cells pm_Image_of_cells an_Image_of_cells cd_Image_of_cells ct_Image_of_cells), sl_Image_of_cells⟩)
    (c_Image_of_cells : PySem.W.codeIn K cd_Image_of_cells "Image.of_cells" = true)
    (k_Image_of_cells : PySem.W.keepIn K (.ref a_Image_of_cells) = true)
    {aC_Plan : Addr}
    (g_Plan : PySem.W.nsIn K mainGlobals "Plan" = some (some (.ref aC_Plan)))
    (pg_Plan : PySem.W.plainGet K aC_Plan Str.empty = true)
    (hd_Plan : PySem.W.hasDictIn K aC_Plan = true)
    (po_Plan : PySem.W.plainOver K aC_Plan = true)
    (sa_Plan : PySem.W.findIn K (.ref aC_Plan) "__setattr__" = some (some (.builtin "object.__setattr__")))
    (n_Plan_blocks : PySem.W.findIn K (.ref aC_Plan) "blocks" = some none)
    (n_Plan_nodes : PySem.W.findIn K (.ref aC_Plan) "nodes" = some none)
    (n_Plan_slots : PySem.W.findIn K (.ref aC_Plan) "slots" = some none)
    (n_Plan_maps : PySem.W.findIn K (.ref aC_Plan) "maps" = some none)
    (n_Plan_first_node : PySem.W.findIn K (.ref aC_Plan) "first_node" = some none)
    (n_Plan_first_data : PySem.W.findIn K (.ref aC_Plan) "first_data" = some none)
    (mk1_Plan : PySem.W.makesIn K aC_Plan = true)
    (mk2_Plan : PySem.W.findIn K (.ref aC_Plan) "__init__" = some (some (.ref a_Plan___init__)))
    (mk3_Plan : PySem.W.isFn K (.ref a_Plan___init__) = true)
    (mk4_Plan : PySem.W.keepIn K (.ref aC_Plan) = true)
    {mcv_Plan : Value}
    (tp_Plan : PySem.W.typeIn K (.ref aC_Plan) = some mcv_Plan)
    (rd_Plan : PySem.W.readsIn K aC_Plan mcv_Plan = true)
    (ga_Plan : PySem.W.specialIn K (.ref aC_Plan) "__getattribute__" = some (some (.builtin "type.__getattribute__")))
    {tv_Plan_WIDTH : Tok}
    (v_Plan_WIDTH : PySem.W.findCls K (.ref aC_Plan) mcv_Plan "WIDTH" = some (.val (.int 8 tv_Plan_WIDTH)))
    {tv_Plan_LONGEST : Tok}
    (v_Plan_LONGEST : PySem.W.findCls K (.ref aC_Plan) mcv_Plan "LONGEST" = some (.val (.int 80 tv_Plan_LONGEST)))
    {tv_Plan_FREE : Tok}
    (v_Plan_FREE : PySem.W.findCls K (.ref aC_Plan) mcv_Plan "FREE" = some (.val (.int 0 tv_Plan_FREE)))
    {tv_Plan_LOGGED : Tok}
    (v_Plan_LOGGED : PySem.W.findCls K (.ref aC_Plan) mcv_Plan "LOGGED" = some (.val (.int 1 tv_Plan_LOGGED)))
    {tv_Plan_PLAIN : Tok}
    (v_Plan_PLAIN : PySem.W.findCls K (.ref aC_Plan) mcv_Plan "PLAIN" = some (.val (.int 2 tv_Plan_PLAIN)))
    {tc_Plan_WIDTH : Tok}
    (o_Plan_WIDTH : PySem.W.findIn K (.ref aC_Plan) "WIDTH" = some (some (.int 8 tc_Plan_WIDTH)))
    (og_Plan_WIDTH : PySem.W.specialIn K (.int 8 tc_Plan_WIDTH) "__get__" = some none)
    {aC_Image : Addr}
    (g_Image : PySem.W.nsIn K mainGlobals "Image" = some (some (.ref aC_Image)))
    (pg_Image : PySem.W.plainGet K aC_Image Str.empty = true)
    (hd_Image : PySem.W.hasDictIn K aC_Image = true)
    (po_Image : PySem.W.plainOver K aC_Image = true)
    (sa_Image : PySem.W.findIn K (.ref aC_Image) "__setattr__" = some (some (.builtin "object.__setattr__")))
    (n_Image_plan : PySem.W.findIn K (.ref aC_Image) "plan" = some none)
    (n_Image_cells : PySem.W.findIn K (.ref aC_Image) "cells" = some none)
    (n_Image_holdings : PySem.W.findIn K (.ref aC_Image) "holdings" = some none)
    (n_Image_stamps : PySem.W.findIn K (.ref aC_Image) "stamps" = some none)
    (n_Image_handles : PySem.W.findIn K (.ref aC_Image) "handles" = some none)
    (n_Image_serial : PySem.W.findIn K (.ref aC_Image) "serial" = some none)
    (n_Image_wish : PySem.W.findIn K (.ref aC_Image) "wish" = some none)
    (n_Image_barred : PySem.W.findIn K (.ref aC_Image) "barred" = some none)
    (mk1_Image : PySem.W.makesIn K aC_Image = true)
    (mk2_Image : PySem.W.findIn K (.ref aC_Image) "__init__" = some (some (.ref a_Image___init__)))
    (mk3_Image : PySem.W.isFn K (.ref a_Image___init__) = true)
    (mk4_Image : PySem.W.keepIn K (.ref aC_Image) = true)
    {mcv_Image : Value}
    (tp_Image : PySem.W.typeIn K (.ref aC_Image) = some mcv_Image)
    (rd_Image : PySem.W.readsIn K aC_Image mcv_Image = true)
    (ga_Image : PySem.W.specialIn K (.ref aC_Image) "__getattribute__" = some (some (.builtin "type.__getattribute__")))
    (m1_Plan_map_place : PySem.W.findIn K (.ref aC_Plan) "map_place" = some (some (.ref a_Plan_map_place)))
    (m2_Plan_map_place : PySem.W.isFn K (.ref a_Plan_map_place) = true)
    (m1_Plan_node_block : PySem.W.findIn K (.ref aC_Plan) "node_block" = some (some (.ref a_Plan_node_block)))
    (m2_Plan_node_block : PySem.W.isFn K (.ref a_Plan_node_block) = true)
    (m1_Plan_data_blocks : PySem.W.findIn K (.ref aC_Plan) "data_blocks" = some (some (.ref a_Plan_data_blocks)))
    (m2_Plan_data_blocks : PySem.W.isFn K (.ref a_Plan_data_blocks) = true)
    (m1_Image_begin : PySem.W.findIn K (.ref aC_Image) "begin" = some (some (.ref a_Image_begin)))
    (m2_Image_begin : PySem.W.isFn K (.ref a_Image_begin) = true)
    (m1_Image_settle : PySem.W.findIn K (.ref aC_Image) "settle" = some (some (.ref a_Image_settle)))
    (m2_Image_settle : PySem.W.isFn K (.ref a_Image_settle) = true)
    (m1_Image_twin : PySem.W.findIn K (.ref aC_Image) "twin" = some (some (.ref a_Image_twin)))
    (m2_Image_twin : PySem.W.isFn K (.ref a_Image_twin) = true)
    (m1_Image_give : PySem.W.findIn K (.ref aC_Image) "give" = some (some (.ref a_Image_give)))
    (m2_Image_give : PySem.W.isFn K (.ref a_Image_give) = true)
    (m1_Image__put_block : PySem.W.findIn K (.ref aC_Image) "_put_block" = some (some (.ref a_Image__put_block)))
    (m2_Image__put_block : PySem.W.isFn K (.ref a_Image__put_block) = true)
    (m1_Image_free_blocks : PySem.W.findIn K (.ref aC_Image) "free_blocks" = some (some (.ref a_Image_free_blocks)))
    (m2_Image_free_blocks : PySem.W.isFn K (.ref a_Image_free_blocks) = true)
    (m1_Image_kind : PySem.W.findIn K (.ref aC_Image) "kind" = some (some (.ref a_Image_kind)))
    (m2_Image_kind : PySem.W.isFn K (.ref a_Image_kind) = true)
    {sp_Image_of_cells : Addr} {sr_Image_of_cells : List Value}
    (s1_Image_of_cells : PySem.W.findCls K (.ref aC_Image) mcv_Image "of_cells" = some (.get (.builtin "staticmethod.__get__") (.ref sp_Image_of_cells) .none (.ref aC_Image)))
    (s2_Image_of_cells : PySem.W.recIn K sp_Image_of_cells "staticmethod" = some (.ref a_Image_of_cells :: sr_Image_of_cells))
    {aC_StoreError : Addr}
    (g_StoreError : PySem.W.nsIn K mainGlobals "StoreError" = some (some (.ref aC_StoreError)))
    (be1_StoreError : PySem.W.subIn K (.ref aC_StoreError) (.type "BaseException") = some true)
    (te1_StoreError : PySem.W.typeIn K (.ref aC_StoreError) = some (.type "type"))
    (ie1_StoreError : PySem.W.isClsIn K aC_StoreError = true)
    {aC_BadText : Addr}
    (g_BadText : PySem.W.nsIn K mainGlobals "BadText" = some (some (.ref aC_BadText)))
    (be1_BadText : PySem.W.subIn K (.ref aC_BadText) (.type "BaseException") = some true)
    (te1_BadText : PySem.W.typeIn K (.ref aC_BadText) = some (.type "type"))
    (ie1_BadText : PySem.W.isClsIn K aC_BadText = true)
    {aC_BadValue : Addr}
    (g_BadValue : PySem.W.nsIn K mainGlobals "BadValue" = some (some (.ref aC_BadValue)))
    (be1_BadValue : PySem.W.subIn K (.ref aC_BadValue) (.type "BaseException") = some true)
    (te1_BadValue : PySem.W.typeIn K (.ref aC_BadValue) = some (.type "type"))
    (ie1_BadValue : PySem.W.isClsIn K aC_BadValue = true)
    {aC_Refused : Addr}
    (g_Refused : PySem.W.nsIn K mainGlobals "Refused" = some (some (.ref aC_Refused)))
    (be1_Refused : PySem.W.subIn K (.ref aC_Refused) (.type "BaseException") = some true)
    (te1_Refused : PySem.W.typeIn K (.ref aC_Refused) = some (.type "type"))
    (ie1_Refused : PySem.W.isClsIn K aC_Refused = true)
    {aC_NotNow : Addr}
    (g_NotNow : PySem.W.nsIn K mainGlobals "NotNow" = some (some (.ref aC_NotNow)))
    (be1_NotNow : PySem.W.subIn K (.ref aC_NotNow) (.type "BaseException") = some true)
    (te1_NotNow : PySem.W.typeIn K (.ref aC_NotNow) = some (.type "type"))
    (ie1_NotNow : PySem.W.isClsIn K aC_NotNow = true)
    {aC_NotLet : Addr}
    (g_NotLet : PySem.W.nsIn K mainGlobals "NotLet" = some (some (.ref aC_NotLet)))
    (be1_NotLet : PySem.W.subIn K (.ref aC_NotLet) (.type "BaseException") = some true)
    (te1_NotLet : PySem.W.typeIn K (.ref aC_NotLet) = some (.type "type"))
    (ie1_NotLet : PySem.W.isClsIn K aC_NotLet = true)
    {aC_FolderFull : Addr}
    (g_FolderFull : PySem.W.nsIn K mainGlobals "FolderFull" = some (some (.ref aC_FolderFull)))
    (be1_FolderFull : PySem.W.subIn K (.ref aC_FolderFull) (.type "BaseException") = some true)
    (te1_FolderFull : PySem.W.typeIn K (.ref aC_FolderFull) = some (.type "type"))
    (ie1_FolderFull : PySem.W.isClsIn K aC_FolderFull = true)
    {aC_NodesFull : Addr}
    (g_NodesFull : PySem.W.nsIn K mainGlobals "NodesFull" = some (some (.ref aC_NodesFull)))
    (be1_NodesFull : PySem.W.subIn K (.ref aC_NodesFull) (.type "BaseException") = some true)
    (te1_NodesFull : PySem.W.typeIn K (.ref aC_NodesFull) = some (.type "type"))
    (ie1_NodesFull : PySem.W.isClsIn K aC_NodesFull = true)
    {aC_BlocksFull : Addr}
    (g_BlocksFull : PySem.W.nsIn K mainGlobals "BlocksFull" = some (some (.ref aC_BlocksFull)))
    (be1_BlocksFull : PySem.W.subIn K (.ref aC_BlocksFull) (.type "BaseException") = some true)
    (te1_BlocksFull : PySem.W.typeIn K (.ref aC_BlocksFull) = some (.type "type"))
    (ie1_BlocksFull : PySem.W.isClsIn K aC_BlocksFull = true)
    {aC_OverQuota : Addr}
    (g_OverQuota : PySem.W.nsIn K mainGlobals "OverQuota" = some (some (.ref aC_OverQuota)))
    (be1_OverQuota : PySem.W.subIn K (.ref aC_OverQuota) (.type "BaseException") = some true)
    (te1_OverQuota : PySem.W.typeIn K (.ref aC_OverQuota) = some (.type "type"))
    (ie1_OverQuota : PySem.W.isClsIn K aC_OverQuota = true)
    {aC_TooLong : Addr}
    (g_TooLong : PySem.W.nsIn K mainGlobals "TooLong" = some (some (.ref aC_TooLong)))
    (be1_TooLong : PySem.W.subIn K (.ref aC_TooLong) (.type "BaseException") = some true)
    (te1_TooLong : PySem.W.typeIn K (.ref aC_TooLong) = some (.type "type"))
    (ie1_TooLong : PySem.W.isClsIn K aC_TooLong = true)
    (xe1_TooLong : PySem.W.excIn K aC_TooLong [.type "ValueError", .type "Exception", .type "BaseException", .type "object"] "ValueError.__new__" = true)
    (ke1_TooLong : PySem.W.keepIn K (.ref aC_TooLong) = true)
    (ec1_TooLong : PySem.W.findIn K (.ref aC_TooLong) "__getattribute__" = some (some (.builtin "BaseException.__getattribute__")))
    (ec2_TooLong : PySem.W.findIn K (.ref aC_TooLong) "__getattr__" = some none)
    (ec4_TooLong : PySem.W.hasDictIn K aC_TooLong = true)
    (ec5_TooLong : PySem.W.findIn K (.ref aC_TooLong) "__class__" = some (some (.builtin "object.__class__")))
    (ec6_TooLong : PySem.W.specialIn K (.builtin "object.__class__") "__get__" = some (some (.builtin "getset_descriptor.__get__")))
    (ec7_TooLong : PySem.W.takesIn K (.builtin "object.__class__") = some true)
    (ec8_TooLong : PySem.W.mroIn K aC_TooLong (.type "object") = some true)
    {aC_Unfinished : Addr}
    (g_Unfinished : PySem.W.nsIn K mainGlobals "Unfinished" = some (some (.ref aC_Unfinished)))
    (be1_Unfinished : PySem.W.subIn K (.ref aC_Unfinished) (.type "BaseException") = some true)
    (te1_Unfinished : PySem.W.typeIn K (.ref aC_Unfinished) = some (.type "type"))
    (ie1_Unfinished : PySem.W.isClsIn K aC_Unfinished = true)
    (xe1_Unfinished : PySem.W.excIn K aC_Unfinished [.type "ValueError", .type "Exception", .type "BaseException", .type "object"] "ValueError.__new__" = true)
    (ke1_Unfinished : PySem.W.keepIn K (.ref aC_Unfinished) = true)
    (ec1_Unfinished : PySem.W.findIn K (.ref aC_Unfinished) "__getattribute__" = some (some (.builtin "BaseException.__getattribute__")))
    (ec2_Unfinished : PySem.W.findIn K (.ref aC_Unfinished) "__getattr__" = some none)
    (ec4_Unfinished : PySem.W.hasDictIn K aC_Unfinished = true)
    (ec5_Unfinished : PySem.W.findIn K (.ref aC_Unfinished) "__class__" = some (some (.builtin "object.__class__")))
    (ec6_Unfinished : PySem.W.specialIn K (.builtin "object.__class__") "__get__" = some (some (.builtin "getset_descriptor.__get__")))
    (ec7_Unfinished : PySem.W.takesIn K (.builtin "object.__class__") = some true)
    (ec8_Unfinished : PySem.W.mroIn K aC_Unfinished (.type "object") = some true)
    {aC_ListFull : Addr}
    (g_ListFull : PySem.W.nsIn K mainGlobals "ListFull" = some (some (.ref aC_ListFull)))
    (be1_ListFull : PySem.W.subIn K (.ref aC_ListFull) (.type "BaseException") = some true)
    (te1_ListFull : PySem.W.typeIn K (.ref aC_ListFull) = some (.type "type"))
    (ie1_ListFull : PySem.W.isClsIn K aC_ListFull = true)
    (sb_TooLong_StoreError : PySem.W.subIn K (.ref aC_TooLong) (.ref aC_StoreError) = some true)
    (sb_TooLong_BadText : PySem.W.subIn K (.ref aC_TooLong) (.ref aC_BadText) = some false)
    (sb_TooLong_BadValue : PySem.W.subIn K (.ref aC_TooLong) (.ref aC_BadValue) = some false)
    (sb_TooLong_Refused : PySem.W.subIn K (.ref aC_TooLong) (.ref aC_Refused) = some true)
    (sb_TooLong_NotNow : PySem.W.subIn K (.ref aC_TooLong) (.ref aC_NotNow) = some false)
    (sb_TooLong_NotLet : PySem.W.subIn K (.ref aC_TooLong) (.ref aC_NotLet) = some false)
    (sb_TooLong_FolderFull : PySem.W.subIn K (.ref aC_TooLong) (.ref aC_FolderFull) = some false)
    (sb_TooLong_NodesFull : PySem.W.subIn K (.ref aC_TooLong) (.ref aC_NodesFull) = some false)
    (sb_TooLong_BlocksFull : PySem.W.subIn K (.ref aC_TooLong) (.ref aC_BlocksFull) = some false)
    (sb_TooLong_OverQuota : PySem.W.subIn K (.ref aC_TooLong) (.ref aC_OverQuota) = some false)
    (sb_TooLong_TooLong : PySem.W.subIn K (.ref aC_TooLong) (.ref aC_TooLong) = some true)
    (sb_TooLong_Unfinished : PySem.W.subIn K (.ref aC_TooLong) (.ref aC_Unfinished) = some false)
    (sb_TooLong_ListFull : PySem.W.subIn K (.ref aC_TooLong) (.ref aC_ListFull) = some false)
    (sb_Unfinished_StoreError : PySem.W.subIn K (.ref aC_Unfinished) (.ref aC_StoreError) = some true)
    (sb_Unfinished_BadText : PySem.W.subIn K (.ref aC_Unfinished) (.ref aC_BadText) = some false)
    (sb_Unfinished_BadValue : PySem.W.subIn K (.ref aC_Unfinished) (.ref aC_BadValue) = some false)
    (sb_Unfinished_Refused : PySem.W.subIn K (.ref aC_Unfinished) (.ref aC_Refused) = some true)
    (sb_Unfinished_NotNow : PySem.W.subIn K (.ref aC_Unfinished) (.ref aC_NotNow) = some false)
    (sb_Unfinished_NotLet : PySem.W.subIn K (.ref aC_Unfinished) (.ref aC_NotLet) = some false)
    (sb_Unfinished_FolderFull : PySem.W.subIn K (.ref aC_Unfinished) (.ref aC_FolderFull) = some false)
    (sb_Unfinished_NodesFull : PySem.W.subIn K (.ref aC_Unfinished) (.ref aC_NodesFull) = some false)
    (sb_Unfinished_BlocksFull : PySem.W.subIn K (.ref aC_Unfinished) (.ref aC_BlocksFull) = some false)
    (sb_Unfinished_OverQuota : PySem.W.subIn K (.ref aC_Unfinished) (.ref aC_OverQuota) = some false)
    (sb_Unfinished_TooLong : PySem.W.subIn K (.ref aC_Unfinished) (.ref aC_TooLong) = some false)
    (sb_Unfinished_Unfinished : PySem.W.subIn K (.ref aC_Unfinished) (.ref aC_Unfinished) = some true)
    (sb_Unfinished_ListFull : PySem.W.subIn K (.ref aC_Unfinished) (.ref aC_ListFull) = some false)
    (bs_TooLong_ValueError : PySem.W.subIn K (.ref aC_TooLong) (.type "ValueError") = some true)
    (bs_Unfinished_ValueError : PySem.W.subIn K (.ref aC_Unfinished) (.type "ValueError") = some true)
    {t_SUMS_BLOCK : Tok}
    (gc_SUMS_BLOCK : PySem.W.nsIn K mainGlobals "SUMS_BLOCK" = some (some (.int 0 t_SUMS_BLOCK)))
    {t_KIND : Tok}
    (gc_KIND : PySem.W.nsIn K mainGlobals "KIND" = some (some (.int 0 t_KIND)))
    {t_SIZE : Tok}
    (gc_SIZE : PySem.W.nsIn K mainGlobals "SIZE" = some (some (.int 2 t_SIZE)))
    {t_OWNER : Tok}
    (gc_OWNER : PySem.W.nsIn K mainGlobals "OWNER" = some (some (.int 3 t_OWNER)))
    {t_FIRST_PLACE : Tok}
    (gc_FIRST_PLACE : PySem.W.nsIn K mainGlobals "FIRST_PLACE" = some (some (.int 4 t_FIRST_PLACE)))
    {t_PLACES : Tok}
    (gc_PLACES : PySem.W.nsIn K mainGlobals "PLACES" = some (some (.int 6 t_PLACES)))
    {t_FILE : Tok}
    (gc_FILE : PySem.W.nsIn K mainGlobals "FILE" = some (some (.int 1 t_FILE)))
    {t_LEAST_BLOCKS : Tok}
    (gc_LEAST_BLOCKS : PySem.W.nsIn K mainGlobals "LEAST_BLOCKS" = some (some (.int 8 t_LEAST_BLOCKS)))
    {t_MOST_BLOCKS : Tok}
    (gc_MOST_BLOCKS : PySem.W.nsIn K mainGlobals "MOST_BLOCKS" = some (some (.int 64 t_MOST_BLOCKS)))
    {t_LEAST_NODES : Tok}
    (gc_LEAST_NODES : PySem.W.nsIn K mainGlobals "LEAST_NODES" = some (some (.int 2 t_LEAST_NODES)))
    {t_MOST_NODES : Tok}
    (gc_MOST_NODES : PySem.W.nsIn K mainGlobals "MOST_NODES" = some (some (.int 16 t_MOST_NODES)))
    {t_MOST_SLOTS : Tok}
    (gc_MOST_SLOTS : PySem.W.nsIn K mainGlobals "MOST_SLOTS" = some (some (.int 200 t_MOST_SLOTS)))
    {t_LEAST_DATA : Tok}
    (gc_LEAST_DATA : PySem.W.nsIn K mainGlobals "LEAST_DATA" = some (some (.int 2 t_LEAST_DATA)))
    {t_FIRST_MAP : Tok}
    (gc_FIRST_MAP : PySem.W.nsIn K mainGlobals "FIRST_MAP" = some (some (.int 2 t_FIRST_MAP)))
    {t_PLACE_COUNT : Tok}
    (gc_PLACE_COUNT : PySem.W.nsIn K mainGlobals "PLACE_COUNT" = some (some (.int 10 t_PLACE_COUNT)))
    {t_NODE_PLACES : Tok}
    (gc_NODE_PLACES : PySem.W.nsIn K mainGlobals "NODE_PLACES" = some (some (.int 2 t_NODE_PLACES)))
    {t_MOST_PIECE : Tok}
    (gc_MOST_PIECE : PySem.W.nsIn K mainGlobals "MOST_PIECE" = some (some (.int 2 t_MOST_PIECE)))
    (nb_ValueError : PySem.W.nsIn K mainGlobals "ValueError" = some none)
    (nb_abs : PySem.W.nsIn K mainGlobals "abs" = some none)
    (nb_any : PySem.W.nsIn K mainGlobals "any" = some none)
    (nb_bool : PySem.W.nsIn K mainGlobals "bool" = some none)
    (nb_dict : PySem.W.nsIn K mainGlobals "dict" = some none)
    (nb_int : PySem.W.nsIn K mainGlobals "int" = some none)
    (nb_isinstance : PySem.W.nsIn K mainGlobals "isinstance" = some none)
    (nb_len : PySem.W.nsIn K mainGlobals "len" = some none)
    (nb_list : PySem.W.nsIn K mainGlobals "list" = some none)
    (nb_min : PySem.W.nsIn K mainGlobals "min" = some none)
    (nb_range : PySem.W.nsIn K mainGlobals "range" = some none)
    (nb_reversed : PySem.W.nsIn K mainGlobals "reversed" = some none)
    (nb_sorted : PySem.W.nsIn K mainGlobals "sorted" = some none)
    (nb_str : PySem.W.nsIn K mainGlobals "str" = some none)
    (nb_sum : PySem.W.nsIn K mainGlobals "sum" = some none)
    (nb_tuple : PySem.W.nsIn K mainGlobals "tuple" = some none)
    : Nonempty (Tx K mg) := ⟨{
      f_node_cell := a_node_cell,
      fd_node_cell := PySem.W.fnOf "node_cell" "node_cell" (defArgs s_node_cell) (defBody s_node_cell) (defScope s_node_cell) .none kV_node_cell dc_node_cell pm_node_cell an_node_cell cd_node_cell ct_node_cell,
      F_node_cell := fun_mk (st := s_node_cell) l_node_cell c_node_cell k_node_cell,
      mg_node_cell := PySem.W.mg_of X G g_node_cell,
      f_put_node_cell := a_put_node_cell,
      fd_put_node_cell := PySem.W.fnOf "put_node_cell" "put_node_cell" (defArgs s_put_node_cell) (defBody s_put_node_cell) (defScope s_put_node_cell) .none kV_put_node_cell dc_put_node_cell pm_put_node_cell an_put_node_cell cd_put_node_cell ct_put_node_cell,
      F_put_node_cell := fun_mk (st := s_put_node_cell) l_put_node_cell c_put_node_cell k_put_node_cell,
      mg_put_node_cell := PySem.W.mg_of X G g_put_node_cell,
      f_place_block := a_place_block,
      fd_place_block := PySem.W.fnOf "place_block" "place_block" (defArgs s_place_block) (defBody s_place_block) (defScope s_place_block) .none kV_place_block dc_place_block pm_place_block an_place_block cd_place_block ct_place_block,
      F_place_block := fun_mk (st := s_place_block) l_place_block c_place_block k_place_block,
      mg_place_block := PySem.W.mg_of X G g_place_block,
      f_put_place := a_put_place,
      fd_put_place := PySem.W.fnOf "put_place" "put_place" (defArgs s_put_place) (defBody s_put_place) (defScope s_put_place) .none kV_put_place dc_put_place pm_put_place an_put_place cd_put_place ct_put_place,
      F_put_place := fun_mk (st := s_put_place) l_put_place c_put_place k_put_place,
      mg_put_place := PySem.W.mg_of X G g_put_place,
      f_drop_block_of_places := a_drop_block_of_places,
      fd_drop_block_of_places := PySem.W.fnOf "_drop_block_of_places" "_drop_block_of_places" (defArgs s_drop_block_of_places) (defBody s_drop_block_of_places) (defScope s_drop_block_of_places) .none kV_drop_block_of_places dc_drop_block_of_places pm_drop_block_of_places an_drop_block_of_places cd_drop_block_of_places ct_drop_block_of_places,
      F_drop_block_of_places := fun_mk (st := s_drop_block_of_places) l_drop_block_of_places c_drop_block_of_places k_drop_block_of_places,
      mg_drop_block_of_places := PySem.W.mg_of X G g_drop_block_of_places,
      f_drop_place := a_drop_place,
      fd_drop_place := PySem.W.fnOf "drop_place" "drop_place" (defArgs s_drop_place) (defBody s_drop_place) (defScope s_drop_place) .none kV_drop_place dc_drop_place pm_drop_place an_drop_place cd_drop_place ct_drop_place,
      F_drop_place := fun_mk (st := s_drop_place) l_drop_place c_drop_place k_drop_place,
      mg_drop_place := PySem.W.mg_of X G g_drop_place,
      f_held_blocks := a_held_blocks,
      fd_held_blocks := PySem.W.fnOf "held_blocks" "held_blocks" (defArgs s_held_blocks) (defBody s_held_blocks) (defScope s_held_blocks) .none kV_held_blocks dc_held_blocks pm_held_blocks an_held_blocks cd_held_blocks ct_held_blocks,
      F_held_blocks := fun_mk (st := s_held_blocks) l_held_blocks c_held_blocks k_held_blocks,
      mg_held_blocks := PySem.W.mg_of X G g_held_blocks,
      f_taken_behind := a_taken_behind,
      fd_taken_behind := PySem.W.fnOf "_taken_behind" "_taken_behind" (defArgs s_taken_behind) (defBody s_taken_behind) (defScope s_taken_behind) .none kV_taken_behind dc_taken_behind pm_taken_behind an_taken_behind cd_taken_behind ct_taken_behind,
      F_taken_behind := fun_mk (st := s_taken_behind) l_taken_behind c_taken_behind k_taken_behind,
      mg_taken_behind := PySem.W.mg_of X G g_taken_behind,
      f_unfinished := a_unfinished,
      fd_unfinished := PySem.W.fnOf "unfinished" "unfinished" (defArgs s_unfinished) (defBody s_unfinished) (defScope s_unfinished) .none kV_unfinished dc_unfinished pm_unfinished an_unfinished cd_unfinished ct_unfinished,
      F_unfinished := fun_mk (st := s_unfinished) l_unfinished c_unfinished k_unfinished,
      mg_unfinished := PySem.W.mg_of X G g_unfinished,
      f_put_size := a_put_size,
      fd_put_size := PySem.W.fnOf "put_size" "put_size" (defArgs s_put_size) (defBody s_put_size) (defScope s_put_size) .none kV_put_size dc_put_size pm_put_size an_put_size cd_put_size ct_put_size,
      F_put_size := fun_mk (st := s_put_size) l_put_size c_put_size k_put_size,
      mg_put_size := PySem.W.mg_of X G g_put_size,
      f_set_size := a_set_size,
      fd_set_size := PySem.W.fnOf "set_size" "set_size" (defArgs s_set_size) (defBody s_set_size) (defScope s_set_size) .none kV_set_size dc_set_size pm_set_size an_set_size cd_set_size ct_set_size,
      F_set_size := fun_mk (st := s_set_size) l_set_size c_set_size k_set_size,
      mg_set_size := PySem.W.mg_of X G g_set_size,
      f_free_piece := a_free_piece,
      fd_free_piece := PySem.W.fnOf "free_piece" "free_piece" (defArgs s_free_piece) (defBody s_free_piece) (defScope s_free_piece) .none kV_free_piece dc_free_piece pm_free_piece an_free_piece cd_free_piece ct_free_piece,
      F_free_piece := fun_mk (st := s_free_piece) l_free_piece c_free_piece k_free_piece,
      mg_free_piece := PySem.W.mg_of X G g_free_piece,
      f_read_word := a_read_word,
      fd_read_word := PySem.W.fnOf "_read_word" "_read_word" (defArgs s_read_word) (defBody s_read_word) (defScope s_read_word) .none kV_read_word dc_read_word pm_read_word an_read_word cd_read_word ct_read_word,
      F_read_word := fun_mk (st := s_read_word) l_read_word c_read_word k_read_word,
      mg_read_word := PySem.W.mg_of X G g_read_word,
      f_read_words := a_read_words,
      fd_read_words := PySem.W.fnOf "read_words" "read_words" (defArgs s_read_words) (defBody s_read_words) (defScope s_read_words) .none kV_read_words dc_read_words pm_read_words an_read_words cd_read_words ct_read_words,
      F_read_words := fun_mk (st := s_read_words) l_read_words c_read_words k_read_words,
      mg_read_words := PySem.W.mg_of X G g_read_words,
      f_file_words := a_file_words,
      fd_file_words := PySem.W.fnOf "file_words" "file_words" (defArgs s_file_words) (defBody s_file_words) (defScope s_file_words) .none kV_file_words dc_file_words pm_file_words an_file_words cd_file_words ct_file_words,
      F_file_words := fun_mk (st := s_file_words) l_file_words c_file_words k_file_words,
      mg_file_words := PySem.W.mg_of X G g_file_words,
      f_Lfeed := a_Lfeed,
      fd_Lfeed := PySem.W.fnOf "_law_feed" "_law_feed" (defArgs s_Lfeed) (defBody s_Lfeed) (defScope s_Lfeed) .none kV_Lfeed dc_Lfeed pm_Lfeed an_Lfeed cd_Lfeed ct_Lfeed,
      F_Lfeed := fun_mk (st := s_Lfeed) l_Lfeed c_Lfeed k_Lfeed,
      mg_Lfeed := PySem.W.mg_of X G g_Lfeed,
      f_Lpick := a_Lpick,
      fd_Lpick := PySem.W.fnOf "_law_pick" "_law_pick" (defArgs s_Lpick) (defBody s_Lpick) (defScope s_Lpick) .none kV_Lpick dc_Lpick pm_Lpick an_Lpick cd_Lpick ct_Lpick,
      F_Lpick := fun_mk (st := s_Lpick) l_Lpick c_Lpick k_Lpick,
      mg_Lpick := PySem.W.mg_of X G g_Lpick,
      f_Lsame := a_Lsame,
      fd_Lsame := PySem.W.fnOf "_law_same" "_law_same" (defArgs s_Lsame) (defBody s_Lsame) (defScope s_Lsame) .none kV_Lsame dc_Lsame pm_Lsame an_Lsame cd_Lsame ct_Lsame,
      F_Lsame := fun_mk (st := s_Lsame) l_Lsame c_Lsame k_Lsame,
      mg_Lsame := PySem.W.mg_of X G g_Lsame,
      f_Lstate := a_Lstate,
      fd_Lstate := PySem.W.fnOf "_law_state" "_law_state" (defArgs s_Lstate) (defBody s_Lstate) (defScope s_Lstate) .none kV_Lstate dc_Lstate pm_Lstate an_Lstate cd_Lstate ct_Lstate,
      F_Lstate := fun_mk (st := s_Lstate) l_Lstate c_Lstate k_Lstate,
      mg_Lstate := PySem.W.mg_of X G g_Lstate,
      f_Lerror := a_Lerror,
      fd_Lerror := PySem.W.fnOf "_law_error" "_law_error" (defArgs s_Lerror) (defBody s_Lerror) (defScope s_Lerror) .none kV_Lerror dc_Lerror pm_Lerror an_Lerror cd_Lerror ct_Lerror,
      F_Lerror := fun_mk (st := s_Lerror) l_Lerror c_Lerror k_Lerror,
      mg_Lerror := PySem.W.mg_of X G g_Lerror,
      f_Lbase := a_Lbase,
      fd_Lbase := PySem.W.fnOf "_law_base" "_law_base" (defArgs s_Lbase) (defBody s_Lbase) (defScope s_Lbase) .none kV_Lbase dc_Lbase pm_Lbase an_Lbase cd_Lbase ct_Lbase,
      F_Lbase := fun_mk (st := s_Lbase) l_Lbase c_Lbase k_Lbase,
      mg_Lbase := PySem.W.mg_of X G g_Lbase,
      f_Lclaim := a_Lclaim,
      fd_Lclaim := PySem.W.fnOf "_law_claim" "_law_claim" (defArgs s_Lclaim) (defBody s_Lclaim) (defScope s_Lclaim) .none kV_Lclaim dc_Lclaim pm_Lclaim an_Lclaim cd_Lclaim ct_Lclaim,
      F_Lclaim := fun_mk (st := s_Lclaim) l_Lclaim c_Lclaim k_Lclaim,
      mg_Lclaim := PySem.W.mg_of X G g_Lclaim,
      f_Lheld := a_Lheld,
      fd_Lheld := PySem.W.fnOf "_law_held" "_law_held" (defArgs s_Lheld) (defBody s_Lheld) (defScope s_Lheld) .none kV_Lheld dc_Lheld pm_Lheld an_Lheld cd_Lheld ct_Lheld,
      F_Lheld := fun_mk (st := s_Lheld) l_Lheld c_Lheld k_Lheld,
      mg_Lheld := PySem.W.mg_of X G g_Lheld,
      f_Lplace := a_Lplace,
      fd_Lplace := PySem.W.fnOf "_law_place" "_law_place" (defArgs s_Lplace) (defBody s_Lplace) (defScope s_Lplace) .none kV_Lplace dc_Lplace pm_Lplace an_Lplace cd_Lplace ct_Lplace,
      F_Lplace := fun_mk (st := s_Lplace) l_Lplace c_Lplace k_Lplace,
      mg_Lplace := PySem.W.mg_of X G g_Lplace,
      f_Lput := a_Lput,
      fd_Lput := PySem.W.fnOf "_law_put" "_law_put" (defArgs s_Lput) (defBody s_Lput) (defScope s_Lput) .none kV_Lput dc_Lput pm_Lput an_Lput cd_Lput ct_Lput,
      F_Lput := fun_mk (st := s_Lput) l_Lput c_Lput k_Lput,
      mg_Lput := PySem.W.mg_of X G g_Lput,
      f_Lfile := a_Lfile,
      fd_Lfile := PySem.W.fnOf "_law_file" "_law_file" (defArgs s_Lfile) (defBody s_Lfile) (defScope s_Lfile) .none kV_Lfile dc_Lfile pm_Lfile an_Lfile cd_Lfile ct_Lfile,
      F_Lfile := fun_mk (st := s_Lfile) l_Lfile c_Lfile k_Lfile,
      mg_Lfile := PySem.W.mg_of X G g_Lfile,
      f_Lspare := a_Lspare,
      fd_Lspare := PySem.W.fnOf "_law_spare" "_law_spare" (defArgs s_Lspare) (defBody s_Lspare) (defScope s_Lspare) .none kV_Lspare dc_Lspare pm_Lspare an_Lspare cd_Lspare ct_Lspare,
      F_Lspare := fun_mk (st := s_Lspare) l_Lspare c_Lspare k_Lspare,
      mg_Lspare := PySem.W.mg_of X G g_Lspare,
      f_Lgive := a_Lgive,
      fd_Lgive := PySem.W.fnOf "_law_give" "_law_give" (defArgs s_Lgive) (defBody s_Lgive) (defScope s_Lgive) .none kV_Lgive dc_Lgive pm_Lgive an_Lgive cd_Lgive ct_Lgive,
      F_Lgive := fun_mk (st := s_Lgive) l_Lgive c_Lgive k_Lgive,
      mg_Lgive := PySem.W.mg_of X G g_Lgive,
      f_Lsettle := a_Lsettle,
      fd_Lsettle := PySem.W.fnOf "_law_settle" "_law_settle" (defArgs s_Lsettle) (defBody s_Lsettle) (defScope s_Lsettle) .none kV_Lsettle dc_Lsettle pm_Lsettle an_Lsettle cd_Lsettle ct_Lsettle,
      F_Lsettle := fun_mk (st := s_Lsettle) l_Lsettle c_Lsettle k_Lsettle,
      mg_Lsettle := PySem.W.mg_of X G g_Lsettle,
      f_Ldrop := a_Ldrop,
      fd_Ldrop := PySem.W.fnOf "_law_drop" "_law_drop" (defArgs s_Ldrop) (defBody s_Ldrop) (defScope s_Ldrop) .none kV_Ldrop dc_Ldrop pm_Ldrop an_Ldrop cd_Ldrop ct_Ldrop,
      F_Ldrop := fun_mk (st := s_Ldrop) l_Ldrop c_Ldrop k_Ldrop,
      mg_Ldrop := PySem.W.mg_of X G g_Ldrop,
      f_Lwords := a_Lwords,
      fd_Lwords := PySem.W.fnOf "_law_words" "_law_words" (defArgs s_Lwords) (defBody s_Lwords) (defScope s_Lwords) .none kV_Lwords dc_Lwords pm_Lwords an_Lwords cd_Lwords ct_Lwords,
      F_Lwords := fun_mk (st := s_Lwords) l_Lwords c_Lwords k_Lwords,
      mg_Lwords := PySem.W.mg_of X G g_Lwords,
      f_Lclear := a_Lclear,
      fd_Lclear := PySem.W.fnOf "_law_clear" "_law_clear" (defArgs s_Lclear) (defBody s_Lclear) (defScope s_Lclear) .none kV_Lclear dc_Lclear pm_Lclear an_Lclear cd_Lclear ct_Lclear,
      F_Lclear := fun_mk (st := s_Lclear) l_Lclear c_Lclear k_Lclear,
      mg_Lclear := PySem.W.mg_of X G g_Lclear,
      f_Lpiece := a_Lpiece,
      fd_Lpiece := PySem.W.fnOf "_law_piece" "_law_piece" (defArgs s_Lpiece) (defBody s_Lpiece) (defScope s_Lpiece) .none kV_Lpiece dc_Lpiece pm_Lpiece an_Lpiece cd_Lpiece ct_Lpiece,
      F_Lpiece := fun_mk (st := s_Lpiece) l_Lpiece c_Lpiece k_Lpiece,
      mg_Lpiece := PySem.W.mg_of X G g_Lpiece,
      f_Lunfinished := a_Lunfinished,
      fd_Lunfinished := PySem.W.fnOf "_law_unfinished" "_law_unfinished" (defArgs s_Lunfinished) (defBody s_Lunfinished) (defScope s_Lunfinished) .none kV_Lunfinished dc_Lunfinished pm_Lunfinished an_Lunfinished cd_Lunfinished ct_Lunfinished,
      F_Lunfinished := fun_mk (st := s_Lunfinished) l_Lunfinished c_Lunfinished k_Lunfinished,
      mg_Lunfinished := PySem.W.mg_of X G g_Lunfinished,
      f_Lblocks := a_Lblocks,
      fd_Lblocks := PySem.W.fnOf "_law_blocks" "_law_blocks" (defArgs s_Lblocks) (defBody s_Lblocks) (defScope s_Lblocks) .none kV_Lblocks dc_Lblocks pm_Lblocks an_Lblocks cd_Lblocks ct_Lblocks,
      F_Lblocks := fun_mk (st := s_Lblocks) l_Lblocks c_Lblocks k_Lblocks,
      mg_Lblocks := PySem.W.mg_of X G g_Lblocks,
      f_Lkept := a_Lkept,
      fd_Lkept := PySem.W.fnOf "_law_kept" "_law_kept" (defArgs s_Lkept) (defBody s_Lkept) (defScope s_Lkept) .none kV_Lkept dc_Lkept pm_Lkept an_Lkept cd_Lkept ct_Lkept,
      F_Lkept := fun_mk (st := s_Lkept) l_Lkept c_Lkept k_Lkept,
      mg_Lkept := PySem.W.mg_of X G g_Lkept,
      f_Lmodel := a_Lmodel,
      fd_Lmodel := PySem.W.fnOf "_law_model" "_law_model" (defArgs s_Lmodel) (defBody s_Lmodel) (defScope s_Lmodel) .none kV_Lmodel dc_Lmodel pm_Lmodel an_Lmodel cd_Lmodel ct_Lmodel,
      F_Lmodel := fun_mk (st := s_Lmodel) l_Lmodel c_Lmodel k_Lmodel,
      mg_Lmodel := PySem.W.mg_of X G g_Lmodel,
      f_Lcall := a_Lcall,
      fd_Lcall := PySem.W.fnOf "_law_call" "_law_call" (defArgs s_Lcall) (defBody s_Lcall) (defScope s_Lcall) .none kV_Lcall dc_Lcall pm_Lcall an_Lcall cd_Lcall ct_Lcall,
      F_Lcall := fun_mk (st := s_Lcall) l_Lcall c_Lcall k_Lcall,
      mg_Lcall := PySem.W.mg_of X G g_Lcall,
      f_Lrun := a_Lrun,
      fd_Lrun := PySem.W.fnOf "_law_run" "_law_run" (defArgs s_Lrun) (defBody s_Lrun) (defScope s_Lrun) .none kV_Lrun dc_Lrun pm_Lrun an_Lrun cd_Lrun ct_Lrun,
      F_Lrun := fun_mk (st := s_Lrun) l_Lrun c_Lrun k_Lrun,
      mg_Lrun := PySem.W.mg_of X G g_Lrun,
      f_Llooks := a_Llooks,
      fd_Llooks := PySem.W.fnOf "_law_looks" "_law_looks" (defArgs s_Llooks) (defBody s_Llooks) (defScope s_Llooks) .none kV_Llooks dc_Llooks pm_Llooks an_Llooks cd_Llooks ct_Llooks,
      F_Llooks := fun_mk (st := s_Llooks) l_Llooks c_Llooks k_Llooks,
      mg_Llooks := PySem.W.mg_of X G g_Llooks,
      f_Ldeeds := a_Ldeeds,
      fd_Ldeeds := PySem.W.fnOf "_law_deeds" "_law_deeds" (defArgs s_Ldeeds) (defBody s_Ldeeds) (defScope s_Ldeeds) .none kV_Ldeeds dc_Ldeeds pm_Ldeeds an_Ldeeds cd_Ldeeds ct_Ldeeds,
      F_Ldeeds := fun_mk (st := s_Ldeeds) l_Ldeeds c_Ldeeds k_Ldeeds,
      mg_Ldeeds := PySem.W.mg_of X G g_Ldeeds,
      f_law := a_law,
      fd_law := PySem.W.fnOf "law" "law" (defArgs s_law) (defBody s_law) (defScope s_law) .none kV_law dc_law pm_law an_law cd_law ct_law,
      F_law := fun_mk (st := s_law) l_law c_law k_law,
      mg_law := PySem.W.mg_of X G g_law,
      f_Plan___init__ := a_Plan___init__,
      fd_Plan___init__ := PySem.W.fnOf "__init__" "Plan.__init__" (defArgs s_Plan___init__) (defBody s_Plan___init__) (defScope s_Plan___init__) .none kV_Plan___init__ dc_Plan___init__ pm_Plan___init__ an_Plan___init__ cd_Plan___init__ ct_Plan___init__,
      F_Plan___init__ := fun_mk (st := s_Plan___init__) l_Plan___init__ c_Plan___init__ k_Plan___init__,
      f_Plan_map_place := a_Plan_map_place,
      fd_Plan_map_place := PySem.W.fnOf "map_place" "Plan.map_place" (defArgs s_Plan_map_place) (defBody s_Plan_map_place) (defScope s_Plan_map_place) .none kV_Plan_map_place dc_Plan_map_place pm_Plan_map_place an_Plan_map_place cd_Plan_map_place ct_Plan_map_place,
      F_Plan_map_place := fun_mk (st := s_Plan_map_place) l_Plan_map_place c_Plan_map_place k_Plan_map_place,
      f_Plan_node_block := a_Plan_node_block,
      fd_Plan_node_block := PySem.W.fnOf "node_block" "Plan.node_block" (defArgs s_Plan_node_block) (defBody s_Plan_node_block) (defScope s_Plan_node_block) .none kV_Plan_node_block dc_Plan_node_block pm_Plan_node_block an_Plan_node_block cd_Plan_node_block ct_Plan_node_block,
      F_Plan_node_block := fun_mk (st := s_Plan_node_block) l_Plan_node_block c_Plan_node_block k_Plan_node_block,
      f_Plan_data_blocks := a_Plan_data_blocks,
      fd_Plan_data_blocks := PySem.W.fnOf "data_blocks" "Plan.data_blocks" (defArgs s_Plan_data_blocks) (defBody s_Plan_data_blocks) (defScope s_Plan_data_blocks) .none kV_Plan_data_blocks dc_Plan_data_blocks pm_Plan_data_blocks an_Plan_data_blocks cd_Plan_data_blocks ct_Plan_data_blocks,
      F_Plan_data_blocks := fun_mk (st := s_Plan_data_blocks) l_Plan_data_blocks c_Plan_data_blocks k_Plan_data_blocks,
      f_Image___init__ := a_Image___init__,
      fd_Image___init__ := PySem.W.fnOf "__init__" "Image.__init__" (defArgs s_Image___init__) (defBody s_Image___init__) (defScope s_Image___init__) .none kV_Image___init__ dc_Image___init__ pm_Image___init__ an_Image___init__ cd_Image___init__ ct_Image___init__,
      F_Image___init__ := fun_mk (st := s_Image___init__) l_Image___init__ c_Image___init__ k_Image___init__,
      f_Image_begin := a_Image_begin,
      fd_Image_begin := PySem.W.fnOf "begin" "Image.begin" (defArgs s_Image_begin) (defBody s_Image_begin) (defScope s_Image_begin) .none kV_Image_begin dc_Image_begin pm_Image_begin an_Image_begin cd_Image_begin ct_Image_begin,
      F_Image_begin := fun_mk (st := s_Image_begin) l_Image_begin c_Image_begin k_Image_begin,
      f_Image_settle := a_Image_settle,
      fd_Image_settle := PySem.W.fnOf "settle" "Image.settle" (defArgs s_Image_settle) (defBody s_Image_settle) (defScope s_Image_settle) .none kV_Image_settle dc_Image_settle pm_Image_settle an_Image_settle cd_Image_settle ct_Image_settle,
      F_Image_settle := fun_mk (st := s_Image_settle) l_Image_settle c_Image_settle k_Image_settle,
      f_Image_twin := a_Image_twin,
      fd_Image_twin := PySem.W.fnOf "twin" "Image.twin" (defArgs s_Image_twin) (defBody s_Image_twin) (defScope s_Image_twin) .none kV_Image_twin dc_Image_twin pm_Image_twin an_Image_twin cd_Image_twin ct_Image_twin,
      F_Image_twin := fun_mk (st := s_Image_twin) l_Image_twin c_Image_twin k_Image_twin,
      f_Image_give := a_Image_give,
      fd_Image_give := PySem.W.fnOf "give" "Image.give" (defArgs s_Image_give) (defBody s_Image_give) (defScope s_Image_give) .none kV_Image_give dc_Image_give pm_Image_give an_Image_give cd_Image_give ct_Image_give,
      F_Image_give := fun_mk (st := s_Image_give) l_Image_give c_Image_give k_Image_give,
      f_Image__put_block := a_Image__put_block,
      fd_Image__put_block := PySem.W.fnOf "_put_block" "Image._put_block" (defArgs s_Image__put_block) (defBody s_Image__put_block) (defScope s_Image__put_block) .none kV_Image__put_block dc_Image__put_block pm_Image__put_block an_Image__put_block cd_Image__put_block ct_Image__put_block,
      F_Image__put_block := fun_mk (st := s_Image__put_block) l_Image__put_block c_Image__put_block k_Image__put_block,
      f_Image_free_blocks := a_Image_free_blocks,
      fd_Image_free_blocks := PySem.W.fnOf "free_blocks" "Image.free_blocks" (defArgs s_Image_free_blocks) (defBody s_Image_free_blocks) (defScope s_Image_free_blocks) .none kV_Image_free_blocks dc_Image_free_blocks pm_Image_free_blocks an_Image_free_blocks cd_Image_free_blocks ct_Image_free_blocks,
      F_Image_free_blocks := fun_mk (st := s_Image_free_blocks) l_Image_free_blocks c_Image_free_blocks k_Image_free_blocks,
      f_Image_kind := a_Image_kind,
      fd_Image_kind := PySem.W.fnOf "kind" "Image.kind" (defArgs s_Image_kind) (defBody s_Image_kind) (defScope s_Image_kind) .none kV_Image_kind dc_Image_kind pm_Image_kind an_Image_kind cd_Image_kind ct_Image_kind,
      F_Image_kind := fun_mk (st := s_Image_kind) l_Image_kind c_Image_kind k_Image_kind,
      f_Image_of_cells := a_Image_of_cells,
      fd_Image_of_cells := PySem.W.fnOf "of_cells" "Image.of_cells" (defArgs s_Image_of_cells) (defBody s_Image_of_cells) (defScope s_Image_of_cells) .none kV_Image_of_cells dc_Image_of_cells pm_Image_of_cells an_Image_of_cells cd_Image_of_cells ct_Image_of_cells,
      F_Image_of_cells := fun_mk (st := s_Image_of_cells) l_Image_of_cells c_Image_of_cells k_Image_of_cells,
      C_Plan := aC_Plan,
      mg_Plan := PySem.W.mg_of X G g_Plan,
      cl_Plan := ⟨pg_Plan, hd_Plan, po_Plan, sa_Plan⟩,
      na_Plan_blocks := n_Plan_blocks,
      na_Plan_nodes := n_Plan_nodes,
      na_Plan_slots := n_Plan_slots,
      na_Plan_maps := n_Plan_maps,
      na_Plan_first_node := n_Plan_first_node,
      na_Plan_first_data := n_Plan_first_data,
      mk_Plan := ⟨mk1_Plan, mk2_Plan, mk3_Plan, mk4_Plan⟩,
      mc_Plan := mcv_Plan,
      cr_Plan := ⟨rd_Plan, ga_Plan⟩,
      cv_Plan_WIDTH := ⟨_, v_Plan_WIDTH, ⟨_, rfl⟩⟩,
      cv_Plan_LONGEST := ⟨_, v_Plan_LONGEST, ⟨_, rfl⟩⟩,
      cv_Plan_FREE := ⟨_, v_Plan_FREE, ⟨_, rfl⟩⟩,
      cv_Plan_LOGGED := ⟨_, v_Plan_LOGGED, ⟨_, rfl⟩⟩,
      cv_Plan_PLAIN := ⟨_, v_Plan_PLAIN, ⟨_, rfl⟩⟩,
      con_Plan_WIDTH := ⟨_, o_Plan_WIDTH, ⟨_, rfl⟩, og_Plan_WIDTH, by decide +kernel⟩,
      C_Image := aC_Image,
      mg_Image := PySem.W.mg_of X G g_Image,
      cl_Image := ⟨pg_Image, hd_Image, po_Image, sa_Image⟩,
      na_Image_plan := n_Image_plan,
      na_Image_cells := n_Image_cells,
      na_Image_holdings := n_Image_holdings,
      na_Image_stamps := n_Image_stamps,
      na_Image_handles := n_Image_handles,
      na_Image_serial := n_Image_serial,
      na_Image_wish := n_Image_wish,
      na_Image_barred := n_Image_barred,
      mk_Image := ⟨mk1_Image, mk2_Image, mk3_Image, mk4_Image⟩,
      mc_Image := mcv_Image,
      cr_Image := ⟨rd_Image, ga_Image⟩,
      m_Plan_map_place := ⟨m1_Plan_map_place, m2_Plan_map_place, k_Plan_map_place⟩,
      m_Plan_node_block := ⟨m1_Plan_node_block, m2_Plan_node_block, k_Plan_node_block⟩,
      m_Plan_data_blocks := ⟨m1_Plan_data_blocks, m2_Plan_data_blocks, k_Plan_data_blocks⟩,
      m_Image_begin := ⟨m1_Image_begin, m2_Image_begin, k_Image_begin⟩,
      m_Image_settle := ⟨m1_Image_settle, m2_Image_settle, k_Image_settle⟩,
      m_Image_twin := ⟨m1_Image_twin, m2_Image_twin, k_Image_twin⟩,
      m_Image_give := ⟨m1_Image_give, m2_Image_give, k_Image_give⟩,
      m_Image__put_block := ⟨m1_Image__put_block, m2_Image__put_block, k_Image__put_block⟩,
      m_Image_free_blocks := ⟨m1_Image_free_blocks, m2_Image_free_blocks, k_Image_free_blocks⟩,
      m_Image_kind := ⟨m1_Image_kind, m2_Image_kind, k_Image_kind⟩,
      sm_Image_of_cells := ⟨_, s1_Image_of_cells, ⟨_, s2_Image_of_cells⟩, k_Image_of_cells⟩,
      C_StoreError := aC_StoreError,
      mg_StoreError := PySem.W.mg_of X G g_StoreError,
      be_StoreError := be1_StoreError,
      te_StoreError := te1_StoreError,
      ie_StoreError := ie1_StoreError,
      C_BadText := aC_BadText,
      mg_BadText := PySem.W.mg_of X G g_BadText,
      be_BadText := be1_BadText,
      te_BadText := te1_BadText,
      ie_BadText := ie1_BadText,
      C_BadValue := aC_BadValue,
      mg_BadValue := PySem.W.mg_of X G g_BadValue,
      be_BadValue := be1_BadValue,
      te_BadValue := te1_BadValue,
      ie_BadValue := ie1_BadValue,
      C_Refused := aC_Refused,
      mg_Refused := PySem.W.mg_of X G g_Refused,
      be_Refused := be1_Refused,
      te_Refused := te1_Refused,
      ie_Refused := ie1_Refused,
      C_NotNow := aC_NotNow,
      mg_NotNow := PySem.W.mg_of X G g_NotNow,
      be_NotNow := be1_NotNow,
      te_NotNow := te1_NotNow,
      ie_NotNow := ie1_NotNow,
      C_NotLet := aC_NotLet,
      mg_NotLet := PySem.W.mg_of X G g_NotLet,
      be_NotLet := be1_NotLet,
      te_NotLet := te1_NotLet,
      ie_NotLet := ie1_NotLet,
      C_FolderFull := aC_FolderFull,
      mg_FolderFull := PySem.W.mg_of X G g_FolderFull,
      be_FolderFull := be1_FolderFull,
      te_FolderFull := te1_FolderFull,
      ie_FolderFull := ie1_FolderFull,
      C_NodesFull := aC_NodesFull,
      mg_NodesFull := PySem.W.mg_of X G g_NodesFull,
      be_NodesFull := be1_NodesFull,
      te_NodesFull := te1_NodesFull,
      ie_NodesFull := ie1_NodesFull,
      C_BlocksFull := aC_BlocksFull,
      mg_BlocksFull := PySem.W.mg_of X G g_BlocksFull,
      be_BlocksFull := be1_BlocksFull,
      te_BlocksFull := te1_BlocksFull,
      ie_BlocksFull := ie1_BlocksFull,
      C_OverQuota := aC_OverQuota,
      mg_OverQuota := PySem.W.mg_of X G g_OverQuota,
      be_OverQuota := be1_OverQuota,
      te_OverQuota := te1_OverQuota,
      ie_OverQuota := ie1_OverQuota,
      C_TooLong := aC_TooLong,
      mg_TooLong := PySem.W.mg_of X G g_TooLong,
      be_TooLong := be1_TooLong,
      te_TooLong := te1_TooLong,
      ie_TooLong := ie1_TooLong,
      xe_TooLong := xe1_TooLong,
      ke_TooLong := ke1_TooLong,
      ec_TooLong := ⟨ec1_TooLong, ec2_TooLong, be1_TooLong, ec4_TooLong, ec5_TooLong, ec6_TooLong, ec7_TooLong, ec8_TooLong⟩,
      C_Unfinished := aC_Unfinished,
      mg_Unfinished := PySem.W.mg_of X G g_Unfinished,
      be_Unfinished := be1_Unfinished,
      te_Unfinished := te1_Unfinished,
      ie_Unfinished := ie1_Unfinished,
      xe_Unfinished := xe1_Unfinished,
      ke_Unfinished := ke1_Unfinished,
      ec_Unfinished := ⟨ec1_Unfinished, ec2_Unfinished, be1_Unfinished, ec4_Unfinished, ec5_Unfinished, ec6_Unfinished, ec7_Unfinished, ec8_Unfinished⟩,
      C_ListFull := aC_ListFull,
      mg_ListFull := PySem.W.mg_of X G g_ListFull,
      be_ListFull := be1_ListFull,
      te_ListFull := te1_ListFull,
      ie_ListFull := ie1_ListFull,
      sub_TooLong_StoreError := sb_TooLong_StoreError,
      sub_TooLong_BadText := sb_TooLong_BadText,
      sub_TooLong_BadValue := sb_TooLong_BadValue,
      sub_TooLong_Refused := sb_TooLong_Refused,
      sub_TooLong_NotNow := sb_TooLong_NotNow,
      sub_TooLong_NotLet := sb_TooLong_NotLet,
      sub_TooLong_FolderFull := sb_TooLong_FolderFull,
      sub_TooLong_NodesFull := sb_TooLong_NodesFull,
      sub_TooLong_BlocksFull := sb_TooLong_BlocksFull,
      sub_TooLong_OverQuota := sb_TooLong_OverQuota,
      sub_TooLong_TooLong := sb_TooLong_TooLong,
      sub_TooLong_Unfinished := sb_TooLong_Unfinished,
      sub_TooLong_ListFull := sb_TooLong_ListFull,
      sub_Unfinished_StoreError := sb_Unfinished_StoreError,
      sub_Unfinished_BadText := sb_Unfinished_BadText,
      sub_Unfinished_BadValue := sb_Unfinished_BadValue,
      sub_Unfinished_Refused := sb_Unfinished_Refused,
      sub_Unfinished_NotNow := sb_Unfinished_NotNow,
      sub_Unfinished_NotLet := sb_Unfinished_NotLet,
      sub_Unfinished_FolderFull := sb_Unfinished_FolderFull,
      sub_Unfinished_NodesFull := sb_Unfinished_NodesFull,
      sub_Unfinished_BlocksFull := sb_Unfinished_BlocksFull,
      sub_Unfinished_OverQuota := sb_Unfinished_OverQuota,
      sub_Unfinished_TooLong := sb_Unfinished_TooLong,
      sub_Unfinished_Unfinished := sb_Unfinished_Unfinished,
      sub_Unfinished_ListFull := sb_Unfinished_ListFull,
      bsub_TooLong_ValueError := bs_TooLong_ValueError,
      bsub_Unfinished_ValueError := bs_Unfinished_ValueError,
      c_SUMS_BLOCK := ⟨_, PySem.W.mg_of X G gc_SUMS_BLOCK⟩,
      c_KIND := ⟨_, PySem.W.mg_of X G gc_KIND⟩,
      c_SIZE := ⟨_, PySem.W.mg_of X G gc_SIZE⟩,
      c_OWNER := ⟨_, PySem.W.mg_of X G gc_OWNER⟩,
      c_FIRST_PLACE := ⟨_, PySem.W.mg_of X G gc_FIRST_PLACE⟩,
      c_PLACES := ⟨_, PySem.W.mg_of X G gc_PLACES⟩,
      c_FILE := ⟨_, PySem.W.mg_of X G gc_FILE⟩,
      c_LEAST_BLOCKS := ⟨_, PySem.W.mg_of X G gc_LEAST_BLOCKS⟩,
      c_MOST_BLOCKS := ⟨_, PySem.W.mg_of X G gc_MOST_BLOCKS⟩,
      c_LEAST_NODES := ⟨_, PySem.W.mg_of X G gc_LEAST_NODES⟩,
      c_MOST_NODES := ⟨_, PySem.W.mg_of X G gc_MOST_NODES⟩,
      c_MOST_SLOTS := ⟨_, PySem.W.mg_of X G gc_MOST_SLOTS⟩,
      c_LEAST_DATA := ⟨_, PySem.W.mg_of X G gc_LEAST_DATA⟩,
      c_FIRST_MAP := ⟨_, PySem.W.mg_of X G gc_FIRST_MAP⟩,
      c_PLACE_COUNT := ⟨_, PySem.W.mg_of X G gc_PLACE_COUNT⟩,
      c_NODE_PLACES := ⟨_, PySem.W.mg_of X G gc_NODE_PLACES⟩,
      c_MOST_PIECE := ⟨_, PySem.W.mg_of X G gc_MOST_PIECE⟩,
      b_ValueError := PySem.W.mg_none_of X G nb_ValueError,
      b_abs := PySem.W.mg_none_of X G nb_abs,
      b_any := PySem.W.mg_none_of X G nb_any,
      b_bool := PySem.W.mg_none_of X G nb_bool,
      b_dict := PySem.W.mg_none_of X G nb_dict,
      b_int := PySem.W.mg_none_of X G nb_int,
      b_isinstance := PySem.W.mg_none_of X G nb_isinstance,
      b_len := PySem.W.mg_none_of X G nb_len,
      b_list := PySem.W.mg_none_of X G nb_list,
      b_min := PySem.W.mg_none_of X G nb_min,
      b_range := PySem.W.mg_none_of X G nb_range,
      b_reversed := PySem.W.mg_none_of X G nb_reversed,
      b_sorted := PySem.W.mg_none_of X G nb_sorted,
      b_str := PySem.W.mg_none_of X G nb_str,
      b_sum := PySem.W.mg_none_of X G nb_sum,
      b_tuple := PySem.W.mg_none_of X G nb_tuple
    }⟩
end K09
open PySem PySem.W PyProof.Rows
set_option maxRecDepth 100000 in
set_option maxHeartbeats 0 in
theorem PySem.Challenge.cw_lotsandties_k09_pieces_free_each_block_o_holds : PySem.Challenge.rw_lotsandties_k09_pieces_free_each_block_o.Holds := by
  w_on; o_law; k_head; (case hw => w_witness2)
  k_fill
  refine L2.walk_of (l := PySem.Challenge.rw_lotsandties_k09_pieces_free_each_block_o) (n := 63) (k := 9) (x := "_law_script") (CX := fun _ => L2.CX0) (sp := fun w => K09.sp_law _) rfl (by decide) rfl ⟨rfl, by decide, by decide⟩ (fun w h Y => PySem.W.kIn_of Y) ?F (fun _ _ a ns hl _ hS => ⟨a, ns, rfl, hS, hl, fun _ => rfl⟩) (fun _ _ _ _ _ h => h)
  case F =>
    intro w mg fa h KX G hmg
    refine K09.fin_F ?_ hmg
    refine' K09.all_mk (w := w) KX G ?l_node_cell ?c_node_cell ?k_node_cell ?g_node_cell ?l_put_node_cell ?c_put_node_cell ?k_put_node_cell ?g_put_node_cell ?l_place_block ?c_place_block ?k_place_block ?g_place_block ?l_put_place ?c_put_place ?k_put_place ?g_put_place ?l_drop_block_of_places ?c_drop_block_of_places ?k_drop_block_of_places ?g_drop_block_of_places ?l_drop_place ?c_drop_place ?k_drop_place ?g_drop_place ?l_held_blocks ?c_held_blocks ?k_held_blocks ?g_held_blocks ?l_taken_behind ?c_taken_behind ?k_taken_behind ?g_taken_behind ?l_unfinished ?c_unfinished ?k_unfinished ?g_unfinished ?l_put_size ?c_put_size ?k_put_size ?g_put_size ?l_set_size ?c_set_size ?k_set_size ?g_set_size ?l_free_piece ?c_free_piece ?k_free_piece ?g_free_piece ?l_read_word ?c_read_word ?k_read_word ?g_read_word ?l_read_words ?c_read_words ?k_read_words ?g_read_words ?l_file_words ?c_file_words ?k_file_words ?g_file_words ?l_Lfeed ?c_Lfeed ?k_Lfeed ?g_Lfeed ?l_Lpick ?c_Lpick ?k_Lpick ?g_Lpick ?l_Lsame ?c_Lsame ?k_Lsame ?g_Lsame ?l_Lstate ?c_Lstate ?k_Lstate ?g_Lstate ?l_Lerror ?c_Lerror ?k_Lerror ?g_Lerror ?l_Lbase ?c_Lbase ?k_Lbase ?g_Lbase ?l_Lclaim ?c_Lclaim ?k_Lclaim ?g_Lclaim ?l_Lheld ?c_Lheld ?k_Lheld ?g_Lheld ?l_Lplace ?c_Lplace ?k_Lplace ?g_Lplace ?l_Lput ?c_Lput ?k_Lput ?g_Lput ?l_Lfile ?c_Lfile ?k_Lfile ?g_Lfile ?l_Lspare ?c_Lspare ?k_Lspare ?g_Lspare ?l_Lgive ?c_Lgive ?k_Lgive ?g_Lgive ?l_Lsettle ?c_Lsettle ?k_Lsettle ?g_Lsettle ?l_Ldrop ?c_Ldrop ?k_Ldrop ?g_Ldrop ?l_Lwords ?c_Lwords ?k_Lwords ?g_Lwords ?l_Lclear ?c_Lclear ?k_Lclear ?g_Lclear ?l_Lpiece ?c_Lpiece ?k_Lpiece ?g_Lpiece ?l_Lunfinished ?c_Lunfinished ?k_Lunfinished ?g_Lunfinished ?l_Lblocks ?c_Lblocks ?k_Lblocks ?g_Lblocks ?l_Lkept ?c_Lkept ?k_Lkept ?g_Lkept ?l_Lmodel ?c_Lmodel ?k_Lmodel ?g_Lmodel ?l_Lcall ?c_Lcall ?k_Lcall ?g_Lcall ?l_Lrun ?c_Lrun ?k_Lrun ?g_Lrun ?l_Llooks ?c_Llooks ?k_Llooks ?g_Llooks ?l_Ldeeds ?c_Ldeeds ?k_Ldeeds ?g_Ldeeds ?l_law ?c_law ?k_law ?g_law ?l_Plan___init__ ?c_Plan___init__ ?k_Plan___init__ ?l_Plan_map_place ?c_Plan_map_place ?k_Plan_map_place ?l_Plan_node_block ?c_Plan_node_block ?k_Plan_node_block ?l_Plan_data_blocks ?c_Plan_data_blocks ?k_Plan_data_blocks ?l_Image___init__ ?c_Image___init__ ?k_Image___init__ ?l_Image_begin ?c_Image_begin ?k_Image_begin ?l_Image_settle ?c_Image_settle ?k_Image_settle ?l_Image_twin ?c_Image_twin ?k_Image_twin ?l_Image_give ?c_Image_give ?k_Image_give ?l_Image__put_block ?c_Image__put_block ?k_Image__put_block ?l_Image_free_blocks ?c_Image_free_blocks ?k_Image_free_blocks ?l_Image_kind ?c_Image_kind ?k_Image_kind ?l_Image_of_cells ?c_Image_of_cells ?k_Image_of_cells ?g_Plan ?pg_Plan ?hd_Plan ?po_Plan ?sa_Plan ?n_Plan_blocks ?n_Plan_nodes ?n_Plan_slots ?n_Plan_maps ?n_Plan_first_node ?n_Plan_first_data ?mk1_Plan ?mk2_Plan ?mk3_Plan ?mk4_Plan ?tp_Plan ?rd_Plan ?ga_Plan ?v_Plan_WIDTH ?v_Plan_LONGEST ?v_Plan_FREE ?v_Plan_LOGGED ?v_Plan_PLAIN ?o_Plan_WIDTH ?og_Plan_WIDTH ?g_Image ?pg_Image ?hd_Image ?po_Image ?sa_Image ?n_Image_plan ?n_Image_cells ?n_Image_holdings ?n_Image_stamps ?n_Image_handles ?n_Image_serial ?n_Image_wish ?n_Image_barred ?mk1_Image ?mk2_Image ?mk3_Image ?mk4_Image ?tp_Image ?rd_Image ?ga_Image ?m1_Plan_map_place ?m2_Plan_map_place ?m1_Plan_node_block ?m2_Plan_node_block ?m1_Plan_data_blocks ?m2_Plan_data_blocks ?m1_Image_begin ?m2_Image_begin ?m1_Image_settle ?m2_Image_settle ?m1_Image_twin ?m2_Image_twin ?m1_Image_give ?m2_Image_give ?m1_Image__put_block ?m2_Image__put_block ?m1_Image_free_blocks ?m2_Image_free_blocks ?m1_Image_kind ?m2_Image_kind ?s1_Image_of_cells ?s2_Image_of_cells ?g_StoreError ?be1_StoreError ?te1_StoreError ?ie1_StoreError ?g_BadText ?be1_BadText ?te1_BadText ?ie1_BadText ?g_BadValue ?be1_BadValue ?te1_BadValue ?ie1_BadValue ?g_Refused ?be1_Refused ?te1_Refused ?ie1_Refused ?g_NotNow ?be1_NotNow ?te1_NotNow ?ie1_NotNow ?g_NotLet ?be1_NotLet ?te1_NotLet ?ie1_NotLet ?g_FolderFull ?be1_FolderFull ?te1_FolderFull ?ie1_FolderFull ?g_NodesFull ?be1_NodesFull ?te1_NodesFull ?ie1_NodesFull ?g_BlocksFull ?be1_BlocksFull ?te1_BlocksFull ?ie1_BlocksFull ?g_OverQuota ?be1_OverQuota ?te1_OverQuota ?ie1_OverQuota ?g_TooLong ?be1_TooLong ?te1_TooLong ?ie1_TooLong ?xe1_TooLong ?ke1_TooLong ?ec1_TooLong ?ec2_TooLong ?ec4_TooLong ?ec5_TooLong ?ec6_TooLong ?ec7_TooLong ?ec8_TooLong ?g_Unfinished ?be1_Unfinished ?te1_Unfinished ?ie1_Unfinished ?xe1_Unfinished ?ke1_Unfinished ?ec1_Unfinished ?ec2_Unfinished ?ec4_Unfinished ?ec5_Unfinished ?ec6_Unfinished ?ec7_Unfinished ?ec8_Unfinished ?g_ListFull ?be1_ListFull ?te1_ListFull ?ie1_ListFull ?sb_TooLong_StoreError ?sb_TooLong_BadText ?sb_TooLong_BadValue ?sb_TooLong_Refused ?sb_TooLong_NotNow ?sb_TooLong_NotLet ?sb_TooLong_FolderFull ?sb_TooLong_NodesFull ?sb_TooLong_BlocksFull ?sb_TooLong_OverQuota ?sb_TooLong_TooLong ?sb_TooLong_Unfinished ?sb_TooLong_ListFull ?sb_Unfinished_StoreError ?sb_Unfinished_BadText ?sb_Unfinished_BadValue ?sb_Unfinished_Refused ?sb_Unfinished_NotNow ?sb_Unfinished_NotLet ?sb_Unfinished_FolderFull ?sb_Unfinished_NodesFull ?sb_Unfinished_BlocksFull ?sb_Unfinished_OverQuota ?sb_Unfinished_TooLong ?sb_Unfinished_Unfinished ?sb_Unfinished_ListFull ?bs_TooLong_ValueError ?bs_Unfinished_ValueError ?gc_SUMS_BLOCK ?gc_KIND ?gc_SIZE ?gc_OWNER ?gc_FIRST_PLACE ?gc_PLACES ?gc_FILE ?gc_LEAST_BLOCKS ?gc_MOST_BLOCKS ?gc_LEAST_NODES ?gc_MOST_NODES ?gc_MOST_SLOTS ?gc_LEAST_DATA ?gc_FIRST_MAP ?gc_PLACE_COUNT ?gc_NODE_PLACES ?gc_MOST_PIECE ?nb_ValueError ?nb_abs ?nb_any ?nb_bool ?nb_dict ?nb_int ?nb_isinstance ?nb_len ?nb_list ?nb_min ?nb_range ?nb_reversed ?nb_sorted ?nb_str ?nb_sum ?nb_tuple
    (case g_node_cell => k_is)
    (case g_put_node_cell => k_is)
    (case g_place_block => k_is)
    (case g_put_place => k_is)
    (case g_drop_block_of_places => k_is)
    (case g_drop_place => k_is)
    (case g_held_blocks => k_is)
    (case g_taken_behind => k_is)
    (case g_unfinished => k_is)
    (case g_put_size => k_is)
    (case g_set_size => k_is)
    (case g_free_piece => k_is)
    (case g_read_word => k_is)
    (case g_read_words => k_is)
    (case g_file_words => k_is)
    (case g_Lfeed => k_is)
    (case g_Lpick => k_is)
    (case g_Lsame => k_is)
    (case g_Lstate => k_is)
    (case g_Lerror => k_is)
    (case g_Lbase => k_is)
    (case g_Lclaim => k_is)
    (case g_Lheld => k_is)
    (case g_Lplace => k_is)
    (case g_Lput => k_is)
    (case g_Lfile => k_is)
    (case g_Lspare => k_is)
    (case g_Lgive => k_is)
    (case g_Lsettle => k_is)
    (case g_Ldrop => k_is)
    (case g_Lwords => k_is)
    (case g_Lclear => k_is)
    (case g_Lpiece => k_is)
    (case g_Lunfinished => k_is)
    (case g_Lblocks => k_is)
    (case g_Lkept => k_is)
    (case g_Lmodel => k_is)
    (case g_Lcall => k_is)
    (case g_Lrun => k_is)
    (case g_Llooks => k_is)
    (case g_Ldeeds => k_is)
    (case g_law => k_is)
    (case g_Plan => k_is)
    (case g_Image => k_is)
    (case g_StoreError => k_is)
    (case g_BadText => k_is)
    (case g_BadValue => k_is)
    (case g_Refused => k_is)
    (case g_NotNow => k_is)
    (case g_NotLet => k_is)
    (case g_FolderFull => k_is)
    (case g_NodesFull => k_is)
    (case g_BlocksFull => k_is)
    (case g_OverQuota => k_is)
    (case g_TooLong => k_is)
    (case g_Unfinished => k_is)
    (case g_ListFull => k_is)
    (case tp_Plan => k_is)
    (case tp_Image => k_is)
    (case mk2_Plan => k_is)
    (case mk2_Image => k_is)
    (case m1_Plan_map_place => k_is)
    (case m1_Plan_node_block => k_is)
    (case m1_Plan_data_blocks => k_is)
    (case m1_Image_begin => k_is)
    (case m1_Image_settle => k_is)
    (case m1_Image_twin => k_is)
    (case m1_Image_give => k_is)
    (case m1_Image__put_block => k_is)
    (case m1_Image_free_blocks => k_is)
    (case m1_Image_kind => k_is)
    (case s1_Image_of_cells => k_is)
    (case s2_Image_of_cells => k_is)
    (case l_node_cell => k_is)
    (case c_node_cell => k_is)
    (case k_node_cell => k_is)
    (case l_put_node_cell => k_is)
    (case c_put_node_cell => k_is)
    (case k_put_node_cell => k_is)
    (case l_place_block => k_is)
    (case c_place_block => k_is)
    (case k_place_block => k_is)
    (case l_put_place => k_is)
    (case c_put_place => k_is)
    (case k_put_place => k_is)
    (case l_drop_block_of_places => k_is)
    (case c_drop_block_of_places => k_is)
    (case k_drop_block_of_places => k_is)
    (case l_drop_place => k_is)
    (case c_drop_place => k_is)
    (case k_drop_place => k_is)
    (case l_held_blocks => k_is)
    (case c_held_blocks => k_is)
    (case k_held_blocks => k_is)
    (case l_taken_behind => k_is)
    (case c_taken_behind => k_is)
    (case k_taken_behind => k_is)
    (case l_unfinished => k_is)
    (case c_unfinished => k_is)
    (case k_unfinished => k_is)
    (case l_put_size => k_is)
    (case c_put_size => k_is)
    (case k_put_size => k_is)
    (case l_set_size => k_is)
    (case c_set_size => k_is)
    (case k_set_size => k_is)
    (case l_free_piece => k_is)
    (case c_free_piece => k_is)
    (case k_free_piece => k_is)
    (case l_read_word => k_is)
    (case c_read_word => k_is)
    (case k_read_word => k_is)
    (case l_read_words => k_is)
    (case c_read_words => k_is)
    (case k_read_words => k_is)
    (case l_file_words => k_is)
    (case c_file_words => k_is)
    (case k_file_words => k_is)
    (case l_Lfeed => k_is)
    (case c_Lfeed => k_is)
    (case k_Lfeed => k_is)
    (case l_Lpick => k_is)
    (case c_Lpick => k_is)
    (case k_Lpick => k_is)
    (case l_Lsame => k_is)
    (case c_Lsame => k_is)
    (case k_Lsame => k_is)
    (case l_Lstate => k_is)
    (case c_Lstate => k_is)
    (case k_Lstate => k_is)
    (case l_Lerror => k_is)
    (case c_Lerror => k_is)
    (case k_Lerror => k_is)
    (case l_Lbase => k_is)
    (case c_Lbase => k_is)
    (case k_Lbase => k_is)
    (case l_Lclaim => k_is)
    (case c_Lclaim => k_is)
    (case k_Lclaim => k_is)
    (case l_Lheld => k_is)
    (case c_Lheld => k_is)
    (case k_Lheld => k_is)
    (case l_Lplace => k_is)
    (case c_Lplace => k_is)
    (case k_Lplace => k_is)
    (case l_Lput => k_is)
    (case c_Lput => k_is)
    (case k_Lput => k_is)
    (case l_Lfile => k_is)
    (case c_Lfile => k_is)
    (case k_Lfile => k_is)
    (case l_Lspare => k_is)
    (case c_Lspare => k_is)
    (case k_Lspare => k_is)
    (case l_Lgive => k_is)
    (case c_Lgive => k_is)
    (case k_Lgive => k_is)
    (case l_Lsettle => k_is)
    (case c_Lsettle => k_is)
    (case k_Lsettle => k_is)
    (case l_Ldrop => k_is)
    (case c_Ldrop => k_is)
    (case k_Ldrop => k_is)
    (case l_Lwords => k_is)
    (case c_Lwords => k_is)
    (case k_Lwords => k_is)
    (case l_Lclear => k_is)
    (case c_Lclear => k_is)
    (case k_Lclear => k_is)
    (case l_Lpiece => k_is)
    (case c_Lpiece => k_is)
    (case k_Lpiece => k_is)
    (case l_Lunfinished => k_is)
    (case c_Lunfinished => k_is)
    (case k_Lunfinished => k_is)
    (case l_Lblocks => k_is)
    (case c_Lblocks => k_is)
    (case k_Lblocks => k_is)
    (case l_Lkept => k_is)
    (case c_Lkept => k_is)
    (case k_Lkept => k_is)
    (case l_Lmodel => k_is)
    (case c_Lmodel => k_is)
    (case k_Lmodel => k_is)
    (case l_Lcall => k_is)
    (case c_Lcall => k_is)
    (case k_Lcall => k_is)
    (case l_Lrun => k_is)
    (case c_Lrun => k_is)
    (case k_Lrun => k_is)
    (case l_Llooks => k_is)
    (case c_Llooks => k_is)
    (case k_Llooks => k_is)
    (case l_Ldeeds => k_is)
    (case c_Ldeeds => k_is)
    (case k_Ldeeds => k_is)
    (case l_law => k_is)
    (case c_law => k_is)
    (case k_law => k_is)
    (case l_Plan___init__ => k_is)
    (case c_Plan___init__ => k_is)
    (case k_Plan___init__ => k_is)
    (case l_Plan_map_place => k_is)
    (case c_Plan_map_place => k_is)
    (case k_Plan_map_place => k_is)
    (case l_Plan_node_block => k_is)
    (case c_Plan_node_block => k_is)
    (case k_Plan_node_block => k_is)
    (case l_Plan_data_blocks => k_is)
    (case c_Plan_data_blocks => k_is)
    (case k_Plan_data_blocks => k_is)
    (case l_Image___init__ => k_is)
    (case c_Image___init__ => k_is)
    (case k_Image___init__ => k_is)
    (case l_Image_begin => k_is)
    (case c_Image_begin => k_is)
    (case k_Image_begin => k_is)
    (case l_Image_settle => k_is)
    (case c_Image_settle => k_is)
    (case k_Image_settle => k_is)
    (case l_Image_twin => k_is)
    (case c_Image_twin => k_is)
    (case k_Image_twin => k_is)
    (case l_Image_give => k_is)
    (case c_Image_give => k_is)
    (case k_Image_give => k_is)
    (case l_Image__put_block => k_is)
    (case c_Image__put_block => k_is)
    (case k_Image__put_block => k_is)
    (case l_Image_free_blocks => k_is)
    (case c_Image_free_blocks => k_is)
    (case k_Image_free_blocks => k_is)
    (case l_Image_kind => k_is)
    (case c_Image_kind => k_is)
    (case k_Image_kind => k_is)
    (case l_Image_of_cells => k_is)
    (case c_Image_of_cells => k_is)
    (case k_Image_of_cells => k_is)
    (case pg_Plan => k_is)
    (case hd_Plan => k_is)
    (case po_Plan => k_is)
    (case sa_Plan => k_is)
    (case n_Plan_blocks => k_is)
    (case n_Plan_nodes => k_is)
    (case n_Plan_slots => k_is)
    (case n_Plan_maps => k_is)
    (case n_Plan_first_node => k_is)
    (case n_Plan_first_data => k_is)
    (case mk1_Plan => k_is)
    (case mk3_Plan => k_is)
    (case mk4_Plan => k_is)
    (case rd_Plan => k_is)
    (case ga_Plan => k_is)
    (case v_Plan_WIDTH => k_is)
    (case v_Plan_LONGEST => k_is)
    (case v_Plan_FREE => k_is)
    (case v_Plan_LOGGED => k_is)
    (case v_Plan_PLAIN => k_is)
    (case o_Plan_WIDTH => k_is)
    (case og_Plan_WIDTH => k_is)
    (case pg_Image => k_is)
    (case hd_Image => k_is)
    (case po_Image => k_is)
    (case sa_Image => k_is)
    (case n_Image_plan => k_is)
    (case n_Image_cells => k_is)
    (case n_Image_holdings => k_is)
    (case n_Image_stamps => k_is)
    (case n_Image_handles => k_is)
    (case n_Image_serial => k_is)
    (case n_Image_wish => k_is)
    (case n_Image_barred => k_is)
    (case mk1_Image => k_is)
    (case mk3_Image => k_is)
    (case mk4_Image => k_is)
    (case rd_Image => k_is)
    (case ga_Image => k_is)
    (case m2_Plan_map_place => k_is)
    (case m2_Plan_node_block => k_is)
    (case m2_Plan_data_blocks => k_is)
    (case m2_Image_begin => k_is)
    (case m2_Image_settle => k_is)
    (case m2_Image_twin => k_is)
    (case m2_Image_give => k_is)
    (case m2_Image__put_block => k_is)
    (case m2_Image_free_blocks => k_is)
    (case m2_Image_kind => k_is)
    (case be1_StoreError => k_is)
    (case te1_StoreError => k_is)
    (case ie1_StoreError => k_is)
    (case be1_BadText => k_is)
    (case te1_BadText => k_is)
    (case ie1_BadText => k_is)
    (case be1_BadValue => k_is)
    (case te1_BadValue => k_is)
    (case ie1_BadValue => k_is)
    (case be1_Refused => k_is)
    (case te1_Refused => k_is)
    (case ie1_Refused => k_is)
    (case be1_NotNow => k_is)
    (case te1_NotNow => k_is)
    (case ie1_NotNow => k_is)
    (case be1_NotLet => k_is)
    (case te1_NotLet => k_is)
    (case ie1_NotLet => k_is)
    (case be1_FolderFull => k_is)
    (case te1_FolderFull => k_is)
    (case ie1_FolderFull => k_is)
    (case be1_NodesFull => k_is)
    (case te1_NodesFull => k_is)
    (case ie1_NodesFull => k_is)
    (case be1_BlocksFull => k_is)
    (case te1_BlocksFull => k_is)
    (case ie1_BlocksFull => k_is)
    (case be1_OverQuota => k_is)
    (case te1_OverQuota => k_is)
    (case ie1_OverQuota => k_is)
    (case be1_TooLong => k_is)
    (case te1_TooLong => k_is)
    (case ie1_TooLong => k_is)
    (case xe1_TooLong => first | k_exc | k_is)
    (case ke1_TooLong => k_is)
    (case ec1_TooLong => k_is)
    (case ec2_TooLong => k_is)
    (case ec4_TooLong => k_is)
    (case ec5_TooLong => k_is)
    (case ec6_TooLong => k_is)
    (case ec7_TooLong => k_is)
    (case ec8_TooLong => k_is)
    (case be1_Unfinished => k_is)
    (case te1_Unfinished => k_is)
    (case ie1_Unfinished => k_is)
    (case xe1_Unfinished => first | k_exc | k_is)
    (case ke1_Unfinished => k_is)
    (case ec1_Unfinished => k_is)
    (case ec2_Unfinished => k_is)
    (case ec4_Unfinished => k_is)
    (case ec5_Unfinished => k_is)
    (case ec6_Unfinished => k_is)
    (case ec7_Unfinished => k_is)
    (case ec8_Unfinished => k_is)
    (case be1_ListFull => k_is)
    (case te1_ListFull => k_is)
    (case ie1_ListFull => k_is)
    (case sb_TooLong_StoreError => first | rfl | k_is)
    (case sb_TooLong_BadText => first | rfl | k_is)
    (case sb_TooLong_BadValue => first | rfl | k_is)
    (case sb_TooLong_Refused => first | rfl | k_is)
    (case sb_TooLong_NotNow => first | rfl | k_is)
    (case sb_TooLong_NotLet => first | rfl | k_is)
    (case sb_TooLong_FolderFull => first | rfl | k_is)
    (case sb_TooLong_NodesFull => first | rfl | k_is)
    (case sb_TooLong_BlocksFull => first | rfl | k_is)
    (case sb_TooLong_OverQuota => first | rfl | k_is)
    (case sb_TooLong_TooLong => first | rfl | k_is)
    (case sb_TooLong_Unfinished => first | rfl | k_is)
    (case sb_TooLong_ListFull => first | rfl | k_is)
    (case sb_Unfinished_StoreError => first | rfl | k_is)
    (case sb_Unfinished_BadText => first | rfl | k_is)
    (case sb_Unfinished_BadValue => first | rfl | k_is)
    (case sb_Unfinished_Refused => first | rfl | k_is)
    (case sb_Unfinished_NotNow => first | rfl | k_is)
    (case sb_Unfinished_NotLet => first | rfl | k_is)
    (case sb_Unfinished_FolderFull => first | rfl | k_is)
    (case sb_Unfinished_NodesFull => first | rfl | k_is)
    (case sb_Unfinished_BlocksFull => first | rfl | k_is)
    (case sb_Unfinished_OverQuota => first | rfl | k_is)
    (case sb_Unfinished_TooLong => first | rfl | k_is)
    (case sb_Unfinished_Unfinished => first | rfl | k_is)
    (case sb_Unfinished_ListFull => first | rfl | k_is)
    (case bs_TooLong_ValueError => k_is)
    (case bs_Unfinished_ValueError => k_is)
    (case gc_SUMS_BLOCK => k_is)
    (case gc_KIND => k_is)
    (case gc_SIZE => k_is)
    (case gc_OWNER => k_is)
    (case gc_FIRST_PLACE => k_is)
    (case gc_PLACES => k_is)
    (case gc_FILE => k_is)
    (case gc_LEAST_BLOCKS => k_is)
    (case gc_MOST_BLOCKS => k_is)
    (case gc_LEAST_NODES => k_is)
    (case gc_MOST_NODES => k_is)
    (case gc_MOST_SLOTS => k_is)
    (case gc_LEAST_DATA => k_is)
    (case gc_FIRST_MAP => k_is)
    (case gc_PLACE_COUNT => k_is)
    (case gc_NODE_PLACES => k_is)
    (case gc_MOST_PIECE => k_is)
    (case nb_ValueError => k_is)
    (case nb_abs => k_is)
    (case nb_any => k_is)
    (case nb_bool => k_is)
    (case nb_dict => k_is)
    (case nb_int => k_is)
    (case nb_isinstance => k_is)
    (case nb_len => k_is)
    (case nb_list => k_is)
    (case nb_min => k_is)
    (case nb_range => k_is)
    (case nb_reversed => k_is)
    (case nb_sorted => k_is)
    (case nb_str => k_is)
    (case nb_sum => k_is)
    (case nb_tuple => k_is)
