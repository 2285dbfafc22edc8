import PyProof.Rows.All
import Wide.All
import OpenK.AllK
import Wide.FinOn
import HandS.ForMost
import HandS.IsInst
import HandS.Evl
import HandS.ClsMeth
import HandS.MakeKwOnly
import HandS.TryOnly
import HandS.ExcOwn
import HandS.ExcIs
import HandS.ExcCtx
import HandS.HotCalls
import HandS.WordsExc
import HandS.Conv
import HandS.FStr
import HandS.RaiseMore
import HandS.Style
import HandS.Small
import HandS.More
import HandS.Star
import PySem.Challenge.RW_lotsandties_k07_places_taken_and_dropped
set_option Elab.async false
set_option linter.all false
set_option maxRecDepth 100000
set_option maxHeartbeats 4000000
namespace Rg
open PySem PySem.Spec PyProof.Rows L2
/-! ### heaps -/
theorem same_upd {H : Hp} {p : Addr} {o : HO} (h : H p = none) : Same H (upd H p o) := fun b x e => by
  rw [upd_ne (ne_of_none e h)]
  exact e
theorem upd_id {H : Hp} {p : Addr} {o : HO} (h : H p = some o) : upd H p o = H := by
  funext b
  by_cases e : b = p
  · rw [e, upd_same, h]
  · rw [upd_ne e]
theorem yes_ {σ : L2.St} {H : Hp} {A B : Hp → Prop} (h : A H) : tYes σ H fun b H3 => if b = true then A H3 else B H3 := by
  show if true = true then A H else B H
  rw [if_pos rfl]
  exact h
/-- what is free behind a store was free, and is another place -/
theorem un {H : Hp} {a b : Addr} {o : HO} (e : upd H a o b = none) : H b = none := by
  by_cases z : b = a
  · rw [z, upd_same] at e; cases e
  · rw [upd_ne z] at e; exact e
theorem unn {H : Hp} {a b : Addr} {o : HO} (e : upd H a o b = none) : b ≠ a := fun z => by
  rw [z, upd_same] at e; cases e
theorem unn' {H : Hp} {a b : Addr} {o : HO} (e : upd H a o b = none) : a ≠ b := fun z => unn e z.symm
theorem upd_comm {H : Hp} {p q : Addr} {o o' : HO} (h : p ≠ q) : upd (upd H p o) q o' = upd (upd H q o') p o := by
  funext b
  by_cases e : b = p
  · rw [e, upd_same, upd_ne h, upd_same]
  · by_cases e2 : b = q
    · rw [e2, upd_same, upd_ne h.symm, upd_same]
    · rw [upd_ne e2, upd_ne e, upd_ne e, upd_ne e2]
theorem upd_app {H : Hp} {p : Addr} {fs : List Int} {x : Int} : upd (upd H p (.lst (fs.map V.int))) p (.lst (fs.map V.int ++ [V.int x])) = upd H p (.lst ((fs ++ [x]).map V.int)) := by
  rw [upd_upd, List.map_append]
  rfl
/-- kept but for what stands at S -/
def Kp (S : List Addr) (H H' : Hp) : Prop := ∀ x o, H x = some o → x ∉ S → H' x = some o
theorem Kp.refl {S : List Addr} {H : Hp} : Kp S H H := fun _ _ e _ => e
theorem Kp.new {S : List Addr} {H H1 : Hp} {a : Addr} {o : HO} (k : Kp S H H1) (h : H1 a = none) : Kp S H (upd H1 a o) := fun x u e n => by
  rw [upd_ne (ne_of_none (k x u e n) h)]
  exact k x u e n
theorem Kp.own {S : List Addr} {H H1 : Hp} {a : Addr} {o : HO} (k : Kp S H H1) (h : a ∈ S) : Kp S H (upd H1 a o) := fun x u e n => by
  have z : x ≠ a := fun z => by rw [z] at n; exact n h
  rw [upd_ne z]
  exact k x u e n
theorem Kp.own1 {p : Addr} {H H1 : Hp} {o : HO} (k : Kp [p] H H1) : Kp [p] H (upd H1 p o) := k.own (by simp)
theorem Kp.trans {S : List Addr} {H H1 H2 : Hp} (a : Kp S H H1) (b : Kp S H1 H2) : Kp S H H2 := fun x o e n => b x o (a x o e n) n
theorem Kp.same {S : List Addr} {H H1 H2 : Hp} (a : Kp S H H1) (b : Same H1 H2) : Kp S H H2 := fun x o e n => b x o (a x o e n)
theorem Kp.of {S : List Addr} {H H1 : Hp} (b : Same H H1) : Kp S H H1 := fun x o e _ => b x o e
theorem Kp.mono {S S' : List Addr} {H H1 : Hp} (a : Kp S H H1) (h : ∀ x, x ∈ S → x ∈ S') : Kp S' H H1 := fun x o e n => a x o e fun z => n (h x z)
theorem Kp.free {S : List Addr} {H H1 : Hp} {x : Addr} (a : Kp S H H1) (n : x ∉ S) (h : H1 x = none) : H x = none := by
  cases q : H x with
  | none => rfl
  | some o => rw [a x o q n] at h; cases h
theorem Kp.at1 {p x : Addr} {H H' : Hp} {o : HO} (k : Kp [p] H H') (e : H x = some o) (n : x ≠ p) : H' x = some o := k x o e (by simp [n])
theorem Kp.ret {a : Addr} {S : List Addr} {H H' : Hp} {o : HO} (k : Kp (a :: S) H H') (h : H a = none) : Kp S H H' := fun x u e n => k x u e (by
  intro z
  rcases List.mem_cons.mp z with z | z
  · rw [z, h] at e; cases e
  · exact n z)
theorem own_f {H H' : Hp} {p : Addr} {o : HO} (h : upd H p o = H') : H' p = some o ∧ Kp [p] H H' ∧ ∀ x, H' x = none → H x = none ∧ x ≠ p := by
  subst h
  exact ⟨upd_same, Kp.refl.own1, fun x e => ⟨un e, unn e⟩⟩
theorem new_f {H H' : Hp} {a : Addr} {o : HO} (h : upd H a o = H') (n : H a = none) : H' a = some o ∧ Same H H' ∧ ∀ x, H' x = none → H x = none ∧ x ≠ a := by
  subst h
  exact ⟨upd_same, same_upd n, fun x e => ⟨un e, unn e⟩⟩
/-- a whole-number constant of the module -/
theorem pe_gc {X : Cx} {x : Str} {n : Int} {pos : Pos} (hm : ∃ t, X.mg x = some (.int n t)) (hg : Gl X x := by rfl) (hd : (x == ("__debug__" : Str)) = false := by decide) : PE X (.Name x pos) (tC (.int n)) :=
  let ⟨t, h⟩ := hm
  pe_glob hg h ⟨t, rfl⟩ hd
/-- a text constant of the module -/
theorem pe_gs {X : Cx} {x z : Str} {pos : Pos} (hm : ∃ t, X.mg x = some (.str z t)) (hg : Gl X x := by rfl) (hd : (x == ("__debug__" : Str)) = false := by decide) : PE X (.Name x pos) (tC (.str z)) :=
  let ⟨t, h⟩ := hm
  pe_glob hg h ⟨t, rfl⟩ hd
/-- C.f, C a class of the module, f a value of the class -/
theorem pe_cv {X : Cx} {x f : Str} {C : Addr} {mc : Value} {v : V} {p pos : Pos} (hm : X.mg x = some (.ref C)) (r : ClX.CRead X.K C mc) (k : ∃ u, ClX.CVal X.K C mc f v u) (hg : Gl X x := by rfl) (hd : (x == ("__debug__" : Str)) = false := by decide)
    (hb : attributeBase (.Name x p) f X.env (eval (.Name x p) X.env) = eval (.Name x p) X.env := by rfl) : PE X (.Attribute (.Name x p) f pos) (tC v) := by
  obtain ⟨u, k⟩ := k
  have := (ClX.pe_cval (pos := pos) (pe_glob (X := X) (x := x) (v := .ref C) (u := .ref C) (pos := p) hg hm rfl hd) hb)
  exact ⟨fun pins s σ H Q I h => this.run pins s σ H Q I ⟨C, mc, v, u, rfl, r, k, h⟩⟩
/-! ### the same rules with the written part named (inside a comprehension) -/
section
variable {X : Cx} {K : PySem.W.Frag}
def rListOf (K : PySem.W.Frag) : List V → Hp → VK → Prop := fun xs H Q => ∃ p ys, xs = [.ref p] ∧ (SqL K H p ys ∨ SqT K H p ys) ∧ ∀ l, H l = none → Q (.ref l) (upd H l (.lst ys))
theorem pe_listof {e : Expr} {te : TE} {p pos : Pos} (he : PE X e te) (hm : X.mg "list" = none) (hK : X.K = K := by rfl) (hg : Gl X "list" := by rfl) (hs : starEach [e] X.env = (false, eval e X.env) :: starEach [] X.env := by rfl) : PE X (.Call (.Name "list" p) [e] [] pos) (tCB (rListOf K) (tCons te tNil)) := by
  subst hK
  exact pe_callTy call_list_of hg hm (by decide +kernel) (pa_cons he pa_nil hs) (he := hs)
theorem pe_fldK {e : Expr} {f : Str} {pos : Pos} {ta : TE} (he : PE X e ta) (hb : attributeBase e f X.env (eval e X.env) = eval e X.env) (hK : X.K = K := by rfl) : PE X (.Attribute e f pos) (tFld K ta f) := by
  subst hK
  exact pe_fld he hb
theorem pe_ixK {a b : Expr} {pos : Pos} {ta tb : TE} (ha : PE X a ta) (hb : PE X b tb) (hs : PlainIx b) (hK : X.K = K := by rfl) : PE X (.Subscript a b pos) (tOp (rIxL K) ta tb) := by
  subst hK
  exact pe_ix ix_list ha hb hs
theorem pe_lenK {e : Expr} {te : TE} {p pos : Pos} (he : PE X e te) (hm : X.mg "len" = none) (hK : X.K = K := by rfl) (hg : Gl X "len" := by rfl) (hs : starEach [e] X.env = (false, eval e X.env) :: starEach [] X.env := by rfl) : PE X (.Call (.Name "len" p) [e] [] pos) (tCB (fun xs H Q => ∃ p ys, xs = [.ref p] ∧ (SqL K H p ys ∨ SqT K H p ys) ∧ Q (.int ys.length) H) (tCons te tNil)) := by
  subst hK
  exact pe_callB call_len_seq hg hm (by decide +kernel) (pa_cons he pa_nil hs) (he := hs)
end
/-! ### static methods, called off the class -/
structure SMet (K : PySem.W.Frag) (C : Addr) (mc : Value) (m : Str) (g : Addr) : Prop where
  ex : ∃ p, PySem.W.findCls K (.ref C) mc m = some (.get (.builtin "staticmethod.__get__") (.ref p) .none (.ref C)) ∧ (∃ rest, PySem.W.recIn K p "staticmethod" = some (.ref g :: rest)) ∧ PySem.W.keepIn K (.ref g) = true
/-- C.m(e, ..), C the class at C, m a static method -/
def tSMeth (sp : Sp) (dvs : List V) (E : XK) (t : TA) : TE := fun σ H Q => t σ H fun vs H2 => sp (vs ++ dvs) H2 Q E
section
variable {X : Cx} {CX : CXT} {k : Nat} {C g : Addr} {mc : Value} {sp : Sp} {E : XK} {x : Str} {e : Expr} {es : List Expr} {m : Str} {p pos apos : Pos} {t : TA} {pl : Sem Bool} {fd : FuncData} {ps : List Str} {ds : List Value} {dvs : List V}
theorem pe_smeth (hmx : X.mg x = some (.ref C)) (r : ClX.CRead X.K C mc) (c : SMet X.K C mc m g) (F : FnOk X.prog X.w X.K X.mg X.base CX k g fd ps sp) (hr : Room k X.A) (hb : Binds X.K fd ps ds) (hd : Vals dvs ds) (hx : Passes CX X E) (ha : PA X (e :: es) t) (hg : Gl X x := by rfl) (hdb : (x == ("__debug__" : Str)) = false := by decide)
    (hst : starEach (e :: es) X.env = (false, eval e X.env) :: starEach es X.env := by rfl) (hpl : (backTo pos (starEach es X.env)).any (·.1) = false := by rfl)
    (ht : eval (.Call (.Attribute (.Name x p) m apos) (e :: es) [] pos) X.env = (do
      let ov ← eval (.Name x p) X.env
      standAt apos.atName
      let (f, first) ← holding [ov] (getMethod ov m pl)
      callWith pos f first (backTo pos (starEach (e :: es) X.env)) (backToKw pos (keywordEach [] X.env))) := by rfl) :
    PE X (.Call (.Attribute (.Name x p) m apos) (e :: es) [] pos) (tSMeth sp dvs E t) := by
  obtain ⟨q, at_, ⟨rest, hp⟩, hk⟩ := c.ex
  refine ⟨fun pins s σ H Q I h => ?_⟩
  refine PySem.W.methodCall_KW (pl := pl) (ld_glob I hg hmx ?_ hdb) ht
  refine PySem.W.method_cls I.kIn r.ga (PySem.W.cls_bind I.kIn r.rd at_ ?_)
  refine wpAny_call (PySem.W.sm_get (s := { s with toks := s.toks + 1 }) I.kIn hp (PySem.W.handed_on rfl ?_))
  refine PySem.W.callWith_K (f := .ref g) (first := []) (h₀ := X.base) I.ok.mod.kin hk (thn (ha.run pos pins _ σ H _ (I.tok _) h) fun us s1 ⟨vs, H1, I1, r1, q1⟩ => ⟨I1.kIn, ?_⟩) hst hpl
  exact run_fn F hr hb hd hx I1 r1 q1
end
/-! ### errors -/
theorem exm_sub {K : PySem.W.Frag} {D S : Addr} (h1 : PySem.W.subIn K (.ref S) (.type "BaseException") = some true) (h2 : PySem.W.isClsIn K S = true) (h3 : PySem.W.typeIn K (.ref S) = some (.type "type")) (h4 : PySem.W.subIn K (.ref D) (.ref S) = some true) :
    PySem.W.exmOne K (.ref D) (.ref S) = some true := by
  have e1 : (PySem.W.subIn K (.ref S) (.type "BaseException") == some true) = true := by rw [h1] <;> rfl
  have e2 : ((PySem.W.clsIn K S).isSome && PySem.W.typeIn K (.ref S) == some (.type "type")) = true := by
    have h2' : (PySem.W.clsIn K S).isSome = true := h2
    rw [h2', h3] <;> rfl
  show (if (PySem.W.subIn K (.ref S) (.type "BaseException") == some true) = true then (if ((PySem.W.clsIn K S).isSome && PySem.W.typeIn K (.ref S) == some (.type "type")) = true then PySem.W.subIn K (.ref D) (.ref S) else none) else none) = some true
  rw [if_pos e1, if_pos e2]
  exact h4
theorem kit_sub {K : PySem.W.Frag} {D S : Addr} {b : Bool} (hne : D ≠ S) (h2 : PySem.W.isClsIn K S = true) (h3 : PySem.W.typeIn K (.ref S) = some (.type "type")) (h4 : PySem.W.subIn K (.ref D) (.ref S) = some b) :
    PySem.W.kitOne K (.ref D) (.ref S) = some b := by
  have e2 : ((PySem.W.clsIn K S).isSome && PySem.W.typeIn K (.ref S) == some (.type "type")) = true := by
    have h2' : (PySem.W.clsIn K S).isSome = true := h2
    rw [h2', h3] <;> rfl
  unfold PySem.W.kitOne
  rw [if_neg (by intro z; exact hne (Value.ref.inj (beq_iff_eq.mp z)))]
  show (if ((PySem.W.clsIn K S).isSome && PySem.W.typeIn K (.ref S) == some (.type "type")) = true then PySem.W.subIn K (.ref D) (.ref S) else none) = some b
  rw [if_pos e2]
  exact h4
/-- a suite that is come to by an error of the class at D alone (no fields of its own) -/
def tOnly (cls : Value) (d : Option Addr) (D : Addr) (t : TS) : TS := fun E σ H => cls = .ref D ∧ d = none ∧ t E σ H
theorem pss_only {X : Cx} {sts : List Stmt} {t : TS} {cls : Value} {d : Option Addr} {D : Addr} (h : cls = .ref D → d = none → PSs X sts t) : PSs X sts (tOnly cls d D t) :=
  ⟨fun pins s σ H E I hh => (h hh.1 hh.2.1).run pins s σ H E I hh.2.2⟩
theorem kit_self {K : PySem.W.Frag} {D : Addr} : PySem.W.kitOne K (.ref D) (.ref D) = some true := by
  unfold PySem.W.kitOne
  rw [if_pos (beq_self_eq_true _)]
theorem dec_iv (a d : Int) : decide (V.int a = V.int d) = decide (a = d) := by
  by_cases e : a = d
  · subst e; simp
  · rw [decide_eq_false e, decide_eq_false fun q => e (V.int.inj q)]
end Rg
namespace Rg
open PySem PySem.Spec PyProof.Rows L2
/-! ### an error that a suite holds, handed to a def of one's own -/
section
variable {prog : Program} {w : World} {A : Around} {E : Value → Shared → Prop} {s : Shared}
/-- a walk over a list comes to its end while an error is handled -/
theorem list_end_hot {it l x1 : Addr} {i : Nat} {items} {Q : Option Value → Shared → Prop} (hot : HotX.HotAt A x1 s.heap) (hit : s.heap.IsListIter it l i) (hl : s.heap.IsList l items) (hx : items[i]? = none)
    (hQ : ∀ h', Heap.ExtBut it s.heap h' → Q none { s with heap := h' }) : wpAny (model prog w) A (pyNext (.ref it)) Q E s := by
  obtain ⟨hh, o1, vs1, h1, d1, c1⟩ := hot; obtain ⟨o, ho, hc, hd⟩ := id hit
  obtain ⟨ol, hol, _, nl, hdl⟩ := hl; unfold pyNext
  have ni : it ≠ x1 := fun z => by
    rw [← z, ho] at h1
    cases h1
    rw [hd] at d1
    cases d1
    simp at c1
  refine wpAny_bind (wpAny_attempt (wpAny_callSpecial?_slot (name := Str.ofString "__next__") hit.typeIs slot_listiter_next (wpAny_call_entry slot_listiter_next hit.typeIs entry_listiter_next ?_ (args_listiter_next _))))
  refine (show wpAny _ _ (field (.ref it) 0 >>= _) _ _ s from ?_); refine wpAny_bind (wpAny_field ho hd (x := .ref l) rfl ?_)
  refine (show wpAny _ _ (if (Value.ref l == Value.none) = true then _ else _) _ _ s from ?_); rw [if_neg (show ¬ ((Value.ref l == Value.none) = true) from Bool.false_ne_true)]
  refine (show wpAny _ _ (field (.ref it) 1 >>= _) _ _ s from ?_); refine wpAny_bind (wpAny_field ho hd (x := .int i 0) rfl ?_)
  refine (show wpAny _ _ (seqItems? (.ref l) >>= _) _ _ s from ?_); refine wpAny_bind (wpAny_seqItems hol hdl ?_)
  simp only [Int.toNat_natCast, hx]; refine wpAny_bind (wpAny_rule (wpAny_bind (wpAny_setField ho hd (by simp) ?_)))
  refine (show wpAny _ _ (newExc (.type "StopIteration") [] >>= _) _ _ _ from ?_); refine wpAny_bind ?_
  simp only [newExc, newTuple]; refine wpAny_bind (wpAny_newObj_type ?_ (by size_fits))
  refine wpAny_bind (m := firstArgMember _ _) (wpAny_of_eq (a := Value.none) (by first | rfl | (simp only [firstArgMember]; rfl)) ?_); refine wpAny_newObj_type ?_ (by size_fits)
  have g1 : ∀ f : Obj → Obj, (s.heap.update it f).get? x1 = some o1 := fun f => by rw [Heap.get?_update_other _ _ ni]; exact h1
  refine HotX.raiseNew_hot ⟨hh, o1, vs1, Heap.get?_push_of_some _ (Heap.get?_push_of_some _ (g1 _)), d1, c1⟩ (Nat.ne_of_lt (Heap.lt_size (Heap.get?_push_of_some _ (g1 _)))) (Heap.get?_push_size _ rfl) rfl (by first | (simp; done) | (simp; omega) | (simp only [Array.size_append]; simp; omega)) ?_
  refine wpAny_bind (wpAny_isInstance (T := "StopIteration") (b := true) ⟨_, Heap.get?_update_self _ (Heap.get?_push_size _ rfl) rfl, rfl⟩ isSubtype_stop ?_); refine wpAny_pure (hQ _ fun b o' nb e => ?_)
  have e2 : ∀ f oo, ((s.heap.update it f).push oo).get? b = some o' := fun f oo => (Heap.SameBut.update ..).extBut.push _ b o' nb e
  rw [Heap.get?_update_other _ _ (Nat.ne_of_gt (Heap.lt_size (e2 _ _)))]; exact Heap.get?_push_of_some _ (e2 _ _)
end
/-- the turns of a walk over a list while an error is handled -/
theorem turn_listH {P : Program} {w : World} {K : PySem.W.Frag} {tg : Expr} (a it : Addr) : L2H.TurnH P w K tg (Itl K a) [it] it (fun i h => h.IsListIter it a i) where
  mem := by simp
  obj := fun i h st b hb => (turn_list (P := P) (w := w) (K := K) (tg := tg) a it).obj i h st b hb
  keep := fun i h h' st k => (turn_list (P := P) (w := w) (K := K) (tg := tg) a it).keep i h h' st k
  item := by
    intro X hP hw hK hc i pins s σ H E I hf st hg; subst hP hw hK
    obtain ⟨xs, x, hq, hx⟩ := hg; obtain ⟨its, rv, p, hz⟩ := I.list hq
    obtain ⟨u, hu, ru⟩ := rv.get hx; obtain ⟨f0, f1, f2, f3, f4, f5⟩ := hf it (by simp)
    refine wpAny_pyNext_list_item st p.isList (x := u) (by simpa using hu) fun h' st' sb => ?_
    have I1 : Inv X pins σ H { s with heap := h' } := I.turned (t' := s.toks) (fun b o hb e => (sb.2 b hb).trans e) f0 f1 f3 f4 f5
    obtain ⟨o, e, c, d⟩ := id st'
    exact ⟨u, rfl, go_of (s := { s with heap := h' }) e c d (by decide) ⟨x, H, I1, ru, ⟨rfl, fun ys hy => by rw [I.list_inj hy hq]; exact hx⟩, st', fun b hb => (hf b hb).1⟩⟩
  done := by
    intro X hP hw hK hc i pins s σ H E I hf st hg; subst hP hw hK
    obtain ⟨xs, hq, hx⟩ := hg; obtain ⟨its, rv, p, hz⟩ := I.list hq
    obtain ⟨f0, f1, f2, f3, f4, f5⟩ := hf it (by simp); obtain ⟨x1, hot⟩ := hc.at I
    have hl := rv.length
    exact list_end_hot hot st p.isList (by simp; omega) fun h' eb => ⟨rfl, I.turned (t' := s.toks) (fun b o hb e => eb b o hb e) f0 f1 f3 f4 f5⟩
  self := fun _ _ _ _ _ st h => wpAny_pyIter_listiter st h
theorem pi_listH {X : Cx} {tg l : Expr} {tl : TE} (hl : PE X l tl) : L2H.PIH X tg l (iList X.K tl) := by
  refine ⟨fun pins s σ H R I h => thn (hl.run pins s σ H _ I h) fun v s1 ⟨x, H1, I1, r1, q1⟩ => ?_⟩
  obtain ⟨a, e, ⟨xs, hq⟩, q⟩ := q1; subst e; cases r1
  obtain ⟨its, rv, p, hz⟩ := I1.list hq; refine wpAny_pyIter_list p.isList ?_
  refine ⟨s1.heap.objs.size, [s1.heap.objs.size], _, _, H1, rfl, I1.kept (t' := s1.toks) (fun b o e => Heap.get?_push_of_some _ e), turn_listH a _, ⟨_, Heap.get?_push_size _ rfl, rfl, rfl⟩, fun b hb => ?_, q⟩
  have e : b = s1.heap.objs.size := by simpa using hb
  subst e; exact I1.fpOk (Nat.le_refl _) (I1.hok.fresh (Nat.le_refl _))
/-- a def that is called with the error that a suite holds (of the class at D) and lets nothing out -/
structure FnE (P : Program) (w : World) (K : PySem.W.Frag) (mg : Str → Option Value) (base : Heap) (k : Nat) (f : Addr) (fd : FuncData) (ps : List Str) (D : Addr) (sp : Addr → Sp) : Prop where
  len : ∀ a vs H Q E, sp a vs H Q E → vs.length = ps.length
  run : ∀ (A : Around) (outer : List Env) (s : Shared) (H : Hp) (args : Args) (us : List Value) (vs : List V) (Q : VK) (E : XK) (p : Addr × Obj), L2H.RoomH k A → L2H.Hot1 A p → Zc (.ref D) none p.2 → L2H.PinOk outer H s p → Env0 P w K mg base A outer s H →
    BindsTo s fd args (ps.zip us) → Vals vs us → sp p.1 vs H Q E → codeAny (model P w) A (.call (.ref f) args) (CR CX0 outer P w H s Q E) s
section
variable {P : Program} {w : World} {K : PySem.W.Frag} {mg : Str → Option Value} {base : Heap}
theorem _root_.L2.Fun.okE {x qual : Str} {st : Stmt} {f D : Addr} {fd : FuncData} {N ps : List Str} {k : Nat} {sp : Addr → Sp} (F : Fun K x qual st f fd) (S : FnScope N ps (defScope st)) (len : ∀ a vs H Q E, sp a vs H Q E → vs.length = ps.length)
    (hbody : ∀ (cdv : Value) (A : Around) (outer : List Env) (s : Shared) (H : Hp) (vs : List V) (Q : VK) (E : XK) (p : Addr × Obj), L2H.Hot1 A p → Zc (.ref D) none p.2 → L2H.RoomH k (A.deeper (envOfC qual (defScope st) s.heap.objs.size f cdv)) → sp p.1 vs H Q E →
      ∃ t, PSs (L2H.cxH CX0 P w K mg base N qual (defScope st) f cdv A outer s H E p) (defBody st) t ∧ t { nx := fun _ H' => Q .non H', rt := Q } (L2.start N vs) H) : FnE P w K mg base (k + 1) f fd ps D sp := by
  obtain ⟨oc, od, kV, doc, pm, an, cdv, ct, osl, rfl, lk, hcd⟩ := F.ex
  refine ⟨len, fun A outer s H args us vs Q E p hr hot hz hpin e0 hb r hsp => ?_⟩
  have hl := len _ _ _ _ _ hsp; have KX : K.In s.heap := e0.mod.kin.keeps fun b o e => (e0.bs b o e).1
  have lim : s.heap.NoLimit := e0.mod.nolimit.keeps fun b o e => (e0.bs b o e).1; have bb := hb
  have hkind : ∀ y ∈ ps.zip us, (defScope st).names.lookup y.1 = some .local ∨ ((defScope st).names.lookup y.1 = some .cell ∧ ((cellsFrom (s.heap.objs.size + 1) (defScope st).names []).lookup y.1).isSome = true) := fun ⟨n, v⟩ hy =>
    (S.par n (List.of_mem_zip hy).1).elim .inl fun q => .inr ⟨q, PySem.W.cellsFrom_some _ _ _ (.inl q)⟩
  refine codeAny_call_function hr.depth (KX _ _ lk) rfl S.co S.gen rfl (PySem.W.codeRec_of KX hcd) (bb _ _ _ _ (wpAny_newFunctionEnv_cells S.kind hkind fun env he s1 x => ?_))
  subst he; refine ⟨lim.keeps x.toInCall.keep, codeAny_func ?_⟩
  obtain ⟨t, ht, hq⟩ := hbody cdv A outer s H vs Q E p hot hz (hr.deeper _) hsp
  have I := L2H.inv_startH (CX := CX0) (E := E) S hpin e0 hl r x
  refine wpAny_mono (ht.run [] s1 (L2.start N vs) H _ I hq) (fun fl s' hs => ?_) fun _ _ hs => hs
  cases fl with
  | ret u => exact hs.elim fun v ⟨σ', H', J, rv, q⟩ => ⟨v, H', J.os, J.bare, J.base, J.hok, rv, q⟩
  | next => exact hs.elim fun σ' ⟨H', J, q⟩ => ⟨V.non, H', J.os, J.bare, J.base, J.hok, rfl, q⟩
  | brk => exact hs.elim fun _ ⟨_, _, q⟩ => q.elim
  | cont => exact hs.elim fun _ ⟨_, _, q⟩ => q.elim
end
section
variable {X : Cx} {k : Nat} {f D : Addr} {fd : FuncData} {ps : List Str} {sp : Addr → Sp} {x : Str} {q pos : Pos} {e : Expr} {es : List Expr} {t : TA}
/-- f(e, ..), f a def for the error at a -/
def tCallE (sp : Addr → Sp) (a : Addr) (t : TA) : TE := fun σ H Q => t σ H fun vs H1 => sp a vs H1 Q E0
theorem pe_callE (F : FnE X.prog X.w X.K X.mg X.base k f fd ps D sp) (hr : L2H.RoomH k X.A) {p : Addr × Obj} (hot : L2H.Hot1 X.A p) (hz : Zc (.ref D) none p.2) (hp : p ∈ X.pn) (hg : Gl X x) (hm : X.mg x = some (.ref f)) (hk : PySem.W.keepIn X.K (.ref f) = true) (hb : Binds X.K fd ps [])
    (ha : PA X (e :: es) t) (hdb : (x == ("__debug__" : Str)) = false := by decide) (he : starEach (e :: es) X.env = (false, eval e X.env) :: starEach es X.env := by rfl) (hpl : (backTo pos (starEach es X.env)).any (·.1) = false := by rfl) :
    PE X (.Call (.Name x q) (e :: es) [] pos) (tCallE sp p.1 t) := by
  refine ⟨fun pins s σ H Q I h => wpAny_Call_Name_kw (ld_glob I hg hm ?_ hdb)⟩
  refine PySem.W.callWith_K (h₀ := X.base) I.ok.mod.kin hk (thn (ha.run pos pins s σ H _ I h) fun us s1 ⟨vs, H1, I1, r, q⟩ => ⟨I1.kIn, ?_⟩) he hpl
  have hl : us.length = ps.length := by rw [← r.length]; exact F.len _ _ _ _ _ q
  have b := hb s1 us I1.kIn (by rw [List.append_nil]; exact hl)
  rw [List.append_nil] at b
  have P1 := I1.pin p (List.mem_append_left _ hp)
  have hpin : L2H.PinOk X.stack H1 s1 p := ⟨P1.1, P1.2.1, fun hm' => (List.mem_cons.mp (I1.stkSub p.1 hm')).elim P1.2.2.1 P1.2.2.2.1, P1.2.2.2.2⟩
  refine wpAny_call (codeAny_mono (F.run X.A X.stack s1 H1 ⟨us, []⟩ us vs Q E0 p hr hot hz hpin I1.env0 b r q) fun r' s' hq => ?_)
  cases r' with
  | error e => exact False.elim hq
  | ok fl =>
    cases fl with
    | ret u => exact I1.after hq
    | _ => exact False.elim hq
/-- isinstance of the error that is handled, in whatever def it is asked -/
theorem call_isP {a D : Addr} {oe : Obj} (C : ExcC X.K D) (hz : Zc (.ref D) none oe) (hf : ∃ vs, oe.data = .fields vs) (hp : (a, oe) ∈ X.pn) : CallR X (.builtin "isinstance") (rIsE X.K D a) := by
  rintro pins s σ H xs us Q I r ⟨c, cv, b, rfl, hcv, e, q⟩
  obtain ⟨vs, hv⟩ := hf
  cases r with
  | cons rx rr =>
    cases rr with
    | cons rt rr =>
      cases rr; cases rx
      have ec := hcv _ rt
      subst ec
      have hget := (I.pin (a, oe) (List.mem_append_left _ hp)).1
      have J : PySem.W.InstAt s.heap a oe D none := by
        obtain ⟨oc, od, oda, osl⟩ := oe
        obtain ⟨h1, h2⟩ := hz
        subst hv
        cases h1
        cases h2
        exact ⟨hget, rfl, rfl, trivial⟩
      exact PySem.W.kia_one (PySem.W.handS_kitx_exc C.hg C.hk C.hs C.hd C.ha C.hn C.ht C.hm) I.kIn J e (fun z => nomatch z) fun tk => ⟨.bl b, H, I.kept (t' := tk) fun _ _ z => z, rfl, q⟩
end
/-! ### defs that raise: the error's context is told to be None -/
section
variable {P : Program} {w : World} {K : PySem.W.Frag} {mg : Str → Option Value} {base : Heap}
theorem _root_.L2.Fun.okN {x qual : Str} {st : Stmt} {f : Addr} {fd : FuncData} {N ps : List Str} {k : Nat} {sp : Sp} (F : Fun K x qual st f fd) (S : FnScope N ps (defScope st)) (len : ∀ vs H Q E, sp vs H Q E → vs.length = ps.length)
    (hbody : ∀ (cdv : Value) (A : Around) (outer : List Env) (s : Shared) (H : Hp) (vs : List V) (Q : VK) (E : XK), Room k (A.deeper (envOfC qual (defScope st) s.heap.objs.size f cdv)) → sp vs H Q E →
      ∃ t, PSs (cxOf (L2N.CX P w) P w K mg base N qual (defScope st) f cdv A outer s H E) (defBody st) t ∧ t { nx := fun _ H' => Q .non H', rt := Q } (L2.start N vs) H) : FnOk P w K mg base (L2N.CX P w) (k + 1) f fd ps sp := by
  obtain ⟨oc, od, kV, doc, pm, an, cdv, ct, osl, rfl, lk, hcd⟩ := F.ex
  exact fn_of lk hcd S len fun A outer s H vs Q E hr hsp => hbody cdv A outer s H vs Q E hr hsp
theorem takes0N {X : Cx} : L2N.Takes X (fun _ _ _ _ => False) := fun _ _ x => by
  obtain ⟨_, _, _, _, _, _, _, _, _, _, _, _, _, _, _, _, z⟩ := x
  cases z
end
section
variable {X : Cx} {C : Addr} {bmB : List Value} {B newId initId : String}
/-- X(e) -/
theorem pmk_own1N {x : Str} {e : Expr} {ta : TE} {p pos : Pos} (F : ExcBaseFacts B newId initId bmB) (q : PySem.W.excIn X.K C bmB newId = true) (gC : X.mg x = some (.ref C)) (kC : PySem.W.keepIn X.K (.ref C) = true) (r : Raises X (.ref C)) (hg : Gl X x) (he : PE X e ta)
    (hs : starEach [e] X.env = (false, eval e X.env) :: starEach [] X.env := by rfl) (hdb : (x == ("__debug__" : Str)) = false := by decide) : L2N.PMk X (.Call (.Name x p) [e] [] pos) (fun σ H Q => ta σ H fun _ H1 => Q (.ref C) none H1) := by
  intro pins s σ H Q I h; refine wpAny_Call_Name_kw (ld_glob I hg gC ?_ hdb)
  refine PySem.W.callWith_K (h₀ := X.base) I.ok.mod.kin kC ?_ hs (by rfl); rw [hs]
  refine (show wpAny _ _ (spliced ((false, eval e X.env) :: backTo pos (starEach [] X.env))) _ _ s from ?_)
  refine Calls.spliced_cons (thn (he.run pins s σ H _ I h) fun u s1 ⟨v, H1, I1, r1, q1⟩ => Calls.spliced_nil ⟨I1.kIn, ?_⟩)
  refine (show wpAny _ _ (call (.ref C) [u]) _ _ _ from ?_)
  obtain ⟨bm, N, nm, qn, bs, hdct, sn, sub, ab, col, dd, k0, k1, k2, k3, k5, mN, hC, hN, hni, T⟩ := exc_obj I1.kIn q
  exact wpAny_call_exc_subT F T hC hN hni (fun h' e' hm => L2N.mk_of I1 hm r q1 (I1.hok.gone hm.new)) (by show 1 ≤ sizeLine; rw [sizeLine_eq]; omega)
end
end Rg
namespace K07
open PySem PySem.Spec PyProof.Rows L2 Rg
def top (i : Nat) : Stmt := PySem.Challenge.pw_lotsandties_k07_places_taken_and_dropped.main.body.getD i (.Pass ⟨0, 0, 0, 0⟩)
abbrev s_node_cell : Stmt := top 36
abbrev s_put_node_cell : Stmt := top 37
abbrev s_is_made : Stmt := top 38
abbrev s_make_node : Stmt := top 39
abbrev s_unmake_node : Stmt := top 40
abbrev s_place_block : Stmt := top 44
abbrev s_put_place : Stmt := top 45
abbrev s_needs_block_of_places : Stmt := top 46
abbrev s_fill_place : Stmt := top 47
abbrev s_take_place : Stmt := top 48
abbrev s_take_logged : Stmt := top 49
abbrev s_drop_block_of_places : Stmt := top 50
abbrev s_drop_place : Stmt := top 51
abbrev s_held_blocks : Stmt := top 52
abbrev s_Lfeed : Stmt := top 56
abbrev s_Lpick : Stmt := top 57
abbrev s_Linteger : Stmt := top 58
abbrev s_Lfirst : Stmt := top 59
abbrev s_Ldue : Stmt := top 60
abbrev s_Lnote : Stmt := top 61
abbrev s_Lagrees : Stmt := top 62
abbrev s_Lrefused : Stmt := top 63
abbrev s_Lunchanged : Stmt := top 64
abbrev s_Ltake_file : Stmt := top 65
abbrev s_Ltake_folder : Stmt := top 66
abbrev s_Ldrop : Stmt := top 67
abbrev s_Lstep : Stmt := top 68
abbrev s_law : Stmt := top 69
abbrev s_Plan___init__ : Stmt := inClass (top 34) 6
abbrev s_Plan_map_place : Stmt := inClass (top 34) 9
abbrev s_Plan_node_block : Stmt := inClass (top 34) 10
abbrev s_Plan_data_blocks : Stmt := inClass (top 34) 11
abbrev s_Image___init__ : Stmt := inClass (top 54) 0
abbrev s_Image_begin : Stmt := inClass (top 54) 3
abbrev s_Image_twin : Stmt := inClass (top 54) 5
abbrev s_Image_take : Stmt := inClass (top 54) 6
abbrev s_Image_give : Stmt := inClass (top 54) 7
abbrev s_Image__put_block : Stmt := inClass (top 54) 8
abbrev s_Image_free_blocks : Stmt := inClass (top 54) 9
abbrev s_Image_kind : Stmt := inClass (top 54) 10
abbrev s_Image_fresh : Stmt := inClass (top 54) 1
abbrev s_Image_of_cells : Stmt := inClass (top 54) 2
theorem sc_node_cell : FnScope ["image", "n", "field"] ["image", "n", "field"] (defScope s_node_cell) := ⟨rfl, rfl, rfl, by decide +kernel, rfl, by decide +kernel, by decide +kernel⟩
theorem sc_put_node_cell : FnScope ["image", "n", "field", "value"] ["image", "n", "field", "value"] (defScope s_put_node_cell) := ⟨rfl, rfl, rfl, by decide +kernel, rfl, by decide +kernel, by decide +kernel⟩
theorem sc_is_made : FnScope ["image", "n"] ["image", "n"] (defScope s_is_made) := ⟨rfl, rfl, rfl, by decide +kernel, rfl, by decide +kernel, by decide +kernel⟩
theorem sc_make_node : FnScope ["image", "kind", "owner", "unmade", "n"] ["image", "kind", "owner"] (defScope s_make_node) := ⟨rfl, rfl, rfl, by decide +kernel, rfl, by decide +kernel, by decide +kernel⟩
theorem sc_unmake_node : FnScope ["image", "n", "field"] ["image", "n"] (defScope s_unmake_node) := ⟨rfl, rfl, rfl, by decide +kernel, rfl, by decide +kernel, by decide +kernel⟩
theorem sc_place_block : FnScope ["image", "n", "o", "block"] ["image", "n", "o"] (defScope s_place_block) := ⟨rfl, rfl, rfl, by decide +kernel, rfl, by decide +kernel, by decide +kernel⟩
theorem sc_put_place : FnScope ["image", "n", "o", "x"] ["image", "n", "o", "x"] (defScope s_put_place) := ⟨rfl, rfl, rfl, by decide +kernel, rfl, by decide +kernel, by decide +kernel⟩
theorem sc_needs_block_of_places : FnScope ["image", "n", "o"] ["image", "n", "o"] (defScope s_needs_block_of_places) := ⟨rfl, rfl, rfl, by decide +kernel, rfl, by decide +kernel, by decide +kernel⟩
theorem sc_fill_place : FnScope ["image", "n", "o", "owner", "x"] ["image", "n", "o"] (defScope s_fill_place) := ⟨rfl, rfl, rfl, by decide +kernel, rfl, by decide +kernel, by decide +kernel⟩
theorem sc_take_place : FnScope ["image", "n", "o", "x"] ["image", "n", "o"] (defScope s_take_place) := ⟨rfl, rfl, rfl, by decide +kernel, rfl, by decide +kernel, by decide +kernel⟩
theorem sc_take_logged : FnScope ["image", "n", "o", "x"] ["image", "n", "o"] (defScope s_take_logged) := ⟨rfl, rfl, rfl, by decide +kernel, rfl, by decide +kernel, by decide +kernel⟩
theorem sc_drop_block_of_places : FnScope ["image", "n", "block"] ["image", "n"] (defScope s_drop_block_of_places) := ⟨rfl, rfl, rfl, by decide +kernel, rfl, by decide +kernel, by decide +kernel⟩
theorem sc_drop_place : FnScope ["image", "n", "o", "x"] ["image", "n", "o"] (defScope s_drop_place) := ⟨rfl, rfl, rfl, by decide +kernel, rfl, by decide +kernel, by decide +kernel⟩
theorem sc_held_blocks : FnScope ["image", "nodes", "held", "n", "blocks", "o", "x"] ["image", "nodes"] (defScope s_held_blocks) := ⟨rfl, rfl, rfl, by decide +kernel, rfl, by decide +kernel, by decide +kernel⟩
theorem sc_Lfeed : FnScope ["_law_script", "_law_feed_here", "_law_cell", "_law_rest", "_law_k"] ["_law_script"] (defScope s_Lfeed) := ⟨rfl, rfl, rfl, by decide +kernel, rfl, by decide +kernel, by decide +kernel⟩
theorem sc_Lpick : FnScope ["_law_feed_here", "_law_limit"] ["_law_feed_here", "_law_limit"] (defScope s_Lpick) := ⟨rfl, rfl, rfl, by decide +kernel, rfl, by decide +kernel, by decide +kernel⟩
theorem sc_Linteger : FnScope ["_law_actual", "_law_due_here"] ["_law_actual", "_law_due_here"] (defScope s_Linteger) := ⟨rfl, rfl, rfl, by decide +kernel, rfl, by decide +kernel, by decide +kernel⟩
theorem sc_Lfirst : FnScope ["_law_kinds", "_law_kind", "_law_wish", "_law_barred", "_law_let", "_law_x", "_law_later"] ["_law_kinds", "_law_kind", "_law_wish", "_law_barred"] (defScope s_Lfirst) := ⟨rfl, rfl, rfl, by decide +kernel, rfl, by decide +kernel, by decide +kernel⟩
theorem sc_Ldue : FnScope ["_law_book", "_law_kind", "_law_owner", "_law_wish", "_law_barred", "_law_kinds", "_law_places", "_law_tables", "_law_used", "_law_limits", "_law_owners"] ["_law_book", "_law_kind", "_law_owner", "_law_wish", "_law_barred"] (defScope s_Ldue) := ⟨rfl, rfl, rfl, by decide +kernel, rfl, by decide +kernel, by decide +kernel⟩
theorem sc_Lnote : FnScope ["_law_book", "_law_x", "_law_kind", "_law_owner", "_law_change", "_law_kinds", "_law_places", "_law_tables", "_law_used", "_law_limits", "_law_owners"] ["_law_book", "_law_x", "_law_kind", "_law_owner", "_law_change"] (defScope s_Lnote) := ⟨rfl, rfl, rfl, by decide +kernel, rfl, by decide +kernel, by decide +kernel⟩
theorem sc_Lagrees : FnScope ["_law_image", "_law_book", "_law_kinds", "_law_places", "_law_tables", "_law_used", "_law_limits", "_law_owners", "_law_x", "_law_o", "_law_y", "_law_file_due", "_law_folder_due", "_law_told"] ["_law_image", "_law_book"] (defScope s_Lagrees) := ⟨rfl, rfl, rfl, by decide +kernel, rfl, by decide +kernel, by decide +kernel⟩
theorem sc_Lrefused : FnScope ["_law_image", "_law_n", "_law_o", "_law_quota", "e"] ["_law_image", "_law_n", "_law_o", "_law_quota"] (defScope s_Lrefused) := ⟨rfl, rfl, rfl, by decide +kernel, rfl, by decide +kernel, by decide +kernel⟩
theorem sc_Lunchanged : FnScope ["_law_image", "_law_n", "_law_o", "_law_due_here", "_law_kept", "_law_row"] ["_law_image", "_law_n", "_law_o", "_law_due_here"] (defScope s_Lunchanged) := ⟨rfl, rfl, rfl, by decide +kernel, rfl, by decide +kernel, by decide +kernel⟩
theorem sc_Ltake_file : FnScope ["_law_image", "_law_book", "_law_o", "_law_wish", "_law_barred", "_law_kinds", "_law_places", "_law_tables", "_law_used", "_law_limits", "_law_owners", "_law_owner", "_law_table", "_law_due_here"] ["_law_image", "_law_book", "_law_o", "_law_wish", "_law_barred"] (defScope s_Ltake_file) := ⟨rfl, rfl, rfl, by decide +kernel, rfl, by decide +kernel, by decide +kernel⟩
theorem sc_Ltake_folder : FnScope ["_law_image", "_law_book", "_law_o", "_law_wish", "_law_kinds", "_law_places", "_law_tables", "_law_used", "_law_limits", "_law_owners", "_law_owner", "_law_due_here"] ["_law_image", "_law_book", "_law_o", "_law_wish"] (defScope s_Ltake_folder) := ⟨rfl, rfl, rfl, by decide +kernel, rfl, by decide +kernel, by decide +kernel⟩
theorem sc_Ldrop : FnScope ["_law_image", "_law_book", "_law_n", "_law_o", "_law_kinds", "_law_places", "_law_tables", "_law_used", "_law_limits", "_law_owners", "_law_at", "_law_owner"] ["_law_image", "_law_book", "_law_n", "_law_o"] (defScope s_Ldrop) := ⟨rfl, rfl, rfl, by decide +kernel, rfl, by decide +kernel, by decide +kernel⟩
theorem sc_Lstep : FnScope ["_law_image", "_law_book", "_law_feed_here", "_law_choice", "_law_o", "_law_wish", "_law_barred", "_law_k", "_law_owner", "_law_limits", "_law_row"] ["_law_image", "_law_book", "_law_feed_here"] (defScope s_Lstep) := ⟨rfl, rfl, rfl, by decide +kernel, rfl, by decide +kernel, by decide +kernel⟩
theorem sc_law : FnScope ["_law_script", "_law_feed_here", "_law_image", "_law_owners", "_law_book", "_law_x", "_law_o", "_law_k"] ["_law_script"] (defScope s_law) := ⟨rfl, rfl, rfl, by decide +kernel, rfl, by decide +kernel, by decide +kernel⟩
theorem sc_Plan___init__ : FnScope ["self", "blocks", "nodes", "slots"] ["self", "blocks", "nodes", "slots"] (defScope s_Plan___init__) := ⟨rfl, rfl, rfl, by decide +kernel, rfl, by decide +kernel, by decide +kernel⟩
theorem sc_Plan_map_place : FnScope ["self", "x"] ["self", "x"] (defScope s_Plan_map_place) := ⟨rfl, rfl, rfl, by decide +kernel, rfl, by decide +kernel, by decide +kernel⟩
theorem sc_Plan_node_block : FnScope ["self", "n"] ["self", "n"] (defScope s_Plan_node_block) := ⟨rfl, rfl, rfl, by decide +kernel, rfl, by decide +kernel, by decide +kernel⟩
theorem sc_Plan_data_blocks : FnScope ["self"] ["self"] (defScope s_Plan_data_blocks) := ⟨rfl, rfl, rfl, by decide +kernel, rfl, by decide +kernel, by decide +kernel⟩
theorem sc_Image___init__ : FnScope ["self", "plan", "_"] ["self", "plan"] (defScope s_Image___init__) := ⟨rfl, rfl, rfl, by decide +kernel, rfl, by decide +kernel, by decide +kernel⟩
theorem sc_Image_begin : FnScope ["self", "wish", "barred"] ["self", "wish", "barred"] (defScope s_Image_begin) := ⟨rfl, rfl, rfl, by decide +kernel, rfl, by decide +kernel, by decide +kernel⟩
theorem sc_Image_twin : FnScope ["self", "other", "row"] ["self"] (defScope s_Image_twin) := ⟨rfl, rfl, rfl, by decide +kernel, rfl, by decide +kernel, by decide +kernel⟩
theorem sc_Image_take : FnScope ["self", "kind", "owner", "sums", "limit", "free", "x", "wished"] ["self", "kind", "owner"] (defScope s_Image_take) := ⟨rfl, rfl, rfl, by decide +kernel, rfl, by decide +kernel, by decide +kernel⟩
theorem sc_Image_give : FnScope ["self", "x", "owner"] ["self", "x", "owner"] (defScope s_Image_give) := ⟨rfl, rfl, rfl, by decide +kernel, rfl, by decide +kernel, by decide +kernel⟩
theorem sc_Image__put_block : FnScope ["self", "x", "kind", "serial", "block", "cell"] ["self", "x", "kind", "serial"] (defScope s_Image__put_block) := ⟨rfl, rfl, rfl, by decide +kernel, rfl, by decide +kernel, by decide +kernel⟩
theorem sc_Image_free_blocks : FnScope ["self", "x"] ["self"] (defScope s_Image_free_blocks) := ⟨rfl, rfl, rfl, by decide +kernel, rfl, by decide +kernel, by decide +kernel⟩
theorem sc_Image_kind : FnScope ["self", "x", "block", "cell", "kind"] ["self", "x"] (defScope s_Image_kind) := ⟨rfl, rfl, rfl, by decide +kernel, rfl, by decide +kernel, by decide +kernel⟩
theorem sc_Image_fresh : FnScope ["plan", "image", "x", "block", "cell", "root"] ["plan"] (defScope s_Image_fresh) := ⟨rfl, rfl, rfl, by decide +kernel, rfl, by decide +kernel, by decide +kernel⟩
theorem sc_Image_of_cells : FnScope ["plan", "rows", "image", "row", "x"] ["plan", "rows"] (defScope s_Image_of_cells) := ⟨rfl, rfl, rfl, by decide +kernel, rfl, by decide +kernel, by decide +kernel⟩

structure Tx (K : PySem.W.Frag) (mg : Str → Option Value) where
  f_node_cell : Addr
  fd_node_cell : FuncData
  F_node_cell : Fun K "node_cell" "node_cell" s_node_cell f_node_cell fd_node_cell
  mg_node_cell : mg "node_cell" = some (.ref f_node_cell)
  f_put_node_cell : Addr
  fd_put_node_cell : FuncData
  F_put_node_cell : Fun K "put_node_cell" "put_node_cell" s_put_node_cell f_put_node_cell fd_put_node_cell
  mg_put_node_cell : mg "put_node_cell" = some (.ref f_put_node_cell)
  f_is_made : Addr
  fd_is_made : FuncData
  F_is_made : Fun K "is_made" "is_made" s_is_made f_is_made fd_is_made
  mg_is_made : mg "is_made" = some (.ref f_is_made)
  f_make_node : Addr
  fd_make_node : FuncData
  F_make_node : Fun K "make_node" "make_node" s_make_node f_make_node fd_make_node
  mg_make_node : mg "make_node" = some (.ref f_make_node)
  f_unmake_node : Addr
  fd_unmake_node : FuncData
  F_unmake_node : Fun K "unmake_node" "unmake_node" s_unmake_node f_unmake_node fd_unmake_node
  mg_unmake_node : mg "unmake_node" = some (.ref f_unmake_node)
  f_place_block : Addr
  fd_place_block : FuncData
  F_place_block : Fun K "place_block" "place_block" s_place_block f_place_block fd_place_block
  mg_place_block : mg "place_block" = some (.ref f_place_block)
  f_put_place : Addr
  fd_put_place : FuncData
  F_put_place : Fun K "put_place" "put_place" s_put_place f_put_place fd_put_place
  mg_put_place : mg "put_place" = some (.ref f_put_place)
  f_needs_block_of_places : Addr
  fd_needs_block_of_places : FuncData
  F_needs_block_of_places : Fun K "_needs_block_of_places" "_needs_block_of_places" s_needs_block_of_places f_needs_block_of_places fd_needs_block_of_places
  mg_needs_block_of_places : mg "_needs_block_of_places" = some (.ref f_needs_block_of_places)
  f_fill_place : Addr
  fd_fill_place : FuncData
  F_fill_place : Fun K "_fill_place" "_fill_place" s_fill_place f_fill_place fd_fill_place
  mg_fill_place : mg "_fill_place" = some (.ref f_fill_place)
  f_take_place : Addr
  fd_take_place : FuncData
  F_take_place : Fun K "take_place" "take_place" s_take_place f_take_place fd_take_place
  mg_take_place : mg "take_place" = some (.ref f_take_place)
  f_take_logged : Addr
  fd_take_logged : FuncData
  F_take_logged : Fun K "take_logged" "take_logged" s_take_logged f_take_logged fd_take_logged
  mg_take_logged : mg "take_logged" = some (.ref f_take_logged)
  f_drop_block_of_places : Addr
  fd_drop_block_of_places : FuncData
  F_drop_block_of_places : Fun K "_drop_block_of_places" "_drop_block_of_places" s_drop_block_of_places f_drop_block_of_places fd_drop_block_of_places
  mg_drop_block_of_places : mg "_drop_block_of_places" = some (.ref f_drop_block_of_places)
  f_drop_place : Addr
  fd_drop_place : FuncData
  F_drop_place : Fun K "drop_place" "drop_place" s_drop_place f_drop_place fd_drop_place
  mg_drop_place : mg "drop_place" = some (.ref f_drop_place)
  f_held_blocks : Addr
  fd_held_blocks : FuncData
  F_held_blocks : Fun K "held_blocks" "held_blocks" s_held_blocks f_held_blocks fd_held_blocks
  mg_held_blocks : mg "held_blocks" = some (.ref f_held_blocks)
  f_Lfeed : Addr
  fd_Lfeed : FuncData
  F_Lfeed : Fun K "_law_feed" "_law_feed" s_Lfeed f_Lfeed fd_Lfeed
  mg_Lfeed : mg "_law_feed" = some (.ref f_Lfeed)
  f_Lpick : Addr
  fd_Lpick : FuncData
  F_Lpick : Fun K "_law_pick" "_law_pick" s_Lpick f_Lpick fd_Lpick
  mg_Lpick : mg "_law_pick" = some (.ref f_Lpick)
  f_Linteger : Addr
  fd_Linteger : FuncData
  F_Linteger : Fun K "_law_integer" "_law_integer" s_Linteger f_Linteger fd_Linteger
  mg_Linteger : mg "_law_integer" = some (.ref f_Linteger)
  f_Lfirst : Addr
  fd_Lfirst : FuncData
  F_Lfirst : Fun K "_law_first" "_law_first" s_Lfirst f_Lfirst fd_Lfirst
  mg_Lfirst : mg "_law_first" = some (.ref f_Lfirst)
  f_Ldue : Addr
  fd_Ldue : FuncData
  F_Ldue : Fun K "_law_due" "_law_due" s_Ldue f_Ldue fd_Ldue
  mg_Ldue : mg "_law_due" = some (.ref f_Ldue)
  f_Lnote : Addr
  fd_Lnote : FuncData
  F_Lnote : Fun K "_law_note" "_law_note" s_Lnote f_Lnote fd_Lnote
  mg_Lnote : mg "_law_note" = some (.ref f_Lnote)
  f_Lagrees : Addr
  fd_Lagrees : FuncData
  F_Lagrees : Fun K "_law_agrees" "_law_agrees" s_Lagrees f_Lagrees fd_Lagrees
  mg_Lagrees : mg "_law_agrees" = some (.ref f_Lagrees)
  f_Lrefused : Addr
  fd_Lrefused : FuncData
  F_Lrefused : Fun K "_law_refused" "_law_refused" s_Lrefused f_Lrefused fd_Lrefused
  mg_Lrefused : mg "_law_refused" = some (.ref f_Lrefused)
  f_Lunchanged : Addr
  fd_Lunchanged : FuncData
  F_Lunchanged : Fun K "_law_unchanged" "_law_unchanged" s_Lunchanged f_Lunchanged fd_Lunchanged
  mg_Lunchanged : mg "_law_unchanged" = some (.ref f_Lunchanged)
  f_Ltake_file : Addr
  fd_Ltake_file : FuncData
  F_Ltake_file : Fun K "_law_take_file" "_law_take_file" s_Ltake_file f_Ltake_file fd_Ltake_file
  mg_Ltake_file : mg "_law_take_file" = some (.ref f_Ltake_file)
  f_Ltake_folder : Addr
  fd_Ltake_folder : FuncData
  F_Ltake_folder : Fun K "_law_take_folder" "_law_take_folder" s_Ltake_folder f_Ltake_folder fd_Ltake_folder
  mg_Ltake_folder : mg "_law_take_folder" = some (.ref f_Ltake_folder)
  f_Ldrop : Addr
  fd_Ldrop : FuncData
  F_Ldrop : Fun K "_law_drop" "_law_drop" s_Ldrop f_Ldrop fd_Ldrop
  mg_Ldrop : mg "_law_drop" = some (.ref f_Ldrop)
  f_Lstep : Addr
  fd_Lstep : FuncData
  F_Lstep : Fun K "_law_step" "_law_step" s_Lstep f_Lstep fd_Lstep
  mg_Lstep : mg "_law_step" = some (.ref f_Lstep)
  f_law : Addr
  fd_law : FuncData
  F_law : Fun K "law" "law" s_law f_law fd_law
  mg_law : mg "law" = some (.ref f_law)
  f_Plan___init__ : Addr
  fd_Plan___init__ : FuncData
  F_Plan___init__ : Fun K "__init__" "Plan.__init__" s_Plan___init__ f_Plan___init__ fd_Plan___init__
  f_Plan_map_place : Addr
  fd_Plan_map_place : FuncData
  F_Plan_map_place : Fun K "map_place" "Plan.map_place" s_Plan_map_place f_Plan_map_place fd_Plan_map_place
  f_Plan_node_block : Addr
  fd_Plan_node_block : FuncData
  F_Plan_node_block : Fun K "node_block" "Plan.node_block" s_Plan_node_block f_Plan_node_block fd_Plan_node_block
  f_Plan_data_blocks : Addr
  fd_Plan_data_blocks : FuncData
  F_Plan_data_blocks : Fun K "data_blocks" "Plan.data_blocks" s_Plan_data_blocks f_Plan_data_blocks fd_Plan_data_blocks
  f_Image___init__ : Addr
  fd_Image___init__ : FuncData
  F_Image___init__ : Fun K "__init__" "Image.__init__" s_Image___init__ f_Image___init__ fd_Image___init__
  f_Image_begin : Addr
  fd_Image_begin : FuncData
  F_Image_begin : Fun K "begin" "Image.begin" s_Image_begin f_Image_begin fd_Image_begin
  f_Image_twin : Addr
  fd_Image_twin : FuncData
  F_Image_twin : Fun K "twin" "Image.twin" s_Image_twin f_Image_twin fd_Image_twin
  f_Image_take : Addr
  fd_Image_take : FuncData
  F_Image_take : Fun K "take" "Image.take" s_Image_take f_Image_take fd_Image_take
  f_Image_give : Addr
  fd_Image_give : FuncData
  F_Image_give : Fun K "give" "Image.give" s_Image_give f_Image_give fd_Image_give
  f_Image__put_block : Addr
  fd_Image__put_block : FuncData
  F_Image__put_block : Fun K "_put_block" "Image._put_block" s_Image__put_block f_Image__put_block fd_Image__put_block
  f_Image_free_blocks : Addr
  fd_Image_free_blocks : FuncData
  F_Image_free_blocks : Fun K "free_blocks" "Image.free_blocks" s_Image_free_blocks f_Image_free_blocks fd_Image_free_blocks
  f_Image_kind : Addr
  fd_Image_kind : FuncData
  F_Image_kind : Fun K "kind" "Image.kind" s_Image_kind f_Image_kind fd_Image_kind
  f_Image_fresh : Addr
  fd_Image_fresh : FuncData
  F_Image_fresh : Fun K "fresh" "Image.fresh" s_Image_fresh f_Image_fresh fd_Image_fresh
  f_Image_of_cells : Addr
  fd_Image_of_cells : FuncData
  F_Image_of_cells : Fun K "of_cells" "Image.of_cells" s_Image_of_cells f_Image_of_cells fd_Image_of_cells
  C_Plan : Addr
  mg_Plan : mg "Plan" = some (.ref C_Plan)
  cl_Plan : Cls K C_Plan
  na_Plan_blocks : NoAttr K C_Plan "blocks"
  na_Plan_nodes : NoAttr K C_Plan "nodes"
  na_Plan_slots : NoAttr K C_Plan "slots"
  na_Plan_maps : NoAttr K C_Plan "maps"
  na_Plan_first_node : NoAttr K C_Plan "first_node"
  na_Plan_first_data : NoAttr K C_Plan "first_data"
  mk_Plan : Mk K C_Plan f_Plan___init__
  mc_Plan : Value
  cr_Plan : ClX.CRead K C_Plan mc_Plan
  cv_Plan_WIDTH : ∃ u, ClX.CVal K C_Plan mc_Plan "WIDTH" (.int 8) u
  cv_Plan_OWNERS : ∃ u, ClX.CVal K C_Plan mc_Plan "OWNERS" (.int 4) u
  cv_Plan_FREE : ∃ u, ClX.CVal K C_Plan mc_Plan "FREE" (.int 0) u
  cv_Plan_LOGGED : ∃ u, ClX.CVal K C_Plan mc_Plan "LOGGED" (.int 1) u
  cv_Plan_PLAIN : ∃ u, ClX.CVal K C_Plan mc_Plan "PLAIN" (.int 2) u
  con_Plan_WIDTH : ∃ u, Con K C_Plan "WIDTH" (.int 8) u
  C_Image : Addr
  mg_Image : mg "Image" = some (.ref C_Image)
  cl_Image : Cls K C_Image
  na_Image_plan : NoAttr K C_Image "plan"
  na_Image_cells : NoAttr K C_Image "cells"
  na_Image_holdings : NoAttr K C_Image "holdings"
  na_Image_stamps : NoAttr K C_Image "stamps"
  na_Image_handles : NoAttr K C_Image "handles"
  na_Image_serial : NoAttr K C_Image "serial"
  na_Image_wish : NoAttr K C_Image "wish"
  na_Image_barred : NoAttr K C_Image "barred"
  mk_Image : Mk K C_Image f_Image___init__
  mc_Image : Value
  cr_Image : ClX.CRead K C_Image mc_Image
  m_Plan_map_place : Meth K C_Plan "map_place" f_Plan_map_place
  m_Plan_node_block : Meth K C_Plan "node_block" f_Plan_node_block
  m_Plan_data_blocks : Meth K C_Plan "data_blocks" f_Plan_data_blocks
  m_Image_begin : Meth K C_Image "begin" f_Image_begin
  m_Image_twin : Meth K C_Image "twin" f_Image_twin
  m_Image_take : Meth K C_Image "take" f_Image_take
  m_Image_give : Meth K C_Image "give" f_Image_give
  m_Image__put_block : Meth K C_Image "_put_block" f_Image__put_block
  m_Image_free_blocks : Meth K C_Image "free_blocks" f_Image_free_blocks
  m_Image_kind : Meth K C_Image "kind" f_Image_kind
  sm_Image_fresh : SMet K C_Image mc_Image "fresh" f_Image_fresh
  sm_Image_of_cells : SMet K C_Image mc_Image "of_cells" f_Image_of_cells
  C_Refused : Addr
  mg_Refused : mg "Refused" = some (.ref C_Refused)
  be_Refused : PySem.W.subIn K (.ref C_Refused) (.type "BaseException") = some true
  te_Refused : PySem.W.typeIn K (.ref C_Refused) = some (.type "type")
  ie_Refused : PySem.W.isClsIn K C_Refused = true
  C_NodesFull : Addr
  mg_NodesFull : mg "NodesFull" = some (.ref C_NodesFull)
  be_NodesFull : PySem.W.subIn K (.ref C_NodesFull) (.type "BaseException") = some true
  te_NodesFull : PySem.W.typeIn K (.ref C_NodesFull) = some (.type "type")
  ie_NodesFull : PySem.W.isClsIn K C_NodesFull = true
  xe_NodesFull : PySem.W.excIn K C_NodesFull [.type "ValueError", .type "Exception", .type "BaseException", .type "object"] "ValueError.__new__" = true
  ke_NodesFull : PySem.W.keepIn K (.ref C_NodesFull) = true
  ec_NodesFull : ExcC K C_NodesFull
  C_BlocksFull : Addr
  mg_BlocksFull : mg "BlocksFull" = some (.ref C_BlocksFull)
  be_BlocksFull : PySem.W.subIn K (.ref C_BlocksFull) (.type "BaseException") = some true
  te_BlocksFull : PySem.W.typeIn K (.ref C_BlocksFull) = some (.type "type")
  ie_BlocksFull : PySem.W.isClsIn K C_BlocksFull = true
  xe_BlocksFull : PySem.W.excIn K C_BlocksFull [.type "ValueError", .type "Exception", .type "BaseException", .type "object"] "ValueError.__new__" = true
  ke_BlocksFull : PySem.W.keepIn K (.ref C_BlocksFull) = true
  ec_BlocksFull : ExcC K C_BlocksFull
  C_OverQuota : Addr
  mg_OverQuota : mg "OverQuota" = some (.ref C_OverQuota)
  be_OverQuota : PySem.W.subIn K (.ref C_OverQuota) (.type "BaseException") = some true
  te_OverQuota : PySem.W.typeIn K (.ref C_OverQuota) = some (.type "type")
  ie_OverQuota : PySem.W.isClsIn K C_OverQuota = true
  xe_OverQuota : PySem.W.excIn K C_OverQuota [.type "ValueError", .type "Exception", .type "BaseException", .type "object"] "ValueError.__new__" = true
  ke_OverQuota : PySem.W.keepIn K (.ref C_OverQuota) = true
  ec_OverQuota : ExcC K C_OverQuota
  sub_NodesFull_Refused : PySem.W.subIn K (.ref C_NodesFull) (.ref C_Refused) = some true
  sub_NodesFull_BlocksFull : PySem.W.subIn K (.ref C_NodesFull) (.ref C_BlocksFull) = some false
  sub_NodesFull_OverQuota : PySem.W.subIn K (.ref C_NodesFull) (.ref C_OverQuota) = some false
  sub_BlocksFull_Refused : PySem.W.subIn K (.ref C_BlocksFull) (.ref C_Refused) = some true
  sub_BlocksFull_BlocksFull : PySem.W.subIn K (.ref C_BlocksFull) (.ref C_BlocksFull) = some true
  sub_BlocksFull_OverQuota : PySem.W.subIn K (.ref C_BlocksFull) (.ref C_OverQuota) = some false
  sub_OverQuota_Refused : PySem.W.subIn K (.ref C_OverQuota) (.ref C_Refused) = some true
  sub_OverQuota_BlocksFull : PySem.W.subIn K (.ref C_OverQuota) (.ref C_BlocksFull) = some false
  sub_OverQuota_OverQuota : PySem.W.subIn K (.ref C_OverQuota) (.ref C_OverQuota) = some true
  c_SUMS_BLOCK : ∃ t, mg "SUMS_BLOCK" = some (.int 0 t)
  c_ROOT : ∃ t, mg "ROOT" = some (.int 1 t)
  c_KIND : ∃ t, mg "KIND" = some (.int 0 t)
  c_LINKS : ∃ t, mg "LINKS" = some (.int 1 t)
  c_OWNER : ∃ t, mg "OWNER" = some (.int 3 t)
  c_FIRST_PLACE : ∃ t, mg "FIRST_PLACE" = some (.int 4 t)
  c_PLACES : ∃ t, mg "PLACES" = some (.int 6 t)
  c_MAKING : ∃ t, mg "MAKING" = some (.int 7 t)
  c_UNMADE : ∃ t, mg "UNMADE" = some (.int 0 t)
  c_FOLDER : ∃ t, mg "FOLDER" = some (.int 2 t)
  c_LEAST_BLOCKS : ∃ t, mg "LEAST_BLOCKS" = some (.int 8 t)
  c_MOST_BLOCKS : ∃ t, mg "MOST_BLOCKS" = some (.int 64 t)
  c_LEAST_NODES : ∃ t, mg "LEAST_NODES" = some (.int 2 t)
  c_MOST_NODES : ∃ t, mg "MOST_NODES" = some (.int 16 t)
  c_MOST_SLOTS : ∃ t, mg "MOST_SLOTS" = some (.int 200 t)
  c_LEAST_DATA : ∃ t, mg "LEAST_DATA" = some (.int 2 t)
  c_FIRST_MAP : ∃ t, mg "FIRST_MAP" = some (.int 2 t)
  c_PLACE_COUNT : ∃ t, mg "PLACE_COUNT" = some (.int 10 t)
  c_NODE_PLACES : ∃ t, mg "NODE_PLACES" = some (.int 2 t)
  b_abs : mg "abs" = none
  b_any : mg "any" = none
  b_bool : mg "bool" = none
  b_dict : mg "dict" = none
  b_int : mg "int" = none
  b_isinstance : mg "isinstance" = none
  b_len : mg "len" = none
  b_list : mg "list" = none
  b_range : mg "range" = none
  b_tuple : mg "tuple" = none

section
variable {P : Program} {w : World} {K : PySem.W.Frag} {mg : Str → Option Value} {base : Heap}
theorem b_node_cell (T : Tx K mg) : Binds K T.fd_node_cell ["image", "n", "field"] [] := T.F_node_cell.binds (ps := ["image", "n", "field"]) fun _ _ _ _ _ _ us hl => match us, hl with | [_, _, _], _ => rfl
theorem b_put_node_cell (T : Tx K mg) : Binds K T.fd_put_node_cell ["image", "n", "field", "value"] [] := T.F_put_node_cell.binds (ps := ["image", "n", "field", "value"]) fun _ _ _ _ _ _ us hl => match us, hl with | [_, _, _, _], _ => rfl
theorem b_is_made (T : Tx K mg) : Binds K T.fd_is_made ["image", "n"] [] := T.F_is_made.binds (ps := ["image", "n"]) fun _ _ _ _ _ _ us hl => match us, hl with | [_, _], _ => rfl
theorem b_make_node (T : Tx K mg) : Binds K T.fd_make_node ["image", "kind", "owner"] [] := T.F_make_node.binds (ps := ["image", "kind", "owner"]) fun _ _ _ _ _ _ us hl => match us, hl with | [_, _, _], _ => rfl
theorem b_unmake_node (T : Tx K mg) : Binds K T.fd_unmake_node ["image", "n"] [] := T.F_unmake_node.binds (ps := ["image", "n"]) fun _ _ _ _ _ _ us hl => match us, hl with | [_, _], _ => rfl
theorem b_place_block (T : Tx K mg) : Binds K T.fd_place_block ["image", "n", "o"] [] := T.F_place_block.binds (ps := ["image", "n", "o"]) fun _ _ _ _ _ _ us hl => match us, hl with | [_, _, _], _ => rfl
theorem b_put_place (T : Tx K mg) : Binds K T.fd_put_place ["image", "n", "o", "x"] [] := T.F_put_place.binds (ps := ["image", "n", "o", "x"]) fun _ _ _ _ _ _ us hl => match us, hl with | [_, _, _, _], _ => rfl
theorem b_needs_block_of_places (T : Tx K mg) : Binds K T.fd_needs_block_of_places ["image", "n", "o"] [] := T.F_needs_block_of_places.binds (ps := ["image", "n", "o"]) fun _ _ _ _ _ _ us hl => match us, hl with | [_, _, _], _ => rfl
theorem b_fill_place (T : Tx K mg) : Binds K T.fd_fill_place ["image", "n", "o"] [] := T.F_fill_place.binds (ps := ["image", "n", "o"]) fun _ _ _ _ _ _ us hl => match us, hl with | [_, _, _], _ => rfl
theorem b_take_place (T : Tx K mg) : Binds K T.fd_take_place ["image", "n", "o"] [] := T.F_take_place.binds (ps := ["image", "n", "o"]) fun _ _ _ _ _ _ us hl => match us, hl with | [_, _, _], _ => rfl
theorem b_take_logged (T : Tx K mg) : Binds K T.fd_take_logged ["image", "n", "o"] [] := T.F_take_logged.binds (ps := ["image", "n", "o"]) fun _ _ _ _ _ _ us hl => match us, hl with | [_, _, _], _ => rfl
theorem b_drop_block_of_places (T : Tx K mg) : Binds K T.fd_drop_block_of_places ["image", "n"] [] := T.F_drop_block_of_places.binds (ps := ["image", "n"]) fun _ _ _ _ _ _ us hl => match us, hl with | [_, _], _ => rfl
theorem b_drop_place (T : Tx K mg) : Binds K T.fd_drop_place ["image", "n", "o"] [] := T.F_drop_place.binds (ps := ["image", "n", "o"]) fun _ _ _ _ _ _ us hl => match us, hl with | [_, _, _], _ => rfl
theorem b_Lfeed (T : Tx K mg) : Binds K T.fd_Lfeed ["_law_script"] [] := T.F_Lfeed.binds (ps := ["_law_script"]) fun _ _ _ _ _ _ us hl => match us, hl with | [_], _ => rfl
theorem b_Lpick (T : Tx K mg) : Binds K T.fd_Lpick ["_law_feed_here", "_law_limit"] [] := T.F_Lpick.binds (ps := ["_law_feed_here", "_law_limit"]) fun _ _ _ _ _ _ us hl => match us, hl with | [_, _], _ => rfl
theorem b_Linteger (T : Tx K mg) : Binds K T.fd_Linteger ["_law_actual", "_law_due_here"] [] := T.F_Linteger.binds (ps := ["_law_actual", "_law_due_here"]) fun _ _ _ _ _ _ us hl => match us, hl with | [_, _], _ => rfl
theorem b_Lfirst (T : Tx K mg) : Binds K T.fd_Lfirst ["_law_kinds", "_law_kind", "_law_wish", "_law_barred"] [] := T.F_Lfirst.binds (ps := ["_law_kinds", "_law_kind", "_law_wish", "_law_barred"]) fun _ _ _ _ _ _ us hl => match us, hl with | [_, _, _, _], _ => rfl
theorem b_Ldue (T : Tx K mg) : Binds K T.fd_Ldue ["_law_book", "_law_kind", "_law_owner", "_law_wish", "_law_barred"] [] := T.F_Ldue.binds (ps := ["_law_book", "_law_kind", "_law_owner", "_law_wish", "_law_barred"]) fun _ _ _ _ _ _ us hl => match us, hl with | [_, _, _, _, _], _ => rfl
theorem b_Lnote (T : Tx K mg) : Binds K T.fd_Lnote ["_law_book", "_law_x", "_law_kind", "_law_owner", "_law_change"] [] := T.F_Lnote.binds (ps := ["_law_book", "_law_x", "_law_kind", "_law_owner", "_law_change"]) fun _ _ _ _ _ _ us hl => match us, hl with | [_, _, _, _, _], _ => rfl
theorem b_Lagrees (T : Tx K mg) : Binds K T.fd_Lagrees ["_law_image", "_law_book"] [] := T.F_Lagrees.binds (ps := ["_law_image", "_law_book"]) fun _ _ _ _ _ _ us hl => match us, hl with | [_, _], _ => rfl
theorem b_Lrefused (T : Tx K mg) : Binds K T.fd_Lrefused ["_law_image", "_law_n", "_law_o", "_law_quota"] [] := T.F_Lrefused.binds (ps := ["_law_image", "_law_n", "_law_o", "_law_quota"]) fun _ _ _ _ _ _ us hl => match us, hl with | [_, _, _, _], _ => rfl
theorem b_Lunchanged (T : Tx K mg) : Binds K T.fd_Lunchanged ["_law_image", "_law_n", "_law_o", "_law_due_here"] [] := T.F_Lunchanged.binds (ps := ["_law_image", "_law_n", "_law_o", "_law_due_here"]) fun _ _ _ _ _ _ us hl => match us, hl with | [_, _, _, _], _ => rfl
theorem b_Ltake_file (T : Tx K mg) : Binds K T.fd_Ltake_file ["_law_image", "_law_book", "_law_o", "_law_wish", "_law_barred"] [] := T.F_Ltake_file.binds (ps := ["_law_image", "_law_book", "_law_o", "_law_wish", "_law_barred"]) fun _ _ _ _ _ _ us hl => match us, hl with | [_, _, _, _, _], _ => rfl
theorem b_Ltake_folder (T : Tx K mg) : Binds K T.fd_Ltake_folder ["_law_image", "_law_book", "_law_o", "_law_wish"] [] := T.F_Ltake_folder.binds (ps := ["_law_image", "_law_book", "_law_o", "_law_wish"]) fun _ _ _ _ _ _ us hl => match us, hl with | [_, _, _, _], _ => rfl
theorem b_Ldrop (T : Tx K mg) : Binds K T.fd_Ldrop ["_law_image", "_law_book", "_law_n", "_law_o"] [] := T.F_Ldrop.binds (ps := ["_law_image", "_law_book", "_law_n", "_law_o"]) fun _ _ _ _ _ _ us hl => match us, hl with | [_, _, _, _], _ => rfl
theorem b_Lstep (T : Tx K mg) : Binds K T.fd_Lstep ["_law_image", "_law_book", "_law_feed_here"] [] := T.F_Lstep.binds (ps := ["_law_image", "_law_book", "_law_feed_here"]) fun _ _ _ _ _ _ us hl => match us, hl with | [_, _, _], _ => rfl
theorem b_law (T : Tx K mg) : Binds K T.fd_law ["_law_script"] [] := T.F_law.binds (ps := ["_law_script"]) fun _ _ _ _ _ _ us hl => match us, hl with | [_], _ => rfl
theorem b_Plan_map_place (T : Tx K mg) : Binds K T.fd_Plan_map_place ["self", "x"] [] := T.F_Plan_map_place.binds (ps := ["self", "x"]) fun _ _ _ _ _ _ us hl => match us, hl with | [_, _], _ => rfl
theorem b_Plan_node_block (T : Tx K mg) : Binds K T.fd_Plan_node_block ["self", "n"] [] := T.F_Plan_node_block.binds (ps := ["self", "n"]) fun _ _ _ _ _ _ us hl => match us, hl with | [_, _], _ => rfl
theorem b_Plan_data_blocks (T : Tx K mg) : Binds K T.fd_Plan_data_blocks ["self"] [] := T.F_Plan_data_blocks.binds (ps := ["self"]) fun _ _ _ _ _ _ us hl => match us, hl with | [_], _ => rfl
theorem b_Image___init__ (T : Tx K mg) : Binds K T.fd_Image___init__ ["self", "plan"] [] := T.F_Image___init__.binds (ps := ["self", "plan"]) fun _ _ _ _ _ _ us hl => match us, hl with | [_, _], _ => rfl
theorem b_Image_begin (T : Tx K mg) : Binds K T.fd_Image_begin ["self", "wish", "barred"] [] := T.F_Image_begin.binds (ps := ["self", "wish", "barred"]) fun _ _ _ _ _ _ us hl => match us, hl with | [_, _, _], _ => rfl
theorem b_Image_twin (T : Tx K mg) : Binds K T.fd_Image_twin ["self"] [] := T.F_Image_twin.binds (ps := ["self"]) fun _ _ _ _ _ _ us hl => match us, hl with | [_], _ => rfl
theorem b_Image_take (T : Tx K mg) : Binds K T.fd_Image_take ["self", "kind", "owner"] [] := T.F_Image_take.binds (ps := ["self", "kind", "owner"]) fun _ _ _ _ _ _ us hl => match us, hl with | [_, _, _], _ => rfl
theorem b_Image_give (T : Tx K mg) : Binds K T.fd_Image_give ["self", "x", "owner"] [] := T.F_Image_give.binds (ps := ["self", "x", "owner"]) fun _ _ _ _ _ _ us hl => match us, hl with | [_, _, _], _ => rfl
theorem b_Image__put_block (T : Tx K mg) : Binds K T.fd_Image__put_block ["self", "x", "kind", "serial"] [] := T.F_Image__put_block.binds (ps := ["self", "x", "kind", "serial"]) fun _ _ _ _ _ _ us hl => match us, hl with | [_, _, _, _], _ => rfl
theorem b_Image_free_blocks (T : Tx K mg) : Binds K T.fd_Image_free_blocks ["self"] [] := T.F_Image_free_blocks.binds (ps := ["self"]) fun _ _ _ _ _ _ us hl => match us, hl with | [_], _ => rfl
theorem b_Image_kind (T : Tx K mg) : Binds K T.fd_Image_kind ["self", "x"] [] := T.F_Image_kind.binds (ps := ["self", "x"]) fun _ _ _ _ _ _ us hl => match us, hl with | [_, _], _ => rfl
theorem b_Image_fresh (T : Tx K mg) : Binds K T.fd_Image_fresh ["plan"] [] := T.F_Image_fresh.binds (ps := ["plan"]) fun _ _ _ _ _ _ us hl => match us, hl with | [_], _ => rfl
theorem b_Image_of_cells (T : Tx K mg) : Binds K T.fd_Image_of_cells ["plan", "rows"] [] := T.F_Image_of_cells.binds (ps := ["plan", "rows"]) fun _ _ _ _ _ _ us hl => match us, hl with | [_, _], _ => rfl
end
end K07
namespace K07
open PySem PySem.Spec PyProof.Rows L2 Rg
section
variable {P : Program} {w : World} {K : PySem.W.Frag} {mg : Str → Option Value} {base : Heap}
/-! ### _law_pick -/
def sp_Lpick : Sp := fun vs H Q _ => ∃ (p : Addr) (fs : List Int) (lim : Int), vs = [.ref p, .int lim] ∧ H p = some (.lst (fs.map V.int)) ∧ 0 < lim ∧
  ∀ (r : Int) (fs' : List Int), 0 ≤ r → r < lim → fs'.length ≤ fs.length → Q (.int r) (upd H p (.lst (fs'.map V.int)))
theorem ok_Lpick (T : Tx K mg) : FnOk P w K mg base CX0 1 T.f_Lpick T.fd_Lpick ["_law_feed_here", "_law_limit"] sp_Lpick := by
  refine T.F_Lpick.ok sc_Lpick (fun vs H Q E h => ?_) (fun cdv A outer s H vs Q E hr h => ?_)
  · obtain ⟨p, fs, lim, rfl, _⟩ := h
    rfl
  · obtain ⟨p, fs, lim, rfl, hp, hl, k⟩ := h
    refine ⟨_, (pss_cons (ps_if (pt_cmpR op_eq (pe_callB call_len_seq rfl T.b_len (by decide +kernel) (pa_cons (pv 0) pa_nil)) pe_int (nomark _))
        (pss_one (ps_ret pe_int))
        pss_nil)
      (pss_one (ps_ret (pe_op op_mod (pe_callTy call_int1 rfl T.b_int (by decide +kernel) (pa_cons (pe_bm PySem.F.plainAttrs_list PySem.F.slot_list_pop PySem.F.type_list_pop mt_popAt (pv 0) (pa_cons pe_int pa_nil)) pa_nil)) (pv 1))))), ?_⟩
    refine ⟨_, rfl, p, fs.map V.int, rfl, .inl (.inl (.inl hp)), rfl, _, rfl, ite2 (fun e => ?_) (fun e => ?_)⟩
    · have := k 0 fs (Int.le_refl _) hl (Nat.le_refl _)
      rw [upd_id hp] at this
      exact this
    · cases fs with
      | nil => exact absurd (decide_eq_true rfl) e
      | cons x r =>
        refine ⟨.ref p, rfl, .inl ⟨rfl, _, .inl (.inl hp)⟩, p, _, 0, 0, .int x, rfl, rfl, hp, by decide, by decide, ?_, rfl, .inl ⟨x, rfl, ?_⟩⟩
        · rw [List.length_map]; simp [seqIndex?]
        · refine ⟨.int lim, rfl, _, _, rfl, rfl, hl, ?_⟩
          exact k _ r (Int.emod_nonneg _ (by omega)) (Int.emod_lt_of_pos _ hl) (by simp)

/-! ### _law_integer: of two ints -/
def sp_Linteger : Sp := fun vs H Q _ => ∃ (a d : Int), vs = [.int a, .int d] ∧ Q (.bl (decide (a = d))) H
theorem ok_Linteger (T : Tx K mg) : FnOk P w K mg base CX0 1 T.f_Linteger T.fd_Linteger ["_law_actual", "_law_due_here"] sp_Linteger := by
  refine T.F_Linteger.ok sc_Linteger (fun vs H Q E h => ?_) (fun cdv A outer s H vs Q E hr h => ?_)
  · obtain ⟨_, _, rfl, _⟩ := h; rfl
  · obtain ⟨a, d, rfl, k⟩ := h
    refine ⟨_, (pss_one (ps_ret (pe_and (pe_callB call_isi rfl T.b_isinstance (by decide +kernel) (pa_cons (pv 0) (pa_cons (pe_bltn (v := .ty "int") rfl T.b_int (by decide +kernel) rfl) pa_nil)))
      (pe_and (pe_not (pe_callB call_isi rfl T.b_isinstance (by decide +kernel) (pa_cons (pv 0) (pa_cons (pe_bltn (v := .ty "bool") rfl T.b_bool (by decide +kernel) rfl) pa_nil))))
      (pe_one (pe_cmpR op_eq (pv 0) (pv 1) (nomark _))))))), ?_⟩
    refine ⟨_, rfl, _, _, _, _, true, rfl, .ty _, .base (.int _), kit_ty (by decide +kernel), _, rfl, iteT ⟨_, rfl, _, _, _, _, false, rfl, .ty _, .base (.int _), kit_ty (by decide +kernel), _, rfl, _, rfl, iteT ⟨_, rfl, _, rfl, rfl, ?_⟩⟩⟩
    have : decide (V.int a = V.int d) = decide (a = d) := by
      by_cases e : a = d
      · subst e; simp
      · rw [decide_eq_false e, decide_eq_false fun q => e (V.int.inj q)]
    rw [this]
    exact k

/-! ### _law_feed -/
def sp_Lfeed (K : PySem.W.Frag) : Sp := fun vs H Q _ => ∃ (a : Addr) (ns : List Int), vs = [.ref a] ∧ SqL K H a (ns.map V.int) ∧ ns.length ≤ 63 ∧
  ∀ (H' : Hp) (p : Addr) (fs : List Int), Same H H' → H p = none → H' p = some (.lst (fs.map V.int)) → fs.length ≤ 5000 → Q (.ref p) H'
theorem ok_Lfeed (T : Tx K mg) : FnOk P w K mg base CX0 1 T.f_Lfeed T.fd_Lfeed ["_law_script"] (sp_Lfeed K) := by
  refine T.F_Lfeed.ok sc_Lfeed (fun vs H Q E h => ?_) (fun cdv A outer s H vs Q E hr h => ?_)
  · obtain ⟨_, _, rfl, _⟩ := h; rfl
  · obtain ⟨a, ns, rfl, hS, hlen, k⟩ := h
    refine ⟨_, (pss_cons (ps_set (i := 1) sc_Lfeed.nd rfl (.inl rfl) (pe_lst pa_nil))
      (pss_cons (ps_for PassesOwn.never rfl (pi_list (pv 0)) (pg_name (i := 2) sc_Lfeed.nd rfl (.inl rfl))
        (pss_cons (ps_set (i := 3) sc_Lfeed.nd rfl (.inl rfl) (pe_callB call_abs rfl T.b_abs (by decide +kernel) (pa_cons (pv 2) pa_nil)))
        (Evl.pss_cut (ps_if (pt_cmpR op_lt (pv 3) (pe_op op_pow pe_int pe_int) (nomark _))
          (pss_cons (ps_set (i := 3) sc_Lfeed.nd rfl (.inl rfl) (pe_op op_mod (pe_callTy call_int1 rfl T.b_int (by decide +kernel) (pa_cons (pe_op op_add (pe_op op_mul (pv 3) pe_int) pe_int) pa_nil)) pe_int))
          (pss_cons (ps_expr (pe_bm PySem.F.plainAttrs_list PySem.F.slot_list_append PySem.F.type_list_append mt_append (pv 1) (pa_cons (pe_op op_mod (pe_callTy call_int1 rfl T.b_int (by decide +kernel) (pa_cons (pe_op op_add (pe_op op_mul (pv 3) pe_int) pe_int) pa_nil)) pe_int) pa_nil)))
          (pss_one (ps_set (i := 3) sc_Lfeed.nd rfl (.inl rfl) pe_int))))
          pss_nil)
        (pss_one (ps_for PassesOwn.never rfl (pi_range1 rfl T.b_range (pa_cons pe_int pa_nil)) (pg_name (i := 4) sc_Lfeed.nd rfl (.inl rfl))
          (pss_one (ps_if (pt_cmpR op_gt (pv 3) pe_int (nomark _))
            (pss_cons (ps_expr (pe_bm PySem.F.plainAttrs_list PySem.F.slot_list_append PySem.F.type_list_append mt_append (pv 1) (pa_cons (pe_op op_mod (pe_callTy call_int1 rfl T.b_int (by decide +kernel) (pa_cons (pv 3) pa_nil)) pe_int) pa_nil)))
            (pss_one (ps_set (i := 3) sc_Lfeed.nd rfl (.inl rfl) (pe_op op_fdiv (pv 3) pe_int))))
            pss_nil)))))))
      (pss_one (ps_ret (pv 1))))), ?_⟩
    refine ⟨Nat.zero_le _, fun p np => ?_⟩
    have s0 : Same H (upd H p (.lst [])) := same_upd np
    have npa : ∀ H2, SqL K H2 a (ns.map V.int) → True := fun _ _ => trivial
    refine ⟨_, rfl, a, rfl, ⟨_, s0.seq hS⟩, for_list (K := K) (a := a) (xs := ns.map V.int) (fun i σ H2 => ∃ (fs : List Int) (v2 v3 v4 : Option V), σ = [some (.ref a), some (.ref p), v2, v3, v4] ∧ H2 = upd H p (.lst (fs.map V.int)) ∧ fs.length ≤ 61 * i)
      ⟨[], none, none, none, rfl, rfl, Nat.zero_le _⟩ (fun i σ H2 _ ⟨_, _, _, _, _, e, _⟩ => by rw [e]; exact (same_upd np).seq hS) ?_ ?_⟩
    · rintro i y σ H2 hi ⟨fs, v2, v3, v4, rfl, rfl, hl⟩
      have hil : i < 63 := by
        have := (List.getElem?_eq_some_iff.mp hi).1
        rw [List.length_map] at this
        omega
      obtain ⟨z, rfl⟩ : ∃ z, y = V.int z := by
        rw [List.getElem?_map] at hi
        cases e : ns[i]? with
        | none => rw [e] at hi; cases hi
        | some z => rw [e] at hi; exact ⟨z, (Option.some.inj hi).symm⟩
      refine ⟨_, rfl, z, rfl, ?_⟩
      refine ⟨fun σ' H' => ∃ (fs : List Int) (R : Int) (v4 : Option V), σ' = [some (.ref a), some (.ref p), some (.int z), some (.int R), v4] ∧ H' = upd H p (.lst (fs.map V.int)) ∧ 0 ≤ R ∧ fs.length ≤ 61 * i + 1, ?_, ?_⟩
      · have hz : 0 ≤ (if z < 0 then -z else z) := by split <;> omega
        refine ⟨_, rfl, _, _, rfl, rfl, ⟨by decide, by decide, by decide⟩, _, _, rfl, rfl, _, rfl, ite2 (fun e => ?_) (fun e => ?_)⟩
        · have e1 : (if z < 0 then -z else z) < 10 ^ 18 := of_decide_eq_true e
          refine ⟨_, rfl, _, _, rfl, rfl, .inl ⟨by omega, by omega⟩, _, _, rfl, rfl, .inl ⟨_, rfl, _, _, rfl, rfl, (by show (0 : Int) < _; decide), ?_⟩⟩
          refine ⟨.ref p, rfl, .inl ⟨rfl, _, .inl (.inl upd_same)⟩, _, rfl, _, _, rfl, rfl, .inr ⟨by decide, by decide⟩, _, _, rfl, rfl, .inl ⟨_, rfl, _, _, rfl, rfl, (by show (0 : Int) < _; decide), p, _, _, rfl, rfl, upd_same, ?_, ?_⟩⟩
          · rw [List.length_map]; exact Nat.lt_of_lt_of_le (Nat.lt_succ_of_le hl) (by unfold sizeLine; omega)
          · exact ⟨fs ++ [_], 0, v4, rfl, upd_app, Int.le_refl _, by rw [List.length_append]; simp; omega⟩
        · exact ⟨fs, _, v4, rfl, rfl, hz, by omega⟩
      · rintro σ' H' ⟨fs, R, v4, rfl, rfl, hR, hl⟩
        refine ⟨60, rfl, by decide, by decide, for_range (lo := 0) (n := 60) (fun j σ' H' => ∃ (fs : List Int) (R : Int) (v4 : Option V), σ' = [some (.ref a), some (.ref p), some (.int z), some (.int R), v4] ∧ H' = upd H p (.lst (fs.map V.int)) ∧ 0 ≤ R ∧ fs.length ≤ 61 * i + 1 + j)
          ⟨fs, R, v4, rfl, rfl, hR, hl⟩ ?_ ?_⟩
        · rintro j σ' H' hj ⟨fs, R, v4, rfl, rfl, hR, hl⟩
          refine ⟨_, rfl, _, _, rfl, rfl, _, rfl, ite2 (fun e => ?_) (fun e => ?_)⟩
          · refine ⟨.ref p, rfl, .inl ⟨rfl, _, .inl (.inl upd_same)⟩, _, rfl, .inl ⟨_, rfl, _, _, rfl, rfl, (by show (0 : Int) < _; decide), p, _, _, rfl, rfl, upd_same, ?_, ?_⟩⟩
            · rw [List.length_map]; exact Nat.lt_of_lt_of_le (Nat.lt_succ_of_le hl) (by unfold sizeLine; omega)
            · refine ⟨_, rfl, _, _, rfl, rfl, ⟨by decide, by decide⟩, fs ++ [_], _, _, rfl, upd_app, Int.ediv_nonneg hR (by decide), by rw [List.length_append]; simp; omega⟩
          · exact ⟨fs, R, _, rfl, rfl, hR, by omega⟩
        · rintro σ' H' ⟨fs, R, v4, rfl, rfl, hR, hl⟩
          exact ⟨fs, _, _, _, rfl, rfl, by omega⟩
    · rintro σ H2 ⟨fs, v2, v3, v4, rfl, rfl, hl⟩
      rw [List.length_map] at hl
      exact ⟨_, rfl, k _ p fs (same_upd np) np upd_same (by omega)⟩
end
end K07
namespace K07
open PySem PySem.Spec PyProof.Rows L2 Rg
section
variable {P : Program} {w : World} {K : PySem.W.Frag} {mg : Str → Option Value} {base : Heap}
/-! ### plans -/
def planF (b n s : Int) : List (Str × V) := [("blocks", .int b), ("nodes", .int n), ("slots", .int s), ("maps", .int ((b + 8 - 1) / 8)), ("first_node", .int (2 + (b + 8 - 1) / 8)), ("first_data", .int (2 + (b + 8 - 1) / 8 + n))]
structure PlanAt (C : Addr) (H : Hp) (p : Addr) (b n s : Int) : Prop where
  ob : ∃ dx, H p = some (.ins C dx (planF b n s))
  b1 : 8 ≤ b
  b2 : b ≤ 64
  n1 : 2 ≤ n
  n2 : n ≤ 16
  s1 : b < s
  s2 : s ≤ 200
  d : 2 ≤ b - (2 + (b + 8 - 1) / 8 + n)
theorem PlanAt.same {C : Addr} {H H' : Hp} {p : Addr} {b n s : Int} (e : Same H H') (h : PlanAt C H p b n s) : PlanAt C H' p b n s :=
  let ⟨dx, z⟩ := h.ob
  ⟨⟨dx, e _ _ z⟩, h.b1, h.b2, h.n1, h.n2, h.s1, h.s2, h.d⟩
theorem PlanAt.of {C : Addr} {H H' : Hp} {p : Addr} {b n s : Int} (h : PlanAt C H p b n s) (e : ∀ o, H p = some o → H' p = some o) : PlanAt C H' p b n s :=
  let ⟨dx, z⟩ := h.ob
  ⟨⟨dx, e _ z⟩, h.b1, h.b2, h.n1, h.n2, h.s1, h.s2, h.d⟩
def sp_Plan_init (C : Addr) : Sp := fun vs H Q _ => ∃ (p dx : Addr) (b n s : Int), vs = [.ref p, .int b, .int n, .int s] ∧ H p = some (.ins C dx []) ∧ 8 ≤ b ∧ b ≤ 64 ∧ 2 ≤ n ∧ n ≤ 16 ∧ b < s ∧ s ≤ 200 ∧ 2 ≤ b - (2 + (b + 8 - 1) / 8 + n) ∧
  Q .non (upd H p (.ins C dx (planF b n s)))
theorem ok_Plan_init (T : Tx K mg) : FnOk P w K mg base CX0 1 T.f_Plan___init__ T.fd_Plan___init__ ["self", "blocks", "nodes", "slots"] (sp_Plan_init T.C_Plan) := by
  refine T.F_Plan___init__.ok sc_Plan___init__ (fun vs H Q E h => ?_) (fun cdv A outer s H vs Q E hr h => ?_)
  · obtain ⟨_, _, _, _, _, rfl, _⟩ := h; rfl
  · obtain ⟨p, dx, b, n, sl, rfl, hp, h1, h2, h3, h4, h5, h6, h7, k⟩ := h
    refine ⟨_, (pss_cons (ps_if (pt_not (pt_chain op_le op_le (pe_gc T.c_LEAST_BLOCKS) (pv 1) (pe_gc T.c_MOST_BLOCKS)))
        (pss_one ps_never)
        pss_nil)
      (pss_cons (ps_if (pt_not (pt_chain op_le op_le (pe_gc T.c_LEAST_NODES) (pv 2) (pe_gc T.c_MOST_NODES)))
        (pss_one ps_never)
        pss_nil)
      (pss_cons (ps_if (pt_not (pt_chain op_lt op_le (pv 1) (pv 3) (pe_gc T.c_MOST_SLOTS)))
        (pss_one ps_never)
        pss_nil)
      (pss_cons (ps_fld (pv 0) (pv 1) rfl)
      (pss_cons (ps_fld (pv 0) (pv 2) rfl)
      (pss_cons (ps_fld (pv 0) (pv 3) rfl)
      (pss_cons (ps_fld (pv 0) (pe_op op_fdiv (pe_op op_sub (pe_op op_add (pv 1) (pe_con (pv 0) rfl)) pe_int) (pe_con (pv 0) rfl)) rfl)
      (pss_cons (ps_fld (pv 0) (pe_op op_add (pe_gc T.c_FIRST_MAP) (pe_fld (pv 0) rfl)) rfl)
      (pss_cons (ps_fld (pv 0) (pe_op op_add (pe_fld (pv 0) rfl) (pv 2)) rfl)
      (pss_one (ps_if (pt_cmpR op_lt (pe_op op_sub (pv 1) (pe_fld (pv 0) rfl)) (pe_gc T.c_LEAST_DATA) (nomark _))
        (pss_one ps_never)
        pss_nil))))))))))), ?_⟩
    obtain ⟨uW, cW⟩ := T.con_Plan_WIDTH
    refine ⟨_, rfl, _, _, rfl, rfl, _, rfl, ?_⟩
    rw [decide_eq_true h1]
    refine iteT ⟨_, _, rfl, rfl, _, rfl, ?_⟩
    rw [decide_eq_true h2]
    refine iteF ⟨_, rfl, _, _, rfl, rfl, _, rfl, ?_⟩
    rw [decide_eq_true h3]
    refine iteT ⟨_, _, rfl, rfl, _, rfl, ?_⟩
    rw [decide_eq_true h4]
    refine iteF ⟨_, rfl, _, rfl, _, _, rfl, rfl, _, rfl, ?_⟩
    rw [decide_eq_true h5]
    refine iteT ⟨_, _, rfl, rfl, _, rfl, ?_⟩
    rw [decide_eq_true h6]
    refine iteF ⟨_, rfl, _, rfl, p, _, dx, _, rfl, hp, T.cl_Plan, T.na_Plan_blocks, (by show 0 < 1000; decide), ?_⟩
    refine ⟨_, rfl, _, rfl, p, _, dx, _, rfl, upd_same, T.cl_Plan, T.na_Plan_nodes, (by show 1 < 1000; decide), ?_⟩
    refine ⟨_, rfl, _, rfl, p, _, dx, _, rfl, upd_same, T.cl_Plan, T.na_Plan_slots, (by show 2 < 1000; decide), ?_⟩
    refine ⟨_, rfl, _, rfl, p, _, dx, _, _, _, rfl, upd_same, T.cl_Plan, cW, rfl, _, _, rfl, rfl, _, _, rfl, rfl, _, rfl, p, _, dx, _, _, _, rfl, upd_same, T.cl_Plan, cW, rfl, _, _, rfl, rfl, ⟨by decide, by decide⟩, ?_⟩
    refine ⟨_, rfl, p, _, dx, _, rfl, upd_same, T.cl_Plan, T.na_Plan_maps, (by show 3 < 1000; decide), ?_⟩
    refine ⟨_, rfl, p, _, dx, _, _, rfl, upd_same, T.cl_Plan, T.na_Plan_maps, rfl, _, _, rfl, rfl, _, rfl, p, _, dx, _, rfl, upd_same, T.cl_Plan, T.na_Plan_first_node, (by show 4 < 1000; decide), ?_⟩
    refine ⟨_, rfl, p, _, dx, _, _, rfl, upd_same, T.cl_Plan, T.na_Plan_first_node, rfl, _, rfl, _, _, rfl, rfl, _, rfl, p, _, dx, _, rfl, upd_same, T.cl_Plan, T.na_Plan_first_data, (by show 5 < 1000; decide), ?_⟩
    refine ⟨_, rfl, _, rfl, p, _, dx, _, _, rfl, upd_same, T.cl_Plan, T.na_Plan_first_data, rfl, _, _, rfl, rfl, _, _, rfl, rfl, _, rfl, ?_⟩
    rw [decide_eq_false (by omega)]
    refine iteF ?_
    rw [upd_upd, upd_upd, upd_upd, upd_upd, upd_upd]
    exact k
/-- the call Plan(b, nodes=n, slots=s) -/
theorem kb_Plan (T : Tx K mg) : KBn K T.fd_Plan___init__ ["self", "blocks", "nodes", "slots"] 2 ["nodes", "slots"] (fun us ws => us ++ ws) (fun us ws => us ++ ws) := by
  obtain ⟨oc, od, kV, doc, pm, an, cdv, ct, osl, e, lk, hcd⟩ := T.F_Plan___init__.ex
  refine ⟨fun s us ws _ l1 l2 => ?_, fun r1 r2 => r1.append r2⟩
  rw [e]
  match us, ws, l1, l2 with
  | [_, _], [_, _], _, _ => exact .of_eq rfl
def sp_map_place (C : Addr) : Sp := fun vs H Q _ => ∃ (p : Addr) (b n s x : Int), vs = [.ref p, .int x] ∧ PlanAt C H p b n s ∧ ∀ t, H t = none → Q (.ref t) (upd H t (.tup [.int (2 + x / 8), .int (x % 8)]))
theorem ok_Plan_map_place (T : Tx K mg) : FnOk P w K mg base CX0 1 T.f_Plan_map_place T.fd_Plan_map_place ["self", "x"] (sp_map_place T.C_Plan) := by
  refine T.F_Plan_map_place.ok sc_Plan_map_place (fun vs H Q E h => ?_) (fun cdv A outer s H vs Q E hr h => ?_)
  · obtain ⟨_, _, _, _, _, rfl, _⟩ := h; rfl
  · obtain ⟨p, b, n, sl, x, rfl, hP, k⟩ := h
    obtain ⟨dx, hp⟩ := hP.ob
    obtain ⟨uW, cW⟩ := T.con_Plan_WIDTH
    refine ⟨_, (pss_one (ps_ret (pe_tup (pa_cons (pe_op op_add (pe_gc T.c_FIRST_MAP) (pe_op op_fdiv (pv 1) (pe_con (pv 0) rfl))) (pa_cons (pe_op op_mod (pv 1) (pe_con (pv 0) rfl)) pa_nil))))), ?_⟩
    refine ⟨_, rfl, _, rfl, p, _, dx, _, _, _, rfl, hp, T.cl_Plan, cW, rfl, _, _, rfl, rfl, ⟨by decide, by decide⟩, _, _, rfl, rfl, _, rfl, _, rfl, p, _, dx, _, _, _, rfl, hp, T.cl_Plan, cW, rfl, _, _, rfl, rfl, (by show (0 : Int) < _; decide), (by show 2 ≤ sizeLine; decide), k⟩
def sp_node_block (C : Addr) : Sp := fun vs H Q _ => ∃ (p : Addr) (b n s x : Int), vs = [.ref p, .int x] ∧ PlanAt C H p b n s ∧ Q (.int (2 + (b + 8 - 1) / 8 + x - 1)) H
theorem ok_Plan_node_block (T : Tx K mg) : FnOk P w K mg base CX0 1 T.f_Plan_node_block T.fd_Plan_node_block ["self", "n"] (sp_node_block T.C_Plan) := by
  refine T.F_Plan_node_block.ok sc_Plan_node_block (fun vs H Q E h => ?_) (fun cdv A outer s H vs Q E hr h => ?_)
  · obtain ⟨_, _, _, _, _, rfl, _⟩ := h; rfl
  · obtain ⟨p, b, n, sl, x, rfl, hP, k⟩ := h
    obtain ⟨dx, hp⟩ := hP.ob
    refine ⟨_, (pss_one (ps_ret (pe_op op_sub (pe_op op_add (pe_fld (pv 0) rfl) (pv 1)) pe_int))), ?_⟩
    exact ⟨_, rfl, p, _, dx, _, _, rfl, hp, T.cl_Plan, T.na_Plan_first_node, rfl, _, rfl, _, _, rfl, rfl, _, _, rfl, rfl, k⟩
end
end K07
namespace K07
open PySem PySem.Spec PyProof.Rows L2 Rg
/-! ### a list of lists of ints -/
structure Grid (H : Hp) (ca : Addr) (rs : List Addr) (M : List (List Int)) : Prop where
  out : H ca = some (.lst (rs.map V.ref))
  len : rs.length = M.length
  row : ∀ (i : Nat) (r : Addr) (m : List Int), rs[i]? = some r → M[i]? = some m → H r = some (.lst (m.map V.int))
  nd : rs.Nodup
  nin : ca ∉ rs
theorem Grid.held {H : Hp} {ca : Addr} {rs : List Addr} {M : List (List Int)} (G : Grid H ca rs M) {r : Addr} (h : r ∈ rs) : ∃ o, H r = some o := by
  obtain ⟨i, hi, e⟩ := List.getElem_of_mem h
  have hm : i < M.length := by rw [← G.len]; exact hi
  exact ⟨_, G.row i r M[i] (by rw [List.getElem?_eq_getElem hi, e]) (List.getElem?_eq_getElem hm)⟩
theorem Grid.same {H H' : Hp} {ca : Addr} {rs : List Addr} {M : List (List Int)} (G : Grid H ca rs M) (s : Same H H') : Grid H' ca rs M :=
  ⟨s _ _ G.out, G.len, fun i r m a b => s _ _ (G.row i r m a b), G.nd, G.nin⟩
/-- kept where it stands -/
theorem Grid.keep {H H' : Hp} {ca : Addr} {rs : List Addr} {M : List (List Int)} (G : Grid H ca rs M) (h : ∀ b o, b = ca ∨ b ∈ rs → H b = some o → H' b = some o) : Grid H' ca rs M :=
  ⟨h _ _ (.inl rfl) G.out, G.len, fun i r m a b => h _ _ (.inr (List.mem_of_getElem? a)) (G.row i r m a b), G.nd, G.nin⟩
theorem Grid.get {H : Hp} {ca : Addr} {rs : List Addr} {M : List (List Int)} (G : Grid H ca rs M) {i : Nat} {m : List Int} (h : M[i]? = some m) : ∃ r, rs[i]? = some r ∧ H r = some (.lst (m.map V.int)) ∧ r ≠ ca := by
  have hi : i < rs.length := by rw [G.len]; exact (List.getElem?_eq_some_iff.mp h).1
  refine ⟨rs[i], List.getElem?_eq_getElem hi, G.row i _ m (List.getElem?_eq_getElem hi) h, fun e => G.nin ?_⟩
  rw [← e]
  exact List.getElem_mem hi
/-- one row stored anew -/
theorem Grid.put {H : Hp} {ca : Addr} {rs : List Addr} {M : List (List Int)} (G : Grid H ca rs M) {i : Nat} {r : Addr} {m : List Int} (hr : rs[i]? = some r) : Grid (upd H r (.lst (m.map V.int))) ca rs (M.set i m) := by
  have hi : i < rs.length := (List.getElem?_eq_some_iff.mp hr).1
  have hir : rs[i] = r := (List.getElem?_eq_some_iff.mp hr).2
  have rin : r ∈ rs := List.mem_of_getElem? hr
  refine ⟨?_, by rw [List.length_set]; exact G.len, fun j q m' hj hm => ?_, G.nd, G.nin⟩
  · rw [upd_ne (fun e => G.nin (by rw [e]; exact rin))]
    exact G.out
  · by_cases e : i = j
    · subst e
      rw [hr] at hj
      cases hj
      rw [List.getElem?_set_self (by rw [← G.len]; exact hi)] at hm
      cases hm
      exact upd_same
    · rw [List.getElem?_set_ne e] at hm
      have hq : q ≠ r := fun z => by
        subst z
        have hjl : j < rs.length := (List.getElem?_eq_some_iff.mp hj).1
        have := (List.getElem?_eq_some_iff.mp hj).2
        exact e ((List.getElem_inj G.nd).mp (hir.trans this.symm))
      rw [upd_ne hq]
      exact G.row j q m' hj hm
theorem map_set {α β : Type} (f : α → β) (l : List α) (i : Nat) (x : α) : (l.map f).set i (f x) = (l.set i x).map f := by
  rw [List.map_set]
/-- a grid that is new -/
structure NewGrid (H0 H : Hp) (D : Addr) (qs : List Addr) (M : List (List Int)) : Prop where
  grid : Grid H D qs M
  fresh : ∀ q ∈ qs, H0 q = none
  freshD : H0 D = none
  same : Same H0 H
theorem NewGrid.start {H0 H : Hp} {D : Addr} (s : Same H0 H) (hD : H0 D = none) (hn : H D = none) : NewGrid H0 (upd H D (.lst [])) D [] [] :=
  ⟨⟨by rw [upd_same]; rfl, rfl, fun i r m a _ => by simp at a, List.nodup_nil, by simp⟩, fun q h => (by cases h), hD, s.trans (same_upd hn)⟩
theorem NewGrid.snoc {H0 H H1 : Hp} {D : Addr} {qs : List Addr} {M : List (List Int)} {p : Addr} {m : List Int} (G : NewGrid H0 H D qs M) (s : Same H H1) (hp : H p = none) (h1 : H1 p = some (.lst (m.map V.int))) :
    NewGrid H0 (upd H1 D (.lst (qs.map V.ref ++ [V.ref p]))) D (qs ++ [p]) (M ++ [m]) := by
  have pD : p ≠ D := fun e => by
    rw [e, G.grid.out] at hp
    cases hp
  have pq : p ∉ qs := fun h => by
    obtain ⟨o, z⟩ := G.grid.held h
    rw [hp] at z
    cases z
  refine ⟨⟨by rw [upd_same, List.map_append]; rfl, by simp [G.grid.len], fun i r m' hi hm => ?_, ?_, ?_⟩, ?_, G.freshD, ?_⟩
  · by_cases e : i < qs.length
    · rw [List.getElem?_append_left e] at hi
      rw [List.getElem?_append_left (by rw [← G.grid.len]; exact e)] at hm
      have hr : r ∈ qs := List.mem_of_getElem? hi
      rw [upd_ne (fun z => G.grid.nin (by rw [← z]; exact hr))]
      exact s _ _ (G.grid.row i r m' hi hm)
    · have hi2 : i = qs.length := by
        have := (List.getElem?_eq_some_iff.mp hi).1
        simp at this
        omega
      subst hi2
      rw [List.getElem?_append_right (Nat.le_refl _)] at hi
      rw [G.grid.len, List.getElem?_append_right (Nat.le_refl _)] at hm
      simp at hi hm
      subst hi hm
      rw [upd_ne pD]
      exact h1
  · exact List.nodup_append.mpr ⟨G.grid.nd, by simp, fun a ha b hb => by simp at hb; subst hb; exact fun e => pq (e ▸ ha)⟩
  · simp
    exact ⟨G.grid.nin, fun e => pD e.symm⟩
  · intro q hq
    rcases List.mem_append.mp hq with h | h
    · exact G.fresh q h
    · simp at h
      subst h
      exact G.same.free hp
  · intro b o e
    rw [upd_ne (ne_of_none e G.freshD)]
    exact s _ _ (G.same _ _ e)
theorem NewGrid.nin0 {H0 H : Hp} {D : Addr} {qs : List Addr} {M : List (List Int)} (G : NewGrid H0 H D qs M) {b : Addr} {o : HO} (h : H0 b = some o) : b ≠ D ∧ b ∉ qs :=
  ⟨ne_of_none h G.freshD, fun z => by rw [G.fresh b z] at h; cases h⟩
end K07
namespace K07
open PySem PySem.Spec PyProof.Rows L2 Rg
/-! ### images -/
structure IA where
  (dx pl ca : Addr) (rs : List Addr) (ho st hd ba : Addr)
structure IV where
  (M : List (List Int)) (ho st : List Int) (hd : List (Int × Int)) (se wi : Int) (ba : List Int)
def imgF (A : IA) (v : IV) : List (Str × V) := [("plan", .ref A.pl), ("cells", .ref A.ca), ("holdings", .ref A.ho), ("stamps", .ref A.st), ("handles", .ref A.hd), ("serial", .int v.se), ("wish", .int v.wi), ("barred", .ref A.ba)]
def hdK (h : List (Int × Int)) : List (Key × V) := h.map fun p => (Sum.inl p.1, V.int p.2)
structure ImgAt (CI CP : Addr) (H : Hp) (im : Addr) (A : IA) (v : IV) (b n s : Int) : Prop where
  ob : H im = some (.ins CI A.dx (imgF A v))
  pl : PlanAt CP H A.pl b n s
  gr : Grid H A.ca A.rs v.M
  ho : H A.ho = some (.lst (v.ho.map V.int))
  st : H A.st = some (.lst (v.st.map V.int))
  hd : H A.hd = some (.dK (hdK v.hd))
  ba : H A.ba = some (.tup (v.ba.map V.int))
  n1 : A.ho ∉ A.rs
  n2 : A.st ∉ A.rs
  n3 : A.ho ≠ A.st
  n4 : A.ca ≠ A.ho
  n5 : A.ca ≠ A.st
  d0 : (v.M.length : Int) = b
  d1 : ∀ m ∈ v.M, m.length = 8
  d2 : (v.ho.length : Int) = b
  d3 : (v.st.length : Int) = b
/-- where an image may be changed -/
def IA.foot (A : IA) (im : Addr) : List Addr := im :: A.ca :: A.ho :: A.st :: A.hd :: A.rs
/-- its parts are new -/
structure IA.New (A : IA) (H0 : Hp) : Prop where
  ca : H0 A.ca = none
  rs : ∀ q ∈ A.rs, H0 q = none
  ho : H0 A.ho = none
  st : H0 A.st = none
  hd : H0 A.hd = none
theorem ImgAt.keep {CI CP : Addr} {H H' : Hp} {im : Addr} {A : IA} {v : IV} {b n s : Int} (I : ImgAt CI CP H im A v b n s) (h : ∀ x o, H x = some o → H' x = some o) : ImgAt CI CP H' im A v b n s :=
  { I with ob := h _ _ I.ob, pl := I.pl.same h, gr := I.gr.same h, ho := h _ _ I.ho, st := h _ _ I.st, hd := h _ _ I.hd, ba := h _ _ I.ba }
theorem rep_flat {α : Type} (n : Nat) (x : α) : (List.replicate n [x]).flatten = List.replicate n x := by
  induction n with
  | zero => rfl
  | succ n ih => rw [List.replicate_succ, List.flatten_cons, ih, List.replicate_succ]; rfl
theorem rep_map (n : Nat) (x : Int) : (List.replicate n (V.int x)) = (List.replicate n x).map V.int := by rw [List.map_replicate]
def zeroV (b : Int) : IV := ⟨List.replicate b.toNat (List.replicate 8 0), List.replicate b.toNat 0, List.replicate b.toNat 0, [], 0, 0, []⟩
section
variable {P : Program} {w : World} {K : PySem.W.Frag} {mg : Str → Option Value} {base : Heap}
def sp_Image_init (CI CP : Addr) : Sp := fun vs H Q _ => ∃ (p dx pl : Addr) (b n s : Int), vs = [.ref p, .ref pl] ∧ H p = some (.ins CI dx []) ∧ PlanAt CP H pl b n s ∧
  ∀ (H' : Hp) (A : IA), (∀ x o, H x = some o → x ≠ p → H' x = some o) → ImgAt CI CP H' p A (zeroV b) b n s → A.New H → A.pl = pl → Q .non H'
theorem ok_Image_init (T : Tx K mg) : FnOk P w K mg base CX0 1 T.f_Image___init__ T.fd_Image___init__ ["self", "plan"] (sp_Image_init T.C_Image T.C_Plan) := by
  refine T.F_Image___init__.ok sc_Image___init__ (fun vs H Q E h => ?_) (fun cdv A outer s H vs Q E hr h => ?_)
  · obtain ⟨_, _, _, _, _, _, rfl, _⟩ := h; rfl
  · obtain ⟨p, dx, pl, b, n, sl, rfl, hp, hP, k⟩ := h
    refine ⟨_, (pss_cons (ps_fld (pv 0) (pv 1) rfl)
      (pss_cons (ps_fld (pv 0) (pe_lc rfl (own := [("_", 2)]) (g := gName 2) (tt := tYes) sc_Image___init__.nd (pi_range1 rfl T.b_range (pa_cons (pe_fld (pv 1) rfl) pa_nil)) (blkOk_by (N := ["self", "plan", "_"]) (sc := defScope s_Image___init__) (by decide +kernel)) (fun _ _ _ _ _ => pg_name (i := 2) sc_Image___init__.nd rfl (Or.inl rfl)) (fun _ _ _ _ _ => pts_nil) (fun _ _ _ _ _ => (pe_op op_rep (pe_lst (pa_cons pe_int pa_nil)) (pe_cv T.mg_Plan T.cr_Plan T.cv_Plan_WIDTH)))) rfl)
      (pss_cons (ps_fld (pv 0) (pe_op op_rep (pe_lst (pa_cons pe_int pa_nil)) (pe_fld (pv 1) rfl)) rfl)
      (pss_cons (ps_fld (pv 0) (pe_op op_rep (pe_lst (pa_cons pe_int pa_nil)) (pe_fld (pv 1) rfl)) rfl)
      (pss_cons (ps_fld (pv 0) pe_dnewK rfl)
      (pss_cons (ps_fld (pv 0) pe_int rfl)
      (pss_cons (ps_fld (pv 0) pe_int rfl)
      (pss_one (ps_fld (pv 0) (pe_tup pa_nil) rfl))))))))), ?_⟩
    obtain ⟨dxp, hpl⟩ := hP.ob
    have hb1 := hP.b1
    have hb2 := hP.b2
    have nppl : pl ≠ p := fun e => by
      rw [e, hp] at hpl
      have := HO.ins.inj (Option.some.inj hpl)
      have := this.2.2
      simp [planF] at this
    -- self.plan = plan
    refine ⟨_, rfl, _, rfl, p, _, dx, _, rfl, hp, T.cl_Image, T.na_Image_plan, (by show 0 < 1000; decide), ?_⟩
    generalize hH1 : upd H p _ = H1
    obtain ⟨e1, k1, n1⟩ := own_f hH1
    have pl1 := k1.at1 hpl nppl
    -- self.cells = [[0] * Plan.WIDTH for _ in range(plan.blocks)]
    refine ⟨_, rfl, pl, _, dxp, _, _, rfl, pl1, T.cl_Plan, T.na_Plan_blocks, rfl, b, rfl, by omega, by omega, fun D hD => ?_⟩
    refine lc_range (lo := 0) (n := b.toNat) (fun i H' => ∃ qs, NewGrid H1 H' D qs (List.replicate i (List.replicate 8 0)))
      ⟨[], NewGrid.start (Same.refl _) hD hD⟩ ?_ ?_
    · rintro i H' hi ⟨qs, G⟩
      refine ⟨rfl, ?_⟩
      refine yes_ ?_
      refine ⟨by show 1 ≤ sizeLine; decide, fun l hl => ?_⟩
      refine ⟨l, 8, _, rfl, rfl, upd_same, by decide, by decide, by show 1 * 8 ≤ sizeLine; decide, fun q hq => ?_⟩
      have hq0 : H' q = none := un hq
      have hlD : H' D = some (.lst (qs.map V.ref)) := G.grid.out
      have hq1 : (upd (upd H' l (.lst [V.int 0])) q (.lst (List.replicate (8 : Int).toNat [V.int 0]).flatten)) q = some (.lst ((List.replicate 8 (0 : Int)).map V.int)) := by rw [upd_same]; rfl
      have sm : Same H' (upd (upd H' l (.lst [V.int 0])) q (.lst (List.replicate (8 : Int).toNat [V.int 0]).flatten)) := (same_upd hl).trans (same_upd hq)
      refine ⟨_, sm _ _ hlD, ?_, qs ++ [q], ?_⟩
      · rw [List.length_map, G.grid.len, List.length_replicate]
        exact small1000 (by omega)
      · rw [List.replicate_succ']
        exact G.snoc sm hq0 hq1
    rintro H2 ⟨qs, G⟩
    have e2 := G.same _ _ e1
    have pl2 := G.same _ _ pl1
    have npD : p ≠ D := ne_of_none e1 G.freshD
    refine ⟨_, rfl, p, _, dx, _, rfl, e2, T.cl_Image, T.na_Image_cells, (by show 1 < 1000; decide), ?_⟩
    generalize hH3 : upd H2 p _ = H3
    obtain ⟨e3, k3, n3⟩ := own_f hH3
    have pl3 := k3.at1 pl2 nppl
    -- self.holdings = [0] * plan.blocks
    refine ⟨by show 1 ≤ sizeLine; decide, fun l hl => ?_⟩
    generalize hH4 : upd H3 l _ = H4
    obtain ⟨e4, s4, n4⟩ := new_f hH4 hl
    have pl4 := s4 _ _ pl3
    refine ⟨_, rfl, pl, _, dxp, _, _, rfl, pl4, T.cl_Plan, T.na_Plan_blocks, rfl, l, b, _, rfl, rfl, e4, by omega, by omega, (by show 1 * b.toNat ≤ sizeLine; exact Nat.le_of_lt (small1000 (by omega))), fun ho hho => ?_⟩
    rw [rep_flat, rep_map]
    generalize hH5 : upd H4 ho _ = H5
    obtain ⟨e5, s5, n5⟩ := new_f hH5 hho
    refine ⟨_, rfl, p, _, dx, _, rfl, s5 _ _ (s4 _ _ e3), T.cl_Image, T.na_Image_holdings, (by show 2 < 1000; decide), ?_⟩
    generalize hH6 : upd H5 p _ = H6
    obtain ⟨e6, k6, n6⟩ := own_f hH6
    have pl6 := k6.at1 (s5 _ _ pl4) nppl
    have nho : ho ≠ p := (ne_of_none (s4 _ _ e3) hho).symm
    have ho6 := k6.at1 e5 nho
    -- self.stamps = [0] * plan.blocks
    refine ⟨by show 1 ≤ sizeLine; decide, fun l2 hl2 => ?_⟩
    generalize hH7 : upd H6 l2 _ = H7
    obtain ⟨e7, s7, n7⟩ := new_f hH7 hl2
    refine ⟨_, rfl, pl, _, dxp, _, _, rfl, s7 _ _ pl6, T.cl_Plan, T.na_Plan_blocks, rfl, l2, b, _, rfl, rfl, e7, by omega, by omega, (by show 1 * b.toNat ≤ sizeLine; exact Nat.le_of_lt (small1000 (by omega))), fun st hst => ?_⟩
    rw [rep_flat, rep_map]
    generalize hH8 : upd H7 st _ = H8
    obtain ⟨e8, s8, n8⟩ := new_f hH8 hst
    refine ⟨_, rfl, p, _, dx, _, rfl, s8 _ _ (s7 _ _ e6), T.cl_Image, T.na_Image_stamps, (by show 3 < 1000; decide), ?_⟩
    generalize hH9 : upd H8 p _ = H9
    obtain ⟨e9, k9, n9⟩ := own_f hH9
    have nst : st ≠ p := (ne_of_none (s7 _ _ e6) hst).symm
    have nsth : st ≠ ho := (ne_of_none (s7 _ _ ho6) hst).symm
    have st9 := k9.at1 e8 nst
    have ho9 := k9.at1 (s8 _ _ (s7 _ _ ho6)) nho
    -- self.handles = {}; serial, wish, barred
    intro hd hhd
    generalize hH10 : upd H9 hd _ = H10
    obtain ⟨e10, s10, n10⟩ := new_f hH10 hhd
    have nhd : hd ≠ p := (ne_of_none e9 hhd).symm
    refine ⟨_, rfl, p, _, dx, _, rfl, s10 _ _ e9, T.cl_Image, T.na_Image_handles, (by show 4 < 1000; decide), ?_⟩
    generalize hH11 : upd H10 p _ = H11
    obtain ⟨e11, k11, n11⟩ := own_f hH11
    refine ⟨_, rfl, p, _, dx, _, rfl, e11, T.cl_Image, T.na_Image_serial, (by show 5 < 1000; decide), ?_⟩
    generalize hH12 : upd H11 p _ = H12
    obtain ⟨e12, k12, n12⟩ := own_f hH12
    refine ⟨_, rfl, p, _, dx, _, rfl, e12, T.cl_Image, T.na_Image_wish, (by show 6 < 1000; decide), ?_⟩
    generalize hH13 : upd H12 p _ = H13
    obtain ⟨e13, k13, n13⟩ := own_f hH13
    refine ⟨by show 0 ≤ sizeLine; decide, fun ba hba => ?_⟩
    generalize hH14 : upd H13 ba _ = H14
    obtain ⟨e14, s14, n14⟩ := new_f hH14 hba
    have nba : ba ≠ p := (ne_of_none e13 hba).symm
    refine ⟨_, rfl, p, _, dx, _, rfl, s14 _ _ e13, T.cl_Image, T.na_Image_barred, (by show 7 < 1000; decide), ?_⟩
    generalize hH15 : upd H14 p _ = H15
    obtain ⟨e15, k15, n15⟩ := own_f hH15
    -- what stands
    have k10 : Kp [p] H10 H15 := (((k11.trans k12).trans k13).same s14).trans k15
    have k2 : Kp [p] H2 H15 := ((((((k3.same s4).same s5).trans k6).same s7).same s8).trans (k9.same s10)).trans k10
    have k0 : Kp [p] H H15 := (k1.same G.same).trans k2
    have f_ho : H2 ho = none := (n3 _ (n4 _ hho).1).1
    have f_st : H2 st = none := (n3 _ (n4 _ (n5 _ (n6 _ (n7 _ hst).1).1).1).1).1
    have f_hd : H2 hd = none := (n3 _ (n4 _ (n5 _ (n6 _ (n7 _ (n8 _ (n9 _ hhd).1).1).1).1).1).1).1
    have fr : ∀ x, H2 x = none → H x = none := fun x e => (n1 _ (G.same.free e)).1
    have qp : ∀ q ∈ qs, q ≠ p := fun q hq e => by
      have := G.fresh q hq
      rw [e, e1] at this
      cases this
    have qn : ∀ x, H2 x = none → x ∉ qs := fun x e hq => by
      obtain ⟨o, z⟩ := G.grid.held hq
      rw [e] at z
      cases z
    refine k _ ⟨dx, pl, D, qs, ho, st, hd, ba⟩ (fun x o e ne => k0.at1 e ne)
      ⟨e15, hP.of fun o e => k0.at1 e nppl, G.grid.keep fun x o hx e => k2.at1 e ?_, k10.at1 (s10 _ _ ho9) nho, k10.at1 (s10 _ _ st9) nst, k10.at1 e10 nhd, k15.at1 e14 nba, qn _ f_ho, qn _ f_st, nsth.symm, ne_of_none G.grid.out f_ho, ne_of_none G.grid.out f_st, ?_, ?_, ?_, ?_⟩
      ⟨(n1 _ G.freshD).1, fun q hq => (n1 _ (G.fresh q hq)).1, fr _ f_ho, fr _ f_st, fr _ f_hd⟩ rfl
    · rcases hx with rfl | hx
      · exact npD.symm
      · exact qp x hx
    · show ((List.replicate b.toNat (List.replicate 8 (0 : Int))).length : Int) = b
      rw [List.length_replicate]
      omega
    · intro m hm
      rw [List.eq_of_mem_replicate hm]
      rfl
    · show ((List.replicate b.toNat (0 : Int)).length : Int) = b
      rw [List.length_replicate]
      omega
    · show ((List.replicate b.toNat (0 : Int)).length : Int) = b
      rw [List.length_replicate]
      omega
end
end K07
namespace K07
open PySem PySem.Spec PyProof.Rows L2 Rg
def cellAt (M : List (List Int)) (i j : Nat) : Int := ((M[i]?.getD [])[j]?).getD 0
theorem cellAt_of {M : List (List Int)} {i j : Nat} {m : List Int} {x : Int} (h : M[i]? = some m) (hj : m[j]? = some x) : cellAt M i j = x := by
  unfold cellAt
  rw [h]
  show (m[j]?).getD 0 = x
  rw [hj]
  rfl
def kindOf (b n : Int) (M : List (List Int)) (x : Int) : Int :=
  if x < 2 + (b + 8 - 1) / 8 + n then 1 else if cellAt M (2 + x / 8).toNat (x % 8).toNat = 1 ∨ cellAt M (2 + x / 8).toNat (x % 8).toNat = 2 then cellAt M (2 + x / 8).toNat (x % 8).toNat else 0
section
variable {P : Program} {w : World} {K : PySem.W.Frag} {mg : Str → Option Value} {base : Heap}
def sp_Image_kind (CI CP : Addr) : Sp := fun vs H Q _ => ∃ (im : Addr) (A : IA) (v : IV) (b n s x : Int), vs = [.ref im, .int x] ∧ ImgAt CI CP H im A v b n s ∧ 0 ≤ x ∧ x < b ∧
  ∀ H', Same H H' → Q (.int (kindOf b n v.M x)) H'
theorem ok_Image_kind (T : Tx K mg) : FnOk P w K mg base CX0 2 T.f_Image_kind T.fd_Image_kind ["self", "x"] (sp_Image_kind T.C_Image T.C_Plan) := by
  refine T.F_Image_kind.ok sc_Image_kind (fun vs H Q E h => ?_) (fun cdv A0 outer s H vs Q E hr h => ?_)
  · obtain ⟨_, _, _, _, _, _, _, rfl, _⟩ := h; rfl
  · obtain ⟨im, A, v, b, n, sl, x, rfl, I, hx0, hxb, k⟩ := h
    refine ⟨_, (pss_cons (ps_if (pt_cmpR op_lt (pv 1) (pe_fld (pe_fld (pv 0) rfl) rfl) (nomark _))
        (pss_one (ps_ret (pe_cv T.mg_Plan T.cr_Plan T.cv_Plan_LOGGED)))
        pss_nil)
      (pss_cons (ps_asg (pe_meth (pe_fld (pv 0) rfl) T.cl_Plan T.m_Plan_map_place (ok_Plan_map_place T) hr (b_Plan_map_place T) .nil pass0 (pa_cons (pv 1) pa_nil)) (pg_tup rfl (pgs_cons (pg_name (i := 2) sc_Image_kind.nd rfl (.inl rfl)) (pgs_cons (pg_name (i := 3) sc_Image_kind.nd rfl (.inl rfl)) pgs_nil))))
      (pss_cons (ps_set (i := 4) sc_Image_kind.nd rfl (.inl rfl) (pe_ix ix_list (pe_ix ix_list (pe_fld (pv 0) rfl) (pv 2) (fun _ _ => rfl)) (pv 3) (fun _ _ => rfl)))
      (pss_one (ps_ret (pe_ifExp (pt_cmpR op_in_seq (pv 4) (pe_tup (pa_cons (pe_cv T.mg_Plan T.cr_Plan T.cv_Plan_LOGGED) (pa_cons (pe_cv T.mg_Plan T.cr_Plan T.cv_Plan_PLAIN) pa_nil))) rfl) (pv 4) (pe_cv T.mg_Plan T.cr_Plan T.cv_Plan_FREE))))))), ?_⟩
    obtain ⟨dxp, hpl⟩ := I.pl.ob
    have b1 := I.pl.b1
    have b2 := I.pl.b2
    have n1 := I.pl.n1
    refine ⟨_, rfl, _, rfl, im, _, _, _, _, rfl, I.ob, T.cl_Image, T.na_Image_plan, rfl, A.pl, _, dxp, _, _, rfl, hpl, T.cl_Plan, T.na_Plan_first_data, rfl, _, _, rfl, rfl, _, rfl, ite2 (fun e => ?_) (fun e => ?_)⟩
    · have e' := of_decide_eq_true e
      have := k H (Same.refl _)
      unfold kindOf at this
      rw [if_pos e'] at this
      exact this
    · have e' : ¬ x < 2 + (b + 8 - 1) / 8 + n := fun z => e (decide_eq_true z)
      -- the cell
      have d0 := I.d0
      have hi : (2 + x / 8).toNat < v.M.length := by omega
      obtain ⟨r, hr1, hr2, _⟩ := I.gr.get (List.getElem?_eq_getElem hi)
      have hj : (x % 8).toNat < (v.M[(2 + x / 8).toNat]).length := by
        rw [I.d1 _ (List.getElem_mem hi)]
        omega
      have hc : cellAt v.M (2 + x / 8).toNat (x % 8).toNat = (v.M[(2 + x / 8).toNat])[(x % 8).toNat] := cellAt_of (List.getElem?_eq_getElem hi) (List.getElem?_eq_getElem hj)
      refine ⟨_, rfl, im, _, _, _, _, rfl, I.ob, T.cl_Image, T.na_Image_plan, rfl, A.pl, dxp, _, rfl, hpl, rfl, _, rfl, A.pl, b, n, sl, x, rfl, I.pl, fun t ht => ?_⟩
      have st := same_upd (o := .tup [.int (2 + x / 8), .int (x % 8)]) ht
      refine ⟨t, _, rfl, .inl (.inl upd_same), rfl, _, _, rfl, _, _, rfl, rfl, ?_⟩
      refine ⟨_, rfl, im, _, _, _, _, rfl, st _ _ I.ob, T.cl_Image, T.na_Image_cells, rfl, _, rfl, A.ca, _, _, .ref r, rfl, rfl, .inl (.inl (st _ _ I.gr.out)), at_of (j := (2 + x / 8).toNat) (by omega) (by rw [List.getElem?_map, hr1]; rfl), _, rfl, r, _, _, _, rfl, rfl, .inl (.inl (st _ _ hr2)), at_of (j := (x % 8).toNat) (by omega) (by rw [List.getElem?_map, List.getElem?_eq_getElem hj]; rfl), ?_⟩
      refine ⟨_, rfl, (by show 2 ≤ sizeLine; decide), fun t2 ht2 => ?_⟩
      have st2 := same_upd (o := .tup [.int 1, .int 2]) ht2
      have kk := k _ (st.trans st2)
      unfold kindOf at kk
      rw [if_neg e', hc] at kk
      generalize (v.M[(2 + x / 8).toNat])[(x % 8).toNat] = c at kk ⊢
      refine ⟨t2, _, rfl, .inr (.inl (.inl upd_same)), rfl, rfl, _, rfl, ite2 (fun q => ?_) (fun q => ?_)⟩
      · have hq : c = 1 ∨ c = 2 := by
          simp [inV, eqV] at q
          omega
        rw [if_pos hq] at kk
        exact ⟨_, rfl, kk⟩
      · have hq : ¬ (c = 1 ∨ c = 2) := fun z => q (by
          simp [inV, eqV]
          omega)
        rw [if_neg hq] at kk
        exact kk
end
end K07
namespace K07
open PySem PySem.Spec PyProof.Rows L2 Rg
theorem mem_set_of {α : Type} {l : List α} {i : Nat} {x y : α} (h : y ∈ l.set i x) : y = x ∨ y ∈ l := by
  rcases List.mem_or_eq_of_mem_set h with h | h
  · exact .inr h
  · exact .inl h
theorem nodup_set {α : Type} : ∀ {l : List α} {i : Nat} {x : α}, l.Nodup → x ∉ l → (l.set i x).Nodup
  | [], _, _, h, _ => by simp
  | y :: l, 0, x, h, n => by
    rw [List.set_cons_zero]
    rw [List.nodup_cons] at h ⊢
    exact ⟨fun z => n (List.mem_cons_of_mem _ z), h.2⟩
  | y :: l, i + 1, x, h, n => by
    rw [List.set_cons_succ]
    rw [List.nodup_cons] at h ⊢
    refine ⟨fun z => ?_, nodup_set h.2 fun z => n (List.mem_cons_of_mem _ z)⟩
    rcases mem_set_of z with e | e
    · exact n (by rw [e]; exact List.mem_cons_self)
    · exact h.1 e
/-- a row replaced by a new one -/
theorem Grid.swap {H H1 : Hp} {ca : Addr} {rs : List Addr} {M : List (List Int)} {i : Nat} {q : Addr} {m : List Int} (G : Grid H ca rs M) (s1 : Same H H1) (hq : H q = none) (h1 : H1 q = some (.lst (m.map V.int))) :
    Grid (upd H1 ca (.lst ((rs.map V.ref).set i (V.ref q)))) ca (rs.set i q) (M.set i m) := by
  have qr : q ∉ rs := fun h => by
    obtain ⟨o, z⟩ := G.held h
    rw [hq] at z
    cases z
  have qc : q ≠ ca := fun e => by
    rw [e, G.out] at hq
    cases hq
  refine ⟨by rw [upd_same, ← List.map_set], by rw [List.length_set, List.length_set]; exact G.len, fun j r m' hj hm => ?_, nodup_set G.nd qr, fun z => ?_⟩
  · by_cases e : i = j
    · subst e
      have hi : i < rs.length := by
        have := (List.getElem?_eq_some_iff.mp hj).1
        rw [List.length_set] at this
        exact this
      rw [List.getElem?_set_self hi] at hj
      rw [List.getElem?_set_self (by rw [← G.len]; exact hi)] at hm
      cases hj
      cases hm
      rw [upd_ne qc]
      exact h1
    · rw [List.getElem?_set_ne e] at hj hm
      rw [upd_ne fun z => G.nin (by rw [← z]; exact List.mem_of_getElem? hj)]
      exact s1 _ _ (G.row j r m' hj hm)
  · rcases mem_set_of z with e | e
    · exact qc e.symm
    · exact G.nin e
section
variable {CI CP : Addr} {H : Hp} {im : Addr} {A : IA} {v : IV} {b n s : Int}
theorem ImgAt.fresh_n (I : ImgAt CI CP H im A v b n s) {q : Addr} (hq : H q = none) : q ≠ im ∧ q ≠ A.ca ∧ q ≠ A.ho ∧ q ≠ A.st ∧ q ≠ A.hd ∧ q ∉ A.rs :=
  ⟨(ne_of_none I.ob hq).symm, (ne_of_none I.gr.out hq).symm, (ne_of_none I.ho hq).symm, (ne_of_none I.st hq).symm, (ne_of_none I.hd hq).symm, fun h => by
    obtain ⟨o, z⟩ := I.gr.held h
    rw [hq] at z
    cases z⟩
/-- image.cells[i] = a new row -/
theorem ImgAt.swap {H1 : Hp} {i : Nat} {q : Addr} {m : List Int} (I : ImgAt CI CP H im A v b n s) (s1 : Same H H1) (hq : H q = none) (h1 : H1 q = some (.lst (m.map V.int))) (hm : m.length = 8) :
    ImgAt CI CP (upd H1 A.ca (.lst ((A.rs.map V.ref).set i (V.ref q)))) im { A with rs := A.rs.set i q } { v with M := v.M.set i m } b n s := by
  obtain ⟨f1, f2, f3, f4, f5, f6⟩ := I.fresh_n hq
  obtain ⟨dxp, hpl⟩ := I.pl.ob
  have oc := I.gr.out
  refine { ob := ?_, pl := I.pl.of fun o e => ?_, gr := I.gr.swap s1 hq h1, ho := ?_, st := ?_, hd := ?_, ba := ?_, n1 := fun z => ?_, n2 := fun z => ?_, n3 := I.n3, n4 := I.n4, n5 := I.n5, d0 := ?_, d1 := fun m' hm' => ?_, d2 := I.d2, d3 := I.d3 }
  · rw [upd_ne (ne_of I.ob oc (by intro z; cases z))]; exact s1 _ _ I.ob
  · rw [upd_ne (ne_of hpl oc (by intro z; cases z))]; exact s1 _ _ e
  · rw [upd_ne I.n4.symm]; exact s1 _ _ I.ho
  · rw [upd_ne I.n5.symm]; exact s1 _ _ I.st
  · rw [upd_ne (ne_of I.hd oc (by intro z; cases z))]; exact s1 _ _ I.hd
  · rw [upd_ne (ne_of I.ba oc (by intro z; cases z))]; exact s1 _ _ I.ba
  · rcases mem_set_of z with e | e
    · exact f3 e.symm
    · exact I.n1 e
  · rcases mem_set_of z with e | e
    · exact f4 e.symm
    · exact I.n2 e
  · show ((v.M.set i m).length : Int) = b
    rw [List.length_set]
    exact I.d0
  · rcases mem_set_of hm' with e | e
    · rw [e]; exact hm
    · exact I.d1 _ e
/-- image.holdings[i] = x -/
theorem ImgAt.putHo {i : Nat} {x : Int} (I : ImgAt CI CP H im A v b n s) : ImgAt CI CP (upd H A.ho (.lst ((v.ho.map V.int).set i (V.int x)))) im A { v with ho := v.ho.set i x } b n s := by
  obtain ⟨dxp, hpl⟩ := I.pl.ob
  have oc := I.ho
  refine { I with ob := ?_, pl := I.pl.of fun o e => ?_, gr := I.gr.keep fun y o hy e => ?_, ho := by rw [upd_same, ← List.map_set], st := ?_, hd := ?_, ba := ?_, d2 := ?_ }
  · rw [upd_ne (ne_of I.ob oc (by intro z; cases z))]; exact I.ob
  · rw [upd_ne (ne_of hpl oc (by intro z; cases z))]; exact e
  · rw [upd_ne]
    · exact e
    · rcases hy with rfl | hy
      · exact I.n4
      · exact fun z => I.n1 (z ▸ hy)
  · rw [upd_ne I.n3.symm]; exact I.st
  · rw [upd_ne (ne_of I.hd oc (by intro z; cases z))]; exact I.hd
  · rw [upd_ne (ne_of I.ba oc (by intro z; cases z))]; exact I.ba
  · show ((v.ho.set i x).length : Int) = b
    rw [List.length_set]
    exact I.d2
/-- image.stamps[i] = x -/
theorem ImgAt.putSt {i : Nat} {x : Int} (I : ImgAt CI CP H im A v b n s) : ImgAt CI CP (upd H A.st (.lst ((v.st.map V.int).set i (V.int x)))) im A { v with st := v.st.set i x } b n s := by
  obtain ⟨dxp, hpl⟩ := I.pl.ob
  have oc := I.st
  refine { I with ob := ?_, pl := I.pl.of fun o e => ?_, gr := I.gr.keep fun y o hy e => ?_, st := by rw [upd_same, ← List.map_set], ho := ?_, hd := ?_, ba := ?_, d3 := ?_ }
  · rw [upd_ne (ne_of I.ob oc (by intro z; cases z))]; exact I.ob
  · rw [upd_ne (ne_of hpl oc (by intro z; cases z))]; exact e
  · rw [upd_ne]
    · exact e
    · rcases hy with rfl | hy
      · exact I.n5
      · exact fun z => I.n2 (z ▸ hy)
  · rw [upd_ne I.n3]; exact I.ho
  · rw [upd_ne (ne_of I.hd oc (by intro z; cases z))]; exact I.hd
  · rw [upd_ne (ne_of I.ba oc (by intro z; cases z))]; exact I.ba
  · show ((v.st.set i x).length : Int) = b
    rw [List.length_set]
    exact I.d3
/-- one row changed: image.cells[i][j] = x and the like -/
theorem ImgAt.putRow {i : Nat} {r : Addr} {m : List Int} (I : ImgAt CI CP H im A v b n s) (hr : A.rs[i]? = some r) (hm : m.length = 8) : ImgAt CI CP (upd H r (.lst (m.map V.int))) im A { v with M := v.M.set i m } b n s := by
  obtain ⟨dxp, hpl⟩ := I.pl.ob
  have rin : r ∈ A.rs := List.mem_of_getElem? hr
  have hi : i < v.M.length := by rw [← I.gr.len]; exact (List.getElem?_eq_some_iff.mp hr).1
  have oc := I.gr.row i r _ hr (List.getElem?_eq_getElem hi)
  refine { I with ob := ?_, pl := I.pl.of fun o e => ?_, gr := I.gr.put hr, st := ?_, ho := ?_, hd := ?_, ba := ?_, d0 := ?_, d1 := fun m' hm' => ?_ }
  · rw [upd_ne (ne_of I.ob oc (by intro z; cases z))]; exact I.ob
  · rw [upd_ne (ne_of hpl oc (by intro z; cases z))]; exact e
  · rw [upd_ne (fun z : A.ho = r => I.n1 (by rw [z]; exact rin))]; exact I.ho
  · rw [upd_ne (fun z : A.st = r => I.n2 (by rw [z]; exact rin))]; exact I.st
  · rw [upd_ne (ne_of I.hd oc (by intro z; cases z))]; exact I.hd
  · rw [upd_ne (ne_of I.ba oc (by intro z; cases z))]; exact I.ba
  · show ((v.M.set i m).length : Int) = b
    rw [List.length_set]
    exact I.d0
  · rcases mem_set_of hm' with e | e
    · rw [e]; exact hm
    · exact I.d1 _ e
end
end K07
namespace K07
open PySem PySem.Spec PyProof.Rows L2 Rg
/-- what of_cells makes of the rows, the blocks before i looked at -/
def ofM (b n : Int) (R : List (List Int)) (i : Nat) : List (List Int) := (List.range b.toNat).map fun x => if x < i ∧ kindOf b n R x = 0 then List.replicate 8 0 else R[x]?.getD []
def ofH (b n : Int) (R : List (List Int)) (i : Nat) : List Int := (List.range b.toNat).map fun x => if x < i ∧ ¬ kindOf b n R x = 0 then 1 else 0
def ofV (b n : Int) (R : List (List Int)) (i : Nat) : IV := ⟨ofM b n R i, ofH b n R i, ofH b n R i, [], 1, 0, []⟩
theorem kindOf_fix {b n : Int} {R : List (List Int)} {x : Int} (h : x < 2 + (b + 8 - 1) / 8 + n) : kindOf b n R x = 1 := by
  unfold kindOf
  rw [if_pos h]
theorem cellAt_congr {M R : List (List Int)} {i j : Nat} (h : M[i]? = R[i]?) : cellAt M i j = cellAt R i j := by
  unfold cellAt
  rw [h]
theorem kindOf_congr {b n : Int} {M R : List (List Int)} {x : Int} (hn : 0 ≤ n) (h0 : 0 ≤ x) (hb : x < b) (h : ∀ y : Nat, (y : Int) < 2 + (b + 8 - 1) / 8 + n → M[y]? = R[y]?) : kindOf b n M x = kindOf b n R x := by
  unfold kindOf
  rw [cellAt_congr (h (2 + x / 8).toNat (by omega))]
theorem ofM_get {b n : Int} {R : List (List Int)} {i x : Nat} (hx : x < b.toNat) : (ofM b n R i)[x]? = some (if x < i ∧ kindOf b n R x = 0 then List.replicate 8 0 else R[x]?.getD []) := by
  unfold ofM
  rw [List.getElem?_map, List.getElem?_range hx]
  rfl
theorem ofM_fix {b n : Int} {R : List (List Int)} {i y : Nat} (hR : (R.length : Int) = b) (hb : 2 + (b + 8 - 1) / 8 + n ≤ b) (hy : (y : Int) < 2 + (b + 8 - 1) / 8 + n) : (ofM b n R i)[y]? = R[y]? := by
  rw [ofM_get (by omega), kindOf_fix hy, if_neg (fun z => by simp at z), List.getElem?_eq_getElem (show y < R.length by omega)]
  rfl
theorem ofM_zero {b n : Int} {R : List (List Int)} (hR : (R.length : Int) = b) : ofM b n R 0 = R := by
  apply List.ext_getElem?
  intro x
  by_cases hx : x < b.toNat
  · rw [ofM_get hx, if_neg (fun z => by simp at z), List.getElem?_eq_getElem (show x < R.length by omega)]
    rfl
  · rw [List.getElem?_eq_none (by unfold ofM; simp; omega), List.getElem?_eq_none (by omega)]
theorem ofM_succ {b n : Int} {R : List (List Int)} {i : Nat} (hi : i < b.toNat) : ofM b n R (i + 1) = if kindOf b n R i = 0 then (ofM b n R i).set i (List.replicate 8 0) else ofM b n R i := by
  apply List.ext_getElem?
  intro x
  by_cases hx : x < b.toNat
  · rw [ofM_get hx]
    by_cases hk : kindOf b n R i = 0
    · rw [if_pos hk]
      by_cases e : i = x
      · subst e
        rw [List.getElem?_set_self (by unfold ofM; simp; omega), if_pos ⟨Nat.lt_succ_self _, hk⟩]
      · rw [List.getElem?_set_ne e, ofM_get hx]
        by_cases h : x < i
        · simp only [show (x < i + 1) ↔ (x < i) by omega]
        · simp only [show (x < i + 1) ↔ (x < i) by omega]
    · rw [if_neg hk, ofM_get hx]
      by_cases e : i = x
      · subst e
        rw [if_neg (fun z => hk z.2), if_neg (fun z => hk z.2)]
      · simp only [show (x < i + 1) ↔ (x < i) by omega]
  · have l1 : (ofM b n R (i + 1)).length = b.toNat := by unfold ofM; simp
    have l2 : (ofM b n R i).length = b.toNat := by unfold ofM; simp
    rw [List.getElem?_eq_none (by omega)]
    split
    · rw [List.getElem?_eq_none (by rw [List.length_set]; omega)]
    · rw [List.getElem?_eq_none (by omega)]
theorem ofH_get {b n : Int} {R : List (List Int)} {i x : Nat} (hx : x < b.toNat) : (ofH b n R i)[x]? = some (if x < i ∧ ¬ kindOf b n R x = 0 then 1 else 0) := by
  unfold ofH
  rw [List.getElem?_map, List.getElem?_range hx]
  rfl
theorem ofH_zero {b n : Int} {R : List (List Int)} : ofH b n R 0 = List.replicate b.toNat 0 := by
  apply List.ext_getElem?
  intro x
  by_cases hx : x < b.toNat
  · rw [ofH_get hx, if_neg (fun z => by simp at z), List.getElem?_replicate, if_pos hx]
  · rw [List.getElem?_eq_none (by unfold ofH; simp; omega), List.getElem?_eq_none (by simp; omega)]
theorem ofH_succ {b n : Int} {R : List (List Int)} {i : Nat} (hi : i < b.toNat) : ofH b n R (i + 1) = if kindOf b n R i = 0 then ofH b n R i else (ofH b n R i).set i 1 := by
  apply List.ext_getElem?
  intro x
  by_cases hx : x < b.toNat
  · rw [ofH_get hx]
    by_cases hk : kindOf b n R i = 0
    · rw [if_pos hk, ofH_get hx]
      by_cases e : i = x
      · subst e
        rw [if_neg (fun z => z.2 hk), if_neg (fun z => z.2 hk)]
      · simp only [show (x < i + 1) ↔ (x < i) by omega]
    · rw [if_neg hk]
      by_cases e : i = x
      · subst e
        rw [List.getElem?_set_self (by unfold ofH; simp; omega), if_pos ⟨Nat.lt_succ_self _, hk⟩]
      · rw [List.getElem?_set_ne e, ofH_get hx]
        simp only [show (x < i + 1) ↔ (x < i) by omega]
  · have l1 : (ofH b n R (i + 1)).length = b.toNat := by unfold ofH; simp
    have l2 : (ofH b n R i).length = b.toNat := by unfold ofH; simp
    rw [List.getElem?_eq_none (by omega)]
    split
    · rw [List.getElem?_eq_none (by omega)]
    · rw [List.getElem?_eq_none (by rw [List.length_set]; omega)]
section
variable {P : Program} {w : World} {K : PySem.W.Frag} {mg : Str → Option Value} {base : Heap}
def sp_of_cells (CI CP : Addr) : Sp := fun vs H Q _ => ∃ (pl ra : Addr) (rr : List Addr) (R : List (List Int)) (b n s : Int), vs = [.ref pl, .ref ra] ∧ PlanAt CP H pl b n s ∧ Grid H ra rr R ∧ (R.length : Int) = b ∧ (∀ m ∈ R, m.length = 8) ∧
  ∀ (H' : Hp) (im : Addr) (A : IA), Same H H' → H im = none → ImgAt CI CP H' im A (ofV b n R b.toNat) b n s → A.New H → A.pl = pl → Q (.ref im) H'
theorem ok_of_cells (T : Tx K mg) : FnOk P w K mg base CX0 3 T.f_Image_of_cells T.fd_Image_of_cells ["plan", "rows"] (sp_of_cells T.C_Image T.C_Plan) := by
  refine T.F_Image_of_cells.ok sc_Image_of_cells (fun vs H Q E h => ?_) (fun cdv A0 outer s H vs Q E hr h => ?_)
  · obtain ⟨_, _, _, _, _, _, _, rfl, _⟩ := h; rfl
  · obtain ⟨pl, ra, rr, R, b, n, sl, rfl, hP, GR, hR, hR8, k⟩ := h
    have hr2 : Room 2 _ := hr.mono (by decide)
    refine ⟨_, (pss_cons (ps_set (i := 2) sc_Image_of_cells.nd rfl (.inl rfl) (pe_make T.mk_Image (ok_Image_init T) hr2 rfl T.mg_Image (b_Image___init__ T) .nil pass0 (pa_cons (pv 0) pa_nil)))
      (pss_cons (ps_fld (pv 2) (pe_lc rfl (own := [("row", 3)]) (g := gName 3) (tt := tYes) sc_Image_of_cells.nd (pi_list (pv 1)) (blkOk_by (N := ["plan", "rows", "image", "row", "x"]) (sc := defScope s_Image_of_cells) (by decide +kernel)) (fun _ _ _ _ _ => pg_name (i := 3) sc_Image_of_cells.nd rfl (Or.inl rfl)) (fun _ _ _ _ _ => pts_nil) (fun _ _ _ _ _ => (pe_listof (K := K) (pv 3) T.b_list))) rfl)
      (pss_cons (ps_fld (pv 2) pe_int rfl)
      (pss_cons (ps_for PassesOwn.never rfl (pi_range1 rfl T.b_range (pa_cons (pe_fld (pv 0) rfl) pa_nil)) (pg_name (i := 4) sc_Image_of_cells.nd rfl (.inl rfl))
        (pss_one (ps_if (pt_cmpR op_eq (pe_meth (pv 2) T.cl_Image T.m_Image_kind (ok_Image_kind T) hr2 (b_Image_kind T) .nil pass0 (pa_cons (pv 4) pa_nil)) (pe_cv T.mg_Plan T.cr_Plan T.cv_Plan_FREE) (nomark _))
          (pss_one (ps_asg (pe_op op_rep (pe_lst (pa_cons pe_int pa_nil)) (pe_cv T.mg_Plan T.cr_Plan T.cv_Plan_WIDTH)) (pg_sub (pe_fld (pv 2) rfl) (pv 4) set_list)))
          (pss_cons (ps_asg pe_int (pg_sub (pe_fld (pv 2) rfl) (pv 4) set_list))
          (pss_one (ps_asg pe_int (pg_sub (pe_fld (pv 2) rfl) (pv 4) set_list)))))))
      (pss_one (ps_ret (pv 2))))))), ?_⟩
    obtain ⟨dxp, hpl⟩ := hP.ob
    have hb1 := hP.b1
    have hb2 := hP.b2
    have hd := hP.d
    have hn1 := hP.n1
    -- image = Image(plan)
    refine ⟨_, rfl, fun x dx nx ndx nex => ?_⟩
    have s1 : Same H (upd (upd H dx (.own x)) x (.ins T.C_Image dx [])) := (same_upd ndx).trans (same_upd (by rw [upd_ne nex.symm]; exact nx))
    refine ⟨x, dx, pl, b, n, sl, rfl, upd_same, hP.same s1, fun H1 A1 k1 I1 N1 eA => ⟨rfl, ?_⟩⟩
    have k1' : ∀ y o, H y = some o → H1 y = some o := fun y o e => k1 y o (s1 _ _ e) (ne_of_none e nx)
    have xs1 : ∀ y, (upd (upd H dx (.own x)) x (.ins T.C_Image dx [])) y = none → H y = none := fun y e => un (un e)
    -- image.cells = [list(row) for row in rows]
    refine ⟨_, rfl, ra, rfl, ⟨_, .of (k1' _ _ GR.out)⟩, fun D hD => ?_⟩
    refine lc_list (K := K) (a := ra) (xs := rr.map V.ref) (fun i H' => ∃ qs, NewGrid H1 H' D qs (R.take i))
      ⟨[], NewGrid.start (Same.refl _) hD hD⟩ (fun i H' _ ⟨qs, G⟩ => .of (G.same _ _ (k1' _ _ GR.out))) ?_ ?_
    · rintro i y H' hi ⟨qs, G⟩
      have hil : i < rr.length := by
        have := (List.getElem?_eq_some_iff.mp hi).1
        rw [List.length_map] at this
        exact this
      rw [List.getElem?_map, List.getElem?_eq_getElem hil] at hi
      have hi : V.ref rr[i] = y := Option.some.inj hi
      subst hi
      have hiR : i < R.length := by rw [← GR.len]; exact hil
      have hrow := G.same _ _ (k1' _ _ (GR.row i rr[i] R[i] (List.getElem?_eq_getElem hil) (List.getElem?_eq_getElem hiR)))
      refine ⟨rfl, ?_⟩
      refine yes_ ?_
      refine ⟨_, rfl, rr[i], _, rfl, .inl (.of hrow), fun q hq => ?_⟩
      refine ⟨_, by rw [upd_ne (ne_of_none G.grid.out hq)]; exact G.grid.out, ?_, qs ++ [q], ?_⟩
      · rw [List.length_map, G.grid.len, List.length_take]
        exact small1000 (by omega)
      · rw [List.take_succ, List.getElem?_eq_getElem hiR]
        exact G.snoc (same_upd hq) hq upd_same
    rintro H2 ⟨qs, G⟩
    rw [List.length_map, GR.len, List.take_length] at G
    have I2 : ImgAt T.C_Image T.C_Plan H2 x A1 (zeroV b) b n sl := I1.keep G.same
    refine ⟨_, rfl, x, _, _, _, rfl, I2.ob, T.cl_Image, T.na_Image_cells, (by show 8 < 1000; decide), ?_⟩
    generalize hH3 : upd H2 x _ = H3
    obtain ⟨e3, k3, n3⟩ := own_f hH3
    refine ⟨_, rfl, x, _, _, _, rfl, e3, T.cl_Image, T.na_Image_serial, (by show 8 < 1000; decide), ?_⟩
    generalize hH4 : upd H3 x _ = H4
    obtain ⟨e4, k4, n4⟩ := own_f hH4
    have k24 : Kp [x] H2 H4 := k3.trans k4
    have kx : ∀ y o, H2 y = some o → y ≠ x → H4 y = some o := fun y o e ne => k24.at1 e ne
    have npl : pl ≠ x := ne_of_none hpl nx
    have pl2 : H2 A1.pl = some (.ins T.C_Plan dxp (planF b n sl)) := by rw [eA]; exact G.same _ _ (k1' _ _ hpl)
    have xD : x ≠ D := ne_of_none I1.ob G.freshD
    have xq : x ∉ qs := (G.nin0 I1.ob).2
    have I4 : ImgAt T.C_Image T.C_Plan H4 x { A1 with ca := D, rs := qs } (ofV b n R 0) b n sl := by
      refine { ob := e4, pl := I2.pl.of fun o e => kx _ _ e (by show A1.pl ≠ x; rw [eA]; exact npl), gr := ?_, ho := ?_, st := ?_, hd := ?_, ba := ?_, n1 := (G.nin0 I1.ho).2, n2 := (G.nin0 I1.st).2, n3 := I1.n3, n4 := (G.nin0 I1.ho).1.symm, n5 := (G.nin0 I1.st).1.symm, d0 := ?_, d1 := ?_, d2 := ?_, d3 := ?_ }
      · show Grid H4 D qs (ofM b n R 0)
        rw [ofM_zero hR]
        refine G.grid.keep fun y o hy e => kx _ _ e ?_
        rcases hy with rfl | hy
        · exact xD.symm
        · exact fun z => xq (by rw [← z]; exact hy)
      · show H4 A1.ho = some (.lst ((ofH b n R 0).map V.int))
        rw [ofH_zero]
        exact kx _ _ I2.ho (ne_of I2.ho I2.ob (by intro z; cases z))
      · show H4 A1.st = some (.lst ((ofH b n R 0).map V.int))
        rw [ofH_zero]
        exact kx _ _ I2.st (ne_of I2.st I2.ob (by intro z; cases z))
      · exact kx _ _ I2.hd (ne_of I2.hd I2.ob (by intro z; cases z))
      · exact kx _ _ I2.ba (ne_of I2.ba I2.ob (by intro z; cases z))
      · show ((ofM b n R 0).length : Int) = b
        rw [ofM_zero hR]
        exact hR
      · show ∀ m ∈ ofM b n R 0, m.length = 8
        rw [ofM_zero hR]
        exact hR8
      · show ((ofH b n R 0).length : Int) = b
        rw [ofH_zero, List.length_replicate]
        omega
      · show ((ofH b n R 0).length : Int) = b
        rw [ofH_zero, List.length_replicate]
        omega
    have N0 : ∀ y, H1 y = none → H y = none := fun y e => by
      cases q : H y with
      | none => rfl
      | some o => rw [k1' y o q] at e; cases e
    have N4 : ({ A1 with ca := D, rs := qs } : IA).New H := ⟨N0 _ G.freshD, fun q hq => N0 _ (G.fresh q hq), xs1 _ N1.ho, xs1 _ N1.st, xs1 _ N1.hd⟩
    have S4 : Same H H4 := fun y o e => kx _ _ (G.same _ _ (k1' _ _ e)) (ne_of_none e nx)
    -- for x in range(plan.blocks)
    have hpl4 : H4 pl = some (.ins T.C_Plan dxp (planF b n sl)) := S4 _ _ hpl
    refine ⟨_, rfl, pl, _, dxp, _, _, rfl, hpl4, T.cl_Plan, T.na_Plan_blocks, rfl, b, rfl, by omega, by omega, for_range (lo := 0) (n := b.toNat) (fun i σ H' => ∃ (A : IA) (u3 u4 : Option V), σ = [some (.ref pl), some (.ref ra), some (.ref x), u3, u4] ∧ ImgAt T.C_Image T.C_Plan H' x A (ofV b n R i) b n sl ∧ Same H H' ∧ A.New H ∧ A.pl = pl)
      ⟨_, _, _, rfl, I4, S4, N4, eA⟩ ?_ ?_⟩
    · rintro i σ H' hi ⟨A, u3, u4, rfl, I, S, N, eA⟩
      have hib : (i : Int) < b := by omega
      refine ⟨_, rfl, x, _, _, rfl, I.ob, rfl, _, rfl, x, A, ofV b n R i, b, n, sl, _, rfl, I, by omega, by omega, fun H5 s5 => ?_⟩
      have ek : kindOf b n (ofV b n R i).M (0 + (i : Int)) = kindOf b n R i := by
        rw [show (0 : Int) + (i : Int) = i by omega]
        exact kindOf_congr (by omega) (by omega) hib fun y hy => ofM_fix hR (by omega) hy
      rw [ek]
      have I5 := I.keep s5
      have S5 := S.trans s5
      refine ⟨rfl, _, rfl, ite2 (fun e => ?_) (fun e => ?_)⟩
      · have hk : kindOf b n R i = 0 := V.int.inj (of_decide_eq_true e)
        refine ⟨by show 1 ≤ sizeLine; decide, fun l hl => ?_⟩
        refine ⟨l, 8, _, rfl, rfl, upd_same, by decide, by decide, by show 1 * 8 ≤ sizeLine; decide, fun q hq => ?_⟩
        have sm : Same H5 (upd (upd H5 l (.lst [V.int 0])) q (.lst (List.replicate (8 : Int).toNat [V.int 0]).flatten)) := (same_upd hl).trans (same_upd hq)
        have hq5 : H5 q = none := un hq
        have hq1 : (upd (upd H5 l (.lst [V.int 0])) q (.lst (List.replicate (8 : Int).toNat [V.int 0]).flatten)) q = some (.lst ((List.replicate 8 (0 : Int)).map V.int)) := by rw [upd_same]; rfl
        generalize hH6 : upd (upd H5 l (.lst [V.int 0])) q (.lst (List.replicate (8 : Int).toNat [V.int 0]).flatten) = H6 at sm hq1 ⊢
        refine ⟨_, rfl, x, _, _, _, _, rfl, sm _ _ I5.ob, T.cl_Image, T.na_Image_cells, rfl, _, rfl, A.ca, _, _, i, rfl, rfl, sm _ _ I5.gr.out, ?_, ?_⟩
        · unfold ixN
          rw [if_pos (by omega), List.length_map, if_pos (by rw [I5.gr.len]; show (0 : Int) + i < (ofM b n R i).length; unfold ofM; simp; omega)]
          congr 1
          omega
        · refine ⟨{ A with rs := A.rs.set i q }, u3, _, rfl, ?_, ?_, ⟨N.ca, fun z hz => ?_, N.ho, N.st, N.hd⟩, eA⟩
          rotate_left
          · exact fun y o e => by
              rw [upd_ne (ne_of_none e N.ca)]
              exact sm _ _ (S5 _ _ e)
          · rcases mem_set_of hz with e | e
            · rw [e]; exact S5.free hq5
            · exact N.rs z e
          · have := I5.swap (i := i) sm hq5 hq1 (by rfl)
            unfold ofV at this ⊢
            dsimp only at this ⊢
            rw [ofM_succ (by omega), if_pos hk, ofH_succ (by omega), if_pos hk]
            exact this
      · have hk : ¬ kindOf b n R i = 0 := fun z => e (by rw [z]; exact decide_eq_true rfl)
        have ix : ∀ (xs : List V), xs.length = b.toNat → ixN xs.length (0 + (i : Int)) = some i := fun xs hx => by
          unfold ixN
          rw [if_pos (by omega), if_pos (by omega)]
          congr 1
          omega
        have lh : ((ofH b n R i).map V.int).length = b.toNat := by unfold ofH; simp
        refine ⟨_, rfl, x, _, _, _, _, rfl, I5.ob, T.cl_Image, T.na_Image_holdings, rfl, _, rfl, A.ho, _, _, i, rfl, rfl, I5.ho, ix _ lh, ?_⟩
        have I6 := I5.putHo (i := i) (x := 1)
        refine ⟨_, rfl, x, _, _, _, _, rfl, I6.ob, T.cl_Image, T.na_Image_stamps, rfl, _, rfl, A.st, _, _, i, rfl, rfl, I6.st, ix _ lh, ?_⟩
        have I7 := I6.putSt (i := i) (x := 1)
        refine ⟨_, u3, _, rfl, ?_, ?_, N, eA⟩
        · unfold ofV at I7 ⊢
          dsimp only at I7 ⊢
          rw [ofM_succ (by omega), if_neg hk, ofH_succ (by omega), if_neg hk]
          exact I7
        · exact fun y o e => by
            rw [upd_ne (ne_of_none e N.st), upd_ne (ne_of_none e N.ho)]
            exact S5 _ _ e
    · rintro σ H' ⟨A, u3, u4, rfl, I, S, N, eA⟩
      exact ⟨_, rfl, k H' x A S nx I N eA⟩
end
end K07
namespace K07
open PySem PySem.Spec PyProof.Rows L2 Rg
def setC (M : List (List Int)) (i j : Nat) (x : Int) : List (List Int) := M.set i ((M[i]?.getD []).set j x)
theorem setC_len {M : List (List Int)} {i j : Nat} {x : Int} : (setC M i j x).length = M.length := by
  unfold setC
  rw [List.length_set]
theorem setC_at {M : List (List Int)} {i j : Nat} {x : Int} {m : List Int} (h : M[i]? = some m) : (setC M i j x)[i]? = some (m.set j x) := by
  have hi := (List.getElem?_eq_some_iff.mp h).1
  unfold setC
  rw [List.getElem?_set_self hi, h]
  rfl
theorem ImgAt.setC {CI CP : Addr} {H : Hp} {im : Addr} {A : IA} {v : IV} {b n s : Int} (I : ImgAt CI CP H im A v b n s) {i j : Nat} {x : Int} {r : Addr} {m : List Int} (hr : A.rs[i]? = some r) (hm : v.M[i]? = some m) :
    ImgAt CI CP (upd H r (.lst ((m.map V.int).set j (V.int x)))) im A { v with M := setC v.M i j x } b n s := by
  have h8 : m.length = 8 := I.d1 m (List.mem_of_getElem? hm)
  have := I.putRow (m := m.set j x) hr (by rw [List.length_set]; exact h8)
  rw [List.map_set] at this
  unfold K07.setC
  rw [hm]
  exact this
/-- the index i of a list of a known length -/
theorem ixN_nat {n : Nat} {z : Int} {i : Nat} (e : z = i) (h : i < n) : ixN n z = some i := by
  subst e
  unfold ixN
  rw [if_pos (by omega), if_pos (by omega)]
  rfl
def zerosM (b : Int) : List (List Int) := List.replicate b.toNat (List.replicate 8 0)
def fmM (b : Int) : Nat → List (List Int)
  | 0 => zerosM b
  | k + 1 => setC (fmM b k) (2 + k / 8) (k % 8) 1
def freshM (b n : Int) : List (List Int) :=
  let r := (2 + (b + 8 - 1) / 8).toNat
  setC (setC (setC (fmM b (r + n.toNat)) r 0 2) r 1 1) r 7 1
section
variable {P : Program} {w : World} {K : PySem.W.Frag} {mg : Str → Option Value} {base : Heap}
def sp_fresh (CI CP : Addr) : Sp := fun vs H Q _ => ∃ (pl : Addr) (b n s : Int), vs = [.ref pl] ∧ PlanAt CP H pl b n s ∧
  ∀ (H' : Hp) (im : Addr) (A : IA), Same H H' → H im = none → ImgAt CI CP H' im A (ofV b n (freshM b n) b.toNat) b n s → A.New H → A.pl = pl → Q (.ref im) H'
theorem ok_fresh (T : Tx K mg) : FnOk P w K mg base CX0 4 T.f_Image_fresh T.fd_Image_fresh ["plan"] (sp_fresh T.C_Image T.C_Plan) := by
  refine T.F_Image_fresh.ok sc_Image_fresh (fun vs H Q E h => ?_) (fun cdv A0 outer s H vs Q E hr h => ?_)
  · obtain ⟨_, _, _, _, rfl, _⟩ := h; rfl
  · obtain ⟨pl, b, n, sl, rfl, hP, k⟩ := h
    have hr1 : Room 1 _ := hr.mono (by decide)
    have hr2 : Room 2 _ := hr.mono (by decide)
    refine ⟨_, (pss_cons (ps_set (i := 1) sc_Image_fresh.nd rfl (.inl rfl) (pe_make T.mk_Image (ok_Image_init T) hr2 rfl T.mg_Image (b_Image___init__ T) .nil pass0 (pa_cons (pv 0) pa_nil)))
      (pss_cons (ps_for PassesOwn.never rfl (pi_range1 rfl T.b_range (pa_cons (pe_fld (pv 0) rfl) pa_nil)) (pg_name (i := 2) sc_Image_fresh.nd rfl (.inl rfl))
        (pss_cons (ps_asg (pe_meth (pv 0) T.cl_Plan T.m_Plan_map_place (ok_Plan_map_place T) hr1 (b_Plan_map_place T) .nil pass0 (pa_cons (pv 2) pa_nil)) (pg_tup rfl (pgs_cons (pg_name (i := 3) sc_Image_fresh.nd rfl (.inl rfl)) (pgs_cons (pg_name (i := 4) sc_Image_fresh.nd rfl (.inl rfl)) pgs_nil))))
        (pss_one (ps_asg (pe_cv T.mg_Plan T.cr_Plan T.cv_Plan_LOGGED) (pg_sub (pe_ix ix_list (pe_fld (pv 1) rfl) (pv 3) (fun _ _ => rfl)) (pv 4) set_list)))))
      (pss_cons (ps_set (i := 5) sc_Image_fresh.nd rfl (.inl rfl) (pe_ix ix_list (pe_fld (pv 1) rfl) (pe_meth (pv 0) T.cl_Plan T.m_Plan_node_block (ok_Plan_node_block T) hr1 (b_Plan_node_block T) .nil pass0 (pa_cons (pe_gc T.c_ROOT) pa_nil)) (fun _ _ => rfl)))
      (pss_cons (ps_asg (pe_gc T.c_FOLDER) (pg_sub (pv 5) (pe_gc T.c_KIND) set_list))
      (pss_cons (ps_asg pe_int (pg_sub (pv 5) (pe_gc T.c_LINKS) set_list))
      (pss_cons (ps_asg pe_int (pg_sub (pv 5) (pe_gc T.c_MAKING) set_list))
      (pss_one (ps_ret (pe_smeth T.mg_Image T.cr_Image T.sm_Image_of_cells (ok_of_cells T) hr (b_Image_of_cells T) .nil pass0 (pa_cons (pv 0) (pa_cons (pe_fld (pv 1) rfl) pa_nil))))))))))), ?_⟩
    obtain ⟨dxp, hpl⟩ := hP.ob
    have hb1 := hP.b1
    have hb2 := hP.b2
    have hd := hP.d
    have hn1 := hP.n1
    -- image = Image(plan)
    refine ⟨_, rfl, fun x dx nx ndx nex => ?_⟩
    have s1 : Same H (upd (upd H dx (.own x)) x (.ins T.C_Image dx [])) := (same_upd ndx).trans (same_upd (by rw [upd_ne nex.symm]; exact nx))
    refine ⟨x, dx, pl, b, n, sl, rfl, upd_same, hP.same s1, fun H1 A k1 I1 N1 eA => ⟨rfl, ?_⟩⟩
    have S1 : Same H H1 := fun y o e => k1 y o (s1 _ _ e) (ne_of_none e nx)
    have Nrs : ∀ q ∈ A.rs, H q = none := fun q hq => un (un (N1.rs q hq))
    have pr : pl ∉ A.rs := fun z => by rw [Nrs _ z] at hpl; cases hpl
    -- the map
    refine ⟨_, rfl, pl, _, dxp, _, _, rfl, S1 _ _ hpl, T.cl_Plan, T.na_Plan_first_data, rfl, _, rfl, by omega, by omega, for_range (lo := 0) (n := (2 + (b + 8 - 1) / 8 + n).toNat) (fun i σ H' => ∃ (u2 u3 u4 : Option V), σ = [some (.ref pl), some (.ref x), u2, u3, u4, none] ∧ ImgAt T.C_Image T.C_Plan H' x A { zeroV b with M := fmM b i } b n sl ∧ Same H H')
      ⟨_, _, _, rfl, I1, S1⟩ ?_ ?_⟩
    · rintro i σ H' hi ⟨u2, u3, u4, rfl, I, S⟩
      refine ⟨_, rfl, pl, dxp, _, rfl, S _ _ hpl, rfl, _, rfl, pl, b, n, sl, _, rfl, hP.same S, fun t ht => ?_⟩
      have st := same_upd (o := .tup [.int (2 + (0 + (i : Int)) / 8), .int ((0 + (i : Int)) % 8)]) ht
      refine ⟨t, _, rfl, .inl (.inl upd_same), rfl, _, _, rfl, _, _, rfl, rfl, ?_⟩
      have It := I.keep st
      have d0 := It.d0
      have hl : 2 + i / 8 < (fmM b i).length := by
        have : ((fmM b i).length : Int) = b := d0
        omega
      obtain ⟨r, hr1, hr2, _⟩ := It.gr.get (List.getElem?_eq_getElem hl)
      have h8 : ((fmM b i)[2 + i / 8]).length = 8 := It.d1 _ (List.getElem_mem hl)
      refine ⟨_, rfl, x, _, _, _, _, rfl, It.ob, T.cl_Image, T.na_Image_cells, rfl, _, rfl, A.ca, _, _, .ref r, rfl, rfl, .of It.gr.out, at_of (j := 2 + i / 8) (by omega) (by rw [List.getElem?_map, hr1]; rfl), _, rfl, r, _, _, i % 8, rfl, rfl, hr2, ixN_nat (by omega) (by rw [List.length_map, h8]; omega), ?_⟩
      refine ⟨_, _, _, rfl, It.setC (j := i % 8) (x := 1) hr1 (List.getElem?_eq_getElem hl), fun y o e => ?_⟩
      rw [upd_ne (ne_of_none e (Nrs r (List.mem_of_getElem? hr1)))]
      exact st _ _ (S _ _ e)
    · rintro σ H' ⟨u2, u3, u4, rfl, I, S⟩
      have d0 := I.d0
      -- root = ..
      have hl : (2 + (b + 8 - 1) / 8).toNat < (fmM b (2 + (b + 8 - 1) / 8 + n).toNat).length := by
        have : ((fmM b (2 + (b + 8 - 1) / 8 + n).toNat).length : Int) = b := d0
        omega
      obtain ⟨r, hr1, hr2, _⟩ := I.gr.get (List.getElem?_eq_getElem hl)
      generalize hm : (fmM b (2 + (b + 8 - 1) / 8 + n).toNat)[(2 + (b + 8 - 1) / 8).toNat] = m at hr2
      have hm' : (fmM b (2 + (b + 8 - 1) / 8 + n).toNat)[(2 + (b + 8 - 1) / 8).toNat]? = some m := by rw [List.getElem?_eq_getElem hl, hm]
      have h8 : m.length = 8 := I.d1 _ (List.mem_of_getElem? hm')
      refine ⟨_, rfl, x, _, _, _, _, rfl, I.ob, T.cl_Image, T.na_Image_cells, rfl, _, rfl, pl, dxp, _, rfl, S _ _ hpl, rfl, pl, b, n, sl, 1, rfl, hP.same S, A.ca, _, _, .ref r, rfl, rfl, .of I.gr.out, at_of (j := (2 + (b + 8 - 1) / 8).toNat) (by omega) (by rw [List.getElem?_map, hr1]; rfl), ?_⟩
      refine ⟨_, rfl, r, _, _, 0, rfl, rfl, hr2, ixN_nat rfl (by rw [List.length_map, h8]; omega), ?_⟩
      have I1 := I.setC (j := 0) (x := 2) hr1 hm'
      refine ⟨_, rfl, r, _, _, 1, rfl, rfl, upd_same, ixN_nat rfl (by simp [h8]), ?_⟩
      have e1 : (m.map V.int).set 0 (V.int 2) = (m.set 0 2).map V.int := List.map_set.symm
      rw [e1] at I1 ⊢
      have I2 := I1.setC (j := 1) (x := 1) hr1 (setC_at hm')
      refine ⟨_, rfl, r, _, _, 7, rfl, rfl, upd_same, ixN_nat rfl (by simp [h8]), ?_⟩
      have e2 : ((m.set 0 2).map V.int).set 1 (V.int 1) = ((m.set 0 2).set 1 1).map V.int := List.map_set.symm
      rw [e2] at I2 ⊢
      have I3 := I2.setC (j := 7) (x := 1) hr1 (setC_at (setC_at hm'))
      rw [upd_upd, upd_upd]
      rw [upd_upd, upd_upd] at I3
      generalize hHf : upd H' r (.lst ((((m.set 0 2).set 1 1).map V.int).set 7 (V.int 1))) = Hf at I3 ⊢
      have Sf : Same H Hf := fun y o e => by
        rw [← hHf, upd_ne (ne_of_none e (Nrs r (List.mem_of_getElem? hr1)))]
        exact S _ _ e
      have eM : freshM b n = setC (setC (setC (fmM b (2 + (b + 8 - 1) / 8 + n).toNat) (2 + (b + 8 - 1) / 8).toNat 0 2) (2 + (b + 8 - 1) / 8).toNat 1 1) (2 + (b + 8 - 1) / 8).toNat 7 1 := by
        unfold freshM
        rw [show (2 + (b + 8 - 1) / 8 + n).toNat = (2 + (b + 8 - 1) / 8).toNat + n.toNat by omega]
      refine ⟨_, rfl, _, rfl, x, _, _, _, _, rfl, I3.ob, T.cl_Image, T.na_Image_cells, rfl, pl, A.ca, A.rs, _, b, n, sl, rfl, hP.same Sf, I3.gr, I3.d0, I3.d1, fun H2 im A2 S2 nim I2 N2 eA2 => ?_⟩
      have fr : ∀ y, Hf y = none → H y = none := fun y e => Sf.free e
      refine k H2 im A2 (Sf.trans S2) (fr _ nim) ?_ ⟨fr _ N2.ca, fun q hq => fr _ (N2.rs q hq), fr _ N2.ho, fr _ N2.st, fr _ N2.hd⟩ eA2
      rw [eM]
      exact I2
end
end K07
namespace K07
open PySem PySem.Spec PyProof.Rows L2 Rg
section
variable {P : Program} {w : World} {K : PySem.W.Frag} {mg : Str → Option Value} {base : Heap}
def sp_twin (CI CP : Addr) : Sp := fun vs H Q _ => ∃ (im : Addr) (A : IA) (v : IV) (b n s : Int), vs = [.ref im] ∧ ImgAt CI CP H im A v b n s ∧
  ∀ (H' : Hp) (im' : Addr) (A' : IA), Same H H' → H im' = none → ImgAt CI CP H' im' A' v b n s → A'.New H → A'.pl = A.pl → A'.ba = A.ba → Q (.ref im') H'
theorem ok_twin (T : Tx K mg) : FnOk P w K mg base CX0 3 T.f_Image_twin T.fd_Image_twin ["self"] (sp_twin T.C_Image T.C_Plan) := by
  refine T.F_Image_twin.ok sc_Image_twin (fun vs H Q E h => ?_) (fun cdv A0 outer s H vs Q E hr h => ?_)
  · obtain ⟨_, _, _, _, _, _, rfl, _⟩ := h; rfl
  · obtain ⟨im, A, v, b, n, sl, rfl, I, k⟩ := h
    refine ⟨_, (pss_cons (ps_set (i := 1) sc_Image_twin.nd rfl (.inl rfl) (pe_make T.mk_Image (ok_Image_init T) hr rfl T.mg_Image (b_Image___init__ T) .nil pass0 (pa_cons (pe_fld (pv 0) rfl) pa_nil)))
      (pss_cons (ps_fld (pv 1) (pe_lc rfl (own := [("row", 2)]) (g := gName 2) (tt := tYes) sc_Image_twin.nd (pi_list (pe_fld (pv 0) rfl)) (blkOk_by (N := ["self", "other", "row"]) (sc := defScope s_Image_twin) (by decide +kernel)) (fun _ _ _ _ _ => pg_name (i := 2) sc_Image_twin.nd rfl (Or.inl rfl)) (fun _ _ _ _ _ => pts_nil) (fun _ _ _ _ _ => (pe_listof (K := K) (pv 2) T.b_list))) rfl)
      (pss_cons (ps_fld (pv 1) (pe_listof (K := K) (pe_fld (pv 0) rfl) T.b_list) rfl)
      (pss_cons (ps_fld (pv 1) (pe_listof (K := K) (pe_fld (pv 0) rfl) T.b_list) rfl)
      (pss_cons (ps_fld (pv 1) (pe_callTy call_dictD rfl T.b_dict (by decide +kernel) (pa_cons (pe_fld (pv 0) rfl) pa_nil)) rfl)
      (pss_cons (ps_fld (pv 1) (pe_fld (pv 0) rfl) rfl)
      (pss_cons (ps_fld (pv 1) (pe_fld (pv 0) rfl) rfl)
      (pss_cons (ps_fld (pv 1) (pe_fld (pv 0) rfl) rfl)
      (pss_one (ps_ret (pv 1))))))))))), ?_⟩
    obtain ⟨dxp, hpl⟩ := I.pl.ob
    have hb1 := I.pl.b1
    have hb2 := I.pl.b2
    -- other = Image(self.plan)
    refine ⟨_, rfl, im, _, _, _, _, rfl, I.ob, T.cl_Image, T.na_Image_plan, rfl, fun x dx nx ndx nex => ?_⟩
    have s1 : Same H (upd (upd H dx (.own x)) x (.ins T.C_Image dx [])) := (same_upd ndx).trans (same_upd (by rw [upd_ne nex.symm]; exact nx))
    refine ⟨x, dx, A.pl, b, n, sl, rfl, upd_same, I.pl.same s1, fun H1 A1 k1 I1 N1 eA => ⟨rfl, ?_⟩⟩
    have S1 : Same H H1 := fun y o e => k1 y o (s1 _ _ e) (ne_of_none e nx)
    have J1 := I.keep S1
    -- other.cells
    refine ⟨_, rfl, im, _, _, _, _, rfl, J1.ob, T.cl_Image, T.na_Image_cells, rfl, A.ca, rfl, ⟨_, .of J1.gr.out⟩, fun D hD => ?_⟩
    refine lc_list (K := K) (a := A.ca) (xs := A.rs.map V.ref) (fun i H' => ∃ qs, NewGrid H1 H' D qs (v.M.take i))
      ⟨[], NewGrid.start (Same.refl _) hD hD⟩ (fun i H' _ ⟨qs, G⟩ => .of (G.same _ _ J1.gr.out)) ?_ ?_
    · rintro i y H' hi ⟨qs, G⟩
      have hil : i < A.rs.length := by
        have := (List.getElem?_eq_some_iff.mp hi).1
        rw [List.length_map] at this
        exact this
      rw [List.getElem?_map, List.getElem?_eq_getElem hil] at hi
      have hi : V.ref A.rs[i] = y := Option.some.inj hi
      subst hi
      have hiR : i < v.M.length := by rw [← J1.gr.len]; exact hil
      have hrow := G.same _ _ (J1.gr.row i A.rs[i] v.M[i] (List.getElem?_eq_getElem hil) (List.getElem?_eq_getElem hiR))
      have d0 := I.d0
      refine ⟨rfl, ?_⟩
      refine yes_ ?_
      refine ⟨_, rfl, A.rs[i], _, rfl, .inl (.of hrow), fun q hq => ?_⟩
      refine ⟨_, by rw [upd_ne (ne_of_none G.grid.out hq)]; exact G.grid.out, ?_, qs ++ [q], ?_⟩
      · rw [List.length_map, G.grid.len, List.length_take]
        exact small1000 (by omega)
      · rw [List.take_succ, List.getElem?_eq_getElem hiR]
        exact G.snoc (same_upd hq) hq upd_same
    rintro H2 ⟨qs, G⟩
    rw [List.length_map, J1.gr.len, List.take_length] at G
    have I2 : ImgAt T.C_Image T.C_Plan H2 x A1 (zeroV b) b n sl := I1.keep G.same
    have J2 := J1.keep G.same
    have nix : im ≠ x := ne_of_none I.ob nx
    refine ⟨_, rfl, x, _, _, _, rfl, I2.ob, T.cl_Image, T.na_Image_cells, (by show 8 < 1000; decide), ?_⟩
    generalize hH3 : upd H2 x _ = H3
    obtain ⟨e3, k3, n3⟩ := own_f hH3
    have o3 := k3.at1 J2.ob nix
    have nxho : A.ho ≠ x := ne_of_none I.ho nx
    have nxst : A.st ≠ x := ne_of_none I.st nx
    have nxhd : A.hd ≠ x := ne_of_none I.hd nx
    -- other.holdings
    refine ⟨_, rfl, im, _, _, _, _, rfl, o3, T.cl_Image, T.na_Image_holdings, rfl, A.ho, _, rfl, .inl (.of (k3.at1 J2.ho nxho)), fun ho hho => ?_⟩
    generalize hH4 : upd H3 ho _ = H4
    obtain ⟨e4, s4, n4⟩ := new_f hH4 hho
    refine ⟨_, rfl, x, _, _, _, rfl, s4 _ _ e3, T.cl_Image, T.na_Image_holdings, (by show 8 < 1000; decide), ?_⟩
    generalize hH5 : upd H4 x _ = H5
    obtain ⟨e5, k5, n5⟩ := own_f hH5
    have o5 := k5.at1 (s4 _ _ o3) nix
    have nhox : ho ≠ x := (ne_of_none e3 hho).symm
    have ho5 := k5.at1 e4 nhox
    -- other.stamps
    refine ⟨_, rfl, im, _, _, _, _, rfl, o5, T.cl_Image, T.na_Image_stamps, rfl, A.st, _, rfl, .inl (.of (k5.at1 (s4 _ _ (k3.at1 J2.st nxst)) nxst)), fun st hst => ?_⟩
    generalize hH6 : upd H5 st _ = H6
    obtain ⟨e6, s6, n6⟩ := new_f hH6 hst
    refine ⟨_, rfl, x, _, _, _, rfl, s6 _ _ e5, T.cl_Image, T.na_Image_stamps, (by show 8 < 1000; decide), ?_⟩
    generalize hH7 : upd H6 x _ = H7
    obtain ⟨e7, k7, n7⟩ := own_f hH7
    have o7 := k7.at1 (s6 _ _ o5) nix
    have nstx : st ≠ x := (ne_of_none e5 hst).symm
    have nstho : st ≠ ho := (ne_of_none ho5 hst).symm
    have st7 := k7.at1 e6 nstx
    have ho7 := k7.at1 (s6 _ _ ho5) nhox
    -- other.handles
    have hd7 := k7.at1 (s6 _ _ (k5.at1 (s4 _ _ (k3.at1 J2.hd nxhd)) nxhd)) nxhd
    refine ⟨_, rfl, im, _, _, _, _, rfl, o7, T.cl_Image, T.na_Image_handles, rfl, A.hd, _, rfl, .inl hd7, fun hd hhd => ?_⟩
    generalize hH8 : upd H7 hd _ = H8
    obtain ⟨e8, s8, n8⟩ := new_f hH8 hhd
    refine ⟨_, rfl, x, _, _, _, rfl, s8 _ _ e7, T.cl_Image, T.na_Image_handles, (by show 8 < 1000; decide), ?_⟩
    generalize hH9 : upd H8 x _ = H9
    obtain ⟨e9, k9, n9⟩ := own_f hH9
    have nhdx : hd ≠ x := (ne_of_none e7 hhd).symm
    have o9 := k9.at1 (s8 _ _ o7) nix
    -- serial, wish, barred
    refine ⟨_, rfl, im, _, _, _, _, rfl, o9, T.cl_Image, T.na_Image_serial, rfl, _, rfl, x, _, _, _, rfl, e9, T.cl_Image, T.na_Image_serial, (by show 8 < 1000; decide), ?_⟩
    generalize hH10 : upd H9 x _ = H10
    obtain ⟨e10, k10, n10⟩ := own_f hH10
    refine ⟨_, rfl, im, _, _, _, _, rfl, k10.at1 o9 nix, T.cl_Image, T.na_Image_wish, rfl, _, rfl, x, _, _, _, rfl, e10, T.cl_Image, T.na_Image_wish, (by show 8 < 1000; decide), ?_⟩
    generalize hH11 : upd H10 x _ = H11
    obtain ⟨e11, k11, n11⟩ := own_f hH11
    refine ⟨_, rfl, im, _, _, _, _, rfl, k11.at1 (k10.at1 o9 nix) nix, T.cl_Image, T.na_Image_barred, rfl, _, rfl, x, _, _, _, rfl, e11, T.cl_Image, T.na_Image_barred, (by show 8 < 1000; decide), ?_⟩
    generalize hH12 : upd H11 x _ = H12
    obtain ⟨e12, k12, n12⟩ := own_f hH12
    have k9' : Kp [x] H9 H12 := (k10.trans k11).trans k12
    have k2' : Kp [x] H2 H12 := (((((k3.same s4).trans k5).same s6).trans k7).same s8).trans (k9.trans k9')
    have S12 : Same H H12 := fun y o e => k2'.at1 (G.same _ _ (S1 _ _ e)) (ne_of_none e nx)
    have N1' : ∀ y, H1 y = none → H y = none := fun y e => S1.free e
    have f_ho : H2 ho = none := (n3 _ hho).1
    have f_st : H2 st = none := (n3 _ (n4 _ (n5 _ hst).1).1).1
    have f_hd : H2 hd = none := (n3 _ (n4 _ (n5 _ (n6 _ (n7 _ hhd).1).1).1).1).1
    have fr : ∀ y, H2 y = none → H y = none := fun y e => N1' _ (G.same.free e)
    have xD : x ≠ D := ne_of_none I1.ob G.freshD
    have xq : x ∉ qs := (G.nin0 I1.ob).2
    have qn : ∀ y, H2 y = none → y ∉ qs := fun y e hq => by
      obtain ⟨o, z⟩ := G.grid.held hq
      rw [e] at z
      cases z
    refine ⟨_, rfl, k H12 x ⟨A1.dx, A1.pl, D, qs, ho, st, hd, A.ba⟩ S12 nx
      { ob := e12, pl := ?_, gr := G.grid.keep fun y o hy e => k2'.at1 e ?_, ho := k9'.at1 (k9.at1 (s8 _ _ ho7) nhox) nhox, st := k9'.at1 (k9.at1 (s8 _ _ st7) nstx) nstx, hd := k9'.at1 (k9.at1 e8 nhdx) nhdx, ba := S12 _ _ I.ba, n1 := qn _ f_ho, n2 := qn _ f_st, n3 := nstho.symm, n4 := ne_of_none G.grid.out f_ho, n5 := ne_of_none G.grid.out f_st, d0 := I.d0, d1 := I.d1, d2 := I.d2, d3 := I.d3 }
      ⟨N1' _ G.freshD, fun q hq => N1' _ (G.fresh q hq), fr _ f_ho, fr _ f_st, fr _ f_hd⟩ eA rfl⟩
    · show PlanAt T.C_Plan H12 A1.pl b n sl
      rw [eA]
      exact I.pl.same S12
    · rcases hy with rfl | hy
      · exact xD.symm
      · exact fun z => xq (by rw [← z]; exact hy)
end
end K07
namespace K07
open PySem PySem.Spec PyProof.Rows L2 Rg
/-- what an image is read from -/
def IA.reads (A : IA) (im : Addr) : List Addr := im :: A.pl :: A.ca :: A.ho :: A.st :: A.hd :: A.ba :: A.rs
section
variable {CI CP : Addr} {H : Hp} {im : Addr} {A : IA} {v : IV} {b n s : Int}
theorem ImgAt.keepF {H' : Hp} (I : ImgAt CI CP H im A v b n s) (h : ∀ x o, x ∈ A.reads im → H x = some o → H' x = some o) : ImgAt CI CP H' im A v b n s :=
  { I with ob := h _ _ (by simp [IA.reads]) I.ob, pl := I.pl.of fun o e => h _ _ (by simp [IA.reads]) e, gr := I.gr.keep fun x o hx e => h _ _ (by rcases hx with rfl | hx <;> simp [IA.reads, *]) e, ho := h _ _ (by simp [IA.reads]) I.ho, st := h _ _ (by simp [IA.reads]) I.st, hd := h _ _ (by simp [IA.reads]) I.hd, ba := h _ _ (by simp [IA.reads]) I.ba }
theorem ImgAt.held (I : ImgAt CI CP H im A v b n s) {x : Addr} (h : x ∈ A.reads im) : ∃ o, H x = some o := by
  obtain ⟨dxp, hpl⟩ := I.pl.ob
  simp only [IA.reads, List.mem_cons] at h
  rcases h with rfl | rfl | rfl | rfl | rfl | rfl | rfl | h
  · exact ⟨_, I.ob⟩
  · exact ⟨_, hpl⟩
  · exact ⟨_, I.gr.out⟩
  · exact ⟨_, I.ho⟩
  · exact ⟨_, I.st⟩
  · exact ⟨_, I.hd⟩
  · exact ⟨_, I.ba⟩
  · exact I.gr.held h
/-- the fields of begin -/
theorem ImgAt.beg {t : Addr} {se wi : Int} {bs : List Int} (I : ImgAt CI CP H im A v b n s) (ht : H t = some (.tup (bs.map V.int))) :
    ImgAt CI CP (upd H im (.ins CI A.dx (imgF { A with ba := t } { v with se := se, wi := wi, ba := bs }))) im { A with ba := t } { v with se := se, wi := wi, ba := bs } b n s := by
  obtain ⟨dxp, hpl⟩ := I.pl.ob
  have oc := I.ob
  refine { I with ob := upd_same, pl := I.pl.of fun o e => ?_, gr := I.gr.keep fun y o hy e => ?_, ho := ?_, st := ?_, hd := ?_, ba := ?_ }
  · rw [upd_ne (fun z : A.pl = im => ?_)]
    · exact e
    · rw [z, oc] at hpl
      have := HO.ins.inj (Option.some.inj hpl)
      have := this.2.2
      simp [planF, imgF] at this
  · rw [upd_ne]
    · exact e
    · rcases hy with rfl | hy
      · exact ne_of I.gr.out oc (by intro z; cases z)
      · rintro rfl
        obtain ⟨i, hi, e2⟩ := List.getElem_of_mem hy
        have hm : i < v.M.length := by rw [← I.gr.len]; exact hi
        have := I.gr.row i y v.M[i] (by rw [List.getElem?_eq_getElem hi, e2]) (List.getElem?_eq_getElem hm)
        rw [oc] at this
        cases this
  · rw [upd_ne (ne_of I.ho oc (by intro z; cases z))]; exact I.ho
  · rw [upd_ne (ne_of I.st oc (by intro z; cases z))]; exact I.st
  · rw [upd_ne (ne_of I.hd oc (by intro z; cases z))]; exact I.hd
  · rw [upd_ne (ne_of ht oc (by intro z; cases z))]; exact ht
end
/-- places that stand apart, each with what it holds -/
structure Fr (L : List (Addr × HO)) (H : Hp) : Prop where
  at_ : ∀ p ∈ L, H p.1 = some p.2
  nd : (L.map (·.1)).Nodup
theorem Fr.get {L : List (Addr × HO)} {H : Hp} (F : Fr L H) (i : Nat) {a : Addr} {o : HO} (h : L[i]? = some (a, o)) : H a = some o := F.at_ _ (List.mem_of_getElem? h)
theorem Fr.keep {L : List (Addr × HO)} {H H' : Hp} (F : Fr L H) (h : ∀ p ∈ L, ∀ o, H p.1 = some o → H' p.1 = some o) : Fr L H' := ⟨fun p hp => h p hp _ (F.at_ p hp), F.nd⟩
theorem Fr.same {L : List (Addr × HO)} {H H' : Hp} (F : Fr L H) (h : Same H H') : Fr L H' := F.keep fun _ _ _ e => h _ _ e
theorem Fr.put {L : List (Addr × HO)} {H : Hp} (F : Fr L H) (i : Nat) {a : Addr} {o o' : HO} (h : L[i]? = some (a, o)) : Fr (L.set i (a, o')) (upd H a o') := by
  have hi : i < L.length := (List.getElem?_eq_some_iff.mp h).1
  have e : (L.set i (a, o')).map (·.1) = L.map (·.1) := by
    apply List.ext_getElem?
    intro j
    rw [List.getElem?_map, List.getElem?_map]
    by_cases q : i = j
    · subst q
      rw [List.getElem?_set_self hi, h]
      rfl
    · rw [List.getElem?_set_ne q]
  refine ⟨fun p hp => ?_, by rw [e]; exact F.nd⟩
  obtain ⟨j, hj, ej⟩ := List.getElem_of_mem hp
  by_cases q : i = j
  · subst q
    rw [List.getElem_set_self] at ej
    rw [← ej]
    exact upd_same
  · rw [List.getElem_set_ne q] at ej
    have hjl : j < L.length := by rw [List.length_set] at hj; exact hj
    have hpL : p ∈ L := by rw [← ej]; exact List.getElem_mem hjl
    rw [upd_ne]
    · exact F.at_ p hpL
    · intro z
      have n1 : (L.map (·.1))[i]? = some a := by rw [List.getElem?_map, h]; rfl
      have n2 : (L.map (·.1))[j]? = some a := by rw [List.getElem?_map, List.getElem?_eq_getElem hjl, ej, ← z]; rfl
      have il : i < (L.map (·.1)).length := by rw [List.length_map]; exact hi
      have jl : j < (L.map (·.1)).length := by rw [List.length_map]; exact hjl
      rw [List.getElem?_eq_getElem il] at n1
      rw [List.getElem?_eq_getElem jl] at n2
      exact q ((List.getElem_inj F.nd).mp ((Option.some.inj n1).trans (Option.some.inj n2).symm))
theorem Fr.held {L : List (Addr × HO)} {H : Hp} (F : Fr L H) {a : Addr} (h : H a = none) : ∀ p ∈ L, p.1 ≠ a := fun p hp z => by
  have := F.at_ p hp
  rw [z, h] at this
  cases this
/-- one more, at a new place -/
theorem Fr.cons {L : List (Addr × HO)} {H : Hp} (F : Fr L H) {a : Addr} {o : HO} (h : H a = none) : Fr ((a, o) :: L) (upd H a o) := by
  refine ⟨fun p hp => ?_, ?_⟩
  · rcases List.mem_cons.mp hp with rfl | hp
    · exact upd_same
    · rw [upd_ne (F.held h p hp)]
      exact F.at_ p hp
  · rw [List.map_cons, List.nodup_cons]
    refine ⟨fun z => ?_, F.nd⟩
    obtain ⟨p, hp, e⟩ := List.mem_map.mp z
    exact F.held h p hp e
theorem Fr.nil {H : Hp} : Fr [] H := ⟨fun _ h => absurd h List.not_mem_nil, List.nodup_nil⟩
/-- an image, and places apart from it -/
structure SI (CI CP : Addr) (H : Hp) (im : Addr) (A : IA) (v : IV) (b n s : Int) (L : List (Addr × HO)) : Prop where
  I : ImgAt CI CP H im A v b n s
  F : Fr L H
  ap : ∀ p ∈ L, p.1 ∉ A.reads im
section
variable {CI CP : Addr} {H : Hp} {im : Addr} {A : IA} {v : IV} {b n s : Int} {L : List (Addr × HO)}
theorem SI.same {H' : Hp} (S : SI CI CP H im A v b n s L) (h : Same H H') : SI CI CP H' im A v b n s L := ⟨S.I.keep h, S.F.same h, S.ap⟩
theorem SI.put (S : SI CI CP H im A v b n s L) (i : Nat) {a : Addr} {o o' : HO} (h : L[i]? = some (a, o)) : SI CI CP (upd H a o') im A v b n s (L.set i (a, o')) := by
  have ha := S.ap _ (List.mem_of_getElem? h)
  refine ⟨S.I.keepF fun x q hx e => ?_, S.F.put i h, fun p hp => ?_⟩
  · rw [upd_ne fun z => ha (by rw [← z]; exact hx)]
    exact e
  · rcases mem_set_of hp with e | e
    · rw [e]; exact ha
    · exact S.ap p e
/-- the image changed, at its own places -/
theorem SI.img {H' : Hp} {A' : IA} {v' : IV} (S : SI CI CP H im A v b n s L) (I' : ImgAt CI CP H' im A' v' b n s) (k : Kp (A.reads im) H H') (hr : ∀ x ∈ A'.reads im, x ∈ A.reads im ∨ H x = none) : SI CI CP H' im A' v' b n s L :=
  ⟨I', S.F.keep fun p hp o e => k _ _ e (S.ap p hp), fun p hp z => by
    rcases hr _ z with e | e
    · exact S.ap p hp e
    · exact S.F.held e p hp rfl⟩
end
section
variable {X : Cx}
def rGetL (K : PySem.W.Frag) : V → V → Hp → VK → Prop := fun x y H Q => ∃ p xs j v, x = .ref p ∧ y = .int ((j : Nat) : Int) ∧ SqL K H p xs ∧ xs[j]? = some v ∧ Q v H
theorem get_list : PGet X (rGetL X.K) := by
  intro pins s σ H o i ov iv Q I ro ri h
  obtain ⟨p, xs, j, v, rfl, rfl, hq, he, q⟩ := h
  cases ro
  obtain ⟨t, rfl⟩ := ri
  obtain ⟨its, r, pl, hz⟩ := I.list hq
  obtain ⟨w, ew, rw'⟩ := r.get he
  have hn := line63
  have hl := r.length
  have hj := (List.getElem?_eq_some_iff.mp he).1
  exact wpAny_getItem_list pl.isList (by omega) (by omega) (by simpa using ew) ⟨v, H, I, rw', q⟩
end
section
variable {P : Program} {w : World} {K : PySem.W.Frag} {mg : Str → Option Value} {base : Heap}
/-! ### begin -/
def sp_begin (CI CP : Addr) : Sp := fun vs H Q _ => ∃ (im : Addr) (A : IA) (v : IV) (b n s wi : Int) (q : Addr) (bs : List Int), vs = [.ref im, .int wi, .ref q] ∧ ImgAt CI CP H im A v b n s ∧ (H q = some (.lst (bs.map V.int)) ∨ H q = some (.tup (bs.map V.int))) ∧
  ∀ (H' : Hp) (t : Addr), ImgAt CI CP H' im { A with ba := t } { v with se := v.se + 1, wi := wi, ba := bs } b n s → Kp [im] H H' → (H t = none ∨ t = q) → Q .non H'
theorem ok_begin (T : Tx K mg) : FnOk P w K mg base CX0 1 T.f_Image_begin T.fd_Image_begin ["self", "wish", "barred"] (sp_begin T.C_Image T.C_Plan) := by
  refine T.F_Image_begin.ok sc_Image_begin (fun vs H Q E h => ?_) (fun cdv A0 outer s H vs Q E hr h => ?_)
  · obtain ⟨_, _, _, _, _, _, _, _, _, rfl, _⟩ := h; rfl
  · obtain ⟨im, A, v, b, n, sl, wi, q, bs, rfl, I, hq, k⟩ := h
    refine ⟨_, (pss_cons (ps_fldaug (pv 0) pe_int in_add)
      (pss_cons (ps_fld (pv 0) (pv 1) rfl)
      (pss_one (ps_fld (pv 0) (pe_callTy call_tuple_of rfl T.b_tuple (by decide +kernel) (pa_cons (pv 2) pa_nil)) rfl)))), ?_⟩
    refine ⟨_, rfl, im, _, _, _, _, rfl, I.ob, T.cl_Image, T.na_Image_serial, rfl, _, _, rfl, rfl, _, _, I.ob, (by show 8 < 1000; decide), ?_⟩
    refine ⟨_, rfl, _, rfl, im, _, _, _, rfl, upd_same, T.cl_Image, T.na_Image_wish, (by show 8 < 1000; decide), ?_⟩
    rw [upd_upd]
    have k0 : ∀ o, Kp [im] H (upd H im o) := fun o => Kp.refl.own1
    have qn : q ≠ im := fun z => by
      rw [z, I.ob] at hq
      rcases hq with e | e <;> cases e
    refine ⟨_, rfl, q, bs.map V.int, rfl, ?_⟩
    rcases hq with hq | hq
    · refine .inl ⟨.of ((k0 _).at1 hq qn), fun t ht => ?_⟩
      refine ⟨_, rfl, im, _, A.dx, _, rfl, (by rw [upd_ne (unn' ht), upd_same]), T.cl_Image, T.na_Image_barred, (by show 8 < 1000; decide), ?_⟩
      have ti := unn' ht
      have t0 := un ht
      have e1 : ∀ o1 o2 o3, upd (upd (upd H im o1) t o2) im o3 = upd (upd H t o2) im o3 := fun o1 o2 o3 => by
        rw [upd_comm ti, upd_upd]
      rw [e1]
      exact k _ t ((I.keep (same_upd t0)).beg upd_same) ((Kp.of (same_upd t0)).own1) (.inl t0)
    · refine .inr ⟨.of ((k0 _).at1 hq qn), ?_⟩
      refine ⟨_, rfl, im, _, A.dx, _, rfl, upd_same, T.cl_Image, T.na_Image_barred, (by show 8 < 1000; decide), ?_⟩
      rw [upd_upd]
      exact k _ q (I.beg hq) (k0 _) (.inr rfl)
/-! ### data_blocks, free_blocks, identity -/
def rng (lo : Int) (n : Nat) : List Int := (List.range n).map fun i => lo + (i : Nat)
theorem rng_succ {lo : Int} {n : Nat} : rng lo (n + 1) = rng lo n ++ [lo + n] := by
  unfold rng
  rw [List.range_succ, List.map_append]
  rfl
theorem rng_len {lo : Int} {n : Nat} : (rng lo n).length = n := by unfold rng; simp
theorem rng_get {lo : Int} {n i : Nat} (h : i < n) : (rng lo n)[i]? = some (lo + i) := by
  unfold rng
  rw [List.getElem?_map, List.getElem?_range h]
  rfl
theorem rng_mem {lo x : Int} {n : Nat} (h : x ∈ rng lo n) : lo ≤ x ∧ x < lo + n := by
  unfold rng at h
  obtain ⟨i, hi, e⟩ := List.mem_map.mp h
  rw [List.mem_range] at hi
  omega
theorem rgV_rng (a b : Int) : rgV a b = (rng a (b - a).toNat).map V.int := by
  unfold rgV rng
  rw [List.map_map]
  rfl
def sp_data_blocks (CP : Addr) : Sp := fun vs H Q _ => ∃ (p : Addr) (b n s : Int), vs = [.ref p] ∧ PlanAt CP H p b n s ∧ ∀ q, H q = none → Q (.ref q) (upd H q (.lst ((rng (2 + (b + 8 - 1) / 8 + n) (b - (2 + (b + 8 - 1) / 8 + n)).toNat).map V.int)))
theorem ok_data_blocks (T : Tx K mg) : FnOk P w K mg base CX0 1 T.f_Plan_data_blocks T.fd_Plan_data_blocks ["self"] (sp_data_blocks T.C_Plan) := by
  refine T.F_Plan_data_blocks.ok sc_Plan_data_blocks (fun vs H Q E h => ?_) (fun cdv A0 outer s H vs Q E hr h => ?_)
  · obtain ⟨_, _, _, _, rfl, _⟩ := h; rfl
  · obtain ⟨p, b, n, sl, rfl, hP, k⟩ := h
    refine ⟨_, (pss_one (ps_ret (pe_listRg rfl rfl T.b_list (prg_2 rfl T.b_range (pe_fld (pv 0) rfl) (pe_fld (pv 0) rfl))))), ?_⟩
    obtain ⟨dxp, hpl⟩ := hP.ob
    have b1 := hP.b1
    have b2 := hP.b2
    have n1 := hP.n1
    have n2 := hP.n2
    refine ⟨_, rfl, p, _, dxp, _, _, rfl, hpl, T.cl_Plan, T.na_Plan_first_data, rfl, _, rfl, p, _, dxp, _, _, rfl, hpl, T.cl_Plan, T.na_Plan_blocks, rfl, _, _, rfl, rfl, ⟨by omega, by omega, by omega, by omega, by omega⟩, fun q hq => ?_⟩
    rw [rgV_rng]
    exact k q hq
def fdOf (b n : Int) : Int := 2 + (b + 8 - 1) / 8 + n
/-- the free data blocks -/
def freeL (b n : Int) (M : List (List Int)) : List Int := (rng (fdOf b n) (b - fdOf b n).toNat).filter fun x => decide (kindOf b n M x = 0)
def sp_free_blocks (CI CP : Addr) : Sp := fun vs H Q _ => ∃ (im : Addr) (A : IA) (v : IV) (b n s : Int), vs = [.ref im] ∧ ImgAt CI CP H im A v b n s ∧ ∀ H' p, Same H H' → H p = none → H' p = some (.lst ((freeL b n v.M).map V.int)) → Q (.ref p) H'
theorem filt_len {l : List Int} {p : Int → Bool} {m : Nat} (h : l.length ≤ m) : (l.filter p).length ≤ m := Nat.le_trans (List.length_filter_le _ _) h
theorem take_get {l : List Int} {i : Nat} {x : Int} (h : l[i]? = some x) : l.take (i + 1) = l.take i ++ [x] := by
  rw [List.take_succ, h]
  rfl
theorem ok_free_blocks (T : Tx K mg) : FnOk P w K mg base CX0 3 T.f_Image_free_blocks T.fd_Image_free_blocks ["self"] (sp_free_blocks T.C_Image T.C_Plan) := by
  refine T.F_Image_free_blocks.ok sc_Image_free_blocks (fun vs H Q E h => ?_) (fun cdv A0 outer s H vs Q E hr h => ?_)
  · obtain ⟨_, _, _, _, _, _, rfl, _⟩ := h; rfl
  · obtain ⟨im, A, v, b, n, sl, rfl, I, k⟩ := h
    have hr1 : Room 1 _ := hr.mono (by decide)
    refine ⟨_, (pss_one (ps_ret (pe_lc rfl (own := [("x", 1)]) (g := gName 1) (tt := _) sc_Image_free_blocks.nd (pi_list (pe_meth0 (pe_fld (pv 0) rfl) T.cl_Plan T.m_Plan_data_blocks (ok_data_blocks T) hr1 (b_Plan_data_blocks T) .nil pass0)) (blkOk_by (N := ["self", "x"]) (sc := defScope s_Image_free_blocks) (by decide +kernel)) (fun _ _ _ _ _ => pg_name (i := 1) sc_Image_free_blocks.nd rfl (Or.inl rfl)) (fun _ _ _ _ _ => pts_one (pt_cmpR op_eq (pe_meth (pv 0) T.cl_Image T.m_Image_kind (ok_Image_kind T) hr (b_Image_kind T) .nil pass0 (pa_cons (pv 1) pa_nil)) (pe_cv T.mg_Plan T.cr_Plan T.cv_Plan_FREE) (nomark _))) (fun _ _ _ _ _ => (pv 1))))), ?_⟩
    obtain ⟨dxp, hpl⟩ := I.pl.ob
    have b1 := I.pl.b1
    have b2 := I.pl.b2
    have n1 := I.pl.n1
    refine ⟨_, rfl, im, _, _, _, _, rfl, I.ob, T.cl_Image, T.na_Image_plan, rfl, A.pl, dxp, _, rfl, hpl, rfl, A.pl, b, n, sl, rfl, I.pl, fun q hq => ?_⟩
    have sq := same_upd (o := .lst ((rng (2 + (b + 8 - 1) / 8 + n) (b - (2 + (b + 8 - 1) / 8 + n)).toNat).map V.int)) hq
    refine ⟨q, rfl, ⟨_, .of upd_same⟩, fun D hD => ?_⟩
    have hD0 := un hD
    have nqD : q ≠ D := unn' hD
    refine lc_list (K := K) (a := q) (xs := (rng (2 + (b + 8 - 1) / 8 + n) (b - (2 + (b + 8 - 1) / 8 + n)).toNat).map V.int) (fun i H' => Same H H' ∧ H' q = some (.lst ((rng (2 + (b + 8 - 1) / 8 + n) (b - (2 + (b + 8 - 1) / 8 + n)).toNat).map V.int)) ∧ H' D = some (.lst ((((rng (2 + (b + 8 - 1) / 8 + n) (b - (2 + (b + 8 - 1) / 8 + n)).toNat).take i).filter fun x => decide (kindOf b n v.M x = 0)).map V.int)))
      ⟨sq.trans (same_upd hD), by rw [upd_ne nqD, upd_same], upd_same⟩ (fun i H' _ ⟨_, e, _⟩ => .of e) ?_ ?_
    · rintro i y H' hi ⟨S, e1, e2⟩
      rw [List.getElem?_map] at hi
      obtain ⟨x, hx, rfl⟩ := Option.map_eq_some_iff.mp hi
      have hm := rng_mem (List.mem_of_getElem? hx)
      refine ⟨rfl, ?_⟩
      refine ⟨_, rfl, im, _, _, rfl, S _ _ I.ob, rfl, _, rfl, im, A, v, b, n, sl, x, rfl, I.keep S, by omega, by omega, fun H2 S2 => ?_⟩
      refine ⟨rfl, _, rfl, ?_⟩
      rw [dec_iv]
      by_cases hk : kindOf b n v.M x = 0
      · rw [decide_eq_true hk]
        refine iteT ⟨_, rfl, _, S2 _ _ e2, ?_, fun a o z => ?_, ?_, ?_⟩
        · rw [List.length_map]
          have := filt_len (p := fun x => decide (kindOf b n v.M x = 0)) (List.length_take_le i (rng (2 + (b + 8 - 1) / 8 + n) (b - (2 + (b + 8 - 1) / 8 + n)).toNat))
          have hl := (List.getElem?_eq_some_iff.mp hx).1
          rw [rng_len] at hl
          exact small1000 (by omega)
        · rw [upd_ne (ne_of_none z hD0)]
          exact S2 _ _ (S _ _ z)
        · rw [upd_ne nqD]
          exact S2 _ _ e1
        · rw [upd_same, take_get hx, List.filter_append, List.map_append]
          rw [List.filter_cons, if_pos (by exact decide_eq_true hk)]
          rfl
      · rw [decide_eq_false hk]
        refine iteF ⟨S.trans S2, S2 _ _ e1, ?_⟩
        rw [take_get hx, List.filter_append, List.filter_cons, if_neg (by simpa using hk)]
        rw [List.filter_nil, List.append_nil]
        exact S2 _ _ e2
    · rintro H' ⟨S, e1, e2⟩
      rw [List.length_map, List.take_length] at e2
      exact k H' D S hD0 e2
end
end K07
namespace K07
open PySem PySem.Spec PyProof.Rows L2 Rg
/-! ### lists of ints and lists of such lists, compared -/
def dI (ns : List Int) : PyData := .list (ns.map PyData.int)
def dG (M : List (List Int)) : PyData := .list (M.map dI)
theorem dpAllI {K : PySem.W.Frag} {H : Hp} : ∀ ns : List Int, DpAll K H (ns.map V.int) (ns.map PyData.int)
  | [] => .nil
  | n :: ns => .cons (.int n) (dpAllI ns)
theorem dpI {K : PySem.W.Frag} {H : Hp} {a : Addr} {ns : List Int} (h : H a = some (.lst (ns.map V.int))) : Dp K H (.ref a) (dI ns) := .lst (.of h) (dpAllI ns)
theorem dpAllG {K : PySem.W.Frag} {H : Hp} : ∀ (rs : List Addr) (M : List (List Int)), rs.length = M.length → (∀ (i : Nat) (r : Addr) (m : List Int), rs[i]? = some r → M[i]? = some m → H r = some (.lst (m.map V.int))) → DpAll K H (rs.map V.ref) (M.map dI)
  | [], [], _, _ => .nil
  | r :: rs, m :: M, hl, h => .cons (dpI (h 0 r m rfl rfl)) (dpAllG rs M (by simpa using hl) fun i q n a b => h (i + 1) q n (by simpa using a) (by simpa using b))
  | [], _ :: _, hl, _ => by simp at hl
  | _ :: _, [], hl, _ => by simp at hl
theorem dpG {K : PySem.W.Frag} {H : Hp} {ca : Addr} {rs : List Addr} {M : List (List Int)} (G : Grid H ca rs M) : Dp K H (.ref ca) (dG M) := .lst (.of G.out) (dpAllG rs M G.len G.row)
theorem canI : ∀ ns : List Int, PyData.canLayAll0 (ns.map PyData.int) = true
  | [] => rfl
  | n :: ns => by
    show (PyData.canLay0 (.int n) && PyData.canLayAll0 (ns.map PyData.int)) = true
    rw [canI ns]
    rfl
theorem canG : ∀ M : List (List Int), PyData.canLayAll0 (M.map dI) = true
  | [] => rfl
  | m :: M => by
    show (PyData.canLayAll0 (m.map PyData.int) && PyData.canLayAll0 (M.map dI)) = true
    rw [canI, canG M]
    rfl
theorem depI : ∀ ns : List Int, PyData.depthAll (ns.map PyData.int) = 0
  | [] => rfl
  | n :: ns => by
    show max (PyData.depth (.int n)) (PyData.depthAll (ns.map PyData.int)) = 0
    rw [depI ns]
    rfl
theorem depG : ∀ M : List (List Int), PyData.depthAll (M.map dI) ≤ 1
  | [] => Nat.zero_le _
  | m :: M => by
    show max (PyData.depthAll (m.map PyData.int) + 1) (PyData.depthAll (M.map dI)) ≤ 1
    rw [depI m]
    have := depG M
    omega
theorem shI (ns : List Int) : SeqAt.shaped (dI ns) = true := by
  unfold SeqAt.shaped dI
  rw [Bool.and_eq_true]
  refine ⟨canI ns, decide_eq_true ?_⟩
  show PyData.depthAll (ns.map PyData.int) + 1 ≤ 64
  rw [depI ns]
  decide
theorem shG (M : List (List Int)) : SeqAt.shaped (dG M) = true := by
  unfold SeqAt.shaped dG
  rw [Bool.and_eq_true]
  refine ⟨canG M, decide_eq_true ?_⟩
  show PyData.depthAll (M.map dI) + 1 ≤ 64
  have := depG M
  omega
theorem eqI (ns : List Int) : PyData.eqv (dI ns) (dI ns) = true := SeqAt.eqv_refl _ (canI ns)
theorem eqvAllI : ∀ a b : List Int, PyData.eqvAll (a.map PyData.int) (b.map PyData.int) = decide (a = b)
  | [], [] => by simp [PyData.eqvAll]
  | [], _ :: _ => by simp [PyData.eqvAll]
  | _ :: _, [] => by simp [PyData.eqvAll]
  | x :: a, y :: b => by
    rw [List.map_cons, List.map_cons, PyData.eqvAll, eqvAllI a b]
    by_cases e : x = y
    · subst e
      by_cases f : a = b
      · subst f; simp [PyData.eqv]
      · simp [PyData.eqv, f]
    · simp [PyData.eqv, e]
theorem eqvI (a b : List Int) : PyData.eqv (dI a) (dI b) = decide (a = b) := by
  unfold dI
  rw [PyData.eqv]
  exact eqvAllI a b
end K07
namespace K07
open PySem PySem.Spec PyProof.Rows L2 Rg
/-! ### _put_block, give, take -/
def putB (v : IV) (x : Nat) (kind serial : Int) : IV := { v with M := (setC v.M (2 + x / 8) (x % 8) kind).set x (List.replicate 8 0), ho := v.ho.set x serial, st := v.st.set x serial }
def giveV (v : IV) (x o : Nat) : IV := { putB v x 0 0 with M := setC (putB v x 0 0).M 0 o (cellAt v.M 0 o - 1) }
def takeV (v : IV) (x : Nat) (kind : Int) (o : Nat) : IV := { putB v x kind v.se with M := setC (putB v x kind v.se).M 0 o (cellAt v.M 0 o + 1) }
def quota (v : IV) (o : Nat) : Prop := cellAt v.M 0 (4 + o) ≠ 0 ∧ cellAt v.M 0 (4 + o) ≤ cellAt v.M 0 o
instance {v : IV} {o : Nat} : Decidable (quota v o) := by unfold quota; infer_instance
def letL (b n : Int) (M : List (List Int)) (kind : Int) (ba : List Int) : List Int := if kind = 2 then (freeL b n M).filter fun x => decide (x ∉ ba) else freeL b n M
def pickL (l : List Int) (wi : Int) : Option Int := (l.filter fun x => decide (wi ≤ x)).head?.or l.head?
theorem setC_row {M : List (List Int)} {i j k : Nat} {x : Int} (h : i ≠ k) : (setC M i j x)[k]? = M[k]? := by
  unfold setC
  rw [List.getElem?_set_ne h]
theorem inV_int (x : Int) (l : List Int) : inV (.int x) (l.map V.int) = decide (x ∈ l) := by
  induction l with
  | nil => simp [inV]
  | cons y l ih =>
    have : inV (.int x) ((y :: l).map V.int) = (eqV (.int y) (.int x) || inV (.int x) (l.map V.int)) := rfl
    rw [this, ih]
    simp only [eqV]
    by_cases e : y = x
    · subst e; simp
    · have e' : x ≠ y := fun z => e z.symm
      simp [e, e']
theorem flat_ints (l : List Int) : (l.map V.int).all flatV = true := by
  rw [List.all_eq_true]
  intro y hy
  obtain ⟨i, _, rfl⟩ := List.mem_map.mp hy
  rfl
theorem foot_mem {A : IA} {im x : Addr} (h : x ∈ A.ca :: A.ho :: A.st :: A.rs) : x ∈ A.reads im := by
  simp only [IA.reads, List.mem_cons] at h ⊢
  rcases h with h | h | h | h <;> simp [h]
section
variable {P : Program} {w : World} {K : PySem.W.Frag} {mg : Str → Option Value} {base : Heap}
def sp_put_block (CI CP : Addr) : Sp := fun vs H Q _ => ∃ (im : Addr) (A : IA) (v : IV) (b n s : Int) (x : Nat) (kind serial : Int), vs = [.ref im, .int x, .int kind, .int serial] ∧ ImgAt CI CP H im A v b n s ∧ fdOf b n ≤ x ∧ (x : Int) < b ∧
  ∀ H' q, H q = none → ImgAt CI CP H' im { A with rs := A.rs.set x q } (putB v x kind serial) b n s → Kp (A.ca :: A.ho :: A.st :: A.rs) H H' → Q .non H'
theorem ok_put_block (T : Tx K mg) : FnOk P w K mg base CX0 2 T.f_Image__put_block T.fd_Image__put_block ["self", "x", "kind", "serial"] (sp_put_block T.C_Image T.C_Plan) := by
  refine T.F_Image__put_block.ok sc_Image__put_block (fun vs H Q E h => ?_) (fun cdv A0 outer s H vs Q E hr h => ?_)
  · obtain ⟨_, _, _, _, _, _, _, _, _, rfl, _⟩ := h; rfl
  · obtain ⟨im, A, v, b, n, sl, x, kind, serial, rfl, I, hx0, hxb, k⟩ := h
    refine ⟨_, (pss_cons (ps_asg (pe_meth (pe_fld (pv 0) rfl) T.cl_Plan T.m_Plan_map_place (ok_Plan_map_place T) hr (b_Plan_map_place T) .nil pass0 (pa_cons (pv 1) pa_nil)) (pg_tup rfl (pgs_cons (pg_name (i := 4) sc_Image__put_block.nd rfl (.inl rfl)) (pgs_cons (pg_name (i := 5) sc_Image__put_block.nd rfl (.inl rfl)) pgs_nil))))
      (pss_cons (ps_asg (pv 2) (pg_sub (pe_ix ix_list (pe_fld (pv 0) rfl) (pv 4) (fun _ _ => rfl)) (pv 5) set_list))
      (pss_cons (ps_asg (pe_op op_rep (pe_lst (pa_cons pe_int pa_nil)) (pe_cv T.mg_Plan T.cr_Plan T.cv_Plan_WIDTH)) (pg_sub (pe_fld (pv 0) rfl) (pv 1) set_list))
      (pss_cons (ps_asg (pv 3) (pg_sub (pe_fld (pv 0) rfl) (pv 1) set_list))
      (pss_one (ps_asg (pv 3) (pg_sub (pe_fld (pv 0) rfl) (pv 1) set_list))))))), ?_⟩
    obtain ⟨dxp, hpl⟩ := I.pl.ob
    have b1 := I.pl.b1
    have n1 := I.pl.n1
    have d0 := I.d0
    have d2 := I.d2
    have d3 := I.d3
    have hx0' : 2 + (b + 8 - 1) / 8 + n ≤ x := hx0
    have hi : 2 + x / 8 < v.M.length := by omega
    have hx : x < v.M.length := by omega
    refine ⟨_, rfl, im, _, _, _, _, rfl, I.ob, T.cl_Image, T.na_Image_plan, rfl, A.pl, dxp, _, rfl, hpl, rfl, _, rfl, A.pl, b, n, sl, x, rfl, I.pl, fun t ht => ?_⟩
    have st := same_upd (o := .tup [.int (2 + (x : Int) / 8), .int ((x : Int) % 8)]) ht
    have I1 := I.keep st
    have k1 : Kp (A.ca :: A.ho :: A.st :: A.rs) H (upd H t (.tup [.int (2 + (x : Int) / 8), .int ((x : Int) % 8)])) := .of st
    have n1' : ∀ y, upd H t (.tup [.int (2 + (x : Int) / 8), .int ((x : Int) % 8)]) y = none → H y = none := fun y e => un e
    refine ⟨t, _, rfl, .inl (.inl upd_same), rfl, _, _, rfl, _, _, rfl, rfl, ?_⟩
    generalize upd H t (.tup [.int (2 + (x : Int) / 8), .int ((x : Int) % 8)]) = H1 at I1 k1 n1' ⊢
    obtain ⟨r, r1, r2, _⟩ := I1.gr.get (List.getElem?_eq_getElem hi)
    have h8 := I1.d1 _ (List.getElem_mem hi)
    refine ⟨_, rfl, _, rfl, im, _, _, _, _, rfl, I1.ob, T.cl_Image, T.na_Image_cells, rfl, _, rfl, A.ca, _, _, .ref r, rfl, rfl, .of I1.gr.out, at_of (j := 2 + x / 8) (by omega) (by rw [List.getElem?_map, r1]; rfl), _, rfl, r, _, _, x % 8, rfl, rfl, r2, ixN_nat (by omega) (by rw [List.length_map]; omega), ?_⟩
    have I2 := I1.setC (j := x % 8) (x := kind) r1 (List.getElem?_eq_getElem hi)
    have k2 : Kp (A.ca :: A.ho :: A.st :: A.rs) H (upd H1 r (.lst ((v.M[2 + x / 8].map V.int).set (x % 8) (V.int kind)))) := k1.own (by simp [List.mem_of_getElem? r1])
    have n2' : ∀ y, upd H1 r (.lst ((v.M[2 + x / 8].map V.int).set (x % 8) (V.int kind))) y = none → H y = none := fun y e => n1' _ (un e)
    generalize upd H1 r (.lst ((v.M[2 + x / 8].map V.int).set (x % 8) (V.int kind))) = H2 at I2 k2 n2' ⊢
    -- self.cells[x] = ..
    refine ⟨by show 1 ≤ sizeLine; decide, fun l hl => ?_⟩
    refine ⟨l, 8, _, rfl, rfl, upd_same, by decide, by decide, by show 1 * 8 ≤ sizeLine; decide, fun q hq => ?_⟩
    have hq0 : H2 q = none := un hq
    have sm : Same H2 (upd (upd H2 l (.lst [V.int 0])) q (.lst (List.replicate (8 : Int).toNat [V.int 0]).flatten)) := (same_upd hl).trans (same_upd hq)
    have eq3 : upd (upd H2 l (.lst [V.int 0])) q (.lst (List.replicate (8 : Int).toNat [V.int 0]).flatten) q = some (.lst ((List.replicate 8 (0 : Int)).map V.int)) := by rw [upd_same]; rfl
    have I3 := I2.swap (i := x) sm hq0 eq3 (by simp)
    have k3 : Kp (A.ca :: A.ho :: A.st :: A.rs) H (upd (upd (upd H2 l (.lst [V.int 0])) q (.lst (List.replicate (8 : Int).toNat [V.int 0]).flatten)) A.ca (.lst ((A.rs.map V.ref).set x (V.ref q)))) := (k2.same sm).own (by simp)
    have o3 := sm _ _ I2.gr.out
    have ob3 := sm _ _ I2.ob
    refine ⟨_, rfl, im, _, _, _, _, rfl, ob3, T.cl_Image, T.na_Image_cells, rfl, _, rfl, A.ca, _, _, x, rfl, rfl, o3, ixN_nat rfl (by rw [List.length_map, I.gr.len]; exact hx), ?_⟩
    change ImgAt T.C_Image T.C_Plan (upd (upd (upd H2 l (.lst [V.int 0])) q (.lst (List.replicate (8 : Int).toNat [V.int 0]).flatten)) A.ca (.lst ((A.rs.map V.ref).set x (V.ref q)))) _ _ _ _ _ _ at I3
    have hqH : H q = none := n2' _ hq0
    generalize upd (upd (upd H2 l (.lst [V.int 0])) q (.lst (List.replicate (8 : Int).toNat [V.int 0]).flatten)) A.ca (.lst ((A.rs.map V.ref).set x (V.ref q))) = H3 at I3 k3 ⊢
    refine ⟨_, rfl, _, rfl, im, _, _, _, _, rfl, I3.ob, T.cl_Image, T.na_Image_holdings, rfl, _, rfl, A.ho, _, _, x, rfl, rfl, I3.ho, ixN_nat rfl (by rw [List.length_map]; show x < v.ho.length; omega), ?_⟩
    have I4 := I3.putHo (i := x) (x := serial)
    have k4 := k3.own (a := A.ho) (o := .lst ((v.ho.map V.int).set x (V.int serial))) (by simp)
    dsimp only at I4 ⊢
    generalize upd H3 A.ho (.lst ((v.ho.map V.int).set x (V.int serial))) = H4 at I4 k4 ⊢
    refine ⟨_, rfl, _, rfl, im, _, _, _, _, rfl, I4.ob, T.cl_Image, T.na_Image_stamps, rfl, _, rfl, A.st, _, _, x, rfl, rfl, I4.st, ixN_nat rfl (by rw [List.length_map]; show x < v.st.length; omega), ?_⟩
    exact k _ q hqH (I4.putSt (i := x) (x := serial)) (k4.own (by simp))
end
end K07
namespace K07
open PySem PySem.Spec PyProof.Rows L2 Rg
section
variable {P : Program} {w : World} {K : PySem.W.Frag} {mg : Str → Option Value} {base : Heap}
/-- the row of the sums behind a put -/
theorem putB_row0 {v : IV} {x : Nat} {kind serial : Int} (hx : x ≠ 0) : (putB v x kind serial).M[0]? = v.M[0]? := by
  show ((setC v.M (2 + x / 8) (x % 8) kind).set x (List.replicate 8 0))[0]? = v.M[0]?
  rw [List.getElem?_set_ne hx, setC_row (by omega)]
theorem ImgAt.row0 {CI CP : Addr} {H : Hp} {im : Addr} {A : IA} {v : IV} {b n s : Int} (I : ImgAt CI CP H im A v b n s) : ∃ r m, A.rs[0]? = some r ∧ v.M[0]? = some m ∧ m.length = 8 ∧ H r = some (.lst (m.map V.int)) := by
  have d0 := I.d0
  have b1 := I.pl.b1
  have hl : 0 < v.M.length := by omega
  obtain ⟨r, r1, r2, _⟩ := I.gr.get (List.getElem?_eq_getElem hl)
  exact ⟨r, _, r1, List.getElem?_eq_getElem hl, I.d1 _ (List.getElem_mem hl), r2⟩
def sp_give (CI CP : Addr) : Sp := fun vs H Q _ => ∃ (im : Addr) (A : IA) (v : IV) (b n s : Int) (x o : Nat), vs = [.ref im, .int x, .int o] ∧ ImgAt CI CP H im A v b n s ∧ fdOf b n ≤ x ∧ (x : Int) < b ∧ o < 4 ∧
  ∀ H' q, H q = none → ImgAt CI CP H' im { A with rs := A.rs.set x q } (giveV v x o) b n s → Kp (A.ca :: A.ho :: A.st :: A.rs) H H' → Q .non H'
theorem ok_give (T : Tx K mg) : FnOk P w K mg base CX0 3 T.f_Image_give T.fd_Image_give ["self", "x", "owner"] (sp_give T.C_Image T.C_Plan) := by
  refine T.F_Image_give.ok sc_Image_give (fun vs H Q E h => ?_) (fun cdv A0 outer s H vs Q E hr h => ?_)
  · obtain ⟨_, _, _, _, _, _, _, _, rfl, _⟩ := h; rfl
  · obtain ⟨im, A, v, b, n, sl, x, o, rfl, I, hx0, hxb, ho, k⟩ := h
    refine ⟨_, (pss_cons (ps_expr (pe_meth (pv 0) T.cl_Image T.m_Image__put_block (ok_put_block T) hr (b_Image__put_block T) .nil pass0 (pa_cons (pv 1) (pa_cons (pe_cv T.mg_Plan T.cr_Plan T.cv_Plan_FREE) (pa_cons pe_int pa_nil)))))
      (pss_one (ps_augS (pe_ix ix_list (pe_fld (pv 0) rfl) (pe_gc T.c_SUMS_BLOCK) (fun _ _ => rfl)) (pv 2) get_list pe_int ip_sub set_list))), ?_⟩
    have b1 := I.pl.b1
    have n1 := I.pl.n1
    have hx0' : 2 + (b + 8 - 1) / 8 + n ≤ x := hx0
    refine ⟨_, rfl, im, _, _, rfl, I.ob, rfl, _, rfl, im, A, v, b, n, sl, x, 0, 0, rfl, I, hx0, hxb, fun H1 q hq I1 k1 => ?_⟩
    obtain ⟨r, m, r1, r2, r3, r4⟩ := I1.row0
    have r2' := r2
    rw [putB_row0 (by omega)] at r2'
    have rA : A.rs[0]? = some r := by
      have : (A.rs.set x q)[0]? = some r := r1
      rw [List.getElem?_set_ne (by omega)] at this
      exact this
    have hol : o < m.length := by omega
    have e0 : cellAt v.M 0 o = m[o] := cellAt_of r2' (List.getElem?_eq_getElem hol)
    refine ⟨_, rfl, im, _, _, _, _, rfl, I1.ob, T.cl_Image, T.na_Image_cells, rfl, A.ca, _, _, .ref r, rfl, rfl, .of I1.gr.out, at_of (j := 0) rfl (by rw [List.getElem?_map, r1]; rfl), _, rfl, r, _, o, _, rfl, rfl, .of r4, by rw [List.getElem?_map, List.getElem?_eq_getElem hol]; rfl, _, _, rfl, rfl, r, _, _, o, rfl, rfl, r4, ixN_nat rfl (by rw [List.length_map]; exact hol), ?_⟩
    have I2 := I1.setC (j := o) (x := m[o] - 1) r1 r2
    refine k _ q hq ?_ (k1.own (by simp [List.mem_of_getElem? rA]))
    unfold giveV
    rw [e0]
    exact I2
def sp_take (CI CP CO CB : Addr) : Sp := fun vs H Q E => ∃ (im : Addr) (A : IA) (v : IV) (b n s kind : Int) (o : Nat), vs = [.ref im, .int kind, .int o] ∧ ImgAt CI CP H im A v b n s ∧ o < 4 ∧ (cellAt v.M 0 o).natAbs.log2 < 1920 ∧
  (quota v o → ∀ H', Same H H' → E (.ref CO) none H') ∧
  (¬ quota v o → letL b n v.M kind v.ba = [] → ∀ H', Same H H' → E (.ref CB) none H') ∧
  (¬ quota v o → ∀ x : Nat, pickL (letL b n v.M kind v.ba) v.wi = some (x : Int) → ∀ H' q, H q = none → ImgAt CI CP H' im { A with rs := A.rs.set x q } (takeV v x kind o) b n s → Kp (A.ca :: A.ho :: A.st :: A.rs) H H' → Q (.int x) H')
theorem freeL_mem {b n x : Int} {M : List (List Int)} (h : x ∈ freeL b n M) : fdOf b n ≤ x ∧ x < fdOf b n + (b - fdOf b n).toNat ∧ kindOf b n M x = 0 := by
  unfold freeL at h
  have h1 := List.mem_filter.mp h
  have h2 := rng_mem h1.1
  exact ⟨h2.1, h2.2, of_decide_eq_true h1.2⟩
theorem letL_mem {b n x kind : Int} {M : List (List Int)} {ba : List Int} (h : x ∈ letL b n M kind ba) : x ∈ freeL b n M := by
  unfold letL at h
  split at h
  · exact (List.mem_filter.mp h).1
  · exact h
theorem pickL_mem {l : List Int} {wi x : Int} (h : pickL l wi = some x) : x ∈ l := by
  unfold pickL at h
  cases e : (l.filter fun x => decide (wi ≤ x)).head? with
  | none =>
    rw [e] at h
    exact List.mem_of_head? h
  | some y =>
    rw [e] at h
    cases h
    exact (List.mem_filter.mp (List.mem_of_head? e)).1
theorem freeL_len {b n : Int} {M : List (List Int)} : (freeL b n M).length ≤ (b - fdOf b n).toNat := by
  unfold freeL
  refine filt_len ?_
  rw [rng_len]
  exact Nat.le_refl _
/-- [x for x in l if ..], l a list that stands at a -/
theorem fstr_len {a c : Int} (ha : a.natAbs.log2 < 1920) (hc : c.natAbs.log2 < 1920) : (((((Str.empty ++ ("owner " : Str)) ++ (toString a : Str)) ++ (" uses " : Str)) ++ (toString c : Str)) ++ (" blocks" : Str)).length ≤ sizeLine := by
  have e1 := PySem.int_text_length_le (k := 1920) (by decide) ha
  have e2 := PySem.int_text_length_le (k := 1920) (by decide) hc
  have l1 : (("owner " : Str)).length = 6 := by decide
  have l2 : ((" uses " : Str)).length = 6 := by decide
  have l3 : ((" blocks" : Str)).length = 7 := by decide
  have l0 : (Str.empty).length = 0 := by decide
  rw [strLen_append, strLen_append, strLen_append, strLen_append, strLen_append, l0, l1, l2, l3, sizeLine_eq]
  have f1 : ((toString a : Str)).length = (toString a).length := PySem.ofString_length _
  have f2 : ((toString c : Str)).length = (toString c).length := PySem.ofString_length _
  rw [f1, f2]
  omega
end
end K07
namespace K07
open PySem PySem.Spec PyProof.Rows L2 Rg
/-- a comprehension that keeps some of l, i looked at -/
def PvF (H0 : Hp) (D : Addr) (l : List Int) (p : Int → Bool) (i : Nat) (H' : Hp) : Prop := Same H0 H' ∧ H' D = some (.lst (((l.take i).filter p).map V.int))
theorem PvF.start {H0 : Hp} {D : Addr} {l : List Int} {p : Int → Bool} (h : H0 D = none) : PvF H0 D l p 0 (upd H0 D (.lst [])) := ⟨same_upd h, upd_same⟩
theorem PvF.yes {H0 H' H2 : Hp} {D : Addr} {l : List Int} {p : Int → Bool} {i : Nat} {x : Int} (h : PvF H0 D l p i H') (hD : H0 D = none) (S : Same H' H2) (hx : l[i]? = some x) (hl : l.length < 1000) (hp : p x = true) :
    ∃ acc, H2 D = some (.lst acc) ∧ acc.length < sizeLine ∧ PvF H0 D l p (i + 1) (upd H2 D (.lst (acc ++ [V.int x]))) := by
  refine ⟨_, S _ _ h.2, ?_, fun a o z => ?_, ?_⟩
  · rw [List.length_map]
    have := filt_len (p := p) (List.length_take_le i l)
    have hi := (List.getElem?_eq_some_iff.mp hx).1
    exact small1000 (by omega)
  · rw [upd_ne (ne_of_none z hD)]
    exact S _ _ (h.1 _ _ z)
  · rw [upd_same, take_get hx, List.filter_append, List.map_append, List.filter_cons, if_pos hp]
    rfl
theorem PvF.no {H0 H' H2 : Hp} {D : Addr} {l : List Int} {p : Int → Bool} {i : Nat} {x : Int} (h : PvF H0 D l p i H') (S : Same H' H2) (hx : l[i]? = some x) (hp : p x = false) : PvF H0 D l p (i + 1) H2 := by
  refine ⟨h.1.trans S, ?_⟩
  rw [take_get hx, List.filter_append, List.filter_cons, if_neg (by rw [hp]; decide), List.filter_nil, List.append_nil]
  exact S _ _ h.2
theorem PvF.all {H0 H' : Hp} {D : Addr} {l : List Int} {p : Int → Bool} {n : Nat} (h : PvF H0 D l p n H') (e : n = l.length) : Same H0 H' ∧ H' D = some (.lst ((l.filter p).map V.int)) := by
  subst e
  have := h.2
  rw [List.take_length] at this
  exact ⟨h.1, this⟩
theorem op_notInK {X : Cx} {K : PySem.W.Frag} (hK : X.K = K := by rfl) : OpR X (compareOp .NotIn) (rIn K true) := by
  subst hK
  exact op_notIn_seq
theorem cell0 {v : IV} {m : List Int} {j : Nat} (h : v.M[0]? = some m) (hj : j < m.length) : cellAt v.M 0 j = m[j] := cellAt_of h (List.getElem?_eq_getElem hj)
section
variable {P : Program} {w : World} {K : PySem.W.Frag} {mg : Str → Option Value} {base : Heap}
theorem ok_take (T : Tx K mg) : FnOk P w K mg base (L2N.CX P w) 4 T.f_Image_take T.fd_Image_take ["self", "kind", "owner"] (sp_take T.C_Image T.C_Plan T.C_OverQuota T.C_BlocksFull) := by
  refine T.F_Image_take.okN sc_Image_take (fun vs H Q E h => ?_) (fun cdv A0 outer s H vs Q E hr h => ?_)
  · obtain ⟨_, _, _, _, _, _, _, _, rfl, _⟩ := h; rfl
  · obtain ⟨im, A, v, b, n, sl, kind, o, rfl, I, ho, hlg, kQ, kB, k⟩ := h
    have hr2 : Room 2 _ := hr.mono (by decide)
    refine ⟨_, (pss_cons (ps_set (i := 3) sc_Image_take.nd rfl (.inl rfl) (pe_ix ix_list (pe_fld (pv 0) rfl) (pe_gc T.c_SUMS_BLOCK) (fun _ _ => rfl)))
      (pss_cons (ps_set (i := 4) sc_Image_take.nd rfl (.inl rfl) (pe_ix ix_list (pv 3) (pe_op op_add (pe_cv T.mg_Plan T.cr_Plan T.cv_Plan_OWNERS) (pv 2)) (fun _ _ => rfl)))
      (Evl.pss_cut (ps_if (PW.pt (pw_and (pt_cmpR op_ne (pv 4) pe_int (nomark _)) (pw_and1 (pt_cmpR op_ge (pe_ix ix_list (pv 3) (pv 2) (fun _ _ => rfl)) (pv 4) (nomark _)))))
        (pss_one (L2N.ps_raise rfl (L2N.takes_of rfl rfl rfl rfl) (pmk_own1N PySem.F.excBase_ValueError T.xe_OverQuota T.mg_OverQuota T.ke_OverQuota (raises_own T.be_OverQuota T.te_OverQuota) rfl (pe_joined (.cons pe_str (.cons (pe_fmt (pv 2)) (.cons pe_str (.cons (pe_fmt (pe_ix ix_list (pv 3) (pv 2) (fun _ _ => rfl))) (.cons pe_str .nil)))))))))
        pss_nil)
      (pss_cons (ps_set (i := 5) sc_Image_take.nd rfl (.inl rfl) (pe_meth0 (pv 0) T.cl_Image T.m_Image_free_blocks (ok_free_blocks T) hr (b_Image_free_blocks T) .nil pass0))
      (Evl.pss_cut (ps_if (pt_cmpR op_eq (pv 1) (pe_cv T.mg_Plan T.cr_Plan T.cv_Plan_PLAIN) (nomark _))
        (pss_one (ps_setLc (i := 5) (own := [("x", 6)]) (g := gName 6) (tt := _) rfl sc_Image_take.nd rfl rfl (sw_true rfl rfl rfl (by decide +kernel)) (pi_list (pv 5)) (blkOk_by (N := ["self", "kind", "owner", "sums", "limit", "free", "x", "wished"]) (sc := defScope s_Image_take) (by decide +kernel)) (fun _ _ _ _ _ => pg_name (i := 6) sc_Image_take.nd rfl (Or.inl rfl)) (fun _ _ _ _ _ => pts_one (pt_cmpR (op_notInK (K := K)) (pv 6) (pe_fldK (K := K) (pv 0) rfl) rfl)) (fun _ _ _ _ _ => (pv 6))))
        pss_nil)
      (pss_cons (ps_if (pt_cmpR op_eq (pe_callB call_len_seq rfl T.b_len (by decide +kernel) (pa_cons (pv 5) pa_nil)) pe_int (nomark _))
        (pss_one (L2N.ps_raise rfl (L2N.takes_of rfl rfl rfl rfl) (L2N.pmk_own PySem.F.excBase_ValueError T.xe_BlocksFull T.mg_BlocksFull T.ke_BlocksFull (raises_own T.be_BlocksFull T.te_BlocksFull) rfl)))
        pss_nil)
      (PSs.nox (pss_cons (ps_setLc (i := 7) (own := [("x", 6)]) (g := gName 6) (tt := _) rfl sc_Image_take.nd rfl rfl (sw_true rfl rfl rfl (by decide +kernel)) (pi_list (pv 5)) (blkOk_by (N := ["self", "kind", "owner", "sums", "limit", "free", "x", "wished"]) (sc := defScope s_Image_take) (by decide +kernel)) (fun _ _ _ _ _ => pg_name (i := 6) sc_Image_take.nd rfl (Or.inl rfl)) (fun _ _ _ _ _ => pts_one (pt_cmpR op_ge (pv 6) (pe_fldK (K := K) (pv 0) rfl) (nomark _))) (fun _ _ _ _ _ => (pv 6)))
      (Evl.pss_cut (ps_set (i := 6) sc_Image_take.nd rfl (.inl rfl) (pe_ifExp (pt_truth (pv 7) (fun _ => rfl)) (pe_ix ix_list (pv 7) pe_int (fun _ _ => rfl)) (pe_ix ix_list (pv 5) pe_int (fun _ _ => rfl))))
      (pss_cons (ps_expr (pe_meth (pv 0) T.cl_Image T.m_Image__put_block (ok_put_block T) hr2 (b_Image__put_block T) .nil pass0 (pa_cons (pv 6) (pa_cons (pv 1) (pa_cons (pe_fld (pv 0) rfl) pa_nil)))))
      (pss_cons (ps_augS (pv 3) (pv 2) get_list pe_int ip_add set_list)
      (pss_one (ps_ret (pv 6)))))))))))))), ?_⟩
    obtain ⟨dxp, hpl⟩ := I.pl.ob
    have b1 := I.pl.b1
    have b2 := I.pl.b2
    have n1 := I.pl.n1
    obtain ⟨r, m, r1, r2, r3, r4⟩ := I.row0
    have h4o : 4 + o < m.length := by omega
    have hol : o < m.length := by omega
    have el := cell0 r2 h4o
    have eo := cell0 r2 hol
    refine ⟨_, rfl, im, _, _, _, _, rfl, I.ob, T.cl_Image, T.na_Image_cells, rfl, A.ca, _, _, .ref r, rfl, rfl, .of I.gr.out, at_of (j := 0) rfl (by rw [List.getElem?_map, r1]; rfl), ?_⟩
    refine ⟨_, rfl, _, rfl, _, _, rfl, rfl, r, _, _, _, rfl, rfl, .of r4, at_of (j := 4 + o) (by omega) (by rw [List.getElem?_map, List.getElem?_eq_getElem h4o]; rfl), ?_⟩
    have hlen : (letL b n v.M kind v.ba).length < 1000 := by
      have h1 := freeL_len (b := b) (n := n) (M := v.M)
      have h2 : (letL b n v.M kind v.ba).length ≤ (freeL b n v.M).length := by
        unfold letL
        split
        · exact List.length_filter_le _ _
        · exact Nat.le_refl _
      have h3 : 0 ≤ fdOf b n := by unfold fdOf; omega
      omega
    have hlenF : (freeL b n v.M).length < 1000 := by
      have h1 := freeL_len (b := b) (n := n) (M := v.M)
      have h3 : 0 ≤ fdOf b n := by unfold fdOf; omega
      omega
    refine ⟨fun σ H' => σ = [some (.ref im), some (.int kind), some (.int o), some (.ref r), some (.int m[4 + o]), none, none, none] ∧ H' = H ∧ ¬ quota v o, ?_, ?_⟩
    · refine ⟨_, rfl, rfl, _, rfl, ?_⟩
      rw [dec_iv]
      by_cases e1 : m[4 + o] = 0
      · rw [decide_eq_true e1]
        exact iteF ⟨rfl, rfl, fun z => z.1 (by rw [el]; exact e1)⟩
      · rw [decide_eq_false e1]
        refine iteT ⟨_, rfl, _, rfl, r, _, _, _, rfl, rfl, .of r4, atI_nat (by rw [List.getElem?_map, List.getElem?_eq_getElem hol]; rfl), _, rfl, _, _, rfl, rfl, _, rfl, ?_⟩
        by_cases e2 : m[o] ≥ m[4 + o]
        · rw [decide_eq_true e2]
          have la : (o : Int).natAbs.log2 < 1920 := by
            have : o = 0 ∨ o = 1 ∨ o = 2 ∨ o = 3 := by omega
            rcases this with rfl | rfl | rfl | rfl <;> decide
          have lc : m[o].natAbs.log2 < 1920 := by rw [← eo]; exact hlg
          have f5 := fstr_len la lc
          have mono : ∀ (x y : Str), (x ++ y).length ≤ sizeLine → x.length ≤ sizeLine := fun x y h => by rw [strLen_append] at h; omega
          have f4 := mono _ _ f5
          have f3 := mono _ _ f4
          have f2 := mono _ _ f3
          have f1 := mono _ _ f2
          refine iteT ⟨_, rfl, f1, _, rfl, .inr ⟨_, rfl, la, _, rfl, f2, _, rfl, f3, _, rfl, _, rfl, r, _, _, _, rfl, rfl, .of r4, atI_nat (by rw [List.getElem?_map, List.getElem?_eq_getElem hol]; rfl), .inr ⟨_, rfl, lc, _, rfl, f4, _, rfl, f5, ?_⟩⟩⟩
          exact kQ ⟨by rw [el]; exact e1, by rw [el, eo]; exact e2⟩ H (Same.refl _)
        · rw [decide_eq_false e2]
          exact iteF ⟨rfl, rfl, fun z => e2 (by have := z.2; rw [el, eo] at this; exact this)⟩
    rintro σ H' ⟨rfl, rfl, nq⟩
    -- the free blocks
    refine ⟨_, rfl, im, _, _, rfl, I.ob, rfl, im, A, v, b, n, sl, rfl, I, fun H1 fa S1 nfa efa => ?_⟩
    refine ⟨fun σ H2 => ∃ fb, σ = [some (.ref im), some (.int kind), some (.int o), some (.ref r), some (.int m[4 + o]), some (.ref fb), none, none] ∧ Same H' H2 ∧ H2 fb = some (.lst ((letL b n v.M kind v.ba).map V.int)), ?_, ?_⟩
    · refine ⟨_, rfl, rfl, _, rfl, ?_⟩
      rw [dec_iv]
      by_cases hk : kind = 2
      · rw [decide_eq_true hk]
        refine iteT ⟨_, rfl, fa, rfl, ⟨_, .of efa⟩, fun D hD => ?_⟩
        refine lc_list (K := K) (a := fa) (xs := (freeL b n v.M).map V.int) (PvF H1 D (freeL b n v.M) (fun x => decide (x ∉ v.ba))) (PvF.start hD) (fun i H2 _ Pv => .of (Pv.1 _ _ efa)) ?_ ?_
        · rintro i y H2 hi Pv
          rw [List.getElem?_map] at hi
          obtain ⟨x, hx, rfl⟩ := Option.map_eq_some_iff.mp hi
          refine ⟨rfl, ?_⟩
          have I2 := I.keep (S1.trans Pv.1)
          refine ⟨_, rfl, _, rfl, im, _, _, _, _, rfl, I2.ob, T.cl_Image, T.na_Image_barred, rfl, A.ba, _, rfl, .inr (.of I2.ba), rfl, flat_ints _, _, rfl, ?_⟩
          rw [inV_int]
          by_cases hb : x ∈ v.ba
          · rw [decide_eq_true hb]
            exact iteF (Pv.no (Same.refl _) hx (by simp [hb]))
          · rw [decide_eq_false hb]
            exact iteT ⟨_, rfl, Pv.yes hD (Same.refl _) hx hlenF (by simp [hb])⟩
        · intro H2 Pv
          obtain ⟨S2, e2⟩ := Pv.all (by rw [List.length_map])
          refine ⟨D, rfl, S1.trans S2, ?_⟩
          unfold letL
          rw [if_pos hk]
          exact e2
      · rw [decide_eq_false hk]
        refine iteF ⟨fa, rfl, S1, ?_⟩
        unfold letL
        rw [if_neg hk]
        exact efa
    rintro σ H2 ⟨fb, rfl, S2, e2⟩
    refine ⟨_, rfl, fb, _, rfl, .inl (.of e2), rfl, _, rfl, ite2 (fun z => ?_) (fun z => ?_)⟩
    · have z' := V.int.inj (of_decide_eq_true z)
      rw [List.length_map] at z'
      exact kB nq (List.length_eq_zero_iff.mp (by omega)) _ S2
    · have hne : letL b n v.M kind v.ba ≠ [] := fun q => z (decide_eq_true (by rw [q]; rfl))
      have I2 := I.keep S2
      refine ⟨_, rfl, fb, rfl, ⟨_, .of e2⟩, fun D hD => ?_⟩
      refine lc_list (K := K) (a := fb) (xs := (letL b n v.M kind v.ba).map V.int) (PvF H2 D (letL b n v.M kind v.ba) (fun x => decide (v.wi ≤ x))) (PvF.start hD) (fun i H3 _ Pv => .of (Pv.1 _ _ e2)) ?_ ?_
      · rintro i y H3 hi Pv
        rw [List.getElem?_map] at hi
        obtain ⟨x, hx, rfl⟩ := Option.map_eq_some_iff.mp hi
        refine ⟨rfl, ?_⟩
        have I3 := I2.keep Pv.1
        refine ⟨_, rfl, _, rfl, im, _, _, _, _, rfl, I3.ob, T.cl_Image, T.na_Image_wish, rfl, _, _, rfl, rfl, _, rfl, ?_⟩
        by_cases hb : x ≥ v.wi
        · rw [decide_eq_true hb]
          exact iteT ⟨_, rfl, Pv.yes hD (Same.refl _) hx hlen (decide_eq_true hb)⟩
        · rw [decide_eq_false hb]
          exact iteF (Pv.no (Same.refl _) hx (decide_eq_false hb))
      · intro H3 Pv
        obtain ⟨S3, e3⟩ := Pv.all (by rw [List.length_map])
        have I3 := I2.keep S3
        have S03 := S2.trans S3
        have e2' := S3 _ _ e2
        refine ⟨fun σ H4 => ∃ x : Nat, σ = [some (.ref im), some (.int kind), some (.int o), some (.ref r), some (.int m[4 + o]), some (.ref fb), some (.int (x : Int)), some (.ref D)] ∧ H4 = H3 ∧ pickL (letL b n v.M kind v.ba) v.wi = some (x : Int), ?_, ?_⟩
        · have nat : ∀ y : Int, pickL (letL b n v.M kind v.ba) v.wi = some y → ∃ x : Nat, y = x := fun y h => by
            have h1 := freeL_mem (letL_mem (pickL_mem h))
            have h3 : 0 ≤ fdOf b n := by unfold fdOf; omega
            exact ⟨y.toNat, by omega⟩
          refine ⟨_, rfl, _, .inl ⟨_, .of e3, rfl⟩, ?_⟩
          cases q : (letL b n v.M kind v.ba).filter (fun x => decide (v.wi ≤ x)) with
          | nil =>
            cases q2 : letL b n v.M kind v.ba with
            | nil => exact absurd q2 hne
            | cons y rest =>
              have hp : pickL (letL b n v.M kind v.ba) v.wi = some y := by unfold pickL; rw [q, q2]; rfl
              obtain ⟨x, rfl⟩ := nat y hp
              rw [q2] at e2' hp
              exact iteF ⟨_, rfl, fb, _, 0, .int (x : Int), rfl, rfl, .of e2', atI_nat (j := 0) rfl, x, rfl, rfl, hp⟩
          | cons y rest =>
            have hp : pickL (letL b n v.M kind v.ba) v.wi = some y := by unfold pickL; rw [q]; rfl
            obtain ⟨x, rfl⟩ := nat y hp
            rw [q] at e3
            exact iteT ⟨_, rfl, D, _, 0, .int (x : Int), rfl, rfl, .of e3, atI_nat (j := 0) rfl, x, rfl, rfl, hp⟩
        rintro σ H4 ⟨x, rfl, rfl, hp⟩
        have hm := freeL_mem (letL_mem (pickL_mem hp))
        have hf : fdOf b n = 2 + (b + 8 - 1) / 8 + n := rfl
        have hxb : (x : Int) < b := by omega
        have hx2 : x ≠ 0 := by omega
        refine ⟨_, rfl, im, _, _, rfl, I3.ob, rfl, _, rfl, _, rfl, _, rfl, im, _, _, _, _, rfl, I3.ob, T.cl_Image, T.na_Image_serial, rfl, im, A, v, b, n, sl, x, kind, v.se, rfl, I3, hm.1, hxb, fun H5 q hq I5 k5 => ?_⟩
        obtain ⟨r', m', r1', r2', r3', r4'⟩ := I5.row0
        have rA : A.rs[0]? = some r' := by
          have : (A.rs.set x q)[0]? = some r' := r1'
          rw [List.getElem?_set_ne hx2] at this
          exact this
        obtain rfl : r = r' := Option.some.inj (r1.symm.trans rA)
        have r2'' := r2'
        rw [putB_row0 hx2, r2] at r2''
        obtain rfl : m = m' := Option.some.inj r2''
        refine ⟨_, rfl, _, rfl, r, _, o, _, rfl, rfl, .of r4', by rw [List.getElem?_map, List.getElem?_eq_getElem hol]; rfl, _, _, rfl, rfl, r, _, _, o, rfl, rfl, r4', ixN_nat rfl (by rw [List.length_map]; exact hol), ?_⟩
        have I6 := I5.setC (j := o) (x := m[o] + 1) r1' r2'
        refine ⟨_, rfl, k nq x hp _ q (S03.free hq) ?_ ((Kp.of S03).trans (k5.own (by simp [List.mem_of_getElem? rA])))⟩
        unfold takeV
        rw [eo]
        exact I6
end
end K07
namespace K07
open PySem PySem.Spec PyProof.Rows L2 Rg
/-- the row of a node's block -/
def nrow (b m : Int) : Nat := (2 + (b + 8 - 1) / 8 + m - 1).toNat
section
variable {P : Program} {w : World} {K : PySem.W.Frag} {mg : Str → Option Value} {base : Heap}
theorem ImgAt.node {CI CP : Addr} {H : Hp} {im : Addr} {A : IA} {v : IV} {b n s m : Int} (I : ImgAt CI CP H im A v b n s) (h1 : 1 ≤ m) (h2 : m ≤ n) : ∃ r row, A.rs[nrow b m]? = some r ∧ v.M[nrow b m]? = some row ∧ row.length = 8 ∧ H r = some (.lst (row.map V.int)) := by
  have d0 := I.d0
  have b1 := I.pl.b1
  have n1 := I.pl.n1
  have d := I.pl.d
  have hl : nrow b m < v.M.length := by
    unfold nrow
    omega
  obtain ⟨r, hr1, hr2, _⟩ := I.gr.get (List.getElem?_eq_getElem hl)
  exact ⟨r, _, hr1, List.getElem?_eq_getElem hl, I.d1 _ (List.getElem_mem hl), hr2⟩
def sp_node_cell (CI CP : Addr) : Sp := fun vs H Q _ => ∃ (im : Addr) (A : IA) (v : IV) (b n s m f : Int), vs = [.ref im, .int m, .int f] ∧ ImgAt CI CP H im A v b n s ∧ 1 ≤ m ∧ m ≤ n ∧ 0 ≤ f ∧ f < 8 ∧ Q (.int (cellAt v.M (nrow b m) f.toNat)) H
theorem ok_node_cell (T : Tx K mg) : FnOk P w K mg base CX0 2 T.f_node_cell T.fd_node_cell ["image", "n", "field"] (sp_node_cell T.C_Image T.C_Plan) := by
  refine T.F_node_cell.ok sc_node_cell (fun vs H Q E h => ?_) (fun cdv A0 outer s H vs Q E hr h => ?_)
  · obtain ⟨_, _, _, _, _, _, _, _, rfl, _⟩ := h; rfl
  · obtain ⟨im, A, v, b, n, sl, m, f, rfl, I, h1, h2, h3, h4, k⟩ := h
    refine ⟨_, (pss_one (ps_ret (pe_ix ix_list (pe_ix ix_list (pe_fld (pv 0) rfl) (pe_meth (pe_fld (pv 0) rfl) T.cl_Plan T.m_Plan_node_block (ok_Plan_node_block T) hr (b_Plan_node_block T) .nil pass0 (pa_cons (pv 1) pa_nil)) (fun _ _ => rfl)) (pv 2) (fun _ _ => rfl)))), ?_⟩
    obtain ⟨dxp, hpl⟩ := I.pl.ob
    obtain ⟨r, row, e1, e2, e3, e4⟩ := I.node h1 h2
    have b1 := I.pl.b1
    have hf : f.toNat < row.length := by omega
    rw [cellAt_of e2 (List.getElem?_eq_getElem hf)] at k
    refine ⟨_, rfl, im, _, _, _, _, rfl, I.ob, T.cl_Image, T.na_Image_cells, rfl, _, rfl, im, _, _, _, _, rfl, I.ob, T.cl_Image, T.na_Image_plan, rfl, A.pl, dxp, _, rfl, hpl, rfl, _, rfl, A.pl, b, n, sl, m, rfl, I.pl, A.ca, _, _, .ref r, rfl, rfl, .of I.gr.out, at_of (j := nrow b m) (by unfold nrow; omega) (by rw [List.getElem?_map, e1]; rfl), _, rfl, r, _, _, _, rfl, rfl, .of e4, at_of (j := f.toNat) (by omega) (by rw [List.getElem?_map, List.getElem?_eq_getElem hf]; rfl), k⟩
def sp_put_node_cell (CI CP : Addr) : Sp := fun vs H Q _ => ∃ (im : Addr) (A : IA) (v : IV) (b n s m f x : Int), vs = [.ref im, .int m, .int f, .int x] ∧ ImgAt CI CP H im A v b n s ∧ 1 ≤ m ∧ m ≤ n ∧ 0 ≤ f ∧ f < 8 ∧
  ∀ H', ImgAt CI CP H' im A { v with M := setC v.M (nrow b m) f.toNat x } b n s → Kp A.rs H H' → Q .non H'
theorem ok_put_node_cell (T : Tx K mg) : FnOk P w K mg base CX0 2 T.f_put_node_cell T.fd_put_node_cell ["image", "n", "field", "value"] (sp_put_node_cell T.C_Image T.C_Plan) := by
  refine T.F_put_node_cell.ok sc_put_node_cell (fun vs H Q E h => ?_) (fun cdv A0 outer s H vs Q E hr h => ?_)
  · obtain ⟨_, _, _, _, _, _, _, _, _, rfl, _⟩ := h; rfl
  · obtain ⟨im, A, v, b, n, sl, m, f, x, rfl, I, h1, h2, h3, h4, k⟩ := h
    refine ⟨_, (pss_one (ps_asg (pv 3) (pg_sub (pe_ix ix_list (pe_fld (pv 0) rfl) (pe_meth (pe_fld (pv 0) rfl) T.cl_Plan T.m_Plan_node_block (ok_Plan_node_block T) hr (b_Plan_node_block T) .nil pass0 (pa_cons (pv 1) pa_nil)) (fun _ _ => rfl)) (pv 2) set_list))), ?_⟩
    obtain ⟨dxp, hpl⟩ := I.pl.ob
    obtain ⟨r, row, e1, e2, e3, e4⟩ := I.node h1 h2
    have b1 := I.pl.b1
    refine ⟨_, rfl, _, rfl, im, _, _, _, _, rfl, I.ob, T.cl_Image, T.na_Image_cells, rfl, _, rfl, im, _, _, _, _, rfl, I.ob, T.cl_Image, T.na_Image_plan, rfl, A.pl, dxp, _, rfl, hpl, rfl, _, rfl, A.pl, b, n, sl, m, rfl, I.pl, A.ca, _, _, .ref r, rfl, rfl, .of I.gr.out, at_of (j := nrow b m) (by unfold nrow; omega) (by rw [List.getElem?_map, e1]; rfl), _, rfl, r, _, _, f.toNat, rfl, rfl, e4, ixN_nat (by omega) (by rw [List.length_map]; omega), ?_⟩
    exact k _ (I.setC e1 e2) (Kp.refl.own (List.mem_of_getElem? e1))
def sp_is_made (CI CP : Addr) : Sp := fun vs H Q _ => ∃ (im : Addr) (A : IA) (v : IV) (b n s m : Int), vs = [.ref im, .int m] ∧ ImgAt CI CP H im A v b n s ∧ 1 ≤ m ∧ m ≤ n ∧ Q (.bl (!decide (cellAt v.M (nrow b m) 0 = 0))) H
theorem ok_is_made (T : Tx K mg) : FnOk P w K mg base CX0 3 T.f_is_made T.fd_is_made ["image", "n"] (sp_is_made T.C_Image T.C_Plan) := by
  refine T.F_is_made.ok sc_is_made (fun vs H Q E h => ?_) (fun cdv A0 outer s H vs Q E hr h => ?_)
  · obtain ⟨_, _, _, _, _, _, _, rfl, _⟩ := h; rfl
  · obtain ⟨im, A, v, b, n, sl, m, rfl, I, h1, h2, k⟩ := h
    refine ⟨_, (pss_one (ps_ret (pe_cmpR op_ne (pe_call (ok_node_cell T) hr rfl T.mg_node_cell T.F_node_cell.kp (b_node_cell T) .nil pass0 (pa_cons (pv 0) (pa_cons (pv 1) (pa_cons (pe_gc T.c_KIND) pa_nil)))) (pe_gc T.c_UNMADE) (nomark _)))), ?_⟩
    refine ⟨_, rfl, _, rfl, im, A, v, b, n, sl, m, 0, rfl, I, h1, h2, by decide, by decide, rfl, ?_⟩
    rw [dec_iv]
    exact k
end
end K07
namespace K07
open PySem PySem.Spec PyProof.Rows L2 Rg
/-- a node's block, its first i cells cleared but for the making -/
def rz (m : List Int) (i : Nat) : List Int := List.replicate (min i 7) 0 ++ m.drop (min i 7)
theorem rz_len {m : List Int} {i : Nat} (h : m.length = 8) : (rz m i).length = 8 := by
  unfold rz
  rw [List.length_append, List.length_replicate, List.length_drop]
  omega
theorem rz_step {m : List Int} {i : Nat} (h : m.length = 8) (hi : i < 7) : (rz m i).set i 0 = rz m (i + 1) := by
  match m, h with
  | [a, b, c, d, e, f, g, x], _ =>
    match i, hi with
    | 0, _ => rfl
    | 1, _ => rfl
    | 2, _ => rfl
    | 3, _ => rfl
    | 4, _ => rfl
    | 5, _ => rfl
    | 6, _ => rfl
theorem rz_zero {m : List Int} : rz m 0 = m := rfl
theorem rz_eight {m : List Int} (h : m.length = 8) : rz m 8 = [0, 0, 0, 0, 0, 0, 0, (m[7]?).getD 0] := by
  match m, h with
  | [a, b, c, d, e, f, g, x], _ => rfl
theorem setC_set {M : List (List Int)} {r j : Nat} {m : List Int} {x : Int} (h : r < M.length) : setC (M.set r m) r j x = M.set r (m.set j x) := by
  unfold setC
  rw [List.getElem?_set_self h, List.set_set]
  rfl
theorem set_self {M : List (List Int)} {r : Nat} {m : List Int} (h : M[r]? = some m) : M.set r m = M := by
  apply List.ext_getElem?
  intro i
  by_cases e : r = i
  · subst e
    rw [List.getElem?_set_self (List.getElem?_eq_some_iff.mp h).1, h]
  · rw [List.getElem?_set_ne e]
section
variable {P : Program} {w : World} {K : PySem.W.Frag} {mg : Str → Option Value} {base : Heap}
def sp_unmake_node (CI CP : Addr) : Sp := fun vs H Q _ => ∃ (im : Addr) (A : IA) (v : IV) (b n s m : Int), vs = [.ref im, .int m] ∧ ImgAt CI CP H im A v b n s ∧ 1 ≤ m ∧ m ≤ n ∧
  ∀ H', ImgAt CI CP H' im A { v with M := v.M.set (nrow b m) [0, 0, 0, 0, 0, 0, 0, cellAt v.M (nrow b m) 7] } b n s → Kp A.rs H H' → Q .non H'
theorem ok_unmake_node (T : Tx K mg) : FnOk P w K mg base CX0 3 T.f_unmake_node T.fd_unmake_node ["image", "n"] (sp_unmake_node T.C_Image T.C_Plan) := by
  refine T.F_unmake_node.ok sc_unmake_node (fun vs H Q E h => ?_) (fun cdv A0 outer s H vs Q E hr h => ?_)
  · obtain ⟨_, _, _, _, _, _, _, rfl, _⟩ := h; rfl
  · obtain ⟨im, A, v, b, n, sl, m, rfl, I, h1, h2, k⟩ := h
    refine ⟨_, (pss_one (ps_for PassesOwn.never rfl (pi_range1 rfl T.b_range (pa_cons (pe_cv T.mg_Plan T.cr_Plan T.cv_Plan_WIDTH) pa_nil)) (pg_name (i := 2) sc_unmake_node.nd rfl (.inl rfl))
        (pss_one (ps_if (pt_cmpR op_ne (pv 2) (pe_gc T.c_MAKING) (nomark _))
          (pss_one (ps_expr (pe_call (ok_put_node_cell T) hr rfl T.mg_put_node_cell T.F_put_node_cell.kp (b_put_node_cell T) .nil pass0 (pa_cons (pv 0) (pa_cons (pv 1) (pa_cons (pv 2) (pa_cons pe_int pa_nil)))))))
          pss_nil)))), ?_⟩
    obtain ⟨r, row, e1, e2, e3, e4⟩ := I.node h1 h2
    have hl := (List.getElem?_eq_some_iff.mp e2).1
    refine ⟨8, rfl, by decide, by decide, for_range (lo := 0) (n := (8 : Int).toNat) (fun i σ H' => ∃ u2, σ = [some (.ref im), some (.int m), u2] ∧ ImgAt T.C_Image T.C_Plan H' im A { v with M := v.M.set (nrow b m) (rz row i) } b n sl ∧ Kp A.rs H H')
      ⟨_, rfl, by rw [rz_zero, set_self e2]; exact I, Kp.refl⟩ ?_ ?_⟩
    · rintro i σ H' hi ⟨u2, rfl, I', k'⟩
      have hi : i < 8 := hi
      refine ⟨_, rfl, rfl, _, rfl, ?_⟩
      rw [dec_iv]
      by_cases e : i = 7
      · subst e
        rw [decide_eq_true (by decide)]
        refine iteF ⟨_, rfl, ?_, k'⟩
        have : rz row (7 + 1) = rz row 7 := by unfold rz; rfl
        rw [this]
        exact I'
      · rw [decide_eq_false (by omega)]
        refine iteT ⟨_, rfl, _, rfl, _, rfl, im, A, _, b, n, sl, m, _, 0, rfl, I', h1, h2, by omega, by omega, fun H2 I2 k2 => ?_⟩
        refine ⟨_, rfl, ?_, k'.trans k2⟩
        have ej : ((0 : Int) + (i : Int)).toNat = i := by omega
        dsimp only at I2
        rw [ej, setC_set hl, rz_step e3 (by omega)] at I2
        exact I2
    · rintro σ H' ⟨u2, rfl, I', k'⟩
      refine k H' ?_ k'
      have : rz row (8 : Int).toNat = [0, 0, 0, 0, 0, 0, 0, cellAt v.M (nrow b m) 7] := by
        show rz row 8 = _
        rw [rz_eight e3]
        unfold cellAt
        rw [e2]
        rfl
      rw [this] at I'
      exact I'
/-- the unmade nodes from 2 on, i looked at -/
def unmadeTo (b : Int) (M : List (List Int)) : Nat → List Int
  | 0 => []
  | i + 1 => unmadeTo b M i ++ (if cellAt M (nrow b (i + 2)) 0 = 0 then [(i : Int) + 2] else [])
theorem unmadeTo_len {b : Int} {M : List (List Int)} : ∀ i, (unmadeTo b M i).length ≤ i
  | 0 => Nat.le_refl _
  | i + 1 => by
    unfold unmadeTo
    rw [List.length_append]
    have := unmadeTo_len (b := b) (M := M) i
    split <;> simp <;> omega
theorem unmadeTo_mem {b : Int} {M : List (List Int)} {m : Int} : ∀ {i : Nat}, m ∈ unmadeTo b M i → 2 ≤ m ∧ m < i + 2 ∧ cellAt M (nrow b m) 0 = 0
  | 0, h => by cases h
  | i + 1, h => by
    unfold unmadeTo at h
    rcases List.mem_append.mp h with h | h
    · have := unmadeTo_mem h
      exact ⟨this.1, by omega, this.2.2⟩
    · split at h
      · rename_i hk
        simp at h
        subst h
        exact ⟨by omega, by omega, hk⟩
      · cases h
def sp_make_node (CI CP CN : Addr) : Sp := fun vs H Q E => ∃ (im : Addr) (A : IA) (v : IV) (b n s kind owner : Int), vs = [.ref im, .int kind, .int owner] ∧ ImgAt CI CP H im A v b n s ∧
  (unmadeTo b v.M (n - 1).toNat = [] → ∀ H', Same H H' → E (.ref CN) none H') ∧
  (∀ m rest, unmadeTo b v.M (n - 1).toNat = m :: rest → ∀ H', ImgAt CI CP H' im A { v with M := v.M.set (nrow b m) [kind, 0, 0, owner, 0, 0, 0, cellAt v.M (nrow b m) 7 + 1] } b n s → Kp A.rs H H' → Q (.int m) H')
theorem ok_make_node (T : Tx K mg) : FnOk P w K mg base (L2N.CX P w) 4 T.f_make_node T.fd_make_node ["image", "kind", "owner"] (sp_make_node T.C_Image T.C_Plan T.C_NodesFull) := by
  refine T.F_make_node.okN sc_make_node (fun vs H Q E h => ?_) (fun cdv A0 outer s H vs Q E hr h => ?_)
  · obtain ⟨_, _, _, _, _, _, _, _, rfl, _⟩ := h; rfl
  · obtain ⟨im, A, v, b, n, sl, kind, owner, rfl, I, kE, k⟩ := h
    have hr2 : Room 2 _ := hr.mono (by decide)
    refine ⟨_, (pss_cons (ps_setLc (i := 3) (own := [("n", 4)]) (g := gName 4) (tt := _) rfl sc_make_node.nd rfl rfl (sw_true rfl rfl rfl (by decide +kernel)) (pi_range2 rfl T.b_range (pa_cons (pe_op op_add (pe_gc T.c_ROOT) pe_int) (pa_cons (pe_op op_add (pe_fld (pe_fld (pv 0) rfl) rfl) pe_int) pa_nil))) (blkOk_by (N := ["image", "kind", "owner", "unmade", "n"]) (sc := defScope s_make_node) (by decide +kernel)) (fun _ _ _ _ _ => pg_name (i := 4) sc_make_node.nd rfl (Or.inl rfl)) (fun _ _ _ _ _ => pts_one (pt_not (pt_val (pe_call (ok_is_made T) hr rfl T.mg_is_made T.F_is_made.kp (b_is_made T) .nil pass0 (pa_cons (pv 0) (pa_cons (pv 4) pa_nil)))))) (fun _ _ _ _ _ => (pv 4)))
      (pss_cons (ps_if (pt_cmpR op_eq (pe_callB call_len_seq rfl T.b_len (by decide +kernel) (pa_cons (pv 3) pa_nil)) pe_int (nomark _))
        (pss_one (L2N.ps_raise rfl (L2N.takes_of rfl rfl rfl rfl) (L2N.pmk_own PySem.F.excBase_ValueError T.xe_NodesFull T.mg_NodesFull T.ke_NodesFull (raises_own T.be_NodesFull T.te_NodesFull) rfl)))
        pss_nil)
      (PSs.nox (pss_cons (ps_set (i := 4) sc_make_node.nd rfl (.inl rfl) (pe_ix ix_list (pv 3) pe_int (fun _ _ => rfl)))
      (pss_cons (ps_expr (pe_call (ok_unmake_node T) hr rfl T.mg_unmake_node T.F_unmake_node.kp (b_unmake_node T) .nil pass0 (pa_cons (pv 0) (pa_cons (pv 4) pa_nil))))
      (pss_cons (ps_expr (pe_call (ok_put_node_cell T) hr2 rfl T.mg_put_node_cell T.F_put_node_cell.kp (b_put_node_cell T) .nil pass0 (pa_cons (pv 0) (pa_cons (pv 4) (pa_cons (pe_gc T.c_KIND) (pa_cons (pv 1) pa_nil))))))
      (pss_cons (ps_expr (pe_call (ok_put_node_cell T) hr2 rfl T.mg_put_node_cell T.F_put_node_cell.kp (b_put_node_cell T) .nil pass0 (pa_cons (pv 0) (pa_cons (pv 4) (pa_cons (pe_gc T.c_OWNER) (pa_cons (pv 2) pa_nil))))))
      (pss_cons (ps_expr (pe_call (ok_put_node_cell T) hr2 rfl T.mg_put_node_cell T.F_put_node_cell.kp (b_put_node_cell T) .nil pass0 (pa_cons (pv 0) (pa_cons (pv 4) (pa_cons (pe_gc T.c_MAKING) (pa_cons (pe_op op_add (pe_call (ok_node_cell T) hr2 rfl T.mg_node_cell T.F_node_cell.kp (b_node_cell T) .nil pass0 (pa_cons (pv 0) (pa_cons (pv 4) (pa_cons (pe_gc T.c_MAKING) pa_nil)))) pe_int) pa_nil))))))
      (pss_one (ps_ret (pv 4))))))))))), ?_⟩
    obtain ⟨dxp, hpl⟩ := I.pl.ob
    have n1 := I.pl.n1
    have n2 := I.pl.n2
    refine ⟨_, _, rfl, rfl, _, rfl, im, _, _, _, _, rfl, I.ob, T.cl_Image, T.na_Image_plan, rfl, A.pl, _, dxp, _, _, rfl, hpl, T.cl_Plan, T.na_Plan_nodes, rfl, _, _, rfl, rfl, 1 + 1, n + 1, rfl, ⟨by omega, by omega, by omega, by omega⟩, fun D hD => ?_⟩
    refine lc_range (lo := 1 + 1) (n := (n + 1 - (1 + 1)).toNat) (fun i H' => Same H H' ∧ H' D = some (.lst ((unmadeTo b v.M i).map V.int))) ⟨same_upd hD, upd_same⟩ ?_ ?_
    · rintro i H' hi ⟨S, e⟩
      refine ⟨rfl, ?_⟩
      refine ⟨_, rfl, _, rfl, im, A, v, b, n, sl, _, rfl, I.keep S, by omega, by omega, _, rfl, ?_⟩
      by_cases hk : cellAt v.M (nrow b (i + 2)) 0 = 0
      · rw [show (1 : Int) + 1 + i = i + 2 by omega, hk]
        refine iteT ⟨_, rfl, _, e, ?_, fun y o z => ?_, ?_⟩
        · rw [List.length_map]
          have := unmadeTo_len (b := b) (M := v.M) i
          exact small1000 (by omega)
        · rw [upd_ne (ne_of_none z hD)]
          exact S _ _ z
        · rw [upd_same]
          show _ = some (HO.lst (((unmadeTo b v.M i) ++ (if cellAt v.M (nrow b (i + 2)) 0 = 0 then [(i : Int) + 2] else [])).map V.int))
          rw [if_pos hk, List.map_append]
          rfl
      · rw [show (1 : Int) + 1 + i = i + 2 by omega, decide_eq_false hk]
        refine iteF ⟨S, ?_⟩
        unfold unmadeTo
        rw [if_neg hk, List.append_nil]
        exact e
    rintro H1 ⟨S, e⟩
    rw [show (n + 1 - (1 + 1)).toNat = (n - 1).toNat by omega] at e
    refine ⟨_, rfl, D, _, rfl, .inl (.of e), rfl, _, rfl, ite2 (fun z => ?_) (fun z => ?_)⟩
    · have z' := V.int.inj (of_decide_eq_true z)
      rw [List.length_map] at z'
      have : unmadeTo b v.M (n - 1).toNat = [] := by
        cases q : unmadeTo b v.M (n - 1).toNat with
        | nil => rfl
        | cons a r => rw [q] at z'; simp at z'; omega
      exact kE this _ S
    · cases q : unmadeTo b v.M (n - 1).toNat with
      | nil =>
        refine absurd (decide_eq_true ?_) z
        rw [q]
        rfl
      | cons m rest =>
        have hm : m ∈ unmadeTo b v.M (n - 1).toNat := by rw [q]; exact List.mem_cons_self
        obtain ⟨h1, h2, h3⟩ := unmadeTo_mem hm
        have I1 := I.keep S
        obtain ⟨r, row, e1, e2, e3, e4⟩ := I1.node (m := m) (by omega) (by omega)
        have hl := (List.getElem?_eq_some_iff.mp e2).1
        refine ⟨_, rfl, D, _, 0, .int m, rfl, rfl, .of e, atI_nat (j := 0) (by rw [q]; rfl), ?_⟩
        refine ⟨_, rfl, _, rfl, im, A, v, b, n, sl, m, rfl, I1, by omega, by omega, fun H2 I2 k2 => ?_⟩
        refine ⟨_, rfl, _, rfl, _, rfl, im, A, _, b, n, sl, m, 0, kind, rfl, I2, by omega, by omega, by decide, by decide, fun H3 I3 k3 => ?_⟩
        refine ⟨_, rfl, _, rfl, _, rfl, im, A, _, b, n, sl, m, 3, owner, rfl, I3, by omega, by omega, by decide, by decide, fun H4 I4 k4 => ?_⟩
        refine ⟨_, rfl, _, rfl, _, rfl, _, rfl, im, A, _, b, n, sl, m, 7, rfl, I4, by omega, by omega, by decide, by decide, _, _, rfl, rfl, im, A, _, b, n, sl, m, 7, _, rfl, I4, by omega, by omega, by decide, by decide, fun H5 I5 k5 => ?_⟩
        refine ⟨_, rfl, k m rest q H5 ?_ (fun y o z ny => k5 _ _ (k4 _ _ (k3 _ _ (k2 _ _ (S _ _ z) ny) ny) ny) ny)⟩
        dsimp only at I5
        have c0 : (0 : Int).toNat = 0 := rfl
        have c3 : (3 : Int).toNat = 3 := rfl
        have c7 : (7 : Int).toNat = 7 := rfl
        rw [c0, c3, c7, setC_set hl, setC_set hl, cellAt_of (List.getElem?_set_self hl) (x := cellAt v.M (nrow b m) 7) rfl, setC_set hl] at I5
        exact I5
end
end K07
namespace K07
open PySem PySem.Spec PyProof.Rows L2 Rg
/-! ### any(xs), xs a list of whole numbers -/
theorem intsT : ∀ {ns : List Int} {us : List Value}, Vals (ns.map V.int) us → ∀ (i : Nat) (v : Value), us[i]? = some v → ∃ n t, ns[i]? = some n ∧ v = Value.int n t
  | [], us, h, i, v, e => by
    rw [List.map_nil] at h
    cases h
    simp at e
  | n :: ns, us, h, i, v, e => by
    rw [List.map_cons] at h
    cases h with
    | cons r t =>
      obtain ⟨k, rfl⟩ := r
      cases i with
      | zero =>
        simp at e
        exact ⟨n, k, rfl, e.symm⟩
      | succ i => exact intsT t i v (by simpa using e)
theorem any_rangeI : ∀ ns : List Int, (List.range ns.length).any (fun i => ns.getD i 0 != 0) = ns.any fun x => x != 0
  | [] => rfl
  | n :: ns => by
    rw [List.length_cons, List.range_succ_eq_map, List.any_cons, List.any_map, List.any_cons, ← any_rangeI ns]
    all_goals rfl
def rAnyI (K : PySem.W.Frag) : List V → Hp → VK → Prop := fun vs H Q => ∃ (a : Addr) (ns : List Int), vs = [V.ref a] ∧ SqL K H a (ns.map V.int) ∧ Q (.bl (ns.any fun x => x != 0)) H
theorem cr_anyI {X : Cx} (hc : X.calm = true) : CallR X (.builtin "any") (rAnyI X.K) := by
  intro pins s σ H vs us Q I r h
  obtain ⟨a, ns, rfl, hs, q⟩ := h
  obtain ⟨its, rv, hl, _⟩ := I.list hs
  rw [Vals.ref1 r]
  have hb := intsT rv
  have hlen := rv.length
  rw [List.length_map] at hlen
  refine call_any_walk (iter_any hl.isList fun s₂ e2 st hne => ?_)
  subst e2
  refine ⟨_, _, _, _, _, _, fun i => ns.getD i 0 != 0, rfl, Walks.list (A := X.A.in1) (I.ok.hd hc) _ a hne its.toArray, st, fun i v s Q E hv hq => ?_, fun h' tk hk => ?_⟩
  · have hv' : its[i]? = some v := by simpa using hv
    obtain ⟨n, t, e, rfl⟩ := hb i v hv'
    have hg : ns.getD i 0 = n := by rw [List.getD_eq_getElem?_getD, e] <;> rfl
    have hq' : Q (ns.getD i 0 != 0) s := hq
    rw [hg] at hq'
    exact PyProof.Rows.truthy_int hq'
  · refine ⟨.bl _, H, I.kept fun b o eo => hk b o (fun hmem => ?_) (Heap.get?_push_of_some _ eo), ?_, q⟩
    · rcases List.mem_cons.mp hmem with e1 | hmem
      · exact absurd (e1 ▸ Heap.lt_size eo) (Nat.lt_irrefl _)
      · cases hmem
    · show Value.bool _ = Value.bool _
      rw [← any_rangeI, List.size_toArray, hlen]
end K07
namespace K07
open PySem PySem.Spec PyProof.Rows L2 Rg
/-! ### places -/
/-- the cell of the table of places in a node -/
def plc (b : Int) (M : List (List Int)) (m : Int) : Int := cellAt M (nrow b m) 6
/-- place o of node m -/
def plV (b : Int) (M : List (List Int)) (m : Int) (o : Nat) : Int :=
  if o < 2 then cellAt M (nrow b m) (4 + o) else if plc b M m = 0 then 0 else cellAt M (plc b M m).toNat (o - 2)
/-- the table of places is a block of the image, or there is none -/
def PlcOk (b n : Int) (M : List (List Int)) (m : Int) : Prop := plc b M m = 0 ∨ (fdOf b n ≤ plc b M m ∧ plc b M m < b)
section
variable {P : Program} {w : World} {K : PySem.W.Frag} {mg : Str → Option Value} {base : Heap}
theorem ImgAt.rowAt {CI CP : Addr} {H : Hp} {im : Addr} {A : IA} {v : IV} {b n s : Int} (I : ImgAt CI CP H im A v b n s) {x : Nat} (hx : (x : Int) < b) : ∃ r m, A.rs[x]? = some r ∧ v.M[x]? = some m ∧ m.length = 8 ∧ H r = some (.lst (m.map V.int)) := by
  have d0 := I.d0
  have hl : x < v.M.length := by omega
  obtain ⟨r, r1, r2, _⟩ := I.gr.get (List.getElem?_eq_getElem hl)
  exact ⟨r, _, r1, List.getElem?_eq_getElem hl, I.d1 _ (List.getElem_mem hl), r2⟩
def sp_place_block (CI CP : Addr) : Sp := fun vs H Q _ => ∃ (im : Addr) (A : IA) (v : IV) (b n s m : Int) (o : Nat), vs = [.ref im, .int m, .int o] ∧ ImgAt CI CP H im A v b n s ∧ 1 ≤ m ∧ m ≤ n ∧ o < 10 ∧ PlcOk b n v.M m ∧ Q (.int (plV b v.M m o)) H
theorem ok_place_block (T : Tx K mg) : FnOk P w K mg base CX0 3 T.f_place_block T.fd_place_block ["image", "n", "o"] (sp_place_block T.C_Image T.C_Plan) := by
  refine T.F_place_block.ok sc_place_block (fun vs H Q E h => ?_) (fun cdv A0 outer s H vs Q E hr h => ?_)
  · obtain ⟨_, _, _, _, _, _, _, _, rfl, _⟩ := h; rfl
  · obtain ⟨im, A, v, b, n, sl, m, o, rfl, I, h1, h2, ho, hp, k⟩ := h
    refine ⟨_, (pss_cons (ps_if (pt_cmpR op_lt (pv 2) (pe_gc T.c_NODE_PLACES) (nomark _))
        (pss_one (ps_ret (pe_call (ok_node_cell T) hr rfl T.mg_node_cell T.F_node_cell.kp (b_node_cell T) .nil pass0 (pa_cons (pv 0) (pa_cons (pv 1) (pa_cons (pe_op op_add (pe_gc T.c_FIRST_PLACE) (pv 2)) pa_nil))))))
        pss_nil)
      (pss_cons (ps_set (i := 3) sc_place_block.nd rfl (.inl rfl) (pe_call (ok_node_cell T) hr rfl T.mg_node_cell T.F_node_cell.kp (b_node_cell T) .nil pass0 (pa_cons (pv 0) (pa_cons (pv 1) (pa_cons (pe_gc T.c_PLACES) pa_nil)))))
      (pss_one (ps_ret (pe_ifExp (pt_truth (pv 3) (fun _ => rfl)) (pe_ix ix_list (pe_ix ix_list (pe_fld (pv 0) rfl) (pv 3) (fun _ _ => rfl)) (pe_op op_sub (pv 2) (pe_gc T.c_NODE_PLACES)) (fun _ _ => rfl)) pe_int))))), ?_⟩
    refine ⟨_, rfl, _, _, rfl, rfl, _, rfl, ?_⟩
    unfold plV at k
    by_cases q : o < 2
    · rw [decide_eq_true (by omega)]
      rw [if_pos q] at k
      refine iteT ⟨_, rfl, _, rfl, _, rfl, _, _, rfl, rfl, im, A, v, b, n, sl, m, 4 + (o : Int), rfl, I, h1, h2, by omega, by omega, ?_⟩
      rw [show (4 + (o : Int)).toNat = 4 + o by omega]
      exact k
    · rw [decide_eq_false (by omega)]
      rw [if_neg q] at k
      refine iteF ⟨_, rfl, _, rfl, im, A, v, b, n, sl, m, 6, rfl, I, h1, h2, by decide, by decide, ?_⟩
      refine ⟨_, rfl, _, rfl, ?_⟩
      have e6 : cellAt v.M (nrow b m) (6 : Int).toNat = plc b v.M m := rfl
      rw [e6]
      by_cases z : plc b v.M m = 0
      · rw [if_pos z] at k
        rw [z]
        exact iteF k
      · rw [if_neg z] at k
        rcases hp with hp | hp
        · exact absurd hp z
        have hf : fdOf b n = 2 + (b + 8 - 1) / 8 + n := rfl
        have b1 := I.pl.b1
        have n1 := I.pl.n1
        obtain ⟨r, row, r1, r2, r3, r4⟩ := I.rowAt (x := (plc b v.M m).toNat) (by omega)
        have hol : o - 2 < row.length := by omega
        rw [cellAt_of r2 (List.getElem?_eq_getElem hol)] at k
        have hne : (plc b v.M m != 0) = true := by simp [z]
        rw [hne]
        refine iteT ⟨_, rfl, im, _, _, _, _, rfl, I.ob, T.cl_Image, T.na_Image_cells, rfl, _, rfl, A.ca, _, _, .ref r, rfl, rfl, .of I.gr.out, at_of (j := (plc b v.M m).toNat) (by omega) (by rw [List.getElem?_map, r1]; rfl), _, rfl, _, _, rfl, rfl, r, _, _, _, rfl, rfl, .of r4, at_of (j := o - 2) (by omega) (by rw [List.getElem?_map, List.getElem?_eq_getElem hol]; rfl), k⟩
/-- place o of node m set to x -/
def putPl (b : Int) (M : List (List Int)) (m : Int) (o : Nat) (x : Int) : List (List Int) := if o < 2 then setC M (nrow b m) (4 + o) x else setC M (plc b M m).toNat (o - 2) x
def sp_put_place (CI CP : Addr) : Sp := fun vs H Q _ => ∃ (im : Addr) (A : IA) (v : IV) (b n s m : Int) (o : Nat) (x : Int), vs = [.ref im, .int m, .int o, .int x] ∧ ImgAt CI CP H im A v b n s ∧ 1 ≤ m ∧ m ≤ n ∧ o < 10 ∧ (2 ≤ o → fdOf b n ≤ plc b v.M m ∧ plc b v.M m < b) ∧
  ∀ H', ImgAt CI CP H' im A { v with M := putPl b v.M m o x } b n s → Kp A.rs H H' → Q .non H'
theorem ok_put_place (T : Tx K mg) : FnOk P w K mg base CX0 3 T.f_put_place T.fd_put_place ["image", "n", "o", "x"] (sp_put_place T.C_Image T.C_Plan) := by
  refine T.F_put_place.ok sc_put_place (fun vs H Q E h => ?_) (fun cdv A0 outer s H vs Q E hr h => ?_)
  · obtain ⟨_, _, _, _, _, _, _, _, _, rfl, _⟩ := h; rfl
  · obtain ⟨im, A, v, b, n, sl, m, o, x, rfl, I, h1, h2, ho, hp, k⟩ := h
    refine ⟨_, (pss_one (ps_if (pt_cmpR op_lt (pv 2) (pe_gc T.c_NODE_PLACES) (nomark _))
        (pss_one (ps_expr (pe_call (ok_put_node_cell T) hr rfl T.mg_put_node_cell T.F_put_node_cell.kp (b_put_node_cell T) .nil pass0 (pa_cons (pv 0) (pa_cons (pv 1) (pa_cons (pe_op op_add (pe_gc T.c_FIRST_PLACE) (pv 2)) (pa_cons (pv 3) pa_nil)))))))
        (pss_one (ps_asg (pv 3) (pg_sub (pe_ix ix_list (pe_fld (pv 0) rfl) (pe_call (ok_node_cell T) hr rfl T.mg_node_cell T.F_node_cell.kp (b_node_cell T) .nil pass0 (pa_cons (pv 0) (pa_cons (pv 1) (pa_cons (pe_gc T.c_PLACES) pa_nil)))) (fun _ _ => rfl)) (pe_op op_sub (pv 2) (pe_gc T.c_NODE_PLACES)) set_list))))), ?_⟩
    refine ⟨_, rfl, _, _, rfl, rfl, _, rfl, ?_⟩
    unfold putPl at k
    by_cases q : o < 2
    · rw [decide_eq_true (by omega)]
      simp only [if_pos q] at k
      refine iteT ⟨_, rfl, _, rfl, _, rfl, _, _, rfl, rfl, _, rfl, im, A, v, b, n, sl, m, 4 + (o : Int), x, rfl, I, h1, h2, by omega, by omega, fun H' I' k' => ?_⟩
      rw [show (4 + (o : Int)).toNat = 4 + o by omega] at I'
      exact k H' I' k'
    · rw [decide_eq_false (by omega)]
      simp only [if_neg q] at k
      have hp := hp (by omega)
      have hf : fdOf b n = 2 + (b + 8 - 1) / 8 + n := rfl
      have b1 := I.pl.b1
      have n1 := I.pl.n1
      obtain ⟨r, row, r1, r2, r3, r4⟩ := I.rowAt (x := (plc b v.M m).toNat) (by omega)
      refine iteF ⟨_, rfl, _, rfl, im, _, _, _, _, rfl, I.ob, T.cl_Image, T.na_Image_cells, rfl, _, rfl, _, rfl, im, A, v, b, n, sl, m, 6, rfl, I, h1, h2, by decide, by decide, A.ca, _, _, .ref r, rfl, rfl, .of I.gr.out, at_of (j := (plc b v.M m).toNat) (by show plc b v.M m = _; omega) (by rw [List.getElem?_map, r1]; rfl), _, rfl, _, _, rfl, rfl, r, _, _, o - 2, rfl, rfl, r4, ixN_nat (by omega) (by rw [List.length_map]; omega), ?_⟩
      exact k _ (I.setC r1 r2) (Kp.refl.own (List.mem_of_getElem? r1))
def sp_needs (CI CP : Addr) : Sp := fun vs H Q _ => ∃ (im : Addr) (A : IA) (v : IV) (b n s m : Int) (o : Nat), vs = [.ref im, .int m, .int o] ∧ ImgAt CI CP H im A v b n s ∧ 1 ≤ m ∧ m ≤ n ∧ Q (.bl (decide (2 ≤ o) && decide (plc b v.M m = 0))) H
theorem ok_needs (T : Tx K mg) : FnOk P w K mg base CX0 3 T.f_needs_block_of_places T.fd_needs_block_of_places ["image", "n", "o"] (sp_needs T.C_Image T.C_Plan) := by
  refine T.F_needs_block_of_places.ok sc_needs_block_of_places (fun vs H Q E h => ?_) (fun cdv A0 outer s H vs Q E hr h => ?_)
  · obtain ⟨_, _, _, _, _, _, _, _, rfl, _⟩ := h; rfl
  · obtain ⟨im, A, v, b, n, sl, m, o, rfl, I, h1, h2, k⟩ := h
    refine ⟨_, (pss_one (ps_ret (pe_and (pe_cmpR op_ge (pv 2) (pe_gc T.c_NODE_PLACES) (nomark _)) (pe_one (pe_cmpR op_eq (pe_call (ok_node_cell T) hr rfl T.mg_node_cell T.F_node_cell.kp (b_node_cell T) .nil pass0 (pa_cons (pv 0) (pa_cons (pv 1) (pa_cons (pe_gc T.c_PLACES) pa_nil)))) pe_int (nomark _)))))), ?_⟩
    refine ⟨_, rfl, _, _, rfl, rfl, _, rfl, ?_⟩
    by_cases q : 2 ≤ o
    · rw [decide_eq_true (show (o : Int) ≥ 2 by omega)]
      rw [decide_eq_true q] at k
      refine iteT ⟨_, rfl, _, rfl, im, A, v, b, n, sl, m, 6, rfl, I, h1, h2, by decide, by decide, rfl, ?_⟩
      rw [dec_iv]
      exact k
    · rw [decide_eq_false (show ¬ (o : Int) ≥ 2 by omega)]
      rw [decide_eq_false q] at k
      exact iteF k
end
end K07
namespace K07
open PySem PySem.Spec PyProof.Rows L2 Rg
/-! ### rows that are the old ones or new -/
def RsOf (H : Hp) (rs rs' : List Addr) : Prop := ∀ r ∈ rs', r ∈ rs ∨ H r = none
theorem RsOf.refl {H : Hp} {rs : List Addr} : RsOf H rs rs := fun _ h => .inl h
theorem RsOf.set {H : Hp} {rs rs' : List Addr} (h : RsOf H rs rs') {i : Nat} {q : Addr} (hq : H q = none) : RsOf H rs (rs'.set i q) := fun r hr => by
  rcases mem_set_of hr with e | e
  · exact .inr (by rw [e]; exact hq)
  · exact h r e
/-- what an image's rows, lists change, behind rows of which some are new -/
theorem Kp.rsOf {H H1 H2 : Hp} {L rs rs' : List Addr} (k1 : Kp (L ++ rs) H H1) (h : RsOf H rs rs') (k2 : Kp (L ++ rs') H1 H2) : Kp (L ++ rs) H H2 := fun x o e n => by
  refine k2 _ _ (k1 x o e n) fun z => ?_
  rcases List.mem_append.mp z with z | z
  · exact n (List.mem_append.mpr (.inl z))
  · rcases h x z with q | q
    · exact n (List.mem_append.mpr (.inr q))
    · rw [q] at e
      cases e
def ft3 (A : IA) : List Addr := [A.ca, A.ho, A.st]
theorem ft3_eq {A : IA} : ft3 A ++ A.rs = A.ca :: A.ho :: A.st :: A.rs := rfl
/-- the block of places freed, if it holds nothing -/
def dropB (b : Int) (v : IV) (m : Int) (o : Nat) : IV :=
  if plc b v.M m = 0 ∨ ((v.M[(plc b v.M m).toNat]?).getD []).any (fun x => x != 0) = true then v
  else { giveV v (plc b v.M m).toNat o with M := setC (giveV v (plc b v.M m).toNat o).M (nrow b m) 6 0 }
section
variable {P : Program} {w : World} {K : PySem.W.Frag} {mg : Str → Option Value} {base : Heap}
def sp_drop_block (CI CP : Addr) : Sp := fun vs H Q _ => ∃ (im : Addr) (A : IA) (v : IV) (b n s m : Int) (o : Nat), vs = [.ref im, .int m] ∧ ImgAt CI CP H im A v b n s ∧ 1 ≤ m ∧ m ≤ n ∧ PlcOk b n v.M m ∧ cellAt v.M (nrow b m) 3 = o ∧ o < 4 ∧
  ∀ H' rs', RsOf H A.rs rs' → ImgAt CI CP H' im { A with rs := rs' } (dropB b v m o) b n s → Kp (ft3 A ++ A.rs) H H' → Q .non H'
theorem ok_drop_block (T : Tx K mg) : FnOk P w K mg base CX0 4 T.f_drop_block_of_places T.fd_drop_block_of_places ["image", "n"] (sp_drop_block T.C_Image T.C_Plan) := by
  refine T.F_drop_block_of_places.ok sc_drop_block_of_places (fun vs H Q E h => ?_) (fun cdv A0 outer s H vs Q E hr h => ?_)
  · obtain ⟨_, _, _, _, _, _, _, _, rfl, _⟩ := h; rfl
  · obtain ⟨im, A, v, b, n, sl, m, o, rfl, I, h1, h2, hp, ho, ho4, k⟩ := h
    have hr2 : Room 2 _ := hr.mono (by decide)
    refine ⟨_, (pss_cons (ps_set (i := 2) sc_drop_block_of_places.nd rfl (.inl rfl) (pe_call (ok_node_cell T) hr2 rfl T.mg_node_cell T.F_node_cell.kp (b_node_cell T) .nil pass0 (pa_cons (pv 0) (pa_cons (pv 1) (pa_cons (pe_gc T.c_PLACES) pa_nil)))))
      (pss_one (ps_if (PW.pt (pw_and (pt_truth (pv 2) (fun _ => rfl)) (pw_and1 (pt_not (pt_val (pe_callB (cr_anyI rfl) rfl T.b_any (by decide +kernel) (pa_cons (pe_ix ix_list (pe_fld (pv 0) rfl) (pv 2) (fun _ _ => rfl)) pa_nil)))))))
        (pss_cons (ps_expr (pe_meth (pv 0) T.cl_Image T.m_Image_give (ok_give T) hr (b_Image_give T) .nil pass0 (pa_cons (pv 2) (pa_cons (pe_call (ok_node_cell T) hr2 rfl T.mg_node_cell T.F_node_cell.kp (b_node_cell T) .nil pass0 (pa_cons (pv 0) (pa_cons (pv 1) (pa_cons (pe_gc T.c_OWNER) pa_nil)))) pa_nil))))
        (pss_one (ps_expr (pe_call (ok_put_node_cell T) hr2 rfl T.mg_put_node_cell T.F_put_node_cell.kp (b_put_node_cell T) .nil pass0 (pa_cons (pv 0) (pa_cons (pv 1) (pa_cons (pe_gc T.c_PLACES) (pa_cons pe_int pa_nil))))))))
        pss_nil))), ?_⟩
    refine ⟨_, rfl, _, rfl, im, A, v, b, n, sl, m, 6, rfl, I, h1, h2, by decide, by decide, ?_⟩
    have e6 : cellAt v.M (nrow b m) (6 : Int).toNat = plc b v.M m := rfl
    rw [e6]
    refine ⟨_, rfl, _, rfl, ?_⟩
    unfold dropB at k
    by_cases z : plc b v.M m = 0
    · simp only [if_pos (Or.inl z : plc b v.M m = 0 ∨ ((v.M[(plc b v.M m).toNat]?).getD []).any (fun x => x != 0) = true)] at k
      have hz : (plc b v.M m != 0) = false := by simp [z]
      rw [hz]
      exact iteF (k H A.rs RsOf.refl I Kp.refl)
    · have hz : (plc b v.M m != 0) = true := by simp [z]
      rw [hz]
      rcases hp with hp | hp
      · exact absurd hp z
      have hf : fdOf b n = 2 + (b + 8 - 1) / 8 + n := rfl
      have b1 := I.pl.b1
      have n1 := I.pl.n1
      obtain ⟨x, ex⟩ : ∃ x : Nat, plc b v.M m = x := ⟨(plc b v.M m).toNat, by omega⟩
      rw [ex] at k hp ⊢
      obtain ⟨r, row, r1, r2, r3, r4⟩ := I.rowAt (x := x) (by omega)
      have ext : ((x : Nat) : Int).toNat = x := by omega
      rw [ext, r2] at k
      refine iteT ⟨_, rfl, im, _, _, _, _, rfl, I.ob, T.cl_Image, T.na_Image_cells, rfl, _, rfl, A.ca, _, _, .ref r, rfl, rfl, .of I.gr.out, atI_nat (by rw [List.getElem?_map, r1]; rfl), r, row, rfl, .of r4, _, rfl, ?_⟩
      by_cases an : row.any (fun x => x != 0) = true
      · have e : ((x : Int) = 0 ∨ ((some row).getD []).any (fun x => x != 0) = true) := .inr an
        simp only [if_pos e] at k
        rw [an]
        exact iteF (k H A.rs RsOf.refl I Kp.refl)
      · have e : ¬ ((x : Int) = 0 ∨ ((some row).getD []).any (fun x => x != 0) = true) := fun y => y.elim (fun q => z (by rw [ex]; exact q)) an
        simp only [if_neg e] at k
        have an' : row.any (fun x => x != 0) = false := by
          cases q : row.any (fun x => x != 0) with
          | false => rfl
          | true => exact absurd q an
        rw [an']
        refine iteT ⟨_, rfl, im, _, _, rfl, I.ob, rfl, _, rfl, _, rfl, _, rfl, im, A, v, b, n, sl, m, 3, rfl, I, h1, h2, by decide, by decide, im, A, v, b, n, sl, x, o, ?_, I, hp.1, hp.2, ho4, fun H1 q nq I1 k1 => ?_⟩
        · rw [show cellAt v.M (nrow b m) (3 : Int).toNat = (o : Int) from ho]
          rfl
        · refine ⟨_, rfl, _, rfl, im, _, _, b, n, sl, m, 6, 0, rfl, I1, h1, h2, by decide, by decide, fun H2 I2 k2 => ?_⟩
          have R1 : RsOf H A.rs (A.rs.set x q) := RsOf.refl.set nq
          refine k H2 _ R1 I2 (Kp.rsOf (L := ft3 A) k1 R1 (k2.mono fun y hy => List.mem_append.mpr (.inr hy)))
end
end K07
namespace K07
open PySem PySem.Spec PyProof.Rows L2 Rg
theorem cellAt_congr' {M R : List (List Int)} {i j : Nat} (h : M[i]? = R[i]?) : cellAt M i j = cellAt R i j := by
  unfold cellAt
  rw [h]
theorem cellAt_setC {M : List (List Int)} {i j k : Nat} {x : Int} (h : k ≠ j) : cellAt (setC M i j x) i k = cellAt M i k := by
  by_cases hi : i < M.length
  · have e := List.getElem?_eq_getElem hi
    unfold cellAt
    rw [setC_at e, e]
    show ((M[i].set j x)[k]?).getD 0 = (M[i][k]?).getD 0
    rw [List.getElem?_set_ne (fun z => h z.symm)]
  · unfold setC
    rw [List.set_eq_of_length_le (by omega)]
theorem cellAt_setC_row {M : List (List Int)} {i i' j k : Nat} {x : Int} (h : i ≠ i') : cellAt (setC M i j x) i' k = cellAt M i' k := cellAt_congr' (setC_row h)
theorem putB_row {v : IV} {x y : Nat} {kind serial : Int} (h1 : y ≠ 2 + x / 8) (h2 : y ≠ x) : (putB v x kind serial).M[y]? = v.M[y]? := by
  show ((setC v.M (2 + x / 8) (x % 8) kind).set x (List.replicate 8 0))[y]? = _
  rw [List.getElem?_set_ne (fun z => h2 z.symm), setC_row (fun z => h1 z.symm)]
theorem giveV_row {v : IV} {x y o : Nat} (h0 : y ≠ 0) (h1 : y ≠ 2 + x / 8) (h2 : y ≠ x) : (giveV v x o).M[y]? = v.M[y]? := by
  show (setC (putB v x 0 0).M 0 o (cellAt v.M 0 o - 1))[y]? = _
  rw [setC_row (fun z => h0 z.symm), putB_row h1 h2]
theorem takeV_row {v : IV} {x y o : Nat} {kind : Int} (h0 : y ≠ 0) (h1 : y ≠ 2 + x / 8) (h2 : y ≠ x) : (takeV v x kind o).M[y]? = v.M[y]? := by
  show (setC (putB v x kind v.se).M 0 o (cellAt v.M 0 o + 1))[y]? = _
  rw [setC_row (fun z => h0 z.symm), putB_row h1 h2]
/-- a node's row is none of those that a take or a give changes -/
theorem node_apart {b n m : Int} {x : Nat} (hb : 8 ≤ b) (hn : 2 ≤ n) (h1 : 1 ≤ m) (h2 : m ≤ n) (hx : fdOf b n ≤ x) (hxb : (x : Int) < b) : nrow b m ≠ 0 ∧ nrow b m ≠ 2 + x / 8 ∧ nrow b m ≠ x ∧ (nrow b m : Int) < fdOf b n := by
  unfold fdOf at hx ⊢
  unfold nrow
  refine ⟨by omega, by omega, by omega, by omega⟩
def dropP (b : Int) (v : IV) (m : Int) (o ow : Nat) : IV :=
  if plV b v.M m o = 0 then v
  else dropB b { giveV v (plV b v.M m o).toNat ow with M := putPl b (giveV v (plV b v.M m o).toNat ow).M m o 0 } m ow
section
variable {P : Program} {w : World} {K : PySem.W.Frag} {mg : Str → Option Value} {base : Heap}
/-- the places of a node are blocks of the image, none of them the table -/
def PlOk (b n : Int) (M : List (List Int)) (m : Int) (o : Nat) : Prop := plV b M m o = 0 ∨ (fdOf b n ≤ plV b M m o ∧ plV b M m o < b)
def sp_drop_place (CI CP : Addr) : Sp := fun vs H Q _ => ∃ (im : Addr) (A : IA) (v : IV) (b n s m : Int) (o ow : Nat), vs = [.ref im, .int m, .int o] ∧ ImgAt CI CP H im A v b n s ∧ 1 ≤ m ∧ m ≤ n ∧ o < 10 ∧ PlcOk b n v.M m ∧ PlOk b n v.M m o ∧ cellAt v.M (nrow b m) 3 = ow ∧ ow < 4 ∧
  ∀ H' rs', RsOf H A.rs rs' → ImgAt CI CP H' im { A with rs := rs' } (dropP b v m o ow) b n s → Kp (ft3 A ++ A.rs) H H' → Q .non H'
theorem ok_drop_place (T : Tx K mg) : FnOk P w K mg base CX0 5 T.f_drop_place T.fd_drop_place ["image", "n", "o"] (sp_drop_place T.C_Image T.C_Plan) := by
  refine T.F_drop_place.ok sc_drop_place (fun vs H Q E h => ?_) (fun cdv A0 outer s H vs Q E hr h => ?_)
  · obtain ⟨_, _, _, _, _, _, _, _, _, rfl, _⟩ := h; rfl
  · obtain ⟨im, A, v, b, n, sl, m, o, ow, rfl, I, h1, h2, ho, hp, hx, how, how4, k⟩ := h
    have hr2 : Room 2 _ := hr.mono (by decide)
    have hr3 : Room 3 _ := hr.mono (by decide)
    refine ⟨_, (pss_cons (ps_set (i := 3) sc_drop_place.nd rfl (.inl rfl) (pe_call (ok_place_block T) hr3 rfl T.mg_place_block T.F_place_block.kp (b_place_block T) .nil pass0 (pa_cons (pv 0) (pa_cons (pv 1) (pa_cons (pv 2) pa_nil)))))
      (pss_one (ps_if (pt_truth (pv 3) (fun _ => rfl))
        (pss_cons (ps_expr (pe_meth (pv 0) T.cl_Image T.m_Image_give (ok_give T) hr3 (b_Image_give T) .nil pass0 (pa_cons (pv 3) (pa_cons (pe_call (ok_node_cell T) hr2 rfl T.mg_node_cell T.F_node_cell.kp (b_node_cell T) .nil pass0 (pa_cons (pv 0) (pa_cons (pv 1) (pa_cons (pe_gc T.c_OWNER) pa_nil)))) pa_nil))))
        (pss_cons (ps_expr (pe_call (ok_put_place T) hr3 rfl T.mg_put_place T.F_put_place.kp (b_put_place T) .nil pass0 (pa_cons (pv 0) (pa_cons (pv 1) (pa_cons (pv 2) (pa_cons pe_int pa_nil))))))
        (pss_one (ps_expr (pe_call (ok_drop_block T) hr rfl T.mg_drop_block_of_places T.F_drop_block_of_places.kp (b_drop_block_of_places T) .nil pass0 (pa_cons (pv 0) (pa_cons (pv 1) pa_nil)))))))
        pss_nil))), ?_⟩
    refine ⟨_, rfl, _, rfl, _, rfl, im, A, v, b, n, sl, m, o, rfl, I, h1, h2, ho, hp, ?_⟩
    refine ⟨_, rfl, _, rfl, ?_⟩
    unfold dropP at k
    by_cases z : plV b v.M m o = 0
    · simp only [if_pos z] at k
      have hz : (plV b v.M m o != 0) = false := by simp [z]
      rw [hz]
      exact iteF (k H A.rs RsOf.refl I Kp.refl)
    · simp only [if_neg z] at k
      have hz : (plV b v.M m o != 0) = true := by simp [z]
      rw [hz]
      rcases hx with hx | hx
      · exact absurd hx z
      have b1 := I.pl.b1
      have n1 := I.pl.n1
      have hfd : (0 : Int) ≤ fdOf b n := by unfold fdOf; omega
      obtain ⟨x, ex⟩ : ∃ x : Nat, plV b v.M m o = x := ⟨(plV b v.M m o).toNat, by omega⟩
      rw [ex] at k hx ⊢
      rw [show ((x : Nat) : Int).toNat = x by omega] at k
      obtain ⟨a1, a2, a3, a4⟩ := node_apart b1 n1 h1 h2 hx.1 hx.2
      refine iteT ⟨_, rfl, im, _, _, rfl, I.ob, rfl, _, rfl, _, rfl, _, rfl, im, A, v, b, n, sl, m, 3, rfl, I, h1, h2, by decide, by decide, im, A, v, b, n, sl, x, ow, ?_, I, hx.1, hx.2, how4, fun H1 q nq I1 k1 => ?_⟩
      · rw [show cellAt v.M (nrow b m) (3 : Int).toNat = (ow : Int) from how]
        rfl
      have cg : ∀ j, cellAt (giveV v x ow).M (nrow b m) j = cellAt v.M (nrow b m) j := fun j => cellAt_congr' (giveV_row a1 a2 a3)
      have pg : plc b (giveV v x ow).M m = plc b v.M m := cg 6
      have tbl : 2 ≤ o → fdOf b n ≤ plc b v.M m ∧ plc b v.M m < b := fun h => by
        rcases hp with hp | hp
        · unfold plV at ex
          rw [if_neg (by omega), if_pos hp] at ex
          omega
        · exact hp
      have R1 : RsOf H A.rs (A.rs.set x q) := RsOf.refl.set nq
      refine ⟨_, rfl, _, rfl, _, rfl, im, _, _, b, n, sl, m, o, 0, rfl, I1, h1, h2, ho, fun h => by rw [pg]; exact tbl h, fun H2 I2 k2 => ?_⟩
      have k12 : Kp (ft3 A ++ A.rs) H H2 := Kp.rsOf (L := ft3 A) k1 R1 (k2.mono fun y hy => List.mem_append.mpr (.inr hy))
      have cp : ∀ j, j ≠ 4 + o → cellAt (putPl b (giveV v x ow).M m o 0) (nrow b m) j = cellAt v.M (nrow b m) j := fun j hj => by
        unfold putPl
        by_cases h : o < 2
        · rw [if_pos h, cellAt_setC hj, cg]
        · rw [if_neg h, pg, cellAt_setC_row, cg]
          have := tbl (by omega)
          omega
      have pp : plc b (putPl b (giveV v x ow).M m o 0) m = plc b v.M m := by
        unfold plc
        by_cases h : o < 2
        · exact cp 6 (by omega)
        · unfold putPl
          rw [if_neg h, pg, cellAt_setC_row, cg]
          · have := tbl (by omega)
            omega
      have c3 : cellAt (putPl b (giveV v x ow).M m o 0) (nrow b m) 3 = ow := by
        rw [cp 3 (by omega)]
        exact how
      refine ⟨_, rfl, _, rfl, im, _, _, b, n, sl, m, ow, rfl, I2, h1, h2, ?_, c3, how4, fun H3 rs' R3 I3 k3 => ?_⟩
      · unfold PlcOk
        show plc b (putPl b (giveV v x ow).M m o 0) m = 0 ∨ _
        rw [pp]
        exact hp
      · refine k H3 rs' (fun r hr => ?_) I3 (Kp.rsOf (L := ft3 A) k12 R1 k3)
        rcases R3 r hr with e | e
        · exact R1 r e
        · by_cases hold : r ∈ A.rs
          · exact .inl hold
          refine .inr ?_
          cases qh : H r with
          | none => rfl
          | some u =>
            by_cases hin : r ∈ ft3 A ++ A.rs
            · exfalso
              rcases List.mem_append.mp hin with y | y
              · simp only [ft3, List.mem_cons, List.not_mem_nil, or_false] at y
                rcases y with rfl | rfl | rfl
                · have := I2.gr.out; rw [e] at this; cases this
                · have := I2.ho; rw [e] at this; cases this
                · have := I2.st; rw [e] at this; cases this
              · exact hold y
            · rw [k12 r u qh hin] at e
              cases e
end
end K07
namespace K07
open PySem PySem.Spec PyProof.Rows L2 Rg
section
variable {X : Cx} {CX : CXT} {k : Nat} {f C : Addr} {fd : FuncData} {ps : List Str} {sp : Sp} {E : L2.St → XK} {m : Str} {p pos apos : Pos} {e o : Expr} {es : List Expr} {ta : TE} {t : TA}
/-- o.m(e, ..), what the body raises told slot by slot -/
def tMethS (C : Addr) (m : Str) (sp : Sp) (E : L2.St → XK) (ta : TE) (t : TA) : TE := fun σ H Q => ta σ H fun x H1 => ∃ a dx fs, x = .ref a ∧ H1 a = some (.ins C dx fs) ∧ fs.lookup m = none ∧ t σ H1 fun vs H2 => sp (.ref a :: vs) H2 Q (E σ)
theorem pe_methT {pl : Sem Bool} (he : PE X o ta) (c : Cls X.K C) (hm : Meth X.K C m f) (F : FnOk X.prog X.w X.K X.mg X.base CX k f fd ps sp) (hr : Room k X.A) (hb : Binds X.K fd ps []) (hx : ∀ σ, PassesAt CX X σ (E σ)) (ha : PA X (e :: es) t)
    (hst : starEach (e :: es) X.env = (false, eval e X.env) :: starEach es X.env := by rfl) (hpl : (backTo pos (starEach es X.env)).any (·.1) = false := by rfl)
    (ht : eval (.Call (.Attribute o m apos) (e :: es) [] pos) X.env = (do
      let ov ← eval o X.env
      standAt apos.atName
      let (f, first) ← holding [ov] (getMethod ov m pl)
      callWith pos f first (backTo pos (starEach (e :: es) X.env)) (backToKw pos (keywordEach [] X.env))) := by rfl) :
    PE X (.Call (.Attribute o m apos) (e :: es) [] pos) (tMethS C m sp E ta t) := by
  refine ⟨fun pins s σ H Q I h => ?_⟩
  refine PySem.W.methodCall_KW (pl := pl) (thn (he.run pins s σ H _ I h) fun u s1 ⟨x, H1, I1, rx, a, dx, fs, ex, ea, l, q⟩ => ?_) ht
  subst ex
  obtain rfl : u = Value.ref a := rx
  refine getmeth_ok I1 ea c hm l ?_
  refine PySem.W.callWith_K (first := [.ref a]) (h₀ := X.base) I.ok.mod.kin hm.kp (thn (ha.run pos pins s1 σ H1 _ I1 q) fun us s2 ⟨vs, H2, I2, r, q2⟩ => ⟨I2.kIn, ?_⟩) hst hpl
  exact run_fnS (us := .ref a :: us) (vs := .ref a :: vs) F hr hb (hx σ) I2 (.cons rfl r) q2
def tEither (t u : TS) : TS := fun E σ H => t E σ H ∨ u E σ H
theorem pss_either {sts : List Stmt} {t u : TS} (h1 : PSs X sts t) (h2 : PSs X sts u) : PSs X sts (tEither t u) := ⟨fun pins s σ H E I hh => hh.elim (h1.run pins s σ H E I) (h2.run pins s σ H E I)⟩
end
/-- a block taken and put at a place -/
def takP (b : Int) (v : IV) (m : Int) (o ow : Nat) (kind : Int) (x : Nat) : IV := { takeV v x kind ow with M := putPl b (takeV v x kind ow).M m o x }
/-- the table taken -/
def takT (b : Int) (v : IV) (m : Int) (ow : Nat) (x : Nat) : IV := { takeV v x 1 ow with M := setC (takeV v x 1 ow).M (nrow b m) 6 x }
theorem RsOf.trans2 {H H1 : Hp} {L rs rs1 rs2 : List Addr} (k : Kp (L ++ rs) H H1) (hL : ∀ x ∈ L, ∃ o, H1 x = some o) (h1 : RsOf H rs rs1) (h2 : RsOf H1 rs1 rs2) : RsOf H rs rs2 := fun r hr => by
  rcases h2 r hr with e | e
  · exact h1 r e
  · by_cases hold : r ∈ rs
    · exact .inl hold
    refine .inr ?_
    cases qh : H r with
    | none => rfl
    | some u =>
      by_cases hin : r ∈ L ++ rs
      · exfalso
        rcases List.mem_append.mp hin with y | y
        · obtain ⟨o, e2⟩ := hL r y
          rw [e] at e2
          cases e2
        · exact hold y
      · rw [k r u qh hin] at e
        cases e
theorem ImgAt.ft3h {CI CP : Addr} {H : Hp} {im : Addr} {A : IA} {v : IV} {b n s : Int} (I : ImgAt CI CP H im A v b n s) : ∀ x ∈ ft3 A, ∃ o, H x = some o := fun x hx => by
  simp only [ft3, List.mem_cons, List.not_mem_nil, or_false] at hx
  rcases hx with rfl | rfl | rfl
  · exact ⟨_, I.gr.out⟩
  · exact ⟨_, I.ho⟩
  · exact ⟨_, I.st⟩
section
variable {P : Program} {w : World} {K : PySem.W.Frag} {mg : Str → Option Value} {base : Heap}
def sp_take_logged (CI CP CO CB : Addr) : Sp := fun vs H Q E => ∃ (im : Addr) (A : IA) (v : IV) (b n s m : Int) (o ow : Nat), vs = [.ref im, .int m, .int o] ∧ ImgAt CI CP H im A v b n s ∧ 1 ≤ m ∧ m ≤ n ∧ o < 10 ∧ PlcOk b n v.M m ∧ (2 ≤ o → plc b v.M m ≠ 0) ∧ cellAt v.M (nrow b m) 3 = ow ∧ ow < 4 ∧ (cellAt v.M 0 ow).natAbs.log2 < 1920 ∧
  (plV b v.M m o ≠ 0 → ∀ H', Same H H' → Q (.int (plV b v.M m o)) H') ∧
  (plV b v.M m o = 0 → quota v ow → ∀ H', Same H H' → E (.ref CO) none H') ∧
  (plV b v.M m o = 0 → ¬ quota v ow → letL b n v.M 1 v.ba = [] → ∀ H', Same H H' → E (.ref CB) none H') ∧
  (plV b v.M m o = 0 → ¬ quota v ow → ∀ x : Nat, pickL (letL b n v.M 1 v.ba) v.wi = some (x : Int) → ∀ H' rs', RsOf H A.rs rs' → ImgAt CI CP H' im { A with rs := rs' } (takP b v m o ow 1 x) b n s → Kp (ft3 A ++ A.rs) H H' → Q (.int x) H')
theorem pick_fd {b n kind wi : Int} {M : List (List Int)} {ba : List Int} {x : Nat} (hb : 8 ≤ b) (hn : 2 ≤ n) (h : pickL (letL b n M kind ba) wi = some (x : Int)) : fdOf b n ≤ x ∧ (x : Int) < b := by
  have h1 := freeL_mem (letL_mem (pickL_mem h))
  unfold fdOf at h1 ⊢
  omega
theorem take_node {b n m : Int} {v : IV} {x ow j : Nat} {kind : Int} (hb : 8 ≤ b) (hn : 2 ≤ n) (h1 : 1 ≤ m) (h2 : m ≤ n) (hx : fdOf b n ≤ x) (hxb : (x : Int) < b) : cellAt (takeV v x kind ow).M (nrow b m) j = cellAt v.M (nrow b m) j := by
  obtain ⟨a1, a2, a3, a4⟩ := node_apart hb hn h1 h2 hx hxb
  exact cellAt_congr' (takeV_row a1 a2 a3)
theorem ok_take_logged (T : Tx K mg) : FnOk P w K mg base (L2N.CX P w) 5 T.f_take_logged T.fd_take_logged ["image", "n", "o"] (sp_take_logged T.C_Image T.C_Plan T.C_OverQuota T.C_BlocksFull) := by
  refine T.F_take_logged.okN sc_take_logged (fun vs H Q E h => ?_) (fun cdv A0 outer s H vs Q E hr h => ?_)
  · obtain ⟨_, _, _, _, _, _, _, _, _, rfl, _⟩ := h; rfl
  · obtain ⟨im, A, v, b, n, sl, m, o, ow, rfl, I, h1, h2, ho, hp, hp2, how, how4, hlg, k0, kQ, kB, k⟩ := h
    have hr2 : Room 2 _ := hr.mono (by decide)
    have hr3 : Room 3 _ := hr.mono (by decide)
    refine ⟨_, (pss_cons (ps_set (i := 3) sc_take_logged.nd rfl (.inl rfl) (pe_call (ok_place_block T) hr3 rfl T.mg_place_block T.F_place_block.kp (b_place_block T) .nil pass0 (pa_cons (pv 0) (pa_cons (pv 1) (pa_cons (pv 2) pa_nil)))))
      (pss_cons (ps_if (pt_truth (pv 3) (fun _ => rfl))
        (pss_one (ps_ret (pv 3)))
        pss_nil)
      (pss_cons (ps_set (i := 3) sc_take_logged.nd rfl (.inl rfl) (pe_methT (pv 0) T.cl_Image T.m_Image_take (ok_take T) hr (b_Image_take T) (fun σ => L2N.passAt (L2N.takes_of rfl rfl rfl rfl) σ) (pa_cons (pe_cv T.mg_Plan T.cr_Plan T.cv_Plan_LOGGED) (pa_cons (pe_call (ok_node_cell T) hr2 rfl T.mg_node_cell T.F_node_cell.kp (b_node_cell T) .nil pass0 (pa_cons (pv 0) (pa_cons (pv 1) (pa_cons (pe_gc T.c_OWNER) pa_nil)))) pa_nil))))
      (pss_cons (ps_expr (pe_call (ok_put_place T) hr3 rfl T.mg_put_place T.F_put_place.kp (b_put_place T) .nil pass0 (pa_cons (pv 0) (pa_cons (pv 1) (pa_cons (pv 2) (pa_cons (pv 3) pa_nil))))))
      (pss_one (ps_ret (pv 3))))))), ?_⟩
    refine ⟨_, rfl, _, rfl, _, rfl, im, A, v, b, n, sl, m, o, rfl, I, h1, h2, ho, hp, ?_⟩
    refine ⟨_, rfl, _, rfl, ?_⟩
    by_cases z : plV b v.M m o = 0
    · have hz : (plV b v.M m o != 0) = false := by simp [z]
      rw [hz]
      have b1 := I.pl.b1
      have n1 := I.pl.n1
      refine iteF ⟨_, rfl, im, _, _, rfl, I.ob, rfl, _, rfl, _, rfl, im, A, v, b, n, sl, m, 3, rfl, I, h1, h2, by decide, by decide, im, A, v, b, n, sl, 1, ow, ?_, I, how4, hlg, kQ z, kB z, fun nq x hx H1 q hq I1 k1 => ?_⟩
      · rw [show cellAt v.M (nrow b m) (3 : Int).toNat = (ow : Int) from how]
      have hxf := pick_fd b1 n1 hx
      have pg : plc b (takeV v x 1 ow).M m = plc b v.M m := take_node b1 n1 h1 h2 hxf.1 hxf.2
      have R1 : RsOf H A.rs (A.rs.set x q) := RsOf.refl.set hq
      refine ⟨_, rfl, _, rfl, _, rfl, _, rfl, im, _, _, b, n, sl, m, o, (x : Int), rfl, I1, h1, h2, ho, fun h => ?_, fun H2 I2 k2 => ?_⟩
      · rw [pg]
        rcases hp with e | e
        · exact absurd e (hp2 h)
        · exact e
      · exact ⟨_, rfl, k z nq x hx H2 _ R1 I2 (Kp.rsOf (L := ft3 A) k1 R1 (k2.mono fun y hy => List.mem_append.mpr (.inr hy)))⟩
    · have hz : (plV b v.M m o != 0) = true := by simp [z]
      rw [hz]
      exact iteT ⟨_, rfl, k0 z H (Same.refl _)⟩
end
end K07
namespace K07
open PySem PySem.Spec PyProof.Rows L2 Rg
/-- what filling place o of node m comes to: an error, or the image behind it -/
def FillE (b n : Int) (v : IV) (ow : Nat) (kind : Int) (oq bf : Prop) : Prop := (quota v ow → oq) ∧ (¬ quota v ow → letL b n v.M kind v.ba = [] → bf)
def needsT (b : Int) (v : IV) (m : Int) (o : Nat) : Bool := decide (2 ≤ o) && decide (plc b v.M m = 0)
section
variable {P : Program} {w : World} {K : PySem.W.Frag} {mg : Str → Option Value} {base : Heap}
def sp_fill (CI CP CO CB : Addr) : Sp := fun vs H Q E => ∃ (im : Addr) (A : IA) (v : IV) (b n s m : Int) (o ow : Nat), vs = [.ref im, .int m, .int o] ∧ ImgAt CI CP H im A v b n s ∧ 1 ≤ m ∧ m ≤ n ∧ o < 10 ∧ PlcOk b n v.M m ∧ cellAt v.M (nrow b m) 3 = ow ∧ ow < 4 ∧ (cellAt v.M 0 ow).natAbs.log2 < 1910 ∧
  (needsT b v m o = false →
    (quota v ow → ∀ H', Same H H' → E (.ref CO) none H') ∧
    (¬ quota v ow → letL b n v.M 2 v.ba = [] → ∀ H', Same H H' → E (.ref CB) none H') ∧
    (¬ quota v ow → ∀ x : Nat, pickL (letL b n v.M 2 v.ba) v.wi = some (x : Int) → ∀ H' rs', RsOf H A.rs rs' → ImgAt CI CP H' im { A with rs := rs' } (takP b v m o ow 2 x) b n s → Kp (ft3 A ++ A.rs) H H' → Q (.int x) H')) ∧
  (needsT b v m o = true →
    (quota v ow → ∀ H', Same H H' → E (.ref CO) none H') ∧
    (¬ quota v ow → letL b n v.M 1 v.ba = [] → ∀ H', Same H H' → E (.ref CB) none H') ∧
    (¬ quota v ow → ∀ t : Nat, pickL (letL b n v.M 1 v.ba) v.wi = some (t : Int) →
      (quota (takT b v m ow t) ow → ∀ H', Kp (ft3 A ++ A.rs) H H' → E (.ref CO) none H') ∧
      (¬ quota (takT b v m ow t) ow → letL b n (takT b v m ow t).M 2 v.ba = [] → ∀ H', Kp (ft3 A ++ A.rs) H H' → E (.ref CB) none H') ∧
      (¬ quota (takT b v m ow t) ow → ∀ x : Nat, pickL (letL b n (takT b v m ow t).M 2 v.ba) v.wi = some (x : Int) → ∀ H' rs', RsOf H A.rs rs' → ImgAt CI CP H' im { A with rs := rs' } (takP b (takT b v m ow t) m o ow 2 x) b n s → Kp (ft3 A ++ A.rs) H H' → Q (.int x) H')))
theorem log_succ {x : Int} (h : x.natAbs.log2 < 1910) : (x + 1).natAbs.log2 < 1920 := by
  by_cases e : (x + 1).natAbs = 0
  · rw [e]; decide
  rw [Nat.log2_lt e]
  have h2 : x.natAbs < 2 ^ 1910 := by
    by_cases e2 : x.natAbs = 0
    · rw [e2]; exact Nat.pow_pos (by decide)
    · exact (Nat.log2_lt e2).mp h
  have h3 : (2 : Nat) ^ (1910 + 10) = 2 ^ 1910 * 2 ^ 10 := Nat.pow_add 2 1910 10
  have h4 : 1 ≤ (2 : Nat) ^ 1910 := Nat.pow_pos (by decide)
  show (x + 1).natAbs < 2 ^ (1910 + 10)
  rw [h3]
  generalize (2 : Nat) ^ 1910 = p at h2 h4 ⊢
  omega
theorem ok_fill (T : Tx K mg) : FnOk P w K mg base (L2N.CX P w) 5 T.f_fill_place T.fd_fill_place ["image", "n", "o"] (sp_fill T.C_Image T.C_Plan T.C_OverQuota T.C_BlocksFull) := by
  refine T.F_fill_place.okN sc_fill_place (fun vs H Q E h => ?_) (fun cdv A0 outer s H vs Q E hr h => ?_)
  · obtain ⟨_, _, _, _, _, _, _, _, _, rfl, _⟩ := h; rfl
  · obtain ⟨im, A, v, b, n, sl, m, o, ow, rfl, I, h1, h2, ho, hp, how, how4, hlg, kN, kT⟩ := h
    have hr2 : Room 2 _ := hr.mono (by decide)
    have hr3 : Room 3 _ := hr.mono (by decide)
    refine ⟨_, (pss_cons (ps_set (i := 3) sc_fill_place.nd rfl (.inl rfl) (pe_call (ok_node_cell T) hr2 rfl T.mg_node_cell T.F_node_cell.kp (b_node_cell T) .nil pass0 (pa_cons (pv 0) (pa_cons (pv 1) (pa_cons (pe_gc T.c_OWNER) pa_nil)))))
      (pss_cons (ps_if (pt_val (pe_call (ok_needs T) hr3 rfl T.mg_needs_block_of_places T.F_needs_block_of_places.kp (b_needs_block_of_places T) .nil pass0 (pa_cons (pv 0) (pa_cons (pv 1) (pa_cons (pv 2) pa_nil)))))
        (pss_one (ps_expr (pe_call (ok_put_node_cell T) hr2 rfl T.mg_put_node_cell T.F_put_node_cell.kp (b_put_node_cell T) .nil pass0 (pa_cons (pv 0) (pa_cons (pv 1) (pa_cons (pe_gc T.c_PLACES) (pa_cons (pe_methT (pv 0) T.cl_Image T.m_Image_take (ok_take T) hr (b_Image_take T) (fun σ => L2N.passAt (L2N.takes_of rfl rfl rfl rfl) σ) (pa_cons (pe_cv T.mg_Plan T.cr_Plan T.cv_Plan_LOGGED) (pa_cons (pv 3) pa_nil))) pa_nil)))))))
        pss_nil)
      (pss_cons (ps_set (i := 4) sc_fill_place.nd rfl (.inl rfl) (pe_methT (pv 0) T.cl_Image T.m_Image_take (ok_take T) hr (b_Image_take T) (fun σ => L2N.passAt (L2N.takes_of rfl rfl rfl rfl) σ) (pa_cons (pe_cv T.mg_Plan T.cr_Plan T.cv_Plan_PLAIN) (pa_cons (pv 3) pa_nil))))
      (pss_cons (ps_expr (pe_call (ok_put_place T) hr3 rfl T.mg_put_place T.F_put_place.kp (b_put_place T) .nil pass0 (pa_cons (pv 0) (pa_cons (pv 1) (pa_cons (pv 2) (pa_cons (pv 4) pa_nil))))))
      (pss_one (ps_ret (pv 4))))))), ?_⟩
    have b1 := I.pl.b1
    have n1 := I.pl.n1
    refine ⟨_, rfl, _, rfl, im, A, v, b, n, sl, m, 3, rfl, I, h1, h2, by decide, by decide, ?_⟩
    rw [show cellAt v.M (nrow b m) (3 : Int).toNat = (ow : Int) from how]
    refine ⟨_, rfl, _, rfl, _, rfl, im, A, v, b, n, sl, m, o, rfl, I, h1, h2, _, rfl, ?_⟩
    change if needsT b v m o = true then _ else _
    cases hn : needsT b v m o with
    | false =>
      obtain ⟨kQ, kB, k⟩ := kN hn
      refine iteF ⟨_, rfl, im, _, _, rfl, I.ob, rfl, _, rfl, im, A, v, b, n, sl, 2, ow, rfl, I, how4, by omega, kQ, kB, fun nq x hx H1 q hq I1 k1 => ?_⟩
      have hxf := pick_fd b1 n1 hx
      have pg : plc b (takeV v x 2 ow).M m = plc b v.M m := take_node b1 n1 h1 h2 hxf.1 hxf.2
      have R1 : RsOf H A.rs (A.rs.set x q) := RsOf.refl.set hq
      refine ⟨_, rfl, _, rfl, _, rfl, _, rfl, im, _, _, b, n, sl, m, o, (x : Int), rfl, I1, h1, h2, ho, fun h => ?_, fun H2 I2 k2 => ?_⟩
      · rw [pg]
        rcases hp with e | e
        · unfold needsT at hn
          rw [decide_eq_true h, decide_eq_true e] at hn
          cases hn
        · exact e
      · exact ⟨_, rfl, k nq x hx H2 _ R1 I2 (Kp.rsOf (L := ft3 A) k1 R1 (k2.mono fun y hy => List.mem_append.mpr (.inr hy)))⟩
    | true =>
      obtain ⟨kQ, kB, k⟩ := kT hn
      refine iteT ⟨_, rfl, _, rfl, _, rfl, im, _, _, rfl, I.ob, rfl, _, rfl, im, A, v, b, n, sl, 1, ow, rfl, I, how4, by omega, kQ, kB, fun nq t ht H1 q hq I1 k1 => ?_⟩
      obtain ⟨kQ2, kB2, k2'⟩ := k nq t ht
      have htf := pick_fd b1 n1 ht
      have R1 : RsOf H A.rs (A.rs.set t q) := RsOf.refl.set hq
      refine ⟨im, _, _, b, n, sl, m, 6, (t : Int), rfl, I1, h1, h2, by decide, by decide, fun H2 I2 k2 => ?_⟩
      have k12 : Kp (ft3 A ++ A.rs) H H2 := Kp.rsOf (L := ft3 A) k1 R1 (k2.mono fun y hy => List.mem_append.mpr (.inr hy))
      have I2' : ImgAt T.C_Image T.C_Plan H2 im { A with rs := A.rs.set t q } (takT b v m ow t) b n sl := I2
      have c0 : cellAt (takT b v m ow t).M 0 ow = cellAt v.M 0 ow + 1 := by
        have hnr := (node_apart b1 n1 h1 h2 htf.1 htf.2).1
        show cellAt (setC (takeV v t 1 ow).M (nrow b m) 6 t) 0 ow = _
        rw [cellAt_setC_row hnr]
        show cellAt (setC (putB v t 1 v.se).M 0 ow (cellAt v.M 0 ow + 1)) 0 ow = _
        obtain ⟨r, row, r1, r2, r3, r4⟩ := I.row0
        have ht0 : t ≠ 0 := by
          have := htf.1
          unfold fdOf at this
          omega
        have e0 : (putB v t 1 v.se).M[0]? = some row := by rw [putB_row0 ht0]; exact r2
        have hol : ow < (row.set ow (cellAt v.M 0 ow + 1)).length := by rw [List.length_set]; omega
        rw [cellAt_of (setC_at e0) (List.getElem?_eq_getElem hol), List.getElem_set_self]
      have ptb : plc b (takT b v m ow t).M m = t := by
        have d0 := I.d0
        show cellAt (setC (takeV v t 1 ow).M (nrow b m) 6 t) (nrow b m) 6 = _
        obtain ⟨r, row, e1, e2, e3, e4⟩ := I1.node h1 h2
        have hl : 6 < (row.set 6 (t : Int)).length := by rw [List.length_set]; omega
        rw [cellAt_of (setC_at e2) (List.getElem?_eq_getElem hl), List.getElem_set_self]
      refine ⟨_, rfl, im, _, _, rfl, I2.ob, rfl, _, rfl, im, _, takT b v m ow t, b, n, sl, 2, ow, rfl, I2', how4, by rw [c0]; exact log_succ hlg, fun q2 H' S => kQ2 q2 H' (k12.same S), fun q2 l2 H' S => kB2 q2 l2 H' (k12.same S), fun nq2 x hx H3 q3 hq3 I3 k3 => ?_⟩
      have hxf := pick_fd b1 n1 hx
      have pg : plc b (takeV (takT b v m ow t) x 2 ow).M m = plc b (takT b v m ow t).M m := take_node b1 n1 h1 h2 hxf.1 hxf.2
      have R3 : RsOf H A.rs ((A.rs.set t q).set x q3) := RsOf.trans2 (L := ft3 A) k12 I2.ft3h R1 (RsOf.refl.set hq3)
      have k13 : Kp (ft3 A ++ A.rs) H H3 := Kp.rsOf (L := ft3 A) k12 R1 k3
      refine ⟨_, rfl, _, rfl, _, rfl, _, rfl, im, _, _, b, n, sl, m, o, (x : Int), rfl, I3, h1, h2, ho, fun h => ?_, fun H4 I4 k4 => ?_⟩
      · rw [pg, ptb]
        exact htf
      · exact ⟨_, rfl, k2' nq2 x hx H4 _ R3 I4 (Kp.rsOf (L := ft3 A) k13 R3 (k4.mono fun y hy => List.mem_append.mpr (.inr hy)))⟩
end
end K07
namespace K07
open PySem PySem.Spec PyProof.Rows L2 Rg
section
variable {P : Program} {w : World} {K : PySem.W.Frag} {mg : Str → Option Value} {base : Heap}
def sp_take_place (CI CP CO CB : Addr) : Sp := fun vs H Q E => ∃ (im : Addr) (A : IA) (v : IV) (b n s m : Int) (o ow : Nat), vs = [.ref im, .int m, .int o] ∧ ImgAt CI CP H im A v b n s ∧ 1 ≤ m ∧ m ≤ n ∧ o < 10 ∧ PlcOk b n v.M m ∧ cellAt v.M (nrow b m) 3 = ow ∧ ow < 4 ∧ (cellAt v.M 0 ow).natAbs.log2 < 1910 ∧
  (plV b v.M m o ≠ 0 → ∀ H', Same H H' → Q (.int (plV b v.M m o)) H') ∧
  (plV b v.M m o = 0 → needsT b v m o = false →
    (quota v ow → ∀ H', Same H H' → E (.ref CO) none H') ∧
    (¬ quota v ow → letL b n v.M 2 v.ba = [] → ∀ H', Same H H' → E (.ref CB) none H') ∧
    (¬ quota v ow → ∀ x : Nat, pickL (letL b n v.M 2 v.ba) v.wi = some (x : Int) → ∀ H' rs', RsOf H A.rs rs' → ImgAt CI CP H' im { A with rs := rs' } (takP b v m o ow 2 x) b n s → Kp (ft3 A ++ A.rs) H H' → Q (.int x) H')) ∧
  (plV b v.M m o = 0 → needsT b v m o = true →
    (quota v ow → ∀ H', Same H H' → E (.ref CO) none H') ∧
    (¬ quota v ow → letL b n v.M 1 v.ba = [] → ∀ H', Same H H' → E (.ref CB) none H') ∧
    (¬ quota v ow → ∀ t : Nat, pickL (letL b n v.M 1 v.ba) v.wi = some (t : Int) →
      (quota (takT b v m ow t) ow → ∀ H', Same H H' → E (.ref CO) none H') ∧
      (¬ quota (takT b v m ow t) ow → letL b n (takT b v m ow t).M 2 v.ba = [] → ∀ H', Same H H' → E (.ref CB) none H') ∧
      (¬ quota (takT b v m ow t) ow → ∀ x : Nat, pickL (letL b n (takT b v m ow t).M 2 v.ba) v.wi = some (x : Int) → ∀ H' rs', RsOf H A.rs rs' → ImgAt CI CP H' im { A with rs := rs' } (takP b (takT b v m ow t) m o ow 2 x) b n s → Kp (ft3 A ++ A.rs) H H' → Q (.int x) H')))
theorem pick_ne {l : List Int} {wi x : Int} (h : pickL l wi = some x) : l ≠ [] := fun e => by
  rw [e] at h
  cases h
theorem ok_take_place (T : Tx K mg) : FnOk P w K mg base (L2N.CX P w) 6 T.f_take_place T.fd_take_place ["image", "n", "o"] (sp_take_place T.C_Image T.C_Plan T.C_OverQuota T.C_BlocksFull) := by
  refine T.F_take_place.okN sc_take_place (fun vs H Q E h => ?_) (fun cdv A0 outer s H vs Q E hr h => ?_)
  · obtain ⟨_, _, _, _, _, _, _, _, _, rfl, _⟩ := h; rfl
  · obtain ⟨im, A, v, b, n, sl, m, o, ow, rfl, I, h1, h2, ho, hp, how, how4, hlg, k0, kN, kT⟩ := h
    have hr3 : Room 3 _ := hr.mono (by decide)
    refine ⟨_, (pss_cons (ps_set (i := 3) sc_take_place.nd rfl (.inl rfl) (pe_call (ok_place_block T) hr3 rfl T.mg_place_block T.F_place_block.kp (b_place_block T) .nil pass0 (pa_cons (pv 0) (pa_cons (pv 1) (pa_cons (pv 2) pa_nil)))))
      (pss_cons (ps_if (pt_truth (pv 3) (fun _ => rfl))
        (pss_one (ps_ret (pv 3)))
        pss_nil)
      (pss_cons (ps_if (pt_val (pe_call (ok_needs T) hr3 rfl T.mg_needs_block_of_places T.F_needs_block_of_places.kp (b_needs_block_of_places T) .nil pass0 (pa_cons (pv 0) (pa_cons (pv 1) (pa_cons (pv 2) pa_nil)))))
        (pss_one (ps_expr (pe_callS (ok_fill T) hr rfl T.mg_fill_place T.F_fill_place.kp (b_fill_place T) (fun σ => L2N.passAt (L2N.takes_of rfl rfl rfl rfl) σ) (pa_cons (pe_meth0 (pv 0) T.cl_Image T.m_Image_twin (ok_twin T) hr3 (b_Image_twin T) .nil pass0) (pa_cons (pv 1) (pa_cons (pv 2) pa_nil))))))
        pss_nil)
      (pss_one (ps_ret (pe_callS (ok_fill T) hr rfl T.mg_fill_place T.F_fill_place.kp (b_fill_place T) (fun σ => L2N.passAt (L2N.takes_of rfl rfl rfl rfl) σ) (pa_cons (pv 0) (pa_cons (pv 1) (pa_cons (pv 2) pa_nil))))))))), ?_⟩
    refine ⟨_, rfl, _, rfl, _, rfl, im, A, v, b, n, sl, m, o, rfl, I, h1, h2, ho, hp, ?_⟩
    refine ⟨_, rfl, _, rfl, ?_⟩
    by_cases z : plV b v.M m o = 0
    · have hz : (plV b v.M m o != 0) = false := by simp [z]
      rw [hz]
      refine iteF ⟨_, rfl, _, rfl, _, rfl, im, A, v, b, n, sl, m, o, rfl, I, h1, h2, _, rfl, ?_⟩
      change if needsT b v m o = true then _ else _
      cases hn : needsT b v m o with
      | false =>
        refine iteF ⟨_, rfl, _, rfl, _, rfl, im, A, v, b, n, sl, m, o, ow, rfl, I, h1, h2, ho, hp, how, how4, hlg, fun _ => kN z hn, fun e => ?_⟩
        rw [hn] at e
        cases e
      | true =>
        obtain ⟨kQ, kB, k⟩ := kT z hn
        refine iteT ⟨_, rfl, im, _, _, rfl, I.ob, rfl, im, A, v, b, n, sl, rfl, I, fun H1 it At S1 nit It Nt ep eb => ?_⟩
        have out : ∀ x ∈ ft3 At ++ At.rs, H x = none := fun x hx => by
          rcases List.mem_append.mp hx with y | y
          · simp only [ft3, List.mem_cons, List.not_mem_nil, or_false] at y
            rcases y with rfl | rfl | rfl
            · exact Nt.ca
            · exact Nt.ho
            · exact Nt.st
          · exact Nt.rs x y
        have sm : ∀ H', Kp (ft3 At ++ At.rs) H1 H' → Same H H' := fun H' kk x u e => kk x u (S1 _ _ e) fun y => by
          rw [out x y] at e
          cases e
        refine ⟨_, rfl, _, rfl, it, At, v, b, n, sl, m, o, ow, rfl, It, h1, h2, ho, hp, how, how4, hlg, fun e => (by rw [hn] at e; cases e), fun _ => ⟨fun q H' S => kQ q H' (S1.trans S), fun q l H' S => kB q l H' (S1.trans S), fun nq t ht => ⟨fun q H' kk => (k nq t ht).1 q H' (sm H' kk), fun q l H' kk => (k nq t ht).2.1 q l H' (sm H' kk), fun nq2 x hx H2 rs2 _ _ k2 => ?_⟩⟩⟩
        have S2 := sm H2 k2
        refine ⟨_, rfl, _, rfl, _, rfl, im, A, v, b, n, sl, m, o, ow, rfl, I.keep S2, h1, h2, ho, hp, how, how4, hlg, fun e => (by rw [hn] at e; cases e), fun _ => ⟨fun q => absurd q nq, fun _ l => absurd l (pick_ne ht), fun _ t' ht' => ?_⟩⟩
        have et : t' = t := by
          rw [ht] at ht'
          have := Option.some.inj ht'
          omega
        subst et
        refine ⟨fun q => absurd q nq2, fun _ l => absurd l (pick_ne hx), fun _ x' hx' H3 rs3 R3 I3 k3 => ?_⟩
        exact (k nq t' ht).2.2 nq2 x' hx' H3 rs3 (fun r hr => (R3 r hr).imp id fun e => S2.free e) I3 ((Kp.of S2).trans k3)
    · have hz : (plV b v.M m o != 0) = true := by simp [z]
      rw [hz]
      exact iteT ⟨_, rfl, k0 z H (Same.refl _)⟩
end
end K07
namespace K07
open PySem PySem.Spec PyProof.Rows L2 Rg
/-! ### held_blocks -/
def plsOf (b : Int) (M : List (List Int)) (m : Int) : List Int := (List.range 10).map (fun o => plV b M m o) ++ [plc b M m]
def heldV (b : Int) (M : List (List Int)) : List Int → List Int
  | [] => []
  | m :: ms => (plsOf b M m).filter (fun x => x != 0) ++ heldV b M ms
theorem heldV_snoc {b : Int} {M : List (List Int)} {ms : List Int} {m : Int} : heldV b M (ms ++ [m]) = heldV b M ms ++ (plsOf b M m).filter (fun x => x != 0) := by
  induction ms with
  | nil => simp [heldV]
  | cons a ms ih => rw [List.cons_append, heldV, ih, heldV, List.append_assoc]
theorem plsOf_len {b : Int} {M : List (List Int)} {m : Int} : (plsOf b M m).length = 11 := by simp [plsOf]
theorem heldV_len {b : Int} {M : List (List Int)} : ∀ ms : List Int, (heldV b M ms).length ≤ 11 * ms.length
  | [] => Nat.zero_le _
  | m :: ms => by
    have h1 := List.length_filter_le (fun x => x != 0) (plsOf b M m)
    have h2 := heldV_len (b := b) (M := M) ms
    rw [plsOf_len] at h1
    rw [heldV, List.length_append, List.length_cons]
    omega
section
variable {P : Program} {w : World} {K : PySem.W.Frag} {mg : Str → Option Value} {base : Heap}
def tTru (K : PySem.W.Frag) (ta : TE) : TT := fun σ H Q => ta σ H fun x H' => ∃ k, TruV K x H' k ∧ Q k H'
theorem pt_truthK {X : Cx} {K : PySem.W.Frag} {a : Expr} {ta : TE} (ha : PE X a ta) (he : ∀ whole, isTrue a X.env whole = (do let v ← whole; standAt a.pos; holding [v] (truthy v))) (hK : X.K = K := by rfl) : PT X a (tTru K ta) := by
  subst hK
  exact pt_truth ha he
def sp_held (CI CP : Addr) : Sp := fun vs H Q _ => ∃ (im : Addr) (A : IA) (v : IV) (b n s : Int) (p : Addr) (ms : List Int), vs = [.ref im, .ref p] ∧ ImgAt CI CP H im A v b n s ∧ H p = some (.tup (ms.map V.int)) ∧ ms.length ≤ 16 ∧ (∀ m ∈ ms, 1 ≤ m ∧ m ≤ n ∧ PlcOk b n v.M m) ∧
  ∀ H' q, Same H H' → H q = none → H' q = some (.lst ((heldV b v.M ms).map V.int)) → Q (.ref q) H'
theorem body_held (T : Tx K mg) (cdv : Value) (A0 : Around) (outer : List Env) (s : Shared) (H : Hp) (vs : List V) (Q : VK) (E : XK) (hr : Room 3 (A0.deeper (envOfC "held_blocks" (defScope s_held_blocks) s.heap.objs.size T.f_held_blocks cdv))) (h : sp_held T.C_Image T.C_Plan vs H Q E) :
    ∃ t, PSs (cxOf CX0 P w K mg base ["image", "nodes", "held", "n", "blocks", "o", "x"] "held_blocks" (defScope s_held_blocks) T.f_held_blocks cdv A0 outer s H E).nox (defBody s_held_blocks) t ∧ t { nx := fun _ H' => Q .non H', rt := Q } (start ["image", "nodes", "held", "n", "blocks", "o", "x"] vs) H := by
  obtain ⟨im, A, v, b, n, sl, p, ms, rfl, I, hp, hl, hms, k⟩ := h
  have hr2 : Room 2 _ := hr.mono (by decide)
  refine ⟨_, (pss_cons (ps_set (i := 2) sc_held_blocks.nd rfl (.inl rfl) (pe_lst pa_nil))
      (pss_cons (ps_for PassesOwn.never rfl (pi_tup (pv 1)) (pg_name (i := 3) sc_held_blocks.nd rfl (.inr rfl))
        (pss_cons (ps_setLc (i := 4) (own := [("o", 5)]) (g := gName 5) (tt := tYes) rfl sc_held_blocks.nd rfl rfl (sw_true rfl rfl rfl (by decide +kernel)) (pi_range1 rfl T.b_range (pa_cons (pe_gc T.c_PLACE_COUNT) pa_nil)) (blkOk_by (N := ["image", "nodes", "held", "n", "blocks", "o", "x"]) (sc := defScope s_held_blocks) (by decide +kernel)) (fun _ _ _ _ _ => pg_name (i := 5) sc_held_blocks.nd rfl (Or.inl rfl)) (fun _ _ _ _ _ => pts_nil) (fun _ _ _ _ _ => (pe_call (ok_place_block T) hr rfl T.mg_place_block T.F_place_block.kp (b_place_block T) .nil pass0 (pa_cons (pv 0) (pa_cons (pv 3) (pa_cons (pv 5) pa_nil))))))
        (pss_cons (ps_expr (pe_bm PySem.F.plainAttrs_list PySem.F.slot_list_append PySem.F.type_list_append mt_append (pv 4) (pa_cons (pe_call (ok_node_cell T) hr2 rfl T.mg_node_cell T.F_node_cell.kp (b_node_cell T) .nil pass0 (pa_cons (pv 0) (pa_cons (pv 3) (pa_cons (pe_gc T.c_PLACES) pa_nil)))) pa_nil)))
        (pss_one (ps_expr (pe_bm PySem.F.plainAttrs_list PySem.F.slot_list_extend PySem.F.type_list_extend mt_extend (pv 2) (pa_cons (pe_lc rfl (own := [("x", 6)]) (g := gName 6) (tt := _) sc_held_blocks.nd (pi_list (pv 4)) (blkOk_by (N := ["image", "nodes", "held", "n", "blocks", "o", "x"]) (sc := defScope s_held_blocks) (by decide +kernel)) (fun _ _ _ _ _ => pg_name (i := 6) sc_held_blocks.nd rfl (Or.inl rfl)) (fun _ _ _ _ _ => pts_one (pt_truthK (K := K) (pv 6) (fun _ => rfl))) (fun _ _ _ _ _ => (pv 6))) pa_nil)))))))
      (pss_one (ps_ret (pv 2))))), ?_⟩
  refine ⟨Nat.zero_le _, fun q nq => ?_⟩
  refine ⟨_, rfl, p, rfl, ⟨_, .of (same_upd nq _ _ hp)⟩, for_tup (K := K) (a := p) (xs := ms.map V.int) (fun i σ H' => ∃ (u3 u4 : Option V), σ = [some (.ref im), some (.ref p), some (.ref q), u3, u4, none, none] ∧ Same H H' ∧ H' q = some (.lst ((heldV b v.M (ms.take i)).map V.int))) ⟨_, _, rfl, same_upd nq, upd_same⟩ (fun i σ H' _ ⟨_, _, _, S, _⟩ => .of (S _ _ hp)) ?_ ?_⟩
  · rintro i y σ H' hi ⟨u3, u4, rfl, S, eq⟩
    rw [List.getElem?_map] at hi
    obtain ⟨m, hm, rfl⟩ := Option.map_eq_some_iff.mp hi
    obtain ⟨m1, m2, m3⟩ := hms m (List.mem_of_getElem? hm)
    have I1 := I.keep S
    -- the places
    refine ⟨10, rfl, by decide, by decide, fun D hD => ?_⟩
    refine lc_range (lo := 0) (n := (10 : Int).toNat) (fun j H2 => Same H' H2 ∧ H2 D = some (.lst (((List.range j).map fun o => plV b v.M m o).map V.int))) ⟨same_upd hD, upd_same⟩ ?_ ?_
    · rintro j H2 hj ⟨S2, e2⟩
      have hj : j < 10 := hj
      refine ⟨rfl, ?_⟩
      refine yes_ ?_
      refine ⟨_, rfl, _, rfl, _, rfl, im, A, v, b, n, sl, m, j, ?_, I1.keep S2, m1, m2, by omega, m3, _, e2, ?_, fun x o e => ?_, ?_⟩
      · rw [show (0 : Int) + (j : Int) = (j : Int) by omega]
        rfl
      · rw [List.length_map, List.length_map, List.length_range]
        exact small1000 (by omega)
      · rw [upd_ne (ne_of_none e hD)]
        exact S2 _ _ e
      · rw [upd_same, List.range_succ, List.map_append, List.map_append]
        rfl
    rintro H2 ⟨S2, e2⟩
    have Dn := hD
    have S02 := S.trans S2
    refine ⟨.ref D, rfl, .inl ⟨rfl, _, .inl (.inl e2)⟩, _, rfl, _, rfl, im, A, v, b, n, sl, m, 6, rfl, I.keep S02, m1, m2, by decide, by decide, D, _, _, rfl, rfl, e2, ?_, ?_⟩
    · rw [List.length_map, List.length_map, List.length_range]
      exact small1000 (by decide)
    have e3 : upd H2 D (.lst (((List.range (10 : Int).toNat).map fun o => plV b v.M m o).map V.int ++ [V.int (cellAt v.M (nrow b m) (6 : Int).toNat)])) D = some (.lst ((plsOf b v.M m).map V.int)) := by
      rw [upd_same]
      unfold plsOf
      rw [List.map_append]
      rfl
    have S3 : Same H' (upd H2 D (.lst (((List.range (10 : Int).toNat).map fun o => plV b v.M m o).map V.int ++ [V.int (cellAt v.M (nrow b m) (6 : Int).toNat)]))) := fun x o e => by
      rw [upd_ne (ne_of_none e Dn)]
      exact S2 _ _ e
    generalize upd H2 D (.lst (((List.range (10 : Int).toNat).map fun o => plV b v.M m o).map V.int ++ [V.int (cellAt v.M (nrow b m) (6 : Int).toNat)])) = H3 at e3 S3 ⊢
    have eq3 := S3 _ _ eq
    refine ⟨.ref q, rfl, .inl ⟨rfl, _, .inl (.inl eq3)⟩, _, rfl, D, rfl, ⟨_, .of e3⟩, fun G hG => ?_⟩
    refine lc_list (K := K) (a := D) (xs := (plsOf b v.M m).map V.int) (PvF H3 G (plsOf b v.M m) (fun x => x != 0)) (PvF.start hG) (fun i H4 _ Pv => .of (Pv.1 _ _ e3)) ?_ ?_
    · rintro i y H4 hi Pv
      rw [List.getElem?_map] at hi
      obtain ⟨x, hx, rfl⟩ := Option.map_eq_some_iff.mp hi
      refine ⟨rfl, ?_⟩
      refine ⟨_, rfl, _, rfl, ?_⟩
      by_cases e : x = 0
      · subst e
        exact iteF (Pv.no (Same.refl _) hx rfl)
      · have e' : (x != 0) = true := by simp [e]
        rw [e']
        exact iteT ⟨_, rfl, Pv.yes hG (Same.refl _) hx (by rw [plsOf_len]; decide) e'⟩
    · intro H4 Pv
      obtain ⟨S4, e4⟩ := Pv.all (by rw [List.length_map])
      have eq4 := S4 _ _ eq3
      refine ⟨q, G, _, _, rfl, rfl, eq4, e4, ?_, _, _, rfl, fun x o e => ?_, ?_⟩
      · have h1 := heldV_len (b := b) (M := v.M) (ms.take i)
        have h2 : (ms.take i).length ≤ ms.length := by rw [List.length_take]; omega
        have h3 := List.length_filter_le (fun x => x != 0) (plsOf b v.M m)
        rw [plsOf_len] at h3
        rw [List.length_map, List.length_map]
        exact Nat.le_of_lt (small1000 (by omega))
      · rw [upd_ne (ne_of_none e nq)]
        exact S4 _ _ (S3 _ _ (S _ _ e))
      · rw [upd_same, take_get hm, heldV_snoc, List.map_append]
  · rintro σ H' ⟨u3, u4, rfl, S, eq⟩
    rw [List.length_map, List.take_length] at eq
    exact ⟨_, rfl, k H' q S nq eq⟩
theorem ok_held (T : Tx K mg) : FnR P w K mg base CX0 4 T.f_held_blocks (fun vs H Q E => ∃ ws rest, vs = ws ++ rest ∧ ws.length = ["image"].length ∧ rest.length ≤ sizeLine ∧ ∀ p, H p = Option.none → sp_held T.C_Image T.C_Plan (ws ++ [V.ref p]) (upd H p (.tup rest)) Q E) := by
  obtain ⟨oc, od, kV, doc, pm, an, cdv, ct, osl, e, lk, hcd⟩ := T.F_held_blocks.ex
  rw [e] at lk
  refine StX.fn_star (ps := ["image"]) (pv := "nodes") lk hcd sc_held_blocks StX.cxUp_none ?_ fun A outer s H vs Q E hr h => ?_
  · exact StX.bind_star1 (B := fun us => bindArgs (PySem.W.fnOf "held_blocks" "held_blocks" (defArgs s_held_blocks) (defBody s_held_blocks) (defScope s_held_blocks) .none kV doc pm an cdv ct) ⟨us, []⟩) (p1 := "image") (pv := "nodes") (fun _ => rfl) (fun _ _ _ => rfl)
  · obtain ⟨t, h1, h2⟩ := body_held T cdv A outer s H vs Q E hr h
    exact ⟨t, h1.nox, h2⟩
end
end K07
namespace K07
open PySem PySem.Spec PyProof.Rows L2 Rg
/-! ### _law_first, _law_due -/
def letP (kd : List Int) (kind : Int) (bs : List Int) (x : Int) : Bool := decide ((kd[x.toNat]?).getD 0 = 0) && (decide (kind = 1) || decide (x ∉ bs))
def letB (kd : List Int) (kind : Int) (bs : List Int) : List Int := (rng 10 14).filter (letP kd kind bs)
def firstV (kd : List Int) (kind wi : Int) (bs : List Int) : Int := (pickL (letB kd kind bs) wi).getD 0
section
variable {P : Program} {w : World} {K : PySem.W.Frag} {mg : Str → Option Value} {base : Heap}
def sp_Lfirst : Sp := fun vs H Q _ => ∃ (a : Addr) (kd : List Int) (kind wi : Int) (q : Addr) (bs : List Int), vs = [.ref a, .int kind, .int wi, .ref q] ∧ H a = some (.lst (kd.map V.int)) ∧ H q = some (.lst (bs.map V.int)) ∧ kd.length = 24 ∧ ∀ H', Same H H' → Q (.int (firstV kd kind wi bs)) H'
theorem ok_Lfirst (T : Tx K mg) : FnOk P w K mg base CX0 1 T.f_Lfirst T.fd_Lfirst ["_law_kinds", "_law_kind", "_law_wish", "_law_barred"] sp_Lfirst := by
  refine T.F_Lfirst.ok sc_Lfirst (fun vs H Q E h => ?_) (fun cdv A0 outer s H vs Q E hr h => ?_)
  · obtain ⟨_, _, _, _, _, _, rfl, _⟩ := h; rfl
  · obtain ⟨a, kd, kind, wi, q, bs, rfl, ha, hq, hkl, k⟩ := h
    refine ⟨_, (pss_cons (ps_setLc (i := 4) (own := [("_law_x", 5)]) (g := gName 5) (tt := _) rfl sc_Lfirst.nd rfl rfl (sw_true rfl rfl rfl (by decide +kernel)) (pi_range2 rfl T.b_range (pa_cons pe_int (pa_cons pe_int pa_nil))) (blkOk_by (N := ["_law_kinds", "_law_kind", "_law_wish", "_law_barred", "_law_let", "_law_x", "_law_later"]) (sc := defScope s_Lfirst) (by decide +kernel)) (fun _ _ _ _ _ => pg_name (i := 5) sc_Lfirst.nd rfl (Or.inl rfl)) (fun _ _ _ _ _ => pts_one (PW.pt (pw_and (pt_cmpR op_eq (pe_ixK (K := K) (pv 0) (pv 5) (fun _ _ => rfl)) pe_int (nomark _)) (pw_and1 (PW.pt (pw_or (pt_cmpR op_eq (pv 1) pe_int (nomark _)) (pw_or1 (pt_cmpR (op_notInK (K := K)) (pv 5) (pv 3) rfl)))))))) (fun _ _ _ _ _ => (pv 5)))
      (pss_cons (ps_setLc (i := 6) (own := [("_law_x", 5)]) (g := gName 5) (tt := _) rfl sc_Lfirst.nd rfl rfl (sw_true rfl rfl rfl (by decide +kernel)) (pi_list (pv 4)) (blkOk_by (N := ["_law_kinds", "_law_kind", "_law_wish", "_law_barred", "_law_let", "_law_x", "_law_later"]) (sc := defScope s_Lfirst) (by decide +kernel)) (fun _ _ _ _ _ => pg_name (i := 5) sc_Lfirst.nd rfl (Or.inl rfl)) (fun _ _ _ _ _ => pts_one (pt_cmpR op_ge (pv 5) (pv 2) (nomark _))) (fun _ _ _ _ _ => (pv 5)))
      (pss_cons (ps_if (pt_cmpR op_gt (pe_callB call_len_seq rfl T.b_len (by decide +kernel) (pa_cons (pv 6) pa_nil)) pe_int (nomark _))
        (pss_one (ps_ret (pe_ix ix_list (pv 6) pe_int (fun _ _ => rfl))))
        pss_nil)
      (pss_cons (ps_if (pt_cmpR op_gt (pe_callB call_len_seq rfl T.b_len (by decide +kernel) (pa_cons (pv 4) pa_nil)) pe_int (nomark _))
        (pss_one (ps_ret (pe_ix ix_list (pv 4) pe_int (fun _ _ => rfl))))
        pss_nil)
      (pss_one (ps_ret pe_int)))))), ?_⟩
    have hll : (letB kd kind bs).length < 1000 := by
      have : (letB kd kind bs).length ≤ 14 := filt_len (Nat.le_of_eq rng_len)
      omega
    have h14 : (rng 10 14).length < 1000 := by rw [rng_len]; decide
    refine ⟨10, 24, rfl, ⟨by decide, by decide, by decide, by decide⟩, fun D hD => ?_⟩
    refine lc_range (lo := 10) (n := ((24 : Int) - 10).toNat) (PvF H D (rng 10 14) (letP kd kind bs)) (PvF.start hD) ?_ ?_
    · rintro i H' hi Pv
      have hi : i < 14 := hi
      have hx := rng_get (lo := 10) hi
      have hil : 10 + i < kd.length := by omega
      have ek : (kd[(10 + (i : Int)).toNat]?).getD 0 = kd[10 + i] := by
        rw [show (10 + (i : Int)).toNat = 10 + i by omega, List.getElem?_eq_getElem hil]
        rfl
      refine ⟨rfl, ?_⟩
      refine ⟨_, rfl, _, rfl, a, _, _, _, rfl, rfl, .of (Pv.1 _ _ ha), at_of (j := 10 + i) (by omega) (by rw [List.getElem?_map, List.getElem?_eq_getElem hil]; rfl), rfl, _, rfl, ?_⟩
      rw [dec_iv]
      by_cases e1 : kd[10 + i] = 0
      · rw [decide_eq_true e1]
        refine iteT ⟨_, rfl, rfl, _, rfl, ?_⟩
        rw [dec_iv]
        by_cases e2 : kind = 1
        · rw [decide_eq_true e2]
          exact iteT (iteT ⟨_, rfl, Pv.yes hD (Same.refl _) hx h14 (by unfold letP; rw [ek, e1, decide_eq_true e2]; rfl)⟩)
        · rw [decide_eq_false e2]
          refine iteF ⟨_, rfl, _, rfl, q, _, rfl, .inl (.of (Pv.1 _ _ hq)), rfl, flat_ints _, _, rfl, ?_⟩
          rw [inV_int]
          by_cases hb : (10 + (i : Int)) ∈ bs
          · rw [decide_eq_true hb]
            exact iteF (Pv.no (Same.refl _) hx (by unfold letP; rw [ek, e1, decide_eq_false e2]; simp [hb]))
          · rw [decide_eq_false hb]
            exact iteT ⟨_, rfl, Pv.yes hD (Same.refl _) hx h14 (by unfold letP; rw [ek, e1, decide_eq_false e2]; simp [hb])⟩
      · rw [decide_eq_false e1]
        exact iteF (Pv.no (Same.refl _) hx (by unfold letP; rw [ek, decide_eq_false e1]; rfl))
    intro H1 Pv
    obtain ⟨S1, e1⟩ := Pv.all (by rw [rng_len]; rfl)
    change H1 D = some (.lst ((letB kd kind bs).map V.int)) at e1
    refine ⟨_, rfl, D, rfl, ⟨_, .of e1⟩, fun G hG => ?_⟩
    refine lc_list (K := K) (a := D) (xs := (letB kd kind bs).map V.int) (PvF H1 G (letB kd kind bs) (fun x => decide (wi ≤ x))) (PvF.start hG) (fun i H3 _ Pv => .of (Pv.1 _ _ e1)) ?_ ?_
    · rintro i y H3 hi Pv
      rw [List.getElem?_map] at hi
      obtain ⟨x, hx, rfl⟩ := Option.map_eq_some_iff.mp hi
      refine ⟨rfl, ?_⟩
      refine ⟨_, rfl, _, rfl, _, _, rfl, rfl, _, rfl, ?_⟩
      by_cases hb : x ≥ wi
      · rw [decide_eq_true hb]
        exact iteT ⟨_, rfl, Pv.yes hG (Same.refl _) hx hll (decide_eq_true hb)⟩
      · rw [decide_eq_false hb]
        exact iteF (Pv.no (Same.refl _) hx (decide_eq_false hb))
    · intro H3 Pv
      obtain ⟨S3, e3⟩ := Pv.all (by rw [List.length_map])
      have e1' := S3 _ _ e1
      have kk := k H3 (S1.trans S3)
      unfold firstV pickL at kk
      refine ⟨_, rfl, G, _, rfl, .inl (.of e3), _, _, rfl, rfl, _, rfl, ite2 (fun z => ?_) (fun z => ?_)⟩
      · have z' := of_decide_eq_true z
        rw [List.length_map] at z'
        cases qf : (letB kd kind bs).filter (fun x => decide (wi ≤ x)) with
        | nil =>
          rw [qf] at z'
          exact absurd z' (by decide)
        | cons y rest =>
          rw [qf] at kk
          rw [qf] at e3
          exact ⟨_, rfl, G, _, 0, .int y, rfl, rfl, .of e3, atI_nat (j := 0) rfl, kk⟩
      · have qf : (letB kd kind bs).filter (fun x => decide (wi ≤ x)) = [] := by
          cases qf : (letB kd kind bs).filter (fun x => decide (wi ≤ x)) with
          | nil => rfl
          | cons y rest =>
            refine absurd (decide_eq_true ?_) z
            rw [qf]
            show (((rest.map V.int).length + 1 : Nat) : Int) > 0
            omega
        rw [qf] at kk
        refine ⟨_, rfl, D, _, rfl, .inl (.of e1'), _, _, rfl, rfl, _, rfl, ite2 (fun z2 => ?_) (fun z2 => ?_)⟩
        · have z' := of_decide_eq_true z2
          rw [List.length_map] at z'
          cases q2 : letB kd kind bs with
          | nil =>
            rw [q2] at z'
            exact absurd z' (by decide)
          | cons y rest =>
            rw [q2] at kk e1'
            exact ⟨_, rfl, D, _, 0, .int y, rfl, rfl, .of e1', atI_nat (j := 0) rfl, kk⟩
        · have q2 : letB kd kind bs = [] := by
            cases q2 : letB kd kind bs with
            | nil => rfl
            | cons y rest =>
              refine absurd (decide_eq_true ?_) z2
              rw [q2]
              show (((rest.map V.int).length + 1 : Nat) : Int) > 0
              omega
          rw [q2] at kk
          exact kk
end
end K07
namespace K07
open PySem PySem.Spec PyProof.Rows L2 Rg
/-! ### the law's book -/
structure Bk where
  (bk kd pl tb us li ow : Addr)
structure BV where
  (kd pl tb us li ow : List Int)
def bkR (B : Bk) : List V := [.ref B.kd, .ref B.pl, .ref B.tb, .ref B.us, .ref B.li, .ref B.ow]
def bkL (B : Bk) (w : BV) (fa : Addr) (fs : List Int) : List (Addr × HO) := [(fa, .lst (fs.map V.int)), (B.bk, .lst (bkR B)), (B.kd, .lst (w.kd.map V.int)), (B.pl, .lst (w.pl.map V.int)), (B.tb, .lst (w.tb.map V.int)), (B.us, .lst (w.us.map V.int)), (B.li, .lst (w.li.map V.int)), (B.ow, .lst (w.ow.map V.int))]
def bkA (B : Bk) (fa : Addr) : List Addr := [fa, B.bk, B.kd, B.pl, B.tb, B.us, B.li, B.ow]
theorem bkA_eq {B : Bk} {w : BV} {fa : Addr} {fs : List Int} : (bkL B w fa fs).map (·.1) = bkA B fa := rfl
theorem bk_in {B : Bk} {w : BV} {fa : Addr} {fs : List Int} {i : Nat} {a : Addr} {o : HO} (h : (bkL B w fa fs)[i]? = some (a, o)) : a ∈ bkA B fa := by
  rw [← bkA_eq (w := w) (fs := fs)]
  exact List.mem_map.mpr ⟨_, List.mem_of_getElem? h, rfl⟩
section
variable {P : Program} {w0_ : World} {K : PySem.W.Frag} {mg : Str → Option Value} {base : Heap}
def sp_Lnote (CI CP : Addr) : Sp := fun vs H Q _ => ∃ (im : Addr) (A : IA) (v : IV) (b n s : Int) (B : Bk) (w : BV) (fa : Addr) (fs : List Int) (x o : Nat) (kind c u : Int), vs = [.ref B.bk, .int x, .int kind, .int o, .int c] ∧ SI CI CP H im A v b n s (bkL B w fa fs) ∧ x < w.kd.length ∧ w.us[o]? = some u ∧
  ∀ H', SI CI CP H' im A v b n s (bkL B { w with kd := w.kd.set x kind, us := w.us.set o (u + c) } fa fs) → Kp (bkA B fa) H H' → Q .non H'
theorem ok_Lnote (T : Tx K mg) : FnOk P w0_ K mg base CX0 1 T.f_Lnote T.fd_Lnote ["_law_book", "_law_x", "_law_kind", "_law_owner", "_law_change"] (sp_Lnote T.C_Image T.C_Plan) := by
  refine T.F_Lnote.ok sc_Lnote (fun vs H Q E h => ?_) (fun cdv A0 outer s H vs Q E hr h => ?_)
  · obtain ⟨_, _, _, _, _, _, _, _, _, _, _, _, _, _, _, rfl, _⟩ := h; rfl
  · obtain ⟨im, A, v, b, n, sl, B, w, fa, fs, x, o, kind, c, u, rfl, S, hx, hu, k⟩ := h
    refine ⟨_, (pss_cons (ps_asg (pv 0) (pg_lst rfl (pgs_cons (pg_name (i := 5) sc_Lnote.nd rfl (.inl rfl)) (pgs_cons (pg_name (i := 6) sc_Lnote.nd rfl (.inl rfl)) (pgs_cons (pg_name (i := 7) sc_Lnote.nd rfl (.inl rfl)) (pgs_cons (pg_name (i := 8) sc_Lnote.nd rfl (.inl rfl)) (pgs_cons (pg_name (i := 9) sc_Lnote.nd rfl (.inl rfl)) (pgs_cons (pg_name (i := 10) sc_Lnote.nd rfl (.inl rfl)) pgs_nil))))))))
      (pss_cons (ps_asg (pv 2) (pg_sub (pv 5) (pv 1) set_list))
      (pss_one (ps_asg (pe_op op_add (pe_ix ix_list (pv 8) (pv 3) (fun _ _ => rfl)) (pv 4)) (pg_sub (pv 8) (pv 3) set_list))))), ?_⟩
    refine ⟨_, rfl, B.bk, _, rfl, .of (S.F.get 1 rfl), rfl, _, _, rfl, _, _, rfl, _, _, rfl, _, _, rfl, _, _, rfl, _, _, rfl, rfl, ?_⟩
    refine ⟨_, rfl, _, rfl, _, rfl, B.kd, _, _, x, rfl, rfl, S.F.get 2 rfl, ixN_nat rfl (by rw [List.length_map]; exact hx), ?_⟩
    have S1 := S.put 2 (o' := .lst ((w.kd.map V.int).set x (V.int kind))) rfl
    have k1 : Kp (bkA B fa) H (upd H B.kd (.lst ((w.kd.map V.int).set x (V.int kind)))) := Kp.refl.own (bk_in (w := w) (fs := fs) (i := 2) rfl)
    rw [← List.map_set] at S1 k1 ⊢
    generalize upd H B.kd (.lst ((w.kd.set x kind).map V.int)) = H1 at S1 k1 ⊢
    have hol := (List.getElem?_eq_some_iff.mp hu).1
    refine ⟨_, rfl, _, rfl, B.us, _, _, _, rfl, rfl, .of (S1.F.get 5 rfl), atI_nat (by rw [List.getElem?_map, hu]; rfl), _, rfl, _, _, rfl, rfl, _, rfl, _, rfl, B.us, _, _, o, rfl, rfl, S1.F.get 5 rfl, ixN_nat rfl (by rw [List.length_map]; exact hol), ?_⟩
    have S2 := S1.put 5 (o' := .lst ((w.us.map V.int).set o (V.int (u + c)))) rfl
    have k2 := k1.own (o := .lst ((w.us.map V.int).set o (V.int (u + c)))) (bk_in (w := w) (fs := fs) (i := 5) rfl)
    rw [← List.map_set] at S2 k2 ⊢
    exact k _ S2 k2
def dueV (w : BV) (kind : Int) (o : Nat) (wi : Int) (bs : List Int) : Int := if (w.li[o]?).getD 0 ≠ 0 ∧ (w.li[o]?).getD 0 ≤ (w.us[o]?).getD 0 then -1 else firstV w.kd kind wi bs
def sp_Ldue : Sp := fun vs H Q _ => ∃ (B : Bk) (w : BV) (fa : Addr) (fs : List Int) (kind wi : Int) (o : Nat) (q : Addr) (bs : List Int), vs = [.ref B.bk, .int kind, .int o, .int wi, .ref q] ∧ Fr (bkL B w fa fs) H ∧ H q = some (.lst (bs.map V.int)) ∧ w.kd.length = 24 ∧ o < w.us.length ∧ o < w.li.length ∧ ∀ H', Same H H' → Q (.int (dueV w kind o wi bs)) H'
theorem ok_Ldue (T : Tx K mg) : FnOk P w0_ K mg base CX0 2 T.f_Ldue T.fd_Ldue ["_law_book", "_law_kind", "_law_owner", "_law_wish", "_law_barred"] sp_Ldue := by
  refine T.F_Ldue.ok sc_Ldue (fun vs H Q E h => ?_) (fun cdv A0 outer s H vs Q E hr h => ?_)
  · obtain ⟨_, _, _, _, _, _, _, _, _, rfl, _⟩ := h; rfl
  · obtain ⟨B, w, fa, fs, kind, wi, o, q, bs, rfl, F, hq, hk, hu, hl, k⟩ := h
    refine ⟨_, (pss_cons (ps_asg (pv 0) (pg_lst rfl (pgs_cons (pg_name (i := 5) sc_Ldue.nd rfl (.inl rfl)) (pgs_cons (pg_name (i := 6) sc_Ldue.nd rfl (.inl rfl)) (pgs_cons (pg_name (i := 7) sc_Ldue.nd rfl (.inl rfl)) (pgs_cons (pg_name (i := 8) sc_Ldue.nd rfl (.inl rfl)) (pgs_cons (pg_name (i := 9) sc_Ldue.nd rfl (.inl rfl)) (pgs_cons (pg_name (i := 10) sc_Ldue.nd rfl (.inl rfl)) pgs_nil))))))))
      (pss_cons (ps_if (PW.pt (pw_and (pt_cmpR op_ne (pe_ix ix_list (pv 9) (pv 2) (fun _ _ => rfl)) pe_int (nomark _)) (pw_and1 (pt_cmpR op_ge (pe_ix ix_list (pv 8) (pv 2) (fun _ _ => rfl)) (pe_ix ix_list (pv 9) (pv 2) (fun _ _ => rfl)) (nomark _)))))
        (pss_one (ps_ret (pe_un un_neg pe_int)))
        pss_nil)
      (pss_one (ps_ret (pe_call (ok_Lfirst T) hr rfl T.mg_Lfirst T.F_Lfirst.kp (b_Lfirst T) .nil pass0 (pa_cons (pv 5) (pa_cons (pv 1) (pa_cons (pv 3) (pa_cons (pv 4) pa_nil))))))))), ?_⟩
    have el := List.getElem?_eq_getElem hl
    have eu := List.getElem?_eq_getElem hu
    unfold dueV at k
    rw [el, eu] at k
    have gl : H B.li = some (.lst (w.li.map V.int)) := F.get 6 rfl
    have gu : H B.us = some (.lst (w.us.map V.int)) := F.get 5 rfl
    have al : atI (w.li.map V.int) (o : Int) = some (.int w.li[o]) := atI_nat (by rw [List.getElem?_map, el]; rfl)
    have au : atI (w.us.map V.int) (o : Int) = some (.int w.us[o]) := atI_nat (by rw [List.getElem?_map, eu]; rfl)
    refine ⟨_, rfl, B.bk, _, rfl, .of (F.get 1 rfl), rfl, _, _, rfl, _, _, rfl, _, _, rfl, _, _, rfl, _, _, rfl, _, _, rfl, rfl, ?_⟩
    refine ⟨_, rfl, _, rfl, B.li, _, _, _, rfl, rfl, .of gl, al, rfl, _, rfl, ?_⟩
    rw [dec_iv]
    have fin : ¬ ((some w.li[o]).getD 0 ≠ 0 ∧ (some w.li[o]).getD 0 ≤ (some w.us[o]).getD 0) → ∀ H', Same H H' → Q (.int (firstV w.kd kind wi bs)) H' := fun h H' S => by
      have := k H' S
      rw [if_neg h] at this
      exact this
    by_cases e1 : w.li[o] = 0
    · rw [decide_eq_true e1]
      exact iteF ⟨_, rfl, _, rfl, _, rfl, _, rfl, B.kd, w.kd, kind, wi, q, bs, rfl, F.get 2 rfl, hq, hk, fin fun z => z.1 e1⟩
    · rw [decide_eq_false e1]
      refine iteT ⟨_, rfl, _, rfl, B.us, _, _, _, rfl, rfl, .of gu, au, _, rfl, _, rfl, B.li, _, _, _, rfl, rfl, .of gl, al, _, _, rfl, rfl, _, rfl, ?_⟩
      by_cases e2 : w.us[o] ≥ w.li[o]
      · rw [decide_eq_true e2]
        have := k H (Same.refl _)
        rw [if_pos ⟨e1, e2⟩] at this
        exact iteT ⟨_, rfl, this⟩
      · rw [decide_eq_false e2]
        exact iteF ⟨_, rfl, _, rfl, _, rfl, _, rfl, B.kd, w.kd, kind, wi, q, bs, rfl, F.get 2 rfl, hq, hk, fin fun z => e2 z.2⟩
end
end K07
namespace K07
open PySem PySem.Spec PyProof.Rows L2 Rg
section
variable {X : Cx} {CX : CXT} {k : Nat} {f : Addr} {sp : Sp} {E : XK} {x : Str} {p pos : Pos} {e : Expr} {es : List Expr} {t : TA}
/-- x(e, ..), x a def with a star parameter -/
theorem pe_callR (F : FnR X.prog X.w X.K X.mg X.base CX k f sp) (hr : Room k X.A) (hk : PySem.W.keepIn X.K (.ref f) = true) (hg : Gl X x) (hm : X.mg x = some (.ref f)) (hx : Passes CX X E) (ha : PA X (e :: es) t) (hd : (x == ("__debug__" : Str)) = false := by decide)
    (he : starEach (e :: es) X.env = (false, eval e X.env) :: starEach es X.env := by rfl) (hpl : (backTo pos (starEach es X.env)).any (·.1) = false := by rfl) :
    PE X (.Call (.Name x p) (e :: es) [] pos) (fun σ H Q => t σ H fun vs H1 => sp vs H1 Q E) := by
  refine ⟨fun pins s σ H Q I h => ?_⟩
  refine wpAny_Call_Name_kw (ld_glob I hg hm ?_ hd)
  refine PySem.W.callWith_K (h₀ := X.base) I.ok.mod.kin hk (thn (ha.run pos pins s σ H _ I h) fun us s1 ⟨vs, H1, I1, r, q⟩ => ⟨I1.kIn, ?_⟩) he hpl
  exact wpAny_call (run_fnR F hr hx I1 r q)
end
end K07
namespace Rg
open PySem PySem.Spec PyProof.Rows L2
/-- a def that may raise, called where it does not -/
theorem passLN {X : Cx} : Passes (L2N.CX X.prog X.w) X E0 := fun _ _ _ _ _ _ _ h => by
  obtain ⟨_, _, _, _, _, _, _, _, _, _, _, _, z⟩ := h
  exact False.elim z
end Rg
namespace K07
open PySem PySem.Spec PyProof.Rows L2 Rg
/-! ### cells behind a take or a give -/
def tkM (M : List (List Int)) (x : Nat) (k : Int) (o : Nat) (d : Int) : List (List Int) := setC ((setC M (2 + x / 8) (x % 8) k).set x (List.replicate 8 0)) 0 o (cellAt M 0 o + d)
theorem takeV_tk {v : IV} {x o : Nat} {k : Int} : (takeV v x k o).M = tkM v.M x k o 1 := rfl
theorem giveV_tk {v : IV} {x o : Nat} : (giveV v x o).M = tkM v.M x 0 o (-1) := rfl
section
variable {M : List (List Int)} {x o : Nat} {k d : Int} {m : List Int}
theorem tk0 (h : M[0]? = some m) (hx : 10 ≤ x) : (tkM M x k o d)[0]? = some (m.set o (cellAt M 0 o + d)) := by
  unfold tkM
  refine setC_at ?_
  rw [List.getElem?_set_ne (by omega), setC_row (by omega)]
  exact h
theorem tkm (h : M[2 + x / 8]? = some m) (hx : 10 ≤ x) (hx2 : x < 24) : (tkM M x k o d)[2 + x / 8]? = some (m.set (x % 8) k) := by
  unfold tkM
  rw [setC_row (by omega), List.getElem?_set_ne (by omega)]
  exact setC_at h
theorem tkx (hx : 10 ≤ x) (hl : x < M.length) : (tkM M x k o d)[x]? = some (List.replicate 8 0) := by
  unfold tkM
  rw [setC_row (by omega), List.getElem?_set_self (by rw [setC_len]; exact hl)]
theorem tko {y : Nat} (h0 : y ≠ 0) (h1 : y ≠ 2 + x / 8) (h2 : y ≠ x) : (tkM M x k o d)[y]? = M[y]? := by
  unfold tkM
  rw [setC_row (fun z => h0 z.symm), List.getElem?_set_ne (fun z => h2 z.symm), setC_row (fun z => h1 z.symm)]
theorem tkh {y : Nat} (h5 : 5 ≤ y) (hx2 : x < 24) (h2 : y ≠ x) : (tkM M x k o d)[y]? = M[y]? := tko (by omega) (by omega) h2
end
/-! ### kinds and sums -/
structure Kds (M : List (List Int)) (kd us li : List Int) (i : Nat) : Prop where
  ml : M.length = 24
  m8 : ∀ m ∈ M, m.length = 8
  kl : kd.length = 24
  kf : ∀ x : Nat, x < 10 → kd[x]? = some 1
  k3 : ∀ (x : Nat) (k : Int), kd[x]? = some k → k = 0 ∨ k = 1 ∨ k = 2
  mp : ∀ x : Nat, x < 24 → cellAt M (2 + x / 8) (x % 8) = (kd[x]?).getD 0
  u4 : us.length = 4
  l4 : li.length = 4
  r0 : M[0]? = some (us ++ li)
  ul : ∀ u ∈ us, u.natAbs ≤ i
theorem Kds.kind {M : List (List Int)} {kd us li : List Int} {i : Nat} (A : Kds M kd us li i) {x : Nat} (hx : x < 24) : kindOf 24 5 M x = (kd[x]?).getD 0 := by
  unfold kindOf
  have e10 : (2 + (24 + 8 - 1) / 8 + 5 : Int) = 10 := by decide
  rw [e10]
  by_cases h : (x : Int) < 10
  · rw [if_pos h, A.kf x (by omega)]
    rfl
  · rw [if_neg h, show ((2 : Int) + (x : Int) / 8).toNat = 2 + x / 8 by omega, show ((x : Int) % 8).toNat = x % 8 by omega, A.mp x hx]
    have hl : x < kd.length := by rw [A.kl]; exact hx
    have := A.k3 x _ (List.getElem?_eq_getElem hl)
    rw [List.getElem?_eq_getElem hl]
    show (if kd[x] = 1 ∨ kd[x] = 2 then kd[x] else 0) = kd[x]
    rcases this with q | q | q <;> rw [q] <;> decide
theorem Kds.row {M : List (List Int)} {kd us li : List Int} {i : Nat} (A : Kds M kd us li i) {y : Nat} (hy : y < 24) : ∃ m, M[y]? = some m ∧ m.length = 8 := by
  have hl : y < M.length := by rw [A.ml]; exact hy
  exact ⟨_, List.getElem?_eq_getElem hl, A.m8 _ (List.getElem_mem hl)⟩
theorem Kds.sum {M : List (List Int)} {kd us li : List Int} {i : Nat} (A : Kds M kd us li i) {o : Nat} (ho : o < 4) : cellAt M 0 o = (us[o]?).getD 0 := by
  have hou : o < us.length := by rw [A.u4]; exact ho
  rw [cellAt_of A.r0 (x := us[o]) (by rw [List.getElem?_append_left hou]; exact List.getElem?_eq_getElem hou), List.getElem?_eq_getElem hou]
  rfl
theorem Kds.lim {M : List (List Int)} {kd us li : List Int} {i : Nat} (A : Kds M kd us li i) {o : Nat} (ho : o < 4) : cellAt M 0 (4 + o) = (li[o]?).getD 0 := by
  have hol : o < li.length := by rw [A.l4]; exact ho
  have hou := A.u4
  rw [cellAt_of A.r0 (x := li[o]) (by rw [List.getElem?_append_right (by omega), hou, show 4 + o - 4 = o by omega]; exact List.getElem?_eq_getElem hol), List.getElem?_eq_getElem hol]
  rfl
theorem tkM_len {M : List (List Int)} {x o : Nat} {k d : Int} : (tkM M x k o d).length = M.length := by
  unfold tkM
  rw [setC_len, List.length_set, setC_len]
theorem setC_m8 {M : List (List Int)} {i j : Nat} {x : Int} (h : ∀ m ∈ M, m.length = 8) (hi : i < M.length) : ∀ m ∈ setC M i j x, m.length = 8 := fun m hm => by
  unfold setC at hm
  rcases mem_set_of hm with e | e
  · rw [e, List.length_set, List.getElem?_eq_getElem hi]
    exact h _ (List.getElem_mem hi)
  · exact h m e
theorem Kds.tk {M : List (List Int)} {kd us li : List Int} {i x o : Nat} {k d : Int} (A : Kds M kd us li i) (hx : 10 ≤ x) (hx2 : x < 24) (ho : o < 4) (hd : d = 1 ∨ d = -1) (hk : k = 0 ∨ k = 1 ∨ k = 2) :
    Kds (tkM M x k o d) (kd.set x k) (us.set o ((us[o]?).getD 0 + d)) li (i + 1) := by
  have hou : o < us.length := by rw [A.u4]; exact ho
  have ml := A.ml
  have hkl := A.kl
  obtain ⟨mm, em, lm⟩ := A.row (y := 2 + x / 8) (by omega)
  have mx : mm[x % 8]? = some ((kd[x]?).getD 0) := by
    have h1 := A.mp x hx2
    have hl : x % 8 < mm.length := by omega
    rw [cellAt_of em (List.getElem?_eq_getElem hl)] at h1
    rw [List.getElem?_eq_getElem hl, h1]
  refine { ml := by rw [tkM_len]; exact ml, m8 := ?_, kl := by rw [List.length_set]; exact A.kl, kf := fun y hy => by rw [List.getElem?_set_ne (by omega)]; exact A.kf y hy, k3 := fun y k' h => ?_, mp := fun y hy => ?_, u4 := by rw [List.length_set]; exact A.u4, l4 := A.l4, r0 := ?_, ul := fun u hu => ?_ }
  · unfold tkM
    refine setC_m8 (fun m hm => ?_) (by rw [List.length_set, setC_len]; omega)
    rcases mem_set_of hm with e | e
    · rw [e]; exact List.length_replicate
    · exact setC_m8 A.m8 (by omega) m e
  · rcases mem_set_of (List.mem_of_getElem? h) with e | e
    · rw [e]; exact hk
    · obtain ⟨j, hj, ej⟩ := List.getElem_of_mem e
      exact A.k3 j k' (by rw [List.getElem?_eq_getElem hj, ej])
  · by_cases e : y / 8 = x / 8
    · rw [e]
      have hl : y % 8 < (mm.set (x % 8) k).length := by rw [List.length_set]; omega
      rw [cellAt_of (tkm em hx hx2) (List.getElem?_eq_getElem hl)]
      by_cases q : x = y
      · subst q
        rw [List.getElem?_set_self (by omega), List.getElem_set_self]
        rfl
      · rw [List.getElem?_set_ne q, List.getElem_set_ne (by omega), ← A.mp y hy, e]
        exact (cellAt_of em (List.getElem?_eq_getElem (by rw [List.length_set] at hl; exact hl))).symm
    · rw [cellAt_congr (tko (by omega) (by omega) (by omega)), A.mp y hy, List.getElem?_set_ne (by intro z; subst z; exact e rfl)]
  · rw [tk0 A.r0 hx, A.sum ho, List.set_append_left _ _ hou]
  · rcases mem_set_of hu with e | e
    · have h1 := A.ul _ (List.getElem_mem hou)
      rw [List.getElem?_eq_getElem hou] at e
      have e' : u = us[o] + d := e
      rcases hd with q | q <;> omega
    · have := A.ul u e
      omega
theorem Kds.put {M : List (List Int)} {kd us li : List Int} {i r j : Nat} {x : Int} (A : Kds M kd us li i) (hr : 5 ≤ r) (hr2 : r < 24) : Kds (setC M r j x) kd us li i :=
  { A with ml := by rw [setC_len]; exact A.ml, m8 := setC_m8 A.m8 (by rw [A.ml]; exact hr2), mp := fun y hy => by rw [cellAt_setC_row (by omega)]; exact A.mp y hy, r0 := by rw [setC_row (by omega)]; exact A.r0 }
theorem Kds.mono {M : List (List Int)} {kd us li : List Int} {i j : Nat} (A : Kds M kd us li i) (h : i ≤ j) : Kds M kd us li j := { A with ul := fun u hu => Nat.le_trans (A.ul u hu) h }
/-- a limit -/
theorem Kds.limit {M : List (List Int)} {kd us li : List Int} {i o : Nat} {l : Int} (A : Kds M kd us li i) (ho : o < 4) : Kds (setC M 0 (4 + o) l) kd us (li.set o l) i := by
  refine { A with ml := by rw [setC_len]; exact A.ml, m8 := setC_m8 A.m8 (by rw [A.ml]; decide), mp := fun y hy => by rw [cellAt_setC_row (by omega)]; exact A.mp y hy, l4 := by rw [List.length_set]; exact A.l4, r0 := ?_ }
  rw [setC_at A.r0, List.set_append_right _ _ (by rw [A.u4]; omega), A.u4, show 4 + o - 4 = o by omega]
/-! ### places: G 0 .. G 9 of the file, G 10 and G 11 of the folder, G 12 the table -/
def setG (G : Nat → Int) (q : Nat) (x : Int) : Nat → Int := fun i => if i = q then x else G i
theorem setG_at {G : Nat → Int} {q : Nat} {x : Int} : setG G q x q = x := if_pos rfl
theorem setG_ne {G : Nat → Int} {q i : Nat} {x : Int} (h : i ≠ q) : setG G q x i = G i := if_neg h
def tabR (G : Nat → Int) : List Int := [G 2, G 3, G 4, G 5, G 6, G 7, G 8, G 9]
structure Pls (M : List (List Int)) (G : Nat → Int) (o1 o2 : Int) : Prop where
  r5 : M[5]? = some [2, 1, 0, 0, 0, 0, 0, 1]
  r6 : M[6]? = some [1, 0, 0, o1, G 0, G 1, G 12, 1]
  r7 : M[7]? = some [2, 0, 0, o2, G 10, G 11, 0, 1]
  rt : G 12 ≠ 0 → M[(G 12).toNat]? = some (tabR G)
  rz : ∀ i, i < 12 → G i ≠ 0 → M[(G i).toNat]? = some (List.replicate 8 0)
  pf : ∀ i, i < 13 → G i ≠ 0 → 10 ≤ G i ∧ G i < 24
  nd : ∀ i j, i < 13 → j < 13 → G i ≠ 0 → G i = G j → i = j
  tz : G 12 = 0 → ∀ i, 2 ≤ i → i < 10 → G i = 0
def rowq (G : Nat → Int) (q : Nat) : Nat := if q < 2 ∨ q = 12 then 6 else if q < 10 then (G 12).toNat else 7
def celq (q : Nat) : Nat := if q < 2 then 4 + q else if q < 10 then q - 2 else if q < 12 then q - 6 else 6
section
variable {M : List (List Int)} {G : Nat → Int} {o1 o2 : Int}
theorem Pls.keep (A : Pls M G o1 o2) {M' : List (List Int)} {x : Nat} (h : ∀ y, 5 ≤ y → y ≠ x → M'[y]? = M[y]?) (hx : 10 ≤ x) (nx : ∀ i, i < 13 → G i ≠ (x : Int)) : Pls M' G o1 o2 :=
  { A with
    r5 := by rw [h 5 (by decide) (by omega)]; exact A.r5
    r6 := by rw [h 6 (by decide) (by omega)]; exact A.r6
    r7 := by rw [h 7 (by decide) (by omega)]; exact A.r7
    rt := fun e => by
      have p := A.pf 12 (by decide) e
      have n := nx 12 (by decide)
      rw [h _ (by omega) (by omega)]
      exact A.rt e
    rz := fun i hi e => by
      have p := A.pf i (by omega) e
      have n := nx i (by omega)
      rw [h _ (by omega) (by omega)]
      exact A.rz i hi e }
theorem Pls.tk (A : Pls M G o1 o2) {x o : Nat} {k d : Int} (hx : 10 ≤ x) (hx2 : x < 24) (nx : ∀ i, i < 13 → G i ≠ (x : Int)) : Pls (tkM M x k o d) G o1 o2 := A.keep (fun y hy hne => tkh hy hx2 hne) hx nx
theorem tabR_set {q : Nat} {x : Int} (h2 : 2 ≤ q) (h10 : q < 10) : (tabR G).set (q - 2) x = tabR (setG G q x) := by
  have : q = 2 ∨ q = 3 ∨ q = 4 ∨ q = 5 ∨ q = 6 ∨ q = 7 ∨ q = 8 ∨ q = 9 := by omega
  rcases this with e | e | e | e | e | e | e | e <;> (subst e; rfl)
/-- a place set: to 0, or to a new block without content -/
theorem Pls.put (A : Pls M G o1 o2) {q : Nat} {x : Int} (hq : q < 13) (ht : 2 ≤ q → q < 10 → G 12 ≠ 0) (hx : x = 0 ∨ (10 ≤ x ∧ x < 24 ∧ M[x.toNat]? = some (List.replicate 8 0) ∧ ∀ i, i < 13 → G i ≠ x)) (h12 : q = 12 → ∀ i, 2 ≤ i → i < 10 → G i = 0) :
    Pls (setC M (rowq G q) (celq q) x) (setG G q x) o1 o2 := by
  have e5 : rowq G q ≠ 5 := by
    unfold rowq
    split
    · decide
    · split
      · have p := A.pf 12 (by decide) (ht (by omega) (by omega))
        omega
      · decide
  have gne : ∀ i, i < 13 → setG G q x i ≠ 0 → (i = q ∧ x ≠ 0) ∨ (i ≠ q ∧ G i ≠ 0) := fun i hi e => by
    by_cases z : i = q
    · subst z
      rw [setG_at] at e
      exact .inl ⟨rfl, e⟩
    · rw [setG_ne z] at e
      exact .inr ⟨z, e⟩
  have hrow : ∀ y, y ≠ rowq G q → (setC M (rowq G q) (celq q) x)[y]? = M[y]? := fun y hy => setC_row fun z => hy z.symm
  have r6 : (setC M (rowq G q) (celq q) x)[6]? = some [1, 0, 0, o1, setG G q x 0, setG G q x 1, setG G q x 12, 1] := by
    by_cases c : q < 2 ∨ q = 12
    · have er : rowq G q = 6 := if_pos c
      rw [er, setC_at A.r6]
      have : q = 0 ∨ q = 1 ∨ q = 12 := by omega
      rcases this with e | e | e <;> (subst e; rfl)
    · rw [hrow 6 (by
        unfold rowq
        rw [if_neg c]
        split
        · have p := A.pf 12 (by decide) (ht (by omega) (by omega))
          omega
        · decide), A.r6, setG_ne (by omega), setG_ne (by omega), setG_ne (by omega)]
  have r7 : (setC M (rowq G q) (celq q) x)[7]? = some [2, 0, 0, o2, setG G q x 10, setG G q x 11, 0, 1] := by
    by_cases c : q = 10 ∨ q = 11
    · have er : rowq G q = 7 := by unfold rowq; rw [if_neg (by omega), if_neg (by omega)]
      rw [er, setC_at A.r7]
      rcases c with e | e <;> (subst e; rfl)
    · rw [hrow 7 (by
        unfold rowq
        split
        · decide
        · rw [if_pos (by omega)]
          have p := A.pf 12 (by decide) (ht (by omega) (by omega))
          omega), A.r7, setG_ne (by omega), setG_ne (by omega)]
  have hpf : ∀ i, i < 13 → setG G q x i ≠ 0 → 10 ≤ setG G q x i ∧ setG G q x i < 24 := fun i hi e => by
    rcases gne i hi e with ⟨z, e2⟩ | ⟨z, e2⟩
    · subst z
      rw [setG_at]
      rcases hx with h | h
      · exact absurd h e2
      · exact ⟨h.1, h.2.1⟩
    · rw [setG_ne z]
      exact A.pf i hi e2
  refine { r5 := by rw [hrow 5 (fun z => e5 z.symm)]; exact A.r5, r6 := r6, r7 := r7, rt := fun e => ?_, rz := fun i hi e => ?_, pf := hpf, nd := fun i j hi hj e eij => ?_, tz := fun e i h2 h10 => ?_ }
  · rcases gne 12 (by decide) e with ⟨z, e2⟩ | ⟨z, e2⟩
    · subst z
      rw [setG_at]
      rcases hx with h | ⟨h1, h2, h3, h4⟩
      · exact absurd h e2
      have er : rowq G 12 = 6 := rfl
      rw [hrow _ (by rw [er]; omega), h3]
      have z := h12 rfl
      unfold tabR
      rw [setG_ne (by decide), setG_ne (by decide), setG_ne (by decide), setG_ne (by decide), setG_ne (by decide), setG_ne (by decide), setG_ne (by decide), setG_ne (by decide), z 2 (by decide) (by decide), z 3 (by decide) (by decide), z 4 (by decide) (by decide), z 5 (by decide) (by decide), z 6 (by decide) (by decide), z 7 (by decide) (by decide), z 8 (by decide) (by decide), z 9 (by decide) (by decide)]
      rfl
    · rw [setG_ne z]
      have p := A.pf 12 (by decide) e2
      by_cases c : 2 ≤ q ∧ q < 10
      · have er : rowq G q = (G 12).toNat := by unfold rowq; rw [if_neg (by omega), if_pos c.2]
        have ec : celq q = q - 2 := by unfold celq; rw [if_neg (by omega), if_pos c.2]
        rw [er, ec, setC_at (A.rt e2), tabR_set c.1 c.2]
      · rw [hrow _ (by unfold rowq; split; · omega
                       · rw [if_neg (by omega)]; omega), A.rt e2]
        unfold tabR
        rw [setG_ne (by omega), setG_ne (by omega), setG_ne (by omega), setG_ne (by omega), setG_ne (by omega), setG_ne (by omega), setG_ne (by omega), setG_ne (by omega)]
  · have notrow : ∀ y : Int, 10 ≤ y → (G 12 ≠ 0 → y ≠ G 12) → y.toNat ≠ rowq G q := fun y hy hn => by
      unfold rowq
      split
      · omega
      · split
        · have hg := ht (by omega) (by omega)
          have p := A.pf 12 (by decide) hg
          have := hn hg
          omega
        · omega
    rcases gne i (by omega) e with ⟨z, e2⟩ | ⟨z, e2⟩
    · subst z
      rw [setG_at]
      rcases hx with h | ⟨h1, h2, h3, h4⟩
      · exact absurd h e2
      rw [hrow _ (notrow x h1 fun _ z => h4 12 (by decide) z.symm)]
      exact h3
    · rw [setG_ne z]
      have p := A.pf i (by omega) e2
      rw [hrow _ (notrow _ p.1 fun hg z2 => by
        have := A.nd i 12 (by omega) (by decide) e2 z2
        omega)]
      exact A.rz i hi e2
  · rcases gne i hi e with ⟨z, e2⟩ | ⟨z, e2⟩
    · subst z
      rw [setG_at] at eij
      by_cases zj : j = i
      · exact zj.symm
      · rw [setG_ne zj] at eij
        rcases hx with h | ⟨h1, h2, h3, h4⟩
        · exact absurd h e2
        · exact absurd eij.symm (h4 j hj)
    · rw [setG_ne z] at eij
      by_cases zj : j = q
      · subst zj
        rw [setG_at] at eij
        rcases hx with h | ⟨h1, h2, h3, h4⟩
        · exact absurd (eij.trans h) e2
        · exact absurd eij (h4 i hi)
      · rw [setG_ne zj] at eij
        exact A.nd i j hi hj e2 eij
  · by_cases z : q = 12
    · rw [setG_ne (by omega)]
      exact h12 z i h2 h10
    · rw [setG_ne (fun y => z y.symm)] at e
      by_cases zi : i = q
      · exact absurd e (ht (by omega) (by omega))
      · rw [setG_ne zi]
        exact A.tz e i h2 h10
end
end K07
namespace K07
open PySem PySem.Spec PyProof.Rows L2 Rg
/-! ### the image and the book -/
def plL (G : Nat → Int) : List Int := [G 0, G 1, G 2, G 3, G 4, G 5, G 6, G 7, G 8, G 9, G 10, G 11]
structure Ag (v : IV) (w : BV) (G : Nat → Int) (o1 o2 i : Nat) : Prop where
  k : Kds v.M w.kd w.us w.li i
  p : Pls v.M G o1 o2
  pl : w.pl = plL G
  tb : w.tb = [G 12]
  ow : w.ow = [(o1 : Int), (o2 : Int)]
  h1 : o1 < 4
  h2 : o2 < 4
  pk : ∀ i, i < 13 → G i ≠ 0 → (w.kd[(G i).toNat]?).getD 0 ≠ 0
theorem nr1 : nrow 24 1 = 5 := by decide
theorem nr2 : nrow 24 2 = 6 := by decide
theorem nr3 : nrow 24 3 = 7 := by decide
section
variable {M : List (List Int)} {G : Nat → Int} {o1 o2 : Int}
theorem Pls.c1 (A : Pls M G o1 o2) : plc 24 M 1 = 0 := by unfold plc; rw [nr1]; exact cellAt_of A.r5 rfl
theorem Pls.c2 (A : Pls M G o1 o2) : plc 24 M 2 = G 12 := by unfold plc; rw [nr2]; exact cellAt_of A.r6 rfl
theorem Pls.c3 (A : Pls M G o1 o2) : plc 24 M 3 = 0 := by unfold plc; rw [nr3]; exact cellAt_of A.r7 rfl
theorem Pls.ok1 (A : Pls M G o1 o2) : PlcOk 24 5 M 1 := .inl A.c1
theorem Pls.ok3 (A : Pls M G o1 o2) : PlcOk 24 5 M 3 := .inl A.c3
theorem Pls.ok2 (A : Pls M G o1 o2) : PlcOk 24 5 M 2 := by
  unfold PlcOk
  rw [A.c2]
  by_cases e : G 12 = 0
  · exact .inl e
  · have := A.pf 12 (by decide) e
    exact .inr ⟨by show (10 : Int) ≤ _; omega, by omega⟩
theorem Pls.v2 (A : Pls M G o1 o2) {o : Nat} (h : o < 10) : plV 24 M 2 o = G o := by
  unfold plV
  rw [A.c2, nr2]
  by_cases c : o < 2
  · rw [if_pos c]
    have : o = 0 ∨ o = 1 := by omega
    rcases this with e | e <;> (subst e; exact cellAt_of A.r6 rfl)
  · rw [if_neg c]
    by_cases e : G 12 = 0
    · rw [if_pos e, A.tz e o (by omega) h]
    · rw [if_neg e]
      have : o = 2 ∨ o = 3 ∨ o = 4 ∨ o = 5 ∨ o = 6 ∨ o = 7 ∨ o = 8 ∨ o = 9 := by omega
      rcases this with q | q | q | q | q | q | q | q <;> (subst q; exact cellAt_of (A.rt e) rfl)
theorem Pls.v3 (A : Pls M G o1 o2) {o : Nat} (h : o < 2) : plV 24 M 3 o = G (10 + o) := by
  unfold plV
  rw [nr3, if_pos h]
  have : o = 0 ∨ o = 1 := by omega
  rcases this with e | e <;> (subst e; exact cellAt_of A.r7 rfl)
theorem Pls.v3z (A : Pls M G o1 o2) {o : Nat} (h : 2 ≤ o) : plV 24 M 3 o = 0 := by
  unfold plV
  rw [A.c3, if_neg (by omega), if_pos rfl]
theorem Pls.v1 (A : Pls M G o1 o2) {o : Nat} : plV 24 M 1 o = 0 := by
  unfold plV
  rw [A.c1, nr1]
  by_cases c : o < 2
  · rw [if_pos c]
    have : o = 0 ∨ o = 1 := by omega
    rcases this with e | e <;> (subst e; exact cellAt_of A.r5 rfl)
  · rw [if_neg c, if_pos rfl]
def fileD (G : Nat → Int) : List Int := [G 0, G 1, G 2, G 3, G 4, G 5, G 6, G 7, G 8, G 9, G 12].filter fun x => x != 0
def foldD (G : Nat → Int) : List Int := [G 10, G 11].filter fun x => x != 0
theorem Pls.h2 (A : Pls M G o1 o2) : heldV 24 M [2] = fileD G := by
  have e : plsOf 24 M 2 = [G 0, G 1, G 2, G 3, G 4, G 5, G 6, G 7, G 8, G 9, G 12] := by
    show [plV 24 M 2 0, plV 24 M 2 1, plV 24 M 2 2, plV 24 M 2 3, plV 24 M 2 4, plV 24 M 2 5, plV 24 M 2 6, plV 24 M 2 7, plV 24 M 2 8, plV 24 M 2 9, plc 24 M 2] = _
    rw [A.c2, A.v2 (by decide), A.v2 (by decide), A.v2 (by decide), A.v2 (by decide), A.v2 (by decide), A.v2 (by decide), A.v2 (by decide), A.v2 (by decide), A.v2 (by decide), A.v2 (by decide)]
  show (plsOf 24 M 2).filter (fun x => x != 0) ++ [] = _
  rw [e, List.append_nil]
  rfl
theorem Pls.h3 (A : Pls M G o1 o2) : heldV 24 M [3] = foldD G := by
  have e : plsOf 24 M 3 = [G 10, G 11, 0, 0, 0, 0, 0, 0, 0, 0, 0] := by
    show [plV 24 M 3 0, plV 24 M 3 1, plV 24 M 3 2, plV 24 M 3 3, plV 24 M 3 4, plV 24 M 3 5, plV 24 M 3 6, plV 24 M 3 7, plV 24 M 3 8, plV 24 M 3 9, plc 24 M 3] = _
    rw [A.c3, A.v3 (by decide), A.v3 (by decide), A.v3z (by decide), A.v3z (by decide), A.v3z (by decide), A.v3z (by decide), A.v3z (by decide), A.v3z (by decide), A.v3z (by decide), A.v3z (by decide)]
  show (plsOf 24 M 3).filter (fun x => x != 0) ++ [] = _
  rw [e, List.append_nil]
  show ([G 10, G 11] ++ [0, 0, 0, 0, 0, 0, 0, 0, 0]).filter _ = _
  rw [List.filter_append]
  show _ ++ [] = _
  rw [List.append_nil]
  rfl
theorem Pls.h321 (A : Pls M G o1 o2) : heldV 24 M [3, 2, 1] = foldD G ++ fileD G := by
  have e1 : heldV 24 M [1] = [] := by
    show [plV 24 M 1 0, plV 24 M 1 1, plV 24 M 1 2, plV 24 M 1 3, plV 24 M 1 4, plV 24 M 1 5, plV 24 M 1 6, plV 24 M 1 7, plV 24 M 1 8, plV 24 M 1 9, plc 24 M 1].filter _ ++ [] = _
    rw [A.c1]
    simp only [A.v1]
    rfl
  have h3 := A.h3
  have h2 := A.h2
  simp only [heldV, List.append_nil] at h3 h2 e1 ⊢
  rw [h3, h2, e1, List.append_nil]
theorem fileD_len : (fileD G).length ≤ 11 := List.length_filter_le _ _
theorem foldD_len : (foldD G).length ≤ 2 := List.length_filter_le _ _
end
theorem Ag.free {v : IV} {w : BV} {G : Nat → Int} {o1 o2 i : Nat} (A : Ag v w G o1 o2 i) : freeL 24 5 v.M = (rng 10 14).filter fun x => decide ((w.kd[x.toNat]?).getD 0 = 0) := by
  unfold freeL
  rw [show fdOf 24 5 = 10 by decide, show ((24 : Int) - 10).toNat = 14 by decide]
  refine List.filter_congr fun x hx => ?_
  have := rng_mem hx
  have e : x = ((x.toNat : Nat) : Int) := by omega
  have h := A.k.kind (x := x.toNat) (by omega)
  rw [← e] at h
  rw [h]
section
variable {P : Program} {w_ : World} {K : PySem.W.Frag} {mg : Str → Option Value} {base : Heap}
def sp_Lagrees (CI CP : Addr) : Sp := fun vs H Q _ => ∃ (im : Addr) (A : IA) (v : IV) (s : Int) (B : Bk) (w : BV) (fa : Addr) (fs : List Int) (G : Nat → Int) (o1 o2 i : Nat), vs = [.ref im, .ref B.bk] ∧ SI CI CP H im A v 24 5 s (bkL B w fa fs) ∧ Ag v w G o1 o2 i ∧ ∀ H', Same H H' → Q (.bl true) H'
theorem ok_Lagrees (T : Tx K mg) : FnOk P w_ K mg base CX0 5 T.f_Lagrees T.fd_Lagrees ["_law_image", "_law_book"] (sp_Lagrees T.C_Image T.C_Plan) := by
  refine T.F_Lagrees.ok sc_Lagrees (fun vs H Q E h => ?_) (fun cdv A0 outer s H vs Q E hr h => ?_)
  · obtain ⟨_, _, _, _, _, _, _, _, _, _, _, _, rfl, _⟩ := h; rfl
  · obtain ⟨im, A, v, sl, B, w, fa, fs, G, o1, o2, ib, rfl, S, Aq, k⟩ := h
    have hr1 : Room 1 _ := hr.mono (by decide)
    have hr2 : Room 2 _ := hr.mono (by decide)
    have hr3 : Room 3 _ := hr.mono (by decide)
    refine ⟨_, (pss_cons (ps_asg (pv 1) (pg_lst rfl (pgs_cons (pg_name (i := 2) sc_Lagrees.nd rfl (.inr rfl)) (pgs_cons (pg_name (i := 3) sc_Lagrees.nd rfl (.inl rfl)) (pgs_cons (pg_name (i := 4) sc_Lagrees.nd rfl (.inl rfl)) (pgs_cons (pg_name (i := 5) sc_Lagrees.nd rfl (.inl rfl)) (pgs_cons (pg_name (i := 6) sc_Lagrees.nd rfl (.inl rfl)) (pgs_cons (pg_name (i := 7) sc_Lagrees.nd rfl (.inl rfl)) pgs_nil))))))))
      (pss_cons (ps_for PassesOwn.never rfl (pi_range1 rfl T.b_range (pa_cons pe_int pa_nil)) (pg_name (i := 8) sc_Lagrees.nd rfl (.inl rfl))
        (pss_one (ps_if (pt_cmpR op_ne (pe_meth (pv 0) T.cl_Image T.m_Image_kind (ok_Image_kind T) hr2 (b_Image_kind T) .nil pass0 (pa_cons (pv 8) pa_nil)) (pe_ix ix_list (pv 2) (pv 8) (fun _ _ => rfl)) (nomark _))
          (pss_one (ps_ret pe_bl))
          pss_nil)))
      (pss_cons (ps_if (PW.pt (pw_or (pt_cmpR (op_neD hr.units) (pe_ix ix_list (pe_fld (pv 0) rfl) pe_int (fun _ _ => rfl)) (pe_op op_cat (pv 5) (pv 6)) (nomark _)) (pw_or1 (pt_cmpR (op_neD hr.units) (pe_meth0 (pv 0) T.cl_Image T.m_Image_free_blocks (ok_free_blocks T) hr3 (b_Image_free_blocks T) .nil pass0) (pe_lc rfl (own := [("_law_x", 8)]) (g := gName 8) (tt := _) sc_Lagrees.nd (pi_range2 rfl T.b_range (pa_cons pe_int (pa_cons pe_int pa_nil))) (blkOk_by (N := ["_law_image", "_law_book", "_law_kinds", "_law_places", "_law_tables", "_law_used", "_law_limits", "_law_owners", "_law_x", "_law_o", "_law_y", "_law_file_due", "_law_folder_due", "_law_told"]) (sc := defScope s_Lagrees) (by decide +kernel)) (fun _ _ _ _ _ => pg_name (i := 8) sc_Lagrees.nd rfl (Or.inl rfl)) (fun _ _ _ _ _ => pts_one (pt_cmpR op_eq (pe_ixK (K := K) (pv 2) (pv 8) (fun _ _ => rfl)) pe_int (nomark _))) (fun _ _ _ _ _ => (pv 8))) (nomark _)))))
        (pss_one (ps_ret pe_bl))
        pss_nil)
      (pss_cons (ps_for PassesOwn.never rfl (pi_range1 rfl T.b_range (pa_cons pe_int pa_nil)) (pg_name (i := 9) sc_Lagrees.nd rfl (.inl rfl))
        (pss_one (ps_if (pt_not (pt_val (pe_call (ok_Linteger T) hr1 rfl T.mg_Linteger T.F_Linteger.kp (b_Linteger T) .nil pass0 (pa_cons (pe_call (ok_place_block T) hr3 rfl T.mg_place_block T.F_place_block.kp (b_place_block T) .nil pass0 (pa_cons (pv 0) (pa_cons pe_int (pa_cons (pv 9) pa_nil)))) (pa_cons (pe_ix ix_list (pv 3) (pv 9) (fun _ _ => rfl)) pa_nil)))))
          (pss_one (ps_ret pe_bl))
          pss_nil)))
      (pss_cons (ps_for PassesOwn.never rfl (pi_range1 rfl T.b_range (pa_cons pe_int pa_nil)) (pg_name (i := 9) sc_Lagrees.nd rfl (.inl rfl))
        (pss_one (ps_if (pt_not (pt_val (pe_call (ok_Linteger T) hr1 rfl T.mg_Linteger T.F_Linteger.kp (b_Linteger T) .nil pass0 (pa_cons (pe_call (ok_place_block T) hr3 rfl T.mg_place_block T.F_place_block.kp (b_place_block T) .nil pass0 (pa_cons (pv 0) (pa_cons pe_int (pa_cons (pv 9) pa_nil)))) (pa_cons (pe_ix ix_list (pv 3) (pe_op op_add pe_int (pv 9)) (fun _ _ => rfl)) pa_nil)))))
          (pss_one (ps_ret pe_bl))
          pss_nil)))
      (pss_cons (ps_if (pt_cmpR (op_neD hr.units) (pe_ix ix_list (pe_fld (pv 0) rfl) pe_int (fun _ _ => rfl)) (pe_lst (pa_cons pe_int (pa_cons pe_int (pa_cons pe_int (pa_cons (pe_ix ix_list (pv 7) pe_int (fun _ _ => rfl)) (pa_cons (pe_ix ix_list (pv 3) pe_int (fun _ _ => rfl)) (pa_cons (pe_ix ix_list (pv 3) pe_int (fun _ _ => rfl)) (pa_cons (pe_ix ix_list (pv 4) pe_int (fun _ _ => rfl)) (pa_cons pe_int pa_nil))))))))) (nomark _))
        (pss_one (ps_ret pe_bl))
        pss_nil)
      (pss_cons (ps_if (pt_cmpR (op_neD hr.units) (pe_ix ix_list (pe_fld (pv 0) rfl) pe_int (fun _ _ => rfl)) (pe_lst (pa_cons pe_int (pa_cons pe_int (pa_cons pe_int (pa_cons (pe_ix ix_list (pv 7) pe_int (fun _ _ => rfl)) (pa_cons (pe_ix ix_list (pv 3) pe_int (fun _ _ => rfl)) (pa_cons (pe_ix ix_list (pv 3) pe_int (fun _ _ => rfl)) (pa_cons pe_int (pa_cons pe_int pa_nil))))))))) (nomark _))
        (pss_one (ps_ret pe_bl))
        pss_nil)
      (Evl.pss_cut (ps_if (PW.pt (pw_and (pt_cmpR op_ne (pe_ix ix_list (pv 4) pe_int (fun _ _ => rfl)) pe_int (nomark _)) (pw_and1 (pt_cmpR (op_neD hr.units) (pe_ix ix_list (pe_fld (pv 0) rfl) (pe_ix ix_list (pv 4) pe_int (fun _ _ => rfl)) (fun _ _ => rfl)) (pe_slice sl_list (pv 3) (po_some pe_int) (po_some pe_int)) (nomark _)))))
        (pss_one (ps_ret pe_bl))
        pss_nil)
      (pss_cons (ps_for PassesOwn.never rfl (pi_list (pe_lc rfl (own := [("_law_y", 10)]) (g := gName 10) (tt := _) sc_Lagrees.nd (pi_list (pv 3)) (blkOk_by (N := ["_law_image", "_law_book", "_law_kinds", "_law_places", "_law_tables", "_law_used", "_law_limits", "_law_owners", "_law_x", "_law_o", "_law_y", "_law_file_due", "_law_folder_due", "_law_told"]) (sc := defScope s_Lagrees) (by decide +kernel)) (fun _ _ _ _ _ => pg_name (i := 10) sc_Lagrees.nd rfl (Or.inl rfl)) (fun _ _ _ _ _ => pts_one (pt_cmpR op_ne (pv 10) pe_int (nomark _))) (fun _ _ _ _ _ => (pv 10)))) (pg_name (i := 8) sc_Lagrees.nd rfl (.inl rfl))
        (pss_one (ps_if (pt_cmpR (op_neD hr.units) (pe_ix ix_list (pe_fld (pv 0) rfl) (pv 8) (fun _ _ => rfl)) (pe_lst (pa_cons pe_int (pa_cons pe_int (pa_cons pe_int (pa_cons pe_int (pa_cons pe_int (pa_cons pe_int (pa_cons pe_int (pa_cons pe_int pa_nil))))))))) (nomark _))
          (pss_one (ps_ret pe_bl))
          pss_nil)))
      (pss_cons (ps_setLc (i := 11) (own := [("_law_x", 8)]) (g := gName 8) (tt := _) rfl sc_Lagrees.nd rfl rfl (sw_true rfl rfl rfl (by decide +kernel)) (pi_list (pe_op op_cat (pe_slice sl_list (pv 3) po_none (po_some pe_int)) (pv 4))) (blkOk_by (N := ["_law_image", "_law_book", "_law_kinds", "_law_places", "_law_tables", "_law_used", "_law_limits", "_law_owners", "_law_x", "_law_o", "_law_y", "_law_file_due", "_law_folder_due", "_law_told"]) (sc := defScope s_Lagrees) (by decide +kernel)) (fun _ _ _ _ _ => pg_name (i := 8) sc_Lagrees.nd rfl (Or.inl rfl)) (fun _ _ _ _ _ => pts_one (pt_cmpR op_ne (pv 8) pe_int (nomark _))) (fun _ _ _ _ _ => (pv 8)))
      (pss_cons (ps_setLc (i := 12) (own := [("_law_x", 8)]) (g := gName 8) (tt := _) rfl sc_Lagrees.nd rfl rfl (sw_true rfl rfl rfl (by decide +kernel)) (pi_list (pe_slice sl_list (pv 3) (po_some pe_int) po_none)) (blkOk_by (N := ["_law_image", "_law_book", "_law_kinds", "_law_places", "_law_tables", "_law_used", "_law_limits", "_law_owners", "_law_x", "_law_o", "_law_y", "_law_file_due", "_law_folder_due", "_law_told"]) (sc := defScope s_Lagrees) (by decide +kernel)) (fun _ _ _ _ _ => pg_name (i := 8) sc_Lagrees.nd rfl (Or.inl rfl)) (fun _ _ _ _ _ => pts_one (pt_cmpR op_ne (pv 8) pe_int (nomark _))) (fun _ _ _ _ _ => (pv 8)))
      (pss_cons (ps_set (i := 13) sc_Lagrees.nd rfl (.inl rfl) (pe_callR (ok_held T) hr T.F_held_blocks.kp rfl T.mg_held_blocks pass0 (pa_cons (pv 0) (pa_cons pe_int pa_nil))))
      (pss_cons (ps_if (PW.pt (pw_or (pt_not (pt_val (pe_callB call_isi rfl T.b_isinstance (by decide +kernel) (pa_cons (pv 13) (pa_cons (pe_bltn (v := .ty "list") rfl T.b_list (by decide +kernel) rfl) pa_nil))))) (pw_or (pt_cmpR (op_neD hr.units) (pv 13) (pv 11) (nomark _)) (pw_or1 (pt_cmpR (op_neD hr.units) (pe_callR (ok_held T) hr T.F_held_blocks.kp rfl T.mg_held_blocks pass0 (pa_cons (pv 0) (pa_cons pe_int pa_nil))) (pv 12) (nomark _))))))
        (pss_one (ps_ret pe_bl))
        pss_nil)
      (pss_cons (ps_expr (pe_bm PySem.F.plainAttrs_list PySem.F.slot_list_append PySem.F.type_list_append mt_append (pv 13) (pa_cons pe_int pa_nil)))
      (pss_one (ps_ret (pe_cmpR (op_eqD hr.units) (pe_callR (ok_held T) hr T.F_held_blocks.kp rfl T.mg_held_blocks pass0 (pa_cons (pv 0) (pa_cons pe_int (pa_cons pe_int (pa_cons pe_int pa_nil))))) (pe_op op_cat (pv 12) (pv 11)) (nomark _)))))))))))))))))), ?_⟩
    have ml := Aq.k.ml
    have hkl := Aq.k.kl
    have I := S.I
    have upk : ∀ {H' : Hp}, Same H H' → SI T.C_Image T.C_Plan H' im A v 24 5 sl (bkL B w fa fs) := fun {H'} s' => S.same s'
    have rowc : ∀ {H' : Hp} {x : Nat} {m : List Int}, Same H H' → v.M[x]? = some m → ∃ r, atI (A.rs.map V.ref) (x : Int) = some (.ref r) ∧ H' r = some (.lst (m.map V.int)) := fun {H' x m} s' hm => by
      obtain ⟨r, r1, r2, _⟩ := I.gr.get hm
      exact ⟨r, atI_nat (by rw [List.getElem?_map, r1]; rfl), s' _ _ r2⟩
    refine ⟨_, rfl, B.bk, _, rfl, .of (S.F.get 1 rfl), rfl, _, _, rfl, _, _, rfl, _, _, rfl, _, _, rfl, _, _, rfl, _, _, rfl, rfl, ?_⟩
    -- kinds
    refine ⟨24, rfl, by decide, by decide, for_range (lo := 0) (n := 24) (fun i σ H' => ∃ u8 : Option V, σ = [some (.ref im), some (.ref B.bk), some (.ref B.kd), some (.ref B.pl), some (.ref B.tb), some (.ref B.us), some (.ref B.li), some (.ref B.ow), u8, none, none, none, none, none] ∧ Same H H') ⟨_, rfl, Same.refl _⟩ ?_ ?_⟩
    · rintro i σ H' hi ⟨u8, rfl, S'⟩
      have ez : (0 : Int) + (i : Int) = (i : Int) := by omega
      have hil : i < w.kd.length := by omega
      have ek : w.kd[i]? = some w.kd[i] := List.getElem?_eq_getElem hil
      refine ⟨_, rfl, im, _, _, rfl, S' _ _ I.ob, rfl, _, rfl, im, A, v, 24, 5, sl, _, rfl, I.keep S', by omega, by omega, fun H2 S2 => ?_⟩
      refine ⟨_, rfl, _, rfl, B.kd, _, _, _, rfl, rfl, .of ((upk (S'.trans S2)).F.get 2 rfl), at_of (j := i) (by omega) (by rw [List.getElem?_map, ek]; rfl), rfl, _, rfl, ?_⟩
      rw [dec_iv, ez, Aq.k.kind hi, ek]
      rw [decide_eq_true (show (some w.kd[i]).getD 0 = w.kd[i] from rfl)]
      exact iteF ⟨_, rfl, S'.trans S2⟩
    rintro σ H1 ⟨u8, rfl, S1⟩
    -- sums
    obtain ⟨r0, a0, e0⟩ := rowc S1 Aq.k.r0
    have X1 := upk S1
    refine ⟨_, rfl, im, _, _, _, _, rfl, X1.I.ob, T.cl_Image, T.na_Image_cells, rfl, A.ca, _, _, _, rfl, rfl, .of X1.I.gr.out, a0, _, rfl, _, rfl, B.us, B.li, _, _, rfl, rfl, X1.F.get 5 rfl, X1.F.get 6 rfl, ?_, fun q nq => ?_⟩
    · rw [List.length_map, List.length_map, Aq.k.u4, Aq.k.l4]
      decide
    have s2 := same_upd (o := .lst (w.us.map V.int ++ w.li.map V.int)) nq
    have eq : upd H1 q (.lst (w.us.map V.int ++ w.li.map V.int)) q = some (.lst ((w.us ++ w.li).map V.int)) := by rw [upd_same, List.map_append]
    generalize upd H1 q (.lst (w.us.map V.int ++ w.li.map V.int)) = H2 at s2 eq ⊢
    refine ⟨_, _, dpI (s2 _ _ e0), dpI eq, shI _, shI _, _, rfl, ?_⟩
    rw [eqI]
    have S2 := S1.trans s2
    have X2 := upk S2
    refine iteF ⟨_, rfl, im, _, _, rfl, X2.I.ob, rfl, im, A, v, 24, 5, sl, rfl, X2.I, fun H3 p3 S3 np3 ep3 => ?_⟩
    refine ⟨10, 24, rfl, ⟨by decide, by decide, by decide, by decide⟩, fun D hD => ?_⟩
    refine lc_range (lo := 10) (n := ((24 : Int) - 10).toNat) (PvF H3 D (rng 10 14) (fun x => decide ((w.kd[x.toNat]?).getD 0 = 0))) (PvF.start hD) ?_ ?_
    · rintro i H' hi Pv
      have hi : i < 14 := hi
      have hx := rng_get (lo := 10) hi
      have hil : 10 + i < w.kd.length := by omega
      have ek : (w.kd[(10 + (i : Int)).toNat]?).getD 0 = w.kd[10 + i] := by
        rw [show (10 + (i : Int)).toNat = 10 + i by omega, List.getElem?_eq_getElem hil]
        rfl
      have X' := upk ((S2.trans S3).trans Pv.1)
      refine ⟨rfl, ?_⟩
      refine ⟨_, rfl, _, rfl, B.kd, _, _, _, rfl, rfl, .of (X'.F.get 2 rfl), at_of (j := 10 + i) (by omega) (by rw [List.getElem?_map, List.getElem?_eq_getElem hil]; rfl), rfl, _, rfl, ?_⟩
      rw [dec_iv]
      by_cases e1 : w.kd[10 + i] = 0
      · rw [decide_eq_true e1]
        exact iteT ⟨_, rfl, Pv.yes hD (Same.refl _) hx (by rw [rng_len]; decide) (by simp only [ek, e1]; rfl)⟩
      · rw [decide_eq_false e1]
        exact iteF (Pv.no (Same.refl _) hx (by simp only [ek]; exact decide_eq_false e1))
    intro H4 Pv4
    obtain ⟨S4, e4⟩ := Pv4.all (by rw [rng_len]; rfl)
    rw [Aq.free] at ep3
    refine ⟨_, _, dpI (S4 _ _ ep3), dpI e4, shI _, shI _, _, rfl, ?_⟩
    rw [eqI]
    have S04 := (S2.trans S3).trans S4
    clear Pv4 S2 X2 S1 X1 a0 e0
    refine iteF ?_
    -- the file's places
    refine ⟨10, rfl, by decide, by decide, for_range (lo := 0) (n := 10) (fun i σ H' => ∃ u9 : Option V, σ = [some (.ref im), some (.ref B.bk), some (.ref B.kd), some (.ref B.pl), some (.ref B.tb), some (.ref B.us), some (.ref B.li), some (.ref B.ow), u8, u9, none, none, none, none] ∧ Same H H') ⟨_, rfl, S04⟩ ?_ ?_⟩
    · rintro i σ H' hi ⟨u9, rfl, S'⟩
      have ez : (0 : Int) + (i : Int) = (i : Int) := by omega
      rw [ez]
      have X' := upk S'
      have ep : w.pl[i]? = some (G i) := by
        rw [Aq.pl]
        have hi : i < 10 := hi
        have : i = 0 ∨ i = 1 ∨ i = 2 ∨ i = 3 ∨ i = 4 ∨ i = 5 ∨ i = 6 ∨ i = 7 ∨ i = 8 ∨ i = 9 := by omega
        rcases this with q | q | q | q | q | q | q | q | q | q <;> (subst q; rfl)
      refine ⟨_, rfl, _, rfl, im, A, v, 24, 5, sl, 2, i, rfl, X'.I, by decide, by decide, hi, Aq.p.ok2, ?_⟩
      refine ⟨_, rfl, _, rfl, B.pl, _, _, _, rfl, rfl, .of (X'.F.get 3 rfl), atI_nat (by rw [List.getElem?_map, ep]; rfl), _, _, rfl, ?_⟩
      rw [Aq.p.v2 hi, decide_eq_true rfl]
      exact ⟨_, rfl, iteF ⟨_, rfl, S'⟩⟩
    rintro σ H5 ⟨u9, rfl, S5⟩
    refine ⟨2, rfl, by decide, by decide, for_range (lo := 0) (n := 2) (fun i σ H' => ∃ u9 : Option V, σ = [some (.ref im), some (.ref B.bk), some (.ref B.kd), some (.ref B.pl), some (.ref B.tb), some (.ref B.us), some (.ref B.li), some (.ref B.ow), u8, u9, none, none, none, none] ∧ Same H H') ⟨_, rfl, S5⟩ ?_ ?_⟩
    · rintro i σ H' hi ⟨u9, rfl, S'⟩
      have ez : (0 : Int) + (i : Int) = (i : Int) := by omega
      rw [ez]
      have X' := upk S'
      have hi : i < 2 := hi
      have ep : w.pl[10 + i]? = some (G (10 + i)) := by
        rw [Aq.pl]
        have : i = 0 ∨ i = 1 := by omega
        rcases this with q | q <;> (subst q; rfl)
      refine ⟨_, rfl, _, rfl, im, A, v, 24, 5, sl, 3, i, rfl, X'.I, by decide, by decide, by omega, Aq.p.ok3, ?_⟩
      refine ⟨_, rfl, _, rfl, _, _, rfl, rfl, B.pl, _, _, _, rfl, rfl, .of (X'.F.get 3 rfl), at_of (j := 10 + i) (by omega) (by rw [List.getElem?_map, ep]; rfl), _, _, rfl, ?_⟩
      rw [Aq.p.v3 hi, decide_eq_true rfl]
      exact ⟨_, rfl, iteF ⟨_, rfl, S'⟩⟩
    rintro σ H6 ⟨u9', rfl, S6⟩
    have X6 := upk S6
    have pat : ∀ {H' : Hp} (j : Nat) (x : Int), Same H H' → (plL G)[j]? = some x → atI (w.pl.map V.int) (j : Int) = some (.int x) := fun {H'} j x _ h => atI_nat (by rw [List.getElem?_map, Aq.pl, h]; rfl)
    have oat : ∀ (j : Nat) (x : Int), ([(o1 : Int), (o2 : Int)] : List Int)[j]? = some x → atI (w.ow.map V.int) (j : Int) = some (.int x) := fun j x h => atI_nat (by rw [List.getElem?_map, Aq.ow, h]; rfl)
    have tat : atI (w.tb.map V.int) ((0 : Nat) : Int) = some (.int (G 12)) := atI_nat (by rw [List.getElem?_map, Aq.tb]; rfl)
    -- the file's node
    obtain ⟨r6, a6, e6⟩ := rowc S6 Aq.p.r6
    refine ⟨_, rfl, im, _, _, _, _, rfl, X6.I.ob, T.cl_Image, T.na_Image_cells, rfl, A.ca, _, _, _, rfl, rfl, .of X6.I.gr.out, a6, ?_⟩
    refine ⟨_, rfl, B.ow, _, _, _, rfl, rfl, .of (X6.F.get 7 rfl), oat 0 _ rfl, _, rfl, B.pl, _, _, _, rfl, rfl, .of (X6.F.get 3 rfl), pat 0 _ (Same.refl H) rfl, _, rfl, B.pl, _, _, _, rfl, rfl, .of (X6.F.get 3 rfl), pat 1 _ (Same.refl H) rfl, _, rfl, B.tb, _, _, _, rfl, rfl, .of (X6.F.get 4 rfl), tat, (by show 8 ≤ sizeLine; decide), fun q6 nq6 => ?_⟩
    have s7 := same_upd (o := .lst [V.int 1, V.int 0, V.int 0, V.int (o1 : Int), V.int (G 0), V.int (G 1), V.int (G 12), V.int 1]) nq6
    have eq6 : upd H6 q6 (.lst [V.int 1, V.int 0, V.int 0, V.int (o1 : Int), V.int (G 0), V.int (G 1), V.int (G 12), V.int 1]) q6 = some (.lst (([1, 0, 0, (o1 : Int), G 0, G 1, G 12, 1] : List Int).map V.int)) := upd_same
    generalize upd H6 q6 (.lst [V.int 1, V.int 0, V.int 0, V.int (o1 : Int), V.int (G 0), V.int (G 1), V.int (G 12), V.int 1]) = H7 at s7 eq6 ⊢
    refine ⟨_, _, dpI (s7 _ _ e6), dpI eq6, shI _, shI _, _, rfl, ?_⟩
    rw [eqI]
    have S7 := S6.trans s7
    have X7 := upk S7
    refine iteF ?_
    -- the folder's node
    obtain ⟨r7, a7, e7⟩ := rowc S7 Aq.p.r7
    refine ⟨_, rfl, im, _, _, _, _, rfl, X7.I.ob, T.cl_Image, T.na_Image_cells, rfl, A.ca, _, _, _, rfl, rfl, .of X7.I.gr.out, a7, ?_⟩
    refine ⟨_, rfl, B.ow, _, _, _, rfl, rfl, .of (X7.F.get 7 rfl), oat 1 _ rfl, _, rfl, B.pl, _, _, _, rfl, rfl, .of (X7.F.get 3 rfl), pat 10 _ (Same.refl H) rfl, _, rfl, B.pl, _, _, _, rfl, rfl, .of (X7.F.get 3 rfl), pat 11 _ (Same.refl H) rfl, (by show 8 ≤ sizeLine; decide), fun q7 nq7 => ?_⟩
    have s8 := same_upd (o := .lst [V.int 2, V.int 0, V.int 0, V.int (o2 : Int), V.int (G 10), V.int (G 11), V.int 0, V.int 1]) nq7
    have eq7 : upd H7 q7 (.lst [V.int 2, V.int 0, V.int 0, V.int (o2 : Int), V.int (G 10), V.int (G 11), V.int 0, V.int 1]) q7 = some (.lst (([2, 0, 0, (o2 : Int), G 10, G 11, 0, 1] : List Int).map V.int)) := upd_same
    generalize upd H7 q7 (.lst [V.int 2, V.int 0, V.int 0, V.int (o2 : Int), V.int (G 10), V.int (G 11), V.int 0, V.int 1]) = H8 at s8 eq7 ⊢
    refine ⟨_, _, dpI (s8 _ _ e7), dpI eq7, shI _, shI _, _, rfl, ?_⟩
    rw [eqI]
    have S8 := S7.trans s8
    have X8 := upk S8
    refine iteF ?_
    -- the table
    refine ⟨fun σ H' => σ = [some (.ref im), some (.ref B.bk), some (.ref B.kd), some (.ref B.pl), some (.ref B.tb), some (.ref B.us), some (.ref B.li), some (.ref B.ow), u8, u9', none, none, none, none] ∧ Same H H', ?_, ?_⟩
    · refine ⟨_, rfl, B.tb, _, _, _, rfl, rfl, .of (X8.F.get 4 rfl), tat, rfl, _, rfl, ?_⟩
      rw [dec_iv]
      by_cases g : G 12 = 0
      · rw [decide_eq_true g]
        exact iteF ⟨rfl, S8⟩
      · rw [decide_eq_false g]
        have p12 := Aq.p.pf 12 (by decide) g
        obtain ⟨rt, at_, et⟩ := rowc S8 (Aq.p.rt g)
        have etn : (((G 12).toNat : Nat) : Int) = G 12 := by omega
        rw [etn] at at_
        refine iteT ⟨_, rfl, im, _, _, _, _, rfl, X8.I.ob, T.cl_Image, T.na_Image_cells, rfl, _, rfl, B.tb, _, _, _, rfl, rfl, .of (X8.F.get 4 rfl), tat, A.ca, _, _, _, rfl, rfl, .of X8.I.gr.out, at_, ?_⟩
        refine ⟨_, rfl, _, rfl, _, rfl, B.pl, _, rfl, .of (X8.F.get 3 rfl), fun qs nqs => ?_⟩
        have s9 := same_upd (o := .lst (cutV (w.pl.map V.int) (some 2) (some 10))) nqs
        have eqs : upd H8 qs (.lst (cutV (w.pl.map V.int) (some 2) (some 10))) qs = some (.lst ((tabR G).map V.int)) := by rw [upd_same, Aq.pl]; rfl
        generalize upd H8 qs (.lst (cutV (w.pl.map V.int) (some 2) (some 10))) = H9 at s9 eqs ⊢
        refine ⟨_, _, dpI (s9 _ _ et), dpI eqs, shI _, shI _, _, rfl, ?_⟩
        rw [eqI]
        exact iteF ⟨rfl, S8.trans s9⟩
    rintro σ H9 ⟨rfl, S9⟩
    have X9 := upk S9
    have plg : H9 B.pl = some (.lst ((plL G).map V.int)) := by rw [← Aq.pl]; exact X9.F.get 3 rfl
    -- the places' blocks
    refine ⟨_, rfl, B.pl, rfl, ⟨_, .of plg⟩, fun D1 hD1 => ?_⟩
    refine lc_list (K := K) (a := B.pl) (xs := (plL G).map V.int) (PvF H9 D1 (plL G) (fun x => x != 0)) (PvF.start hD1) (fun i H3 _ Pv => .of (Pv.1 _ _ plg)) ?_ ?_
    · rintro i y H3 hi Pv
      rw [List.getElem?_map] at hi
      obtain ⟨x, hx, rfl⟩ := Option.map_eq_some_iff.mp hi
      refine ⟨rfl, ?_⟩
      refine ⟨_, rfl, rfl, _, rfl, ?_⟩
      rw [dec_iv]
      by_cases e : x = 0
      · rw [decide_eq_true e]
        exact iteF (Pv.no (Same.refl _) hx (by simp [e]))
      · rw [decide_eq_false e]
        exact iteT ⟨_, rfl, Pv.yes hD1 (Same.refl _) hx (by show 12 < 1000; decide) (by simp [e])⟩
    intro H10 Pv10
    obtain ⟨S10', e10⟩ := Pv10.all (by rw [List.length_map])
    have S10 := S9.trans S10'
    clear Pv10
    refine ⟨D1, rfl, ⟨_, .of e10⟩, for_list (K := K) (a := D1) (xs := ((plL G).filter fun x => x != 0).map V.int) (fun i σ H' => ∃ u8 : Option V, σ = [some (.ref im), some (.ref B.bk), some (.ref B.kd), some (.ref B.pl), some (.ref B.tb), some (.ref B.us), some (.ref B.li), some (.ref B.ow), u8, u9', none, none, none, none] ∧ Same H10 H') ⟨_, rfl, Same.refl _⟩ (fun i σ H' _ ⟨_, _, S'⟩ => .of (S' _ _ e10)) ?_ ?_⟩
    · rintro i y σ H' hi ⟨u8, rfl, S'⟩
      rw [List.getElem?_map] at hi
      obtain ⟨x, hx, rfl⟩ := Option.map_eq_some_iff.mp hi
      obtain ⟨hx1, hx2⟩ := List.mem_filter.mp (List.mem_of_getElem? hx)
      have hx0 : x ≠ 0 := by simpa using hx2
      obtain ⟨j, hj, ej⟩ : ∃ j, j < 12 ∧ G j = x := by
        simp only [plL, List.mem_cons, List.not_mem_nil, or_false] at hx1
        rcases hx1 with e | e | e | e | e | e | e | e | e | e | e | e
        · exact ⟨0, by decide, e.symm⟩
        · exact ⟨1, by decide, e.symm⟩
        · exact ⟨2, by decide, e.symm⟩
        · exact ⟨3, by decide, e.symm⟩
        · exact ⟨4, by decide, e.symm⟩
        · exact ⟨5, by decide, e.symm⟩
        · exact ⟨6, by decide, e.symm⟩
        · exact ⟨7, by decide, e.symm⟩
        · exact ⟨8, by decide, e.symm⟩
        · exact ⟨9, by decide, e.symm⟩
        · exact ⟨10, by decide, e.symm⟩
        · exact ⟨11, by decide, e.symm⟩
      have pj := Aq.p.pf j (by omega) (by rw [ej]; exact hx0)
      have zj := Aq.p.rz j hj (by rw [ej]; exact hx0)
      rw [ej] at pj zj
      have S0 := S10.trans S'
      obtain ⟨rx, ax, ex⟩ := rowc S0 zj
      rw [show ((x.toNat : Nat) : Int) = x by omega] at ax
      have X0 := upk S0
      refine ⟨_, rfl, im, _, _, _, _, rfl, X0.I.ob, T.cl_Image, T.na_Image_cells, rfl, _, rfl, A.ca, _, _, _, rfl, rfl, .of X0.I.gr.out, ax, (by show 8 ≤ sizeLine; decide), fun qz nqz => ?_⟩
      have sz := same_upd (o := .lst [V.int 0, V.int 0, V.int 0, V.int 0, V.int 0, V.int 0, V.int 0, V.int 0]) nqz
      have ez : upd H' qz (.lst [V.int 0, V.int 0, V.int 0, V.int 0, V.int 0, V.int 0, V.int 0, V.int 0]) qz = some (.lst ((List.replicate 8 (0 : Int)).map V.int)) := upd_same
      generalize upd H' qz (.lst [V.int 0, V.int 0, V.int 0, V.int 0, V.int 0, V.int 0, V.int 0, V.int 0]) = Hz at sz ez ⊢
      refine ⟨_, _, dpI (sz _ _ ex), dpI ez, shI _, shI _, _, rfl, ?_⟩
      rw [eqI]
      exact iteF ⟨_, rfl, S'.trans sz⟩
    rintro σ H11 ⟨u8', rfl, S11'⟩
    have S11 := S10.trans S11'
    have X11 := upk S11
    have plg11 : H11 B.pl = some (.lst ((plL G).map V.int)) := by rw [← Aq.pl]; exact X11.F.get 3 rfl
    have tbg11 : H11 B.tb = some (.lst (([G 12] : List Int).map V.int)) := by rw [← Aq.tb]; exact X11.F.get 4 rfl
    -- what is due
    refine ⟨_, rfl, _, rfl, B.pl, _, rfl, .of plg11, fun qa nqa => ?_⟩
    have sa := same_upd (o := .lst (cutV ((plL G).map V.int) none (some 10))) nqa
    have ea : upd H11 qa (.lst (cutV ((plL G).map V.int) none (some 10))) qa = some (.lst (([G 0, G 1, G 2, G 3, G 4, G 5, G 6, G 7, G 8, G 9] : List Int).map V.int)) := upd_same
    generalize upd H11 qa (.lst (cutV ((plL G).map V.int) none (some 10))) = H12 at sa ea ⊢
    refine ⟨_, rfl, qa, B.tb, _, _, rfl, rfl, ea, sa _ _ tbg11, by show 10 + 1 ≤ sizeLine; decide, fun qb nqb => ?_⟩
    have sb := same_upd (o := .lst (([G 0, G 1, G 2, G 3, G 4, G 5, G 6, G 7, G 8, G 9] : List Int).map V.int ++ ([G 12] : List Int).map V.int)) nqb
    have eb : upd H12 qb (.lst (([G 0, G 1, G 2, G 3, G 4, G 5, G 6, G 7, G 8, G 9] : List Int).map V.int ++ ([G 12] : List Int).map V.int)) qb = some (.lst (([G 0, G 1, G 2, G 3, G 4, G 5, G 6, G 7, G 8, G 9, G 12] : List Int).map V.int)) := upd_same
    generalize upd H12 qb (.lst (([G 0, G 1, G 2, G 3, G 4, G 5, G 6, G 7, G 8, G 9] : List Int).map V.int ++ ([G 12] : List Int).map V.int)) = H13 at sb eb ⊢
    have S13 := (S11.trans sa).trans sb
    refine ⟨qb, rfl, ⟨_, .of eb⟩, fun D2 hD2 => ?_⟩
    refine lc_list (K := K) (a := qb) (xs := ([G 0, G 1, G 2, G 3, G 4, G 5, G 6, G 7, G 8, G 9, G 12] : List Int).map V.int) (PvF H13 D2 [G 0, G 1, G 2, G 3, G 4, G 5, G 6, G 7, G 8, G 9, G 12] (fun x => x != 0)) (PvF.start hD2) (fun i H3 _ Pv => .of (Pv.1 _ _ eb)) ?_ ?_
    · rintro i y H3 hi Pv
      rw [List.getElem?_map] at hi
      obtain ⟨x, hx, rfl⟩ := Option.map_eq_some_iff.mp hi
      refine ⟨rfl, ?_⟩
      refine ⟨_, rfl, rfl, _, rfl, ?_⟩
      rw [dec_iv]
      by_cases e : x = 0
      · rw [decide_eq_true e]
        exact iteF (Pv.no (Same.refl _) hx (by simp [e]))
      · rw [decide_eq_false e]
        exact iteT ⟨_, rfl, Pv.yes hD2 (Same.refl _) hx (by show 11 < 1000; decide) (by simp [e])⟩
    intro H14 Pv14
    obtain ⟨S14', e14⟩ := Pv14.all (by rw [List.length_map])
    have S14 := S13.trans S14'
    clear Pv14
    have plg14 : H14 B.pl = some (.lst ((plL G).map V.int)) := by rw [← Aq.pl]; exact (upk S14).F.get 3 rfl
    refine ⟨_, rfl, _, rfl, B.pl, _, rfl, .of plg14, fun qc nqc => ?_⟩
    have sc := same_upd (o := .lst (cutV ((plL G).map V.int) (some 10) none)) nqc
    have ec : upd H14 qc (.lst (cutV ((plL G).map V.int) (some 10) none)) qc = some (.lst (([G 10, G 11] : List Int).map V.int)) := upd_same
    generalize upd H14 qc (.lst (cutV ((plL G).map V.int) (some 10) none)) = H15 at sc ec ⊢
    refine ⟨qc, rfl, ⟨_, .of ec⟩, fun D3 hD3 => ?_⟩
    refine lc_list (K := K) (a := qc) (xs := ([G 10, G 11] : List Int).map V.int) (PvF H15 D3 [G 10, G 11] (fun x => x != 0)) (PvF.start hD3) (fun i H3 _ Pv => .of (Pv.1 _ _ ec)) ?_ ?_
    · rintro i y H3 hi Pv
      rw [List.getElem?_map] at hi
      obtain ⟨x, hx, rfl⟩ := Option.map_eq_some_iff.mp hi
      refine ⟨rfl, ?_⟩
      refine ⟨_, rfl, rfl, _, rfl, ?_⟩
      rw [dec_iv]
      by_cases e : x = 0
      · rw [decide_eq_true e]
        exact iteF (Pv.no (Same.refl _) hx (by simp [e]))
      · rw [decide_eq_false e]
        exact iteT ⟨_, rfl, Pv.yes hD3 (Same.refl _) hx (by show 2 < 1000; decide) (by simp [e])⟩
    intro H16 Pv16
    obtain ⟨S16', e16⟩ := Pv16.all (by rw [List.length_map])
    clear Pv16
    have S14_16 := sc.trans S16'
    have S16 := S14.trans S14_16
    have f16 : H16 D2 = some (.lst ((fileD G).map V.int)) := S14_16 _ _ e14
    have g16 : H16 D3 = some (.lst ((foldD G).map V.int)) := e16
    -- what is told
    have hm1 : ∀ m ∈ ([2] : List Int), 1 ≤ m ∧ m ≤ 5 ∧ PlcOk 24 5 v.M m := fun m hm => by rw [List.mem_singleton.mp hm]; exact ⟨by decide, by decide, Aq.p.ok2⟩
    have hm3 : ∀ m ∈ ([3] : List Int), 1 ≤ m ∧ m ≤ 5 ∧ PlcOk 24 5 v.M m := fun m hm => by rw [List.mem_singleton.mp hm]; exact ⟨by decide, by decide, Aq.p.ok3⟩
    have hm321 : ∀ m ∈ ([3, 2, 1] : List Int), 1 ≤ m ∧ m ≤ 5 ∧ PlcOk 24 5 v.M m := fun m hm => by
      simp only [List.mem_cons, List.not_mem_nil, or_false] at hm
      rcases hm with e | e | e
      · rw [e]; exact ⟨by decide, by decide, Aq.p.ok3⟩
      · rw [e]; exact ⟨by decide, by decide, Aq.p.ok2⟩
      · rw [e]; exact ⟨by decide, by decide, Aq.p.ok1⟩
    refine ⟨_, rfl, [.ref im], [.int 2], rfl, rfl, (by show 1 ≤ sizeLine; decide), fun t1 nt1 => ⟨im, A, v, 24, 5, sl, t1, [2], rfl, (I.keep S16).keep (same_upd nt1), upd_same, by decide, hm1, fun H17 q1 S17' nq1 eq1 => ?_⟩⟩
    have S17'' := (same_upd (o := .tup [V.int 2]) nt1).trans S17'
    have S17 := S16.trans S17''
    rw [Aq.p.h2] at eq1
    refine ⟨_, rfl, _, _, _, _, true, rfl, .ty _, .base (.lst eq1), kit_ty (by decide +kernel), _, rfl, iteF ?_⟩
    -- equal to what is due
    refine ⟨_, rfl, _, rfl, _, _, dpI eq1, dpI (S17'' _ _ f16), shI _, shI _, _, rfl, ?_⟩
    rw [eqI]
    refine iteF ⟨_, rfl, [.ref im], [.int 3], rfl, rfl, (by show 1 ≤ sizeLine; decide), fun t2 nt2 => ⟨im, A, v, 24, 5, sl, t2, [3], rfl, (I.keep S17).keep (same_upd nt2), upd_same, by decide, hm3, fun H18 q2 S18' nq2 eq2 => ?_⟩⟩
    have S18'' := (same_upd (o := .tup [V.int 3]) nt2).trans S18'
    have S18 := S17.trans S18''
    rw [Aq.p.h3] at eq2
    have g18 := S18'' _ _ (S17'' _ _ g16)
    have f18 := S18'' _ _ (S17'' _ _ f16)
    have q18 := S18'' _ _ eq1
    refine ⟨_, rfl, _, _, dpI eq2, dpI g18, shI _, shI _, _, rfl, ?_⟩
    rw [eqI]
    refine iteF ?_
    -- the told list is its own
    have n13 : q1 ≠ D3 := fun z => by
      rw [z] at nq1
      have h := same_upd (o := .tup [V.int 2]) nt1 _ _ g16
      rw [nq1] at h
      cases h
    have n12 : q1 ≠ D2 := fun z => by
      rw [z] at nq1
      have h := same_upd (o := .tup [V.int 2]) nt1 _ _ f16
      rw [nq1] at h
      cases h
    have nq1H : H q1 = none := S16.free ((same_upd (o := .tup [V.int 2]) nt1).free nq1)
    refine ⟨.ref q1, rfl, .inl ⟨rfl, _, .inl (.inl q18)⟩, q1, _, _, rfl, rfl, q18, ?_, ?_⟩
    · rw [List.length_map]
      exact small1000 (Nat.le_trans fileD_len (by decide))
    have Sp : Same H (upd H18 q1 (.lst ((fileD G).map V.int ++ [V.int 0]))) := fun x o e => by
      rw [upd_ne (ne_of_none e nq1H)]
      exact S18 _ _ e
    have f19 : upd H18 q1 (.lst ((fileD G).map V.int ++ [V.int 0])) D2 = some (.lst ((fileD G).map V.int)) := by rw [upd_ne n12.symm]; exact f18
    have g19 : upd H18 q1 (.lst ((fileD G).map V.int ++ [V.int 0])) D3 = some (.lst ((foldD G).map V.int)) := by rw [upd_ne n13.symm]; exact g18
    generalize upd H18 q1 (.lst ((fileD G).map V.int ++ [V.int 0])) = H19 at Sp f19 g19 ⊢
    refine ⟨_, rfl, [.ref im], [.int 3, .int 2, .int 1], rfl, rfl, (by show 3 ≤ sizeLine; decide), fun t3 nt3 => ⟨im, A, v, 24, 5, sl, t3, [3, 2, 1], rfl, (I.keep Sp).keep (same_upd nt3), upd_same, by decide, hm321, fun H20 q3 S20' nq3 eq3 => ?_⟩⟩
    have S20'' := (same_upd (o := .tup [V.int 3, V.int 2, V.int 1]) nt3).trans S20'
    rw [Aq.p.h321] at eq3
    refine ⟨_, rfl, _, rfl, D3, D2, _, _, rfl, rfl, S20'' _ _ g19, S20'' _ _ f19, ?_, fun qe nqe => ?_⟩
    · rw [List.length_map, List.length_map]
      have h1 := fileD_len (G := G)
      have h2 := foldD_len (G := G)
      exact Nat.le_of_lt (small1000 (by omega))
    have se := same_upd (o := .lst ((foldD G).map V.int ++ (fileD G).map V.int)) nqe
    have ee : upd H20 qe (.lst ((foldD G).map V.int ++ (fileD G).map V.int)) qe = some (.lst ((foldD G ++ fileD G).map V.int)) := by rw [upd_same, List.map_append]
    refine ⟨_, _, dpI (se _ _ eq3), dpI ee, shI _, shI _, ?_⟩
    rw [eqI]
    exact k _ ((Sp.trans S20'').trans se)
end
end K07
namespace K07
open PySem PySem.Spec PyProof.Rows L2 Rg
/-- a take that is refused: by the limit, or for want of a block -/
def Ref1 (v : IV) (ow : Nat) (kind : Int) (qb : Bool) : Prop := (quota v ow ∧ qb = true) ∨ (¬ quota v ow ∧ letL 24 5 v.M kind v.ba = [] ∧ qb = false)
def Ref2 (v : IV) (o ow : Nat) (qb : Bool) : Prop :=
  (needsT 24 v 2 o = false ∧ Ref1 v ow 2 qb) ∨ (needsT 24 v 2 o = true ∧ (Ref1 v ow 1 qb ∨ (¬ quota v ow ∧ ∃ t : Nat, pickL (letL 24 5 v.M 1 v.ba) v.wi = some (t : Int) ∧ Ref1 (takT 24 v 2 ow t) ow 2 qb)))
section
variable {P : Program} {w_ : World} {K : PySem.W.Frag} {mg : Str → Option Value} {base : Heap}
theorem ne_cls (T : Tx K mg) : T.C_OverQuota ≠ T.C_BlocksFull := fun e => by
  have h1 := T.sub_OverQuota_OverQuota
  have h2 := T.sub_OverQuota_BlocksFull
  rw [← e, h1] at h2
  cases h2
def sp_Lrefused (CI CP : Addr) : Sp := fun vs H Q _ => ∃ (im : Addr) (A : IA) (v : IV) (s m : Int) (o : Nat) (qb : Bool) (ow : Nat), vs = [.ref im, .int m, .int o, .bl qb] ∧ ImgAt CI CP H im A v 24 5 s ∧ o < 10 ∧ ow < 4 ∧ (cellAt v.M 0 ow).natAbs.log2 < 1910 ∧ PlcOk 24 5 v.M m ∧ cellAt v.M (nrow 24 m) 3 = ow ∧ plV 24 v.M m o = 0 ∧
  ((m = 2 ∧ Ref2 v o ow qb) ∨ (m = 3 ∧ o < 2 ∧ Ref1 v ow 1 qb)) ∧ ∀ H', Same H H' → Q (.bl true) H'
theorem ok_Lrefused (T : Tx K mg) : FnOk P w_ K mg base CX0 7 T.f_Lrefused T.fd_Lrefused ["_law_image", "_law_n", "_law_o", "_law_quota"] (sp_Lrefused T.C_Image T.C_Plan) := by
  refine T.F_Lrefused.ok sc_Lrefused (fun vs H Q E h => ?_) (fun cdv A0 outer s H vs Q E hr h => ?_)
  · obtain ⟨_, _, _, _, _, _, _, _, rfl, _⟩ := h; rfl
  · obtain ⟨im, A, v, sl, m, o, qb, ow, rfl, I, ho, how, hlg, hpo, how3, hz, hc, k⟩ := h
    have hr5 : Room 5 _ := hr.mono (by decide)
    refine ⟨_, (pss_cons (L2N.ps_try_as (i := 4) rfl rfl sc_Lrefused.nd rfl rfl ⟨rfl, by decide, .inl T.mg_Refused⟩ takes0N
        (fun W pn xe tk _ => pss_one (ps_if (pt_cmpR op_eq (pv 1) pe_int (nomark _))
          (pss_one (ps_expr (by exact (pe_callS (ok_take_place T) hr rfl T.mg_take_place T.F_take_place.kp (b_take_place T) (fun σ => L2N.passAt tk σ) (by exact (pa_cons (pv 0) (pa_cons (pv 1) (pa_cons (pv 2) pa_nil))))))))
          (pss_one (ps_expr (by exact (pe_callS (ok_take_logged T) hr5 rfl T.mg_take_logged T.F_take_logged.kp (b_take_logged T) (fun σ => L2N.passAt tk σ) (by exact (pa_cons (pv 0) (pa_cons (pv 1) (pa_cons (pv 2) pa_nil))))))))))
        (fun a oe cls d pn hz hf => pss_either
          (pss_only (cls := cls) (d := d) (D := T.C_OverQuota) fun e1 e2 => by
            subst e1
            subst e2
            exact pss_cons (ps_if (pt_val (pv 3))
              (pss_one (ps_ret (pe_and (pe_callB (call_isE T.ec_OverQuota hz.zc hf) rfl T.b_isinstance (by decide +kernel) (pa_cons (pv 4) (pa_cons (pe_glob (v := .ref T.C_OverQuota) rfl T.mg_OverQuota rfl) pa_nil))) (pe_one (pe_not (pe_callB (call_isE T.ec_OverQuota hz.zc hf) rfl T.b_isinstance (by decide +kernel) (pa_cons (pv 4) (pa_cons (pe_glob (v := .ref T.C_BlocksFull) rfl T.mg_BlocksFull rfl) pa_nil))))))))
              pss_nil)
              (pss_one (ps_ret (pe_and (pe_callB (call_isE T.ec_OverQuota hz.zc hf) rfl T.b_isinstance (by decide +kernel) (pa_cons (pv 4) (pa_cons (pe_glob (v := .ref T.C_BlocksFull) rfl T.mg_BlocksFull rfl) pa_nil))) (pe_one (pe_not (pe_callB (call_isE T.ec_OverQuota hz.zc hf) rfl T.b_isinstance (by decide +kernel) (pa_cons (pv 4) (pa_cons (pe_glob (v := .ref T.C_OverQuota) rfl T.mg_OverQuota rfl) pa_nil)))))))))
          (pss_only (cls := cls) (d := d) (D := T.C_BlocksFull) fun e1 e2 => by
            subst e1
            subst e2
            exact pss_cons (ps_if (pt_val (pv 3))
              (pss_one (ps_ret (pe_and (pe_callB (call_isE T.ec_BlocksFull hz.zc hf) rfl T.b_isinstance (by decide +kernel) (pa_cons (pv 4) (pa_cons (pe_glob (v := .ref T.C_OverQuota) rfl T.mg_OverQuota rfl) pa_nil))) (pe_one (pe_not (pe_callB (call_isE T.ec_BlocksFull hz.zc hf) rfl T.b_isinstance (by decide +kernel) (pa_cons (pv 4) (pa_cons (pe_glob (v := .ref T.C_BlocksFull) rfl T.mg_BlocksFull rfl) pa_nil))))))))
              pss_nil)
              (pss_one (ps_ret (pe_and (pe_callB (call_isE T.ec_BlocksFull hz.zc hf) rfl T.b_isinstance (by decide +kernel) (pa_cons (pv 4) (pa_cons (pe_glob (v := .ref T.C_BlocksFull) rfl T.mg_BlocksFull rfl) pa_nil))) (pe_one (pe_not (pe_callB (call_isE T.ec_BlocksFull hz.zc hf) rfl T.b_isinstance (by decide +kernel) (pa_cons (pv 4) (pa_cons (pe_glob (v := .ref T.C_OverQuota) rfl T.mg_OverQuota rfl) pa_nil)))))))))))
      (pss_one (ps_ret pe_bl))), ?_⟩
    refine ⟨_, rfl, rfl, _, rfl, ?_⟩
    rw [dec_iv]
    rcases hc with ⟨rfl, hR⟩ | ⟨rfl, ho2, hR⟩
    · rw [decide_eq_true rfl]
      refine iteT ⟨_, rfl, _, rfl, _, rfl, im, A, v, 24, 5, sl, 2, o, ow, rfl, I, by decide, by decide, ho, hpo, how3, how, hlg, fun e => absurd hz e, fun _ hn => ?_, fun _ hn => ?_⟩
      · rcases hR with ⟨_, hR⟩ | ⟨hn', _⟩
        · refine ⟨?_, ?_, ?_⟩
          · intro hq H' S
            rcases hR with ⟨_, e⟩ | ⟨n, _, _⟩
            · refine ⟨true, exm_sub T.be_Refused T.ie_Refused T.te_Refused T.sub_OverQuota_Refused, fun _ a ha => .inl ⟨rfl, rfl, _, rfl, qb, rfl, ?_⟩, fun q => nomatch q⟩
              rw [e]
              exact iteT ⟨_, rfl, _, _, true, rfl, fun u hu => hu, kit_self, _, rfl, iteT ⟨_, rfl, _, _, false, rfl, fun u hu => hu, kit_sub (ne_cls T) T.ie_BlocksFull T.te_BlocksFull T.sub_OverQuota_BlocksFull, _, rfl, k H' S⟩⟩
            · exact absurd hq n
          · intro hn hl H' S
            rcases hR with ⟨q, _⟩ | ⟨_, _, e⟩
            · exact absurd q hn
            · refine ⟨true, exm_sub T.be_Refused T.ie_Refused T.te_Refused T.sub_BlocksFull_Refused, fun _ a ha => .inr ⟨rfl, rfl, _, rfl, qb, rfl, ?_⟩, fun q => nomatch q⟩
              rw [e]
              exact iteF ⟨_, rfl, _, _, true, rfl, fun u hu => hu, kit_self, _, rfl, iteT ⟨_, rfl, _, _, false, rfl, fun u hu => hu, kit_sub (ne_cls T).symm T.ie_OverQuota T.te_OverQuota T.sub_BlocksFull_OverQuota, _, rfl, k H' S⟩⟩
          · intro hn x hx
            exfalso
            rcases hR with ⟨q, _⟩ | ⟨_, e, _⟩
            · exact hn q
            · exact absurd e (pick_ne hx)
        · rw [hn] at hn'
          cases hn'
      · rcases hR with ⟨hn', _⟩ | ⟨_, hR⟩
        · rw [hn] at hn'
          cases hn'
        · rcases hR with hR | ⟨nq, t, ht, hR⟩
          · refine ⟨?_, ?_, ?_⟩
            · intro hq H' S
              rcases hR with ⟨_, e⟩ | ⟨n, _, _⟩
              · refine ⟨true, exm_sub T.be_Refused T.ie_Refused T.te_Refused T.sub_OverQuota_Refused, fun _ a ha => .inl ⟨rfl, rfl, _, rfl, qb, rfl, ?_⟩, fun q => nomatch q⟩
                rw [e]
                exact iteT ⟨_, rfl, _, _, true, rfl, fun u hu => hu, kit_self, _, rfl, iteT ⟨_, rfl, _, _, false, rfl, fun u hu => hu, kit_sub (ne_cls T) T.ie_BlocksFull T.te_BlocksFull T.sub_OverQuota_BlocksFull, _, rfl, k H' S⟩⟩
              · exact absurd hq n
            · intro hn hl H' S
              rcases hR with ⟨q, _⟩ | ⟨_, _, e⟩
              · exact absurd q hn
              · refine ⟨true, exm_sub T.be_Refused T.ie_Refused T.te_Refused T.sub_BlocksFull_Refused, fun _ a ha => .inr ⟨rfl, rfl, _, rfl, qb, rfl, ?_⟩, fun q => nomatch q⟩
                rw [e]
                exact iteF ⟨_, rfl, _, _, true, rfl, fun u hu => hu, kit_self, _, rfl, iteT ⟨_, rfl, _, _, false, rfl, fun u hu => hu, kit_sub (ne_cls T).symm T.ie_OverQuota T.te_OverQuota T.sub_BlocksFull_OverQuota, _, rfl, k H' S⟩⟩
            · intro hn x hx
              exfalso
              rcases hR with ⟨q, _⟩ | ⟨_, e, _⟩
              · exact hn q
              · exact absurd e (pick_ne hx)
          · refine ⟨fun q => absurd q nq, fun _ l => absurd l (pick_ne ht), fun _ t' ht' => ?_⟩
            have et : t' = t := by
              rw [ht] at ht'
              have := Option.some.inj ht'
              omega
            subst et
            refine ⟨?_, ?_, ?_⟩
            · intro hq H' S
              rcases hR with ⟨_, e⟩ | ⟨n, _, _⟩
              · refine ⟨true, exm_sub T.be_Refused T.ie_Refused T.te_Refused T.sub_OverQuota_Refused, fun _ a ha => .inl ⟨rfl, rfl, _, rfl, qb, rfl, ?_⟩, fun q => nomatch q⟩
                rw [e]
                exact iteT ⟨_, rfl, _, _, true, rfl, fun u hu => hu, kit_self, _, rfl, iteT ⟨_, rfl, _, _, false, rfl, fun u hu => hu, kit_sub (ne_cls T) T.ie_BlocksFull T.te_BlocksFull T.sub_OverQuota_BlocksFull, _, rfl, k H' S⟩⟩
              · exact absurd hq n
            · intro hn hl H' S
              rcases hR with ⟨q, _⟩ | ⟨_, _, e⟩
              · exact absurd q hn
              · refine ⟨true, exm_sub T.be_Refused T.ie_Refused T.te_Refused T.sub_BlocksFull_Refused, fun _ a ha => .inr ⟨rfl, rfl, _, rfl, qb, rfl, ?_⟩, fun q => nomatch q⟩
                rw [e]
                exact iteF ⟨_, rfl, _, _, true, rfl, fun u hu => hu, kit_self, _, rfl, iteT ⟨_, rfl, _, _, false, rfl, fun u hu => hu, kit_sub (ne_cls T).symm T.ie_OverQuota T.te_OverQuota T.sub_BlocksFull_OverQuota, _, rfl, k H' S⟩⟩
            · intro hn x hx
              exfalso
              rcases hR with ⟨q, _⟩ | ⟨_, e, _⟩
              · exact hn q
              · exact absurd e (pick_ne hx)
    · rw [decide_eq_false (by decide)]
      refine iteF ⟨_, rfl, _, rfl, _, rfl, im, A, v, 24, 5, sl, 3, o, ow, rfl, I, by decide, by decide, ho, hpo, fun h2 => absurd ho2 (by omega), how3, how, Nat.lt_trans hlg (by decide), fun e => absurd hz e, ?_, ?_, ?_⟩
      · intro _ hq H' S
        rcases hR with ⟨_, e⟩ | ⟨n, _, _⟩
        · refine ⟨true, exm_sub T.be_Refused T.ie_Refused T.te_Refused T.sub_OverQuota_Refused, fun _ a ha => .inl ⟨rfl, rfl, _, rfl, qb, rfl, ?_⟩, fun q => nomatch q⟩
          rw [e]
          exact iteT ⟨_, rfl, _, _, true, rfl, fun u hu => hu, kit_self, _, rfl, iteT ⟨_, rfl, _, _, false, rfl, fun u hu => hu, kit_sub (ne_cls T) T.ie_BlocksFull T.te_BlocksFull T.sub_OverQuota_BlocksFull, _, rfl, k H' S⟩⟩
        · exact absurd hq n
      · intro _ hn hl H' S
        rcases hR with ⟨q, _⟩ | ⟨_, _, e⟩
        · exact absurd q hn
        · refine ⟨true, exm_sub T.be_Refused T.ie_Refused T.te_Refused T.sub_BlocksFull_Refused, fun _ a ha => .inr ⟨rfl, rfl, _, rfl, qb, rfl, ?_⟩, fun q => nomatch q⟩
          rw [e]
          exact iteF ⟨_, rfl, _, _, true, rfl, fun u hu => hu, kit_self, _, rfl, iteT ⟨_, rfl, _, _, false, rfl, fun u hu => hu, kit_sub (ne_cls T).symm T.ie_OverQuota T.te_OverQuota T.sub_BlocksFull_OverQuota, _, rfl, k H' S⟩⟩
      · intro _ hn x hx
        exfalso
        rcases hR with ⟨q, _⟩ | ⟨_, e, _⟩
        · exact hn q
        · exact absurd e (pick_ne hx)
end
end K07
namespace K07
open PySem PySem.Spec PyProof.Rows L2 Rg
theorem eqG (M : List (List Int)) : PyData.eqv (dG M) (dG M) = true := SeqAt.eqv_refl _ (canG M)
section
variable {P : Program} {w_ : World} {K : PySem.W.Frag} {mg : Str → Option Value} {base : Heap}
def sp_Lunchanged (CI CP : Addr) : Sp := fun vs H Q _ => ∃ (im : Addr) (A : IA) (v : IV) (s m : Int) (o : Nat) (due : Int) (ow : Nat), vs = [.ref im, .int m, .int o, .int due] ∧ ImgAt CI CP H im A v 24 5 s ∧ o < 10 ∧ ow < 4 ∧ (cellAt v.M 0 ow).natAbs.log2 < 1910 ∧ PlcOk 24 5 v.M m ∧ cellAt v.M (nrow 24 m) 3 = ow ∧ plV 24 v.M m o = 0 ∧
  ((m = 2 ∧ Ref2 v o ow (decide (due = -1))) ∨ (m = 3 ∧ o < 2 ∧ Ref1 v ow 1 (decide (due = -1)))) ∧ ∀ H', Same H H' → Q (.bl true) H'
theorem ok_Lunchanged (T : Tx K mg) : FnOk P w_ K mg base CX0 8 T.f_Lunchanged T.fd_Lunchanged ["_law_image", "_law_n", "_law_o", "_law_due_here"] (sp_Lunchanged T.C_Image T.C_Plan) := by
  refine T.F_Lunchanged.ok sc_Lunchanged (fun vs H Q E h => ?_) (fun cdv A0 outer s H vs Q E hr h => ?_)
  · obtain ⟨_, _, _, _, _, _, _, _, rfl, _⟩ := h; rfl
  · obtain ⟨im, A, v, sl, m, o, due, ow, rfl, I, ho, how, hlg, hpo, how3, hz, hc, k⟩ := h
    refine ⟨_, (pss_cons (ps_set (i := 4) sc_Lunchanged.nd rfl (.inl rfl) (pe_lst (pa_cons (pe_lc rfl (own := [("_law_row", 5)]) (g := gName 5) (tt := tYes) sc_Lunchanged.nd (pi_list (pe_fld (pv 0) rfl)) (blkOk_by (N := ["_law_image", "_law_n", "_law_o", "_law_due_here", "_law_kept", "_law_row"]) (sc := defScope s_Lunchanged) (by decide +kernel)) (fun _ _ _ _ _ => pg_name (i := 5) sc_Lunchanged.nd rfl (Or.inl rfl)) (fun _ _ _ _ _ => pts_nil) (fun _ _ _ _ _ => (pe_listof (K := K) (pv 5) T.b_list))) (pa_cons (pe_listof (K := K) (pe_fld (pv 0) rfl) T.b_list) (pa_cons (pe_listof (K := K) (pe_fld (pv 0) rfl) T.b_list) pa_nil)))))
      (pss_cons (ps_if (pt_not (pt_val (pe_call (ok_Lrefused T) hr rfl T.mg_Lrefused T.F_Lrefused.kp (b_Lrefused T) .nil pass0 (pa_cons (pv 0) (pa_cons (pv 1) (pa_cons (pv 2) (pa_cons (pe_cmpR op_eq (pv 3) (pe_un un_neg pe_int) (nomark _)) pa_nil)))))))
        (pss_one (ps_ret pe_bl))
        pss_nil)
      (pss_one (ps_ret (pe_and (pe_cmpR (op_eqD hr.units) (pe_fld (pv 0) rfl) (pe_ix ix_list (pv 4) pe_int (fun _ _ => rfl)) (nomark _)) (pe_and (pe_cmpR (op_eqD hr.units) (pe_fld (pv 0) rfl) (pe_ix ix_list (pv 4) pe_int (fun _ _ => rfl)) (nomark _)) (pe_one (pe_cmpR (op_eqD hr.units) (pe_fld (pv 0) rfl) (pe_ix ix_list (pv 4) pe_int (fun _ _ => rfl)) (nomark _))))))))), ?_⟩
    have d0 := I.d0
    refine ⟨_, rfl, im, _, _, _, _, rfl, I.ob, T.cl_Image, T.na_Image_cells, rfl, A.ca, rfl, ⟨_, .of I.gr.out⟩, fun C hC => ?_⟩
    refine lc_list (K := K) (a := A.ca) (xs := A.rs.map V.ref) (fun i H' => ∃ qs, NewGrid H H' C qs (v.M.take i))
      ⟨[], NewGrid.start (Same.refl _) hC hC⟩ (fun i H' _ ⟨qs, G⟩ => .of (G.same _ _ I.gr.out)) ?_ ?_
    · rintro i y H' hi ⟨qs, G⟩
      have hil : i < A.rs.length := by
        have := (List.getElem?_eq_some_iff.mp hi).1
        rw [List.length_map] at this
        exact this
      rw [List.getElem?_map, List.getElem?_eq_getElem hil] at hi
      have hi : V.ref A.rs[i] = y := Option.some.inj hi
      subst hi
      have hiR : i < v.M.length := by rw [← I.gr.len]; exact hil
      have hrow := G.same _ _ (I.gr.row i A.rs[i] v.M[i] (List.getElem?_eq_getElem hil) (List.getElem?_eq_getElem hiR))
      refine ⟨rfl, ?_⟩
      refine yes_ ?_
      refine ⟨_, rfl, A.rs[i], _, rfl, .inl (.of hrow), fun q hq => ?_⟩
      refine ⟨_, by rw [upd_ne (ne_of_none G.grid.out hq)]; exact G.grid.out, ?_, qs ++ [q], ?_⟩
      · rw [List.length_map, G.grid.len, List.length_take]
        exact small1000 (by omega)
      · rw [List.take_succ, List.getElem?_eq_getElem hiR]
        exact G.snoc (same_upd hq) hq upd_same
    rintro H1 ⟨qs, G1⟩
    rw [List.length_map, I.gr.len, List.take_length] at G1
    have S1 := G1.same
    have I1 := I.keep S1
    refine ⟨_, rfl, im, _, _, _, _, rfl, I1.ob, T.cl_Image, T.na_Image_holdings, rfl, A.ho, _, rfl, .inl (.of I1.ho), fun kh nkh => ?_⟩
    have s2 := same_upd (o := .lst (v.ho.map V.int)) nkh
    have e2 : upd H1 kh (.lst (v.ho.map V.int)) kh = some (.lst (v.ho.map V.int)) := upd_same
    generalize upd H1 kh (.lst (v.ho.map V.int)) = H2 at s2 e2 ⊢
    have I2 := I1.keep s2
    refine ⟨_, rfl, im, _, _, _, _, rfl, I2.ob, T.cl_Image, T.na_Image_stamps, rfl, A.st, _, rfl, .inl (.of I2.st), fun ks nks => ?_⟩
    have s3 := same_upd (o := .lst (v.st.map V.int)) nks
    have e3 : upd H2 ks (.lst (v.st.map V.int)) ks = some (.lst (v.st.map V.int)) := upd_same
    generalize upd H2 ks (.lst (v.st.map V.int)) = H3 at s3 e3 ⊢
    refine ⟨(by show 3 ≤ sizeLine; decide), fun kp nkp => ?_⟩
    have s4 := same_upd (o := .lst [V.ref C, V.ref kh, V.ref ks]) nkp
    have e4 : upd H3 kp (.lst [V.ref C, V.ref kh, V.ref ks]) kp = some (.lst [V.ref C, V.ref kh, V.ref ks]) := upd_same
    generalize upd H3 kp (.lst [V.ref C, V.ref kh, V.ref ks]) = H4 at s4 e4 ⊢
    have I4 := (I2.keep s3).keep s4
    refine ⟨_, rfl, _, rfl, _, rfl, _, rfl, _, rfl, rfl, ?_⟩
    rw [dec_iv]
    refine ⟨im, A, v, sl, m, o, _, ow, rfl, I4, ho, how, hlg, hpo, how3, hz, hc, fun H5 S5 => ⟨_, rfl, iteF ?_⟩⟩
    have I5 := I4.keep S5
    have G5 := ((G1.grid.same s2).same s3).same (s4.trans S5)
    have e25 := S5 _ _ (s4 _ _ (s3 _ _ e2))
    have e35 := S5 _ _ (s4 _ _ e3)
    have e45 := S5 _ _ e4
    refine ⟨_, rfl, im, _, _, _, _, rfl, I5.ob, T.cl_Image, T.na_Image_cells, rfl, _, rfl, kp, _, _, _, rfl, rfl, .of e45, atI_nat (j := 0) rfl, _, _, dpG I5.gr, dpG G5, shG _, shG _, _, rfl, ?_⟩
    rw [eqG]
    refine iteT ⟨_, rfl, im, _, _, _, _, rfl, I5.ob, T.cl_Image, T.na_Image_holdings, rfl, _, rfl, kp, _, _, _, rfl, rfl, .of e45, atI_nat (j := 1) rfl, _, _, dpI I5.ho, dpI e25, shI _, shI _, _, rfl, ?_⟩
    rw [eqI]
    refine iteT ⟨_, rfl, im, _, _, _, _, rfl, I5.ob, T.cl_Image, T.na_Image_stamps, rfl, _, rfl, kp, _, _, _, rfl, rfl, .of e45, atI_nat (j := 2) rfl, _, _, dpI I5.st, dpI e35, shI _, shI _, ?_⟩
    rw [eqI]
    exact k H5 (((((S1.trans s2).trans s3).trans s4).trans S5))
end
end K07
namespace K07
open PySem PySem.Spec PyProof.Rows L2 Rg
/-! ### what is due and what the image gives -/
theorem quota_iff {v : IV} {kd us li : List Int} {i o : Nat} (A : Kds v.M kd us li i) (ho : o < 4) : quota v o ↔ ((li[o]?).getD 0 ≠ 0 ∧ (li[o]?).getD 0 ≤ (us[o]?).getD 0) := by
  unfold quota
  rw [A.lim ho, A.sum ho]
theorem free_eq {M : List (List Int)} {kd us li : List Int} {i : Nat} (A : Kds M kd us li i) : freeL 24 5 M = (rng 10 14).filter fun x => decide ((kd[x.toNat]?).getD 0 = 0) := by
  unfold freeL
  rw [show fdOf 24 5 = 10 by decide, show ((24 : Int) - 10).toNat = 14 by decide]
  refine List.filter_congr fun x hx => ?_
  have := rng_mem hx
  have e : x = ((x.toNat : Nat) : Int) := by omega
  have h := A.kind (x := x.toNat) (by omega)
  rw [← e] at h
  rw [h]
theorem let_eq {M : List (List Int)} {kd us li : List Int} {i : Nat} (A : Kds M kd us li i) {kind : Int} {ba bs : List Int} (hk : kind = 1 ∨ (kind = 2 ∧ bs = ba)) : letL 24 5 M kind ba = letB kd kind bs := by
  unfold letL letB letP
  rw [free_eq A]
  rcases hk with e | ⟨e, eb⟩
  · subst e
    rw [if_neg (by decide)]
    refine List.filter_congr fun x _ => ?_
    rw [decide_eq_true (rfl : (1 : Int) = 1), Bool.true_or, Bool.and_true]
  · subst e eb
    rw [if_pos rfl, List.filter_filter]
    refine List.filter_congr fun x _ => ?_
    rw [decide_eq_false (by decide : ¬ (2 : Int) = 1), Bool.false_or, Bool.and_comm]
theorem due_cases {v : IV} {w : BV} {kd us li : List Int} {i o : Nat} (A : Kds v.M kd us li i) (ek : w.kd = kd) (eu : w.us = us) (el : w.li = li) (ho : o < 4) {kind : Int} {bs : List Int} (hk : kind = 1 ∨ (kind = 2 ∧ bs = v.ba)) :
    (quota v o ∧ dueV w kind o v.wi bs = -1) ∨ (¬ quota v o ∧ letL 24 5 v.M kind v.ba = [] ∧ dueV w kind o v.wi bs = 0) ∨
    (¬ quota v o ∧ ∃ x : Nat, pickL (letL 24 5 v.M kind v.ba) v.wi = some (x : Int) ∧ dueV w kind o v.wi bs = x ∧ 10 ≤ x ∧ x < 24 ∧ (kd[x]?).getD 0 = 0) := by
  unfold dueV
  rw [ek, eu, el]
  by_cases q : quota v o
  · rw [if_pos ((quota_iff A ho).mp q)]
    exact .inl ⟨q, rfl⟩
  · rw [if_neg (fun z => q ((quota_iff A ho).mpr z))]
    right
    unfold firstV
    rw [← let_eq A hk]
    cases e : letL 24 5 v.M kind v.ba with
    | nil => exact .inl ⟨q, rfl, rfl⟩
    | cons a l =>
      right
      have : ∃ y, pickL (a :: l) v.wi = some y := by
        unfold pickL
        cases ((a :: l).filter fun x => decide (v.wi ≤ x)).head? with
        | some z => exact ⟨z, rfl⟩
        | none => exact ⟨a, rfl⟩
      obtain ⟨y, ey⟩ := this
      have hm := pickL_mem ey
      rw [← e] at hm
      have h1 := freeL_mem (letL_mem hm)
      have hf : fdOf 24 5 = 10 := by decide
      rw [hf] at h1
      have e3 : ((24 : Int) - 10).toNat = 14 := by decide
      obtain ⟨yn, en⟩ : ∃ yn : Nat, y = yn := ⟨y.toNat, by omega⟩
      subst en
      refine ⟨q, yn, ey, by rw [ey]; rfl, by omega, by omega, ?_⟩
      rw [← A.kind (by omega)]
      exact h1.2.2
/-! ### a block taken and put, given and struck -/
theorem plL_set {G : Nat → Int} {q : Nat} {x : Int} (h : q < 12) : (plL G).set q x = plL (setG G q x) := by
  have : q = 0 ∨ q = 1 ∨ q = 2 ∨ q = 3 ∨ q = 4 ∨ q = 5 ∨ q = 6 ∨ q = 7 ∨ q = 8 ∨ q = 9 ∨ q = 10 ∨ q = 11 := by omega
  rcases this with e | e | e | e | e | e | e | e | e | e | e | e <;> (subst e; rfl)
theorem plL_12 {G : Nat → Int} {x : Int} : plL (setG G 12 x) = plL G := rfl
def putW (w : BV) (G : Nat → Int) (q : Nat) (x : Int) : BV := if q = 12 then { w with tb := [x] } else { w with pl := w.pl.set q x }
theorem put_rows {M : List (List Int)} {x o r c : Nat} {k d y : Int} (hx2 : x < 24) (hr : 5 ≤ r) (hrx : r ≠ x) : ∀ z, 5 ≤ z → z ≠ x → (setC (tkM M x k o d) r c y)[z]? = (setC M r c y)[z]? := fun z h5 hz => by
  have e := tkh (M := M) (k := k) (o := o) (d := d) hr hx2 hrx
  by_cases h : r = z
  · subst h
    unfold setC
    rw [e]
    by_cases hl : r < M.length
    · rw [List.getElem?_set_self (by rw [tkM_len]; exact hl), List.getElem?_set_self hl]
    · rw [List.getElem?_eq_none (by rw [List.length_set, tkM_len]; omega), List.getElem?_eq_none (by rw [List.length_set]; omega)]
  · rw [setC_row h, setC_row h, tkh h5 hx2 hz]
theorem rowq_lt {M : List (List Int)} {G : Nat → Int} {o1 o2 : Int} (A : Pls M G o1 o2) {q : Nat} (ht : 2 ≤ q → q < 10 → G 12 ≠ 0) : 5 ≤ rowq G q ∧ rowq G q < 24 := by
  unfold rowq
  split
  · exact ⟨by decide, by decide⟩
  · split
    · have p := A.pf 12 (by decide) (ht (by omega) (by omega))
      exact ⟨by omega, by omega⟩
    · exact ⟨by decide, by decide⟩
theorem Ag.fresh {v : IV} {w : BV} {G : Nat → Int} {o1 o2 i : Nat} (A : Ag v w G o1 o2 i) {x : Nat} (hx : 10 ≤ x) (hk : (w.kd[x]?).getD 0 = 0) : ∀ j, j < 13 → G j ≠ (x : Int) := fun j hj e => by
  refine A.pk j hj (by rw [e]; omega) ?_
  rw [e]
  exact hk
theorem Ag.take {v v' : IV} {w : BV} {G : Nat → Int} {o1 o2 i : Nat} (A : Ag v w G o1 o2 i) {x q ow : Nat} {kind : Int} (hx : 10 ≤ x) (hx2 : x < 24) (hkx : (w.kd[x]?).getD 0 = 0) (hq : q < 13) (ht : 2 ≤ q → q < 10 → G 12 ≠ 0) (h12 : q = 12 → ∀ i, 2 ≤ i → i < 10 → G i = 0)
    (how : ow < 4) (hk : kind = 1 ∨ kind = 2) (eM : v'.M = setC (tkM v.M x kind ow 1) (rowq G q) (celq q) x) :
    Ag v' (putW { w with kd := w.kd.set x kind, us := w.us.set ow ((w.us[ow]?).getD 0 + 1) } G q x) (setG G q x) o1 o2 (i + 1) := by
  have nx := A.fresh hx hkx
  have ml := A.k.ml
  have K1 := A.k.tk (k := kind) (d := 1) hx hx2 how (.inl rfl) (by rcases hk with e | e <;> simp [e])
  have P1 := A.p.tk (o := ow) (k := kind) (d := 1) hx hx2 nx
  have rl := rowq_lt A.p ht
  have K2 := K1.put (j := celq q) (x := (x : Int)) rl.1 rl.2
  have P2 := P1.put (x := (x : Int)) hq ht (.inr ⟨by omega, by omega, by rw [show ((x : Nat) : Int).toNat = x by omega]; exact tkx hx (by rw [ml]; exact hx2), nx⟩) h12
  have hkl := A.k.kl
  have pk' : ∀ j, j < 13 → setG G q x j ≠ 0 → ((w.kd.set x kind)[(setG G q x j).toNat]?).getD 0 ≠ 0 := fun j hj e => by
    by_cases z : j = q
    · subst z
      rw [setG_at, show ((x : Nat) : Int).toNat = x by omega, List.getElem?_set_self (by omega)]
      show kind ≠ 0
      rcases hk with e | e <;> (rw [e]; decide)
    · rw [setG_ne z] at e ⊢
      have n := nx j hj
      have p := A.p.pf j hj e
      rw [List.getElem?_set_ne (by omega)]
      exact A.pk j hj e
  unfold putW
  by_cases z : q = 12
  · subst z
    rw [if_pos rfl]
    exact { k := by rw [eM]; exact K2, p := by rw [eM]; exact P2, pl := A.pl, tb := rfl, ow := A.ow, h1 := A.h1, h2 := A.h2, pk := pk' }
  · rw [if_neg z]
    exact { k := by rw [eM]; exact K2, p := by rw [eM]; exact P2, pl := (by show w.pl.set q x = _; rw [A.pl, plL_set (by omega)]), tb := (by show w.tb = [setG G q x 12]; rw [A.tb, setG_ne (fun y => z y.symm)]), ow := A.ow, h1 := A.h1, h2 := A.h2, pk := pk' }
theorem Ag.drop {v v' : IV} {w : BV} {G : Nat → Int} {o1 o2 i : Nat} (A : Ag v w G o1 o2 i) {x q ow : Nat} (hq : q < 13) (eG : G q = (x : Int)) (hx0 : x ≠ 0) (h12 : q = 12 → ∀ i, 2 ≤ i → i < 10 → G i = 0) (how : ow < 4)
    (eM : v'.M = setC (tkM v.M x 0 ow (-1)) (rowq G q) (celq q) 0) :
    Ag v' (putW { w with kd := w.kd.set x 0, us := w.us.set ow ((w.us[ow]?).getD 0 + -1) } G q 0) (setG G q 0) o1 o2 (i + 1) := by
  have pq := A.p.pf q hq (by rw [eG]; omega)
  rw [eG] at pq
  have hx : 10 ≤ x := by omega
  have hx2 : x < 24 := by omega
  have ml := A.k.ml
  have ht : 2 ≤ q → q < 10 → G 12 ≠ 0 := fun a b z => by
    have := A.p.tz z q a b
    rw [eG] at this
    omega
  have rl := rowq_lt A.p ht
  have hrx : rowq G q ≠ x := by
    unfold rowq
    split
    · omega
    · split
      · intro z
        have p := A.p.pf 12 (by decide) (ht (by omega) (by omega))
        have := A.p.nd q 12 hq (by decide) (by rw [eG]; omega) (by rw [eG]; omega)
        omega
      · omega
  have K2 := (A.k.tk (k := 0) (d := -1) hx hx2 how (.inr rfl) (.inl rfl)).put (j := celq q) (x := 0) rl.1 rl.2
  have P1 := A.p.put (x := 0) hq ht (.inl rfl) h12
  have nx : ∀ j, j < 13 → setG G q 0 j ≠ (x : Int) := fun j hj e => by
    by_cases z : j = q
    · subst z
      rw [setG_at] at e
      omega
    · rw [setG_ne z] at e
      exact z (A.p.nd j q hj hq (by rw [e]; omega) (by rw [e, eG]))
  have P2 := P1.keep (put_rows (M := v.M) (o := ow) (k := 0) (d := -1) (c := celq q) (y := 0) hx2 rl.1 hrx) hx nx
  have hkl := A.k.kl
  have pk' : ∀ j, j < 13 → setG G q 0 j ≠ 0 → ((w.kd.set x 0)[(setG G q 0 j).toNat]?).getD 0 ≠ 0 := fun j hj e => by
    have n := nx j hj
    by_cases z : j = q
    · subst z
      rw [setG_at] at e
      exact absurd rfl e
    · rw [setG_ne z] at e n ⊢
      have p := A.p.pf j hj e
      rw [List.getElem?_set_ne (by omega)]
      exact A.pk j hj e
  unfold putW
  by_cases z : q = 12
  · subst z
    rw [if_pos rfl]
    exact { k := by rw [eM]; exact K2, p := by rw [eM]; exact P2, pl := A.pl, tb := rfl, ow := A.ow, h1 := A.h1, h2 := A.h2, pk := pk' }
  · rw [if_neg z]
    exact { k := by rw [eM]; exact K2, p := by rw [eM]; exact P2, pl := (by show w.pl.set q 0 = _; rw [A.pl, plL_set (by omega)]), tb := (by show w.tb = [setG G q 0 12]; rw [A.tb, setG_ne (fun y => z y.symm)]), ow := A.ow, h1 := A.h1, h2 := A.h2, pk := pk' }
/-! ### the places of the program -/
section
variable {v : IV} {G : Nat → Int} {o1 o2 : Int}
theorem put_file {M : List (List Int)} (A : Pls M G o1 o2) {o : Nat} {x : Int} (h : o < 10) : putPl 24 M 2 o x = setC M (rowq G o) (celq o) x := by
  unfold putPl rowq celq
  rw [A.c2, nr2]
  by_cases c : o < 2
  · rw [if_pos c, if_pos (.inl c), if_pos c]
  · rw [if_neg c, if_neg (by omega), if_neg c, if_pos h, if_pos h]
theorem put_fold {M : List (List Int)} {o : Nat} {x : Int} (h : o < 2) : putPl 24 M 3 o x = setC M (rowq G (10 + o)) (celq (10 + o)) x := by
  unfold putPl rowq celq
  rw [nr3, if_pos h, if_neg (by omega), if_neg (by omega), if_neg (by omega), if_neg (by omega), if_pos (by omega), show 10 + o - 6 = 4 + o by omega]
end
theorem Ag.beg {v : IV} {w : BV} {G : Nat → Int} {o1 o2 i : Nat} (A : Ag v w G o1 o2 i) {se wi : Int} {ba : List Int} : Ag { v with se := se, wi := wi, ba := ba } w G o1 o2 i := { A with k := A.k, p := A.p }
theorem Ag.mono {v : IV} {w : BV} {G : Nat → Int} {o1 o2 i j : Nat} (A : Ag v w G o1 o2 i) (h : i ≤ j) : Ag v w G o1 o2 j := { A with k := A.k.mono h }
theorem Ag.log {v : IV} {w : BV} {G : Nat → Int} {o1 o2 i o : Nat} (A : Ag v w G o1 o2 i) (hi : i < 1000) (ho : o < 4) : (cellAt v.M 0 o).natAbs.log2 < 1910 := by
  rw [A.k.sum ho]
  have hou : o < w.us.length := by rw [A.k.u4]; exact ho
  rw [List.getElem?_eq_getElem hou]
  have := A.k.ul _ (List.getElem_mem hou)
  show (w.us[o]).natAbs.log2 < 1910
  by_cases e : (w.us[o]).natAbs = 0
  · rw [e]; decide
  rw [Nat.log2_lt e]
  have h1 : (1000 : Nat) < 2 ^ 10 := by decide
  have h2 : (2 : Nat) ^ 10 ≤ 2 ^ 1910 := Nat.pow_le_pow_right (by decide) (by decide)
  omega
end K07
namespace K07
open PySem PySem.Spec PyProof.Rows L2 Rg
theorem SI.tk {CI CP : Addr} {H H' : Hp} {im : Addr} {A : IA} {v v' : IV} {b n s : Int} {L : List (Addr × HO)} {rs' : List Addr} (S : SI CI CP H im A v b n s L) (R : RsOf H A.rs rs') (I' : ImgAt CI CP H' im { A with rs := rs' } v' b n s) (k : Kp (ft3 A ++ A.rs) H H') : SI CI CP H' im { A with rs := rs' } v' b n s L :=
  S.img I' (k.mono fun x hx => foot_mem hx) fun x hx => by
    simp only [IA.reads, List.mem_cons] at hx ⊢
    rcases hx with e | e | e | e | e | e | e | e
    · simp [e]
    · simp [e]
    · simp [e]
    · simp [e]
    · simp [e]
    · simp [e]
    · simp [e]
    · rcases R x e with f | f
      · simp [f]
      · exact .inr f
section
variable {P : Program} {w_ : World} {K : PySem.W.Frag} {mg : Str → Option Value} {base : Heap}
/-- what a law's step comes to -/
def Nxt (CI CP : Addr) (im : Addr) (s : Int) (B : Bk) (fa : Addr) (fs : List Int) (o1 o2 i : Nat) (Q : VK) : Prop := ∀ (H' : Hp) (A' : IA) (v' : IV) (w' : BV) (G' : Nat → Int), SI CI CP H' im A' v' 24 5 s (bkL B w' fa fs) → Ag v' w' G' o1 o2 i → Q (.bl true) H'
def sp_Ltake_file (CI CP : Addr) : Sp := fun vs H Q _ => ∃ (im : Addr) (A : IA) (v : IV) (s : Int) (B : Bk) (w : BV) (fa : Addr) (fs : List Int) (G : Nat → Int) (o1 o2 i o : Nat) (q : Addr), vs = [.ref im, .ref B.bk, .int o, .int v.wi, .ref q] ∧ SI CI CP H im A v 24 5 s (bkL B w fa fs) ∧ Ag v w G o1 o2 i ∧ o < 10 ∧ i < 900 ∧ H q = some (.lst (v.ba.map V.int)) ∧ q ∉ bkA B fa ∧ Nxt CI CP im s B fa fs o1 o2 (i + 2) Q
theorem ok_Ltake_file (T : Tx K mg) : FnOk P w_ K mg base CX0 9 T.f_Ltake_file T.fd_Ltake_file ["_law_image", "_law_book", "_law_o", "_law_wish", "_law_barred"] (sp_Ltake_file T.C_Image T.C_Plan) := by
  refine T.F_Ltake_file.ok sc_Ltake_file (fun vs H Q E h => ?_) (fun cdv A0 outer s H vs Q E hr h => ?_)
  · obtain ⟨_, _, _, _, _, _, _, _, _, _, _, _, _, _, rfl, _⟩ := h; rfl
  · obtain ⟨im, A, v, sl, B, w, fa, fs, G, o1, o2, ib, o, q, rfl, S, Aq, ho, hib, hq, nq, k⟩ := h
    have hr1 : Room 1 _ := hr.mono (by decide)
    have hr2 : Room 2 _ := hr.mono (by decide)
    have hr6 : Room 6 _ := hr.mono (by decide)
    refine ⟨_, (pss_cons (ps_asg (pv 1) (pg_lst rfl (pgs_cons (pg_name (i := 5) sc_Ltake_file.nd rfl (.inl rfl)) (pgs_cons (pg_name (i := 6) sc_Ltake_file.nd rfl (.inl rfl)) (pgs_cons (pg_name (i := 7) sc_Ltake_file.nd rfl (.inl rfl)) (pgs_cons (pg_name (i := 8) sc_Ltake_file.nd rfl (.inl rfl)) (pgs_cons (pg_name (i := 9) sc_Ltake_file.nd rfl (.inl rfl)) (pgs_cons (pg_name (i := 10) sc_Ltake_file.nd rfl (.inl rfl)) pgs_nil))))))))
      (pss_cons (ps_set (i := 11) sc_Ltake_file.nd rfl (.inl rfl) (pe_ix ix_list (pv 10) pe_int (fun _ _ => rfl)))
      (pss_cons (ps_if (pt_cmpR op_ne (pe_ix ix_list (pv 6) (pv 2) (fun _ _ => rfl)) pe_int (nomark _))
        (pss_one (ps_ret (pe_call (ok_Linteger T) hr1 rfl T.mg_Linteger T.F_Linteger.kp (b_Linteger T) .nil pass0 (pa_cons (pe_call (ok_take_place T) hr6 rfl T.mg_take_place T.F_take_place.kp (b_take_place T) .nil passLN (pa_cons (pv 0) (pa_cons pe_int (pa_cons (pv 2) pa_nil)))) (pa_cons (pe_ix ix_list (pv 6) (pv 2) (fun _ _ => rfl)) pa_nil)))))
        pss_nil)
      (pss_cons (ps_set (i := 12) sc_Ltake_file.nd rfl (.inl rfl) pe_int)
      (Evl.pss_cut (ps_if (PW.pt (pw_and (pt_cmpR op_gt (pv 2) pe_int (nomark _)) (pw_and1 (pt_cmpR op_eq (pe_ix ix_list (pv 7) pe_int (fun _ _ => rfl)) pe_int (nomark _)))))
        (pss_cons (ps_set (i := 12) sc_Ltake_file.nd rfl (.inl rfl) (pe_call (ok_Ldue T) hr2 rfl T.mg_Ldue T.F_Ldue.kp (b_Ldue T) .nil pass0 (pa_cons (pv 1) (pa_cons pe_int (pa_cons (pv 11) (pa_cons (pv 3) (pa_cons (pv 4) pa_nil)))))))
        (pss_cons (ps_if (pt_cmpR op_lt (pv 12) pe_int (nomark _))
          (pss_one (ps_ret (pe_call (ok_Lunchanged T) hr rfl T.mg_Lunchanged T.F_Lunchanged.kp (b_Lunchanged T) .nil pass0 (pa_cons (pv 0) (pa_cons pe_int (pa_cons (pv 2) (pa_cons (pv 12) pa_nil)))))))
          pss_nil)
        (pss_one (ps_expr (pe_call (ok_Lnote T) hr1 rfl T.mg_Lnote T.F_Lnote.kp (b_Lnote T) .nil pass0 (pa_cons (pv 1) (pa_cons (pv 12) (pa_cons pe_int (pa_cons (pv 11) (pa_cons pe_int pa_nil))))))))))
        pss_nil)
      (pss_cons (ps_set (i := 13) sc_Ltake_file.nd rfl (.inl rfl) (pe_call (ok_Ldue T) hr2 rfl T.mg_Ldue T.F_Ldue.kp (b_Ldue T) .nil pass0 (pa_cons (pv 1) (pa_cons pe_int (pa_cons (pv 11) (pa_cons (pv 3) (pa_cons (pv 4) pa_nil)))))))
      (pss_cons (ps_if (pt_cmpR op_lt (pv 13) pe_int (nomark _))
        (pss_cons (ps_if (pt_cmpR op_ne (pv 12) pe_int (nomark _))
          (pss_one (ps_expr (pe_call (ok_Lnote T) hr1 rfl T.mg_Lnote T.F_Lnote.kp (b_Lnote T) .nil pass0 (pa_cons (pv 1) (pa_cons (pv 12) (pa_cons pe_int (pa_cons (pv 11) (pa_cons (pe_un un_neg pe_int) pa_nil))))))))
          pss_nil)
        (pss_one (ps_ret (pe_call (ok_Lunchanged T) hr rfl T.mg_Lunchanged T.F_Lunchanged.kp (b_Lunchanged T) .nil pass0 (pa_cons (pv 0) (pa_cons pe_int (pa_cons (pv 2) (pa_cons (pv 13) pa_nil))))))))
        pss_nil)
      (pss_cons (ps_if (pt_cmpR op_ne (pv 12) pe_int (nomark _))
        (pss_one (ps_asg (pv 12) (pg_sub (pv 7) pe_int set_list)))
        pss_nil)
      (pss_cons (ps_expr (pe_call (ok_Lnote T) hr1 rfl T.mg_Lnote T.F_Lnote.kp (b_Lnote T) .nil pass0 (pa_cons (pv 1) (pa_cons (pv 13) (pa_cons pe_int (pa_cons (pv 11) (pa_cons pe_int pa_nil)))))))
      (pss_cons (ps_asg (pv 13) (pg_sub (pv 6) (pv 2) set_list))
      (pss_cons (ps_if (PW.pt (pw_or (pt_not (pt_val (pe_call (ok_Linteger T) hr1 rfl T.mg_Linteger T.F_Linteger.kp (b_Linteger T) .nil pass0 (pa_cons (pe_call (ok_take_place T) hr6 rfl T.mg_take_place T.F_take_place.kp (b_take_place T) .nil passLN (pa_cons (pv 0) (pa_cons pe_int (pa_cons (pv 2) pa_nil)))) (pa_cons (pv 13) pa_nil))))) (pw_or1 (pt_cmpR op_ne (pe_ix ix_list (pe_fld (pv 0) rfl) (pv 13) (fun _ _ => rfl)) (pe_fld (pv 0) rfl) (nomark _)))))
        (pss_one (ps_ret pe_bl))
        pss_nil)
      (pss_one (ps_ret (pe_or (pe_cmpR op_eq (pv 12) pe_int (nomark _)) (pe_one (pe_cmpR op_eq (pe_ix ix_list (pe_fld (pv 0) rfl) (pv 12) (fun _ _ => rfl)) (pe_fld (pv 0) rfl) (nomark _))))))))))))))))), ?_⟩
    have I := S.I
    have ml := Aq.k.ml
    have hkl := Aq.k.kl
    have u4 := Aq.k.u4
    have l4 := Aq.k.l4
    have d2 := I.d2
    have h14 := Aq.h1
    have hlg := Aq.log (by omega) h14
    have how3 : cellAt v.M (nrow 24 2) 3 = (o1 : Int) := by rw [nr2]; exact cellAt_of Aq.p.r6 rfl
    have gat : ∀ j, j < 10 → (plL G)[j]? = some (G j) := fun j hj => by
      have : j = 0 ∨ j = 1 ∨ j = 2 ∨ j = 3 ∨ j = 4 ∨ j = 5 ∨ j = 6 ∨ j = 7 ∨ j = 8 ∨ j = 9 := by omega
      rcases this with e | e | e | e | e | e | e | e | e | e <;> (subst e; rfl)
    have pat : ∀ j : Nat, j < 10 → atI (w.pl.map V.int) (j : Int) = some (.int (G j)) := fun j hj => atI_nat (by rw [List.getElem?_map, Aq.pl, gat j hj]; rfl)
    have oat : atI (w.ow.map V.int) ((0 : Nat) : Int) = some (.int (o1 : Int)) := atI_nat (by rw [List.getElem?_map, Aq.ow]; rfl)
    have tat : atI (w.tb.map V.int) ((0 : Nat) : Int) = some (.int (G 12)) := atI_nat (by rw [List.getElem?_map, Aq.tb]; rfl)
    have uo : w.us[o1]? = some ((w.us[o1]?).getD 0) := by rw [List.getElem?_eq_getElem (by omega)]; rfl
    refine ⟨_, rfl, B.bk, _, rfl, .of (S.F.get 1 rfl), rfl, _, _, rfl, _, _, rfl, _, _, rfl, _, _, rfl, _, _, rfl, _, _, rfl, rfl, ?_⟩
    refine ⟨_, rfl, B.ow, _, _, _, rfl, rfl, .of (S.F.get 7 rfl), oat, ?_⟩
    refine ⟨_, rfl, _, rfl, B.pl, _, _, _, rfl, rfl, .of (S.F.get 3 rfl), pat o ho, rfl, _, rfl, ?_⟩
    rw [dec_iv]
    by_cases g : G o = 0
    · rw [decide_eq_true g]
      have hz : plV 24 v.M 2 o = 0 := by rw [Aq.p.v2 ho, g]
      refine iteF ?_
      by_cases hn : needsT 24 v 2 o = true
      · have h2o : 2 ≤ o := by
          unfold needsT at hn
          rw [Bool.and_eq_true] at hn
          exact of_decide_eq_true hn.1
        have g12 : G 12 = 0 := by
          unfold needsT at hn
          rw [Bool.and_eq_true, Aq.p.c2] at hn
          exact of_decide_eq_true hn.2
        have tz := Aq.p.tz g12
        refine ⟨fun σ H' => ∃ t : Nat, σ = [some (.ref im), some (.ref B.bk), some (.int (o : Int)), some (.int v.wi), some (.ref q), some (.ref B.kd), some (.ref B.pl), some (.ref B.tb), some (.ref B.us), some (.ref B.li), some (.ref B.ow), some (.int (o1 : Int)), some (.int (t : Int)), none] ∧
          SI T.C_Image T.C_Plan H' im A v 24 5 sl (bkL B { w with kd := w.kd.set t 1, us := w.us.set o1 ((w.us[o1]?).getD 0 + 1) } fa fs) ∧ H' q = some (.lst (v.ba.map V.int)) ∧ ¬ quota v o1 ∧ pickL (letL 24 5 v.M 1 v.ba) v.wi = some (t : Int) ∧ 10 ≤ t ∧ t < 24 ∧ (w.kd[t]?).getD 0 = 0, ?_, ?_⟩
        · refine ⟨_, rfl, _, _, rfl, rfl, _, rfl, ?_⟩
          rw [decide_eq_true (by omega)]
          refine iteT ⟨_, rfl, B.tb, _, _, _, rfl, rfl, .of (S.F.get 4 rfl), tat, rfl, _, rfl, ?_⟩
          rw [dec_iv, decide_eq_true g12]
          refine iteT ⟨_, rfl, _, rfl, _, rfl, _, rfl, B, w, fa, fs, 1, v.wi, o1, q, v.ba, rfl, S.F, hq, hkl, by omega, by omega, fun H1 S1 => ?_⟩
          have X1 := S.same S1
          rcases due_cases (w := w) Aq.k rfl rfl rfl h14 (kind := 1) (bs := v.ba) (.inl rfl) with ⟨hQ, eD⟩ | ⟨nQ, hL, eD⟩ | ⟨nQ, t, hP, eD, hx, hx2, hkx⟩
          · rw [eD]
            refine ⟨_, rfl, _, _, rfl, rfl, _, rfl, iteT ?_⟩
            exact ⟨_, rfl, _, rfl, _, rfl, im, A, v, sl, 2, o, -1, o1, rfl, X1.I, ho, h14, hlg, Aq.p.ok2, how3, hz, .inl ⟨rfl, .inr ⟨hn, .inl (.inl ⟨hQ, rfl⟩)⟩⟩, fun H2 S2 => k H2 A v w G (X1.same S2) (Aq.mono (by omega))⟩
          · rw [eD]
            refine ⟨_, rfl, _, _, rfl, rfl, _, rfl, iteT ?_⟩
            exact ⟨_, rfl, _, rfl, _, rfl, im, A, v, sl, 2, o, 0, o1, rfl, X1.I, ho, h14, hlg, Aq.p.ok2, how3, hz, .inl ⟨rfl, .inr ⟨hn, .inl (.inr ⟨nQ, hL, rfl⟩)⟩⟩, fun H2 S2 => k H2 A v w G (X1.same S2) (Aq.mono (by omega))⟩
          · rw [eD]
            refine ⟨_, rfl, _, _, rfl, rfl, _, rfl, ?_⟩
            rw [decide_eq_false (by omega)]
            refine iteF ⟨_, rfl, _, rfl, _, rfl, im, A, v, 24, 5, sl, B, w, fa, fs, t, o1, 1, 1, _, rfl, X1, by omega, uo, fun H2 X2 k2 => ?_⟩
            exact ⟨t, rfl, X2, k2 _ _ (S1 _ _ hq) nq, nQ, hP, hx, hx2, hkx⟩
        rintro σ H1 ⟨t, rfl, X1, hq1, nQ, hP, ht, ht2, hkt⟩
        -- the image with the table
        have A1 := Aq.take (v' := takT 24 v 2 o1 t) (q := 12) (ow := o1) (kind := 1) ht ht2 hkt (by decide) (fun _ h => absurd h (by decide)) (fun _ => tz) h14 (.inl rfl) (by
          show setC (tkM v.M t 1 o1 1) (nrow 24 2) 6 t = _
          rw [nr2]
          rfl)
        have K1 := A1.k
        have kd1 : (putW { w with kd := w.kd.set t 1, us := w.us.set o1 ((w.us[o1]?).getD 0 + 1) } G 12 (t : Int)).kd = w.kd.set t 1 := rfl
        have us1 : (putW { w with kd := w.kd.set t 1, us := w.us.set o1 ((w.us[o1]?).getD 0 + 1) } G 12 (t : Int)).us = w.us.set o1 ((w.us[o1]?).getD 0 + 1) := rfl
        have li1 : (putW { w with kd := w.kd.set t 1, us := w.us.set o1 ((w.us[o1]?).getD 0 + 1) } G 12 (t : Int)).li = w.li := rfl
        rw [kd1, us1, li1] at K1
        have hkl1 : (w.kd.set t 1).length = 24 := by rw [List.length_set]; exact hkl
        have u41 : (w.us.set o1 ((w.us[o1]?).getD 0 + 1)).length = 4 := by rw [List.length_set]; exact u4
        have uo1 : (w.us.set o1 ((w.us[o1]?).getD 0 + 1))[o1]? = some ((w.us[o1]?).getD 0 + 1) := List.getElem?_set_self (by omega)
        have back : ({ ({ w with kd := w.kd.set t 1, us := w.us.set o1 ((w.us[o1]?).getD 0 + 1) } : BV) with kd := (w.kd.set t 1).set t 0, us := (w.us.set o1 ((w.us[o1]?).getD 0 + 1)).set o1 ((w.us[o1]?).getD 0 + 1 + -1) } : BV) = w := by
          have e1 : (w.kd.set t 1).set t 0 = w.kd := by
            rw [List.set_set]
            apply List.ext_getElem?
            intro j
            by_cases e : t = j
            · subst e
              rw [List.getElem?_set_self (by omega), ← hkt, List.getElem?_eq_getElem (by omega)]
              rfl
            · rw [List.getElem?_set_ne e]
          have e2 : (w.us.set o1 ((w.us[o1]?).getD 0 + 1)).set o1 ((w.us[o1]?).getD 0 + 1 + -1) = w.us := by
            rw [List.set_set]
            apply List.ext_getElem?
            intro j
            by_cases e : o1 = j
            · subst e
              rw [List.getElem?_set_self (by omega), uo]
              show some ((w.us[o1]?).getD 0 + 1 + -1) = some ((some ((w.us[o1]?).getD 0)).getD 0)
              show some ((w.us[o1]?).getD 0 + 1 + -1) = some ((w.us[o1]?).getD 0)
              congr 1
              omega
            · rw [List.getElem?_set_ne e]
          rw [e1, e2]
        have tne : (t : Int) ≠ 0 := by omega
        refine ⟨_, rfl, _, rfl, _, rfl, _, rfl, B, _, fa, fs, 2, v.wi, o1, q, v.ba, rfl, X1.F, hq1, hkl1, by show o1 < (w.us.set o1 _).length; omega, by show o1 < w.li.length; omega, fun H2 S2 => ?_⟩
        have X2 := X1.same S2
        rcases due_cases (v := takT 24 v 2 o1 t) (w := { w with kd := w.kd.set t 1, us := w.us.set o1 ((w.us[o1]?).getD 0 + 1) }) K1 rfl rfl rfl h14 (kind := 2) (bs := v.ba) (.inr ⟨rfl, rfl⟩) with ⟨hQ, eD⟩ | ⟨nQ1, hL, eD⟩ | ⟨nQ1, x, hP1, eD, hx, hx2, hkx⟩
        · change dueV _ 2 o1 v.wi v.ba = -1 at eD
          rw [eD]
          refine ⟨_, rfl, _, _, rfl, rfl, _, rfl, iteT ⟨_, rfl, rfl, _, rfl, ?_⟩⟩
          rw [dec_iv, decide_eq_false tne]
          refine iteT ⟨_, rfl, _, rfl, _, rfl, _, rfl, im, A, v, 24, 5, sl, B, _, fa, fs, t, o1, 0, -1, _, rfl, X2, by show t < (w.kd.set t 1).length; omega, uo1, fun H3 X3 k3 => ?_⟩
          change SI _ _ H3 im A v 24 5 sl (bkL B ({ ({ w with kd := w.kd.set t 1, us := w.us.set o1 ((w.us[o1]?).getD 0 + 1) } : BV) with kd := (w.kd.set t 1).set t 0, us := (w.us.set o1 ((w.us[o1]?).getD 0 + 1)).set o1 ((w.us[o1]?).getD 0 + 1 + -1) } : BV) fa fs) at X3
          rw [back] at X3
          exact ⟨_, rfl, _, rfl, _, rfl, im, A, v, sl, 2, o, -1, o1, rfl, X3.I, ho, h14, hlg, Aq.p.ok2, how3, hz, .inl ⟨rfl, .inr ⟨hn, .inr ⟨nQ, t, hP, .inl ⟨hQ, rfl⟩⟩⟩⟩, fun H4 S4 => k H4 A v w G (X3.same S4) (Aq.mono (by omega))⟩
        · change dueV _ 2 o1 v.wi v.ba = 0 at eD
          rw [eD]
          refine ⟨_, rfl, _, _, rfl, rfl, _, rfl, iteT ⟨_, rfl, rfl, _, rfl, ?_⟩⟩
          rw [dec_iv, decide_eq_false tne]
          refine iteT ⟨_, rfl, _, rfl, _, rfl, _, rfl, im, A, v, 24, 5, sl, B, _, fa, fs, t, o1, 0, -1, _, rfl, X2, by show t < (w.kd.set t 1).length; omega, uo1, fun H3 X3 k3 => ?_⟩
          change SI _ _ H3 im A v 24 5 sl (bkL B ({ ({ w with kd := w.kd.set t 1, us := w.us.set o1 ((w.us[o1]?).getD 0 + 1) } : BV) with kd := (w.kd.set t 1).set t 0, us := (w.us.set o1 ((w.us[o1]?).getD 0 + 1)).set o1 ((w.us[o1]?).getD 0 + 1 + -1) } : BV) fa fs) at X3
          rw [back] at X3
          exact ⟨_, rfl, _, rfl, _, rfl, im, A, v, sl, 2, o, 0, o1, rfl, X3.I, ho, h14, hlg, Aq.p.ok2, how3, hz, .inl ⟨rfl, .inr ⟨hn, .inr ⟨nQ, t, hP, .inr ⟨nQ1, hL, rfl⟩⟩⟩⟩, fun H4 S4 => k H4 A v w G (X3.same S4) (Aq.mono (by omega))⟩
        · change dueV _ 2 o1 v.wi v.ba = x at eD
          rw [eD]
          have htx : t ≠ x := fun e => by
            subst e
            rw [List.getElem?_set_self (by omega)] at hkx
            cases hkx
          refine ⟨_, rfl, _, _, rfl, rfl, _, rfl, ?_⟩
          rw [decide_eq_false (by omega)]
          refine iteF ⟨_, rfl, rfl, _, rfl, ?_⟩
          rw [dec_iv, decide_eq_false tne]
          refine iteT ⟨_, rfl, _, rfl, B.tb, _, _, 0, rfl, rfl, X2.F.get 4 rfl, ixN_nat rfl (by rw [List.length_map]; show 0 < w.tb.length; rw [Aq.tb]; exact Nat.zero_lt_one), ?_⟩
          have X3 := X2.put 4 (o' := .lst ((w.tb.map V.int).set 0 (V.int t))) rfl
          rw [← List.map_set] at X3 ⊢
          generalize upd H2 B.tb (.lst ((w.tb.set 0 (t : Int)).map V.int)) = H3 at X3 ⊢
          have etb : w.tb.set 0 (t : Int) = [(t : Int)] := by rw [Aq.tb]; rfl
          change SI _ _ H3 im A v 24 5 sl (bkL B { w with kd := w.kd.set t 1, us := w.us.set o1 ((w.us[o1]?).getD 0 + 1), tb := w.tb.set 0 (t : Int) } fa fs) at X3
          rw [etb] at X3
          refine ⟨_, rfl, _, rfl, _, rfl, im, A, v, 24, 5, sl, B, _, fa, fs, x, o1, 2, 1, _, rfl, X3, by show x < (w.kd.set t 1).length; omega, uo1, fun H4 X4 k4 => ?_⟩
          refine ⟨_, rfl, _, rfl, _, rfl, B.pl, _, _, o, rfl, rfl, X4.F.get 3 rfl, ixN_nat rfl (by rw [List.length_map]; show o < w.pl.length; rw [Aq.pl]; show o < 12; omega), ?_⟩
          have X5 := X4.put 3 (o' := .lst ((w.pl.map V.int).set o (V.int x))) rfl
          rw [← List.map_set] at X5 ⊢
          generalize upd H4 B.pl (.lst ((w.pl.set o (x : Int)).map V.int)) = H5 at X5 ⊢
          change SI _ _ H5 im A v 24 5 sl (bkL B { w with kd := (w.kd.set t 1).set x 2, us := (w.us.set o1 ((w.us[o1]?).getD 0 + 1)).set o1 ((w.us[o1]?).getD 0 + 1 + 1), tb := [(t : Int)], pl := w.pl.set o (x : Int) } fa fs) at X5
          refine ⟨_, rfl, _, rfl, im, A, v, 24, 5, sl, 2, o, o1, rfl, X5.I, by decide, by decide, ho, Aq.p.ok2, how3, h14, hlg, fun e => absurd hz e, fun _ z => absurd hn (by rw [z]; decide), fun _ _ => ⟨fun z => absurd z nQ, fun _ z => absurd z (pick_ne hP), fun _ t' ht' => ?_⟩⟩
          have ett : t' = t := by
            rw [hP] at ht'
            have := Option.some.inj ht'
            omega
          subst ett
          refine ⟨fun z => absurd z nQ1, fun _ z => absurd z (pick_ne hP1), fun _ x' hx' H6 rs' R I6 k6 => ?_⟩
          have exx : x' = x := by
            change pickL (letL 24 5 (takT 24 v 2 o1 t').M 2 v.ba) v.wi = some (x : Int) at hP1
            rw [hP1] at hx'
            have := Option.some.inj hx'
            omega
          subst exx
          have X6 := X5.tk R I6 k6
          have hox : ((v.ho.set t' v.se).set x' v.se)[x']? = some v.se := List.getElem?_set_self (by rw [List.length_set]; omega)
          have hot : ((v.ho.set t' v.se).set x' v.se)[t']? = some v.se := by
            rw [List.getElem?_set_ne (fun z => htx z.symm)]
            exact List.getElem?_set_self (by omega)
          refine ⟨_, rfl, _, _, rfl, ?_⟩
          rw [decide_eq_true rfl]
          refine ⟨_, rfl, iteF ?_⟩
          refine ⟨_, rfl, im, _, _, _, _, rfl, X6.I.ob, T.cl_Image, T.na_Image_holdings, rfl, _, rfl, A.ho, _, _, _, rfl, rfl, .of X6.I.ho, atI_nat (j := x') (v := V.int v.se) (by show (((v.ho.set t' v.se).set x' v.se).map V.int)[x']? = _; rw [List.getElem?_map, hox]; rfl), _, rfl, im, _, _, _, _, rfl, X6.I.ob, T.cl_Image, T.na_Image_serial, rfl, rfl, _, rfl, ?_⟩
          rw [dec_iv, decide_eq_true (show v.se = (takP 24 (takT 24 v 2 o1 t') 2 o o1 2 x').se from rfl)]
          refine iteF ⟨_, rfl, rfl, _, rfl, ?_⟩
          rw [dec_iv, decide_eq_false tne]
          refine iteF ⟨_, rfl, im, _, _, _, _, rfl, X6.I.ob, T.cl_Image, T.na_Image_holdings, rfl, _, rfl, A.ho, _, _, _, rfl, rfl, .of X6.I.ho, atI_nat (j := t') (v := V.int v.se) (by show (((v.ho.set t' v.se).set x' v.se).map V.int)[t']? = _; rw [List.getElem?_map, hot]; rfl), _, rfl, im, _, _, _, _, rfl, X6.I.ob, T.cl_Image, T.na_Image_serial, rfl, rfl, ?_⟩
          rw [dec_iv, decide_eq_true (show v.se = (takP 24 (takT 24 v 2 o1 t') 2 o o1 2 x').se from rfl)]
          have kd1x : ((w.kd.set t' 1)[x']?).getD 0 = 0 := hkx
          have eM : (takP 24 (takT 24 v 2 o1 t') 2 o o1 2 x').M = setC (tkM (takT 24 v 2 o1 t').M x' 2 o1 1) (rowq (setG G 12 (t' : Int)) o) (celq o) (x' : Int) := by
            show putPl 24 (tkM (takT 24 v 2 o1 t').M x' 2 o1 1) 2 o x' = _
            exact put_file (A1.p.tk hx hx2 (A1.fresh hx kd1x)) ho
          have A2 := A1.take (v' := takP 24 (takT 24 v 2 o1 t') 2 o o1 2 x') (q := o) (ow := o1) (kind := 2) hx hx2 kd1x (by omega) (fun _ _ e => by
            rw [setG_at] at e
            omega) (fun e => by omega) h14 (.inr rfl) eM
          unfold putW at A2
          rw [if_neg (by omega), if_pos rfl] at A2
          have e2 : ((w.us.set o1 ((w.us[o1]?).getD 0 + 1))[o1]?).getD 0 = (w.us[o1]?).getD 0 + 1 := by rw [uo1]; rfl
          change Ag _ { w with kd := (w.kd.set t' 1).set x' 2, us := (w.us.set o1 ((w.us[o1]?).getD 0 + 1)).set o1 (((w.us.set o1 ((w.us[o1]?).getD 0 + 1))[o1]?).getD 0 + 1), tb := [(t' : Int)], pl := w.pl.set o (x' : Int) } _ _ _ _ at A2
          rw [e2] at A2
          exact k H6 _ _ _ _ X6 A2
      · have hnf : needsT 24 v 2 o = false := by simpa using hn
        refine ⟨fun σ H' => σ = [some (.ref im), some (.ref B.bk), some (.int (o : Int)), some (.int v.wi), some (.ref q), some (.ref B.kd), some (.ref B.pl), some (.ref B.tb), some (.ref B.us), some (.ref B.li), some (.ref B.ow), some (.int (o1 : Int)), some (.int 0), none] ∧ H' = H, ?_, ?_⟩
        · refine ⟨_, rfl, _, _, rfl, rfl, _, rfl, ?_⟩
          by_cases h1 : (o : Int) > 1
          · rw [decide_eq_true h1]
            refine iteT ⟨_, rfl, B.tb, _, _, _, rfl, rfl, .of (S.F.get 4 rfl), tat, rfl, _, rfl, ?_⟩
            rw [dec_iv]
            have : G 12 ≠ 0 := fun e => by
              unfold needsT at hnf
              rw [Aq.p.c2, decide_eq_true (show 2 ≤ o by omega), decide_eq_true e] at hnf
              cases hnf
            rw [decide_eq_false this]
            exact iteF ⟨rfl, rfl⟩
          · rw [decide_eq_false h1]
            exact iteF ⟨rfl, rfl⟩
        rintro σ H0 ⟨rfl, rfl⟩
        refine ⟨_, rfl, _, rfl, _, rfl, _, rfl, B, w, fa, fs, 2, v.wi, o1, q, v.ba, rfl, S.F, hq, hkl, by omega, by omega, fun H1 S1 => ?_⟩
        have X1 := S.same S1
        rcases due_cases (w := w) Aq.k rfl rfl rfl h14 (kind := 2) (bs := v.ba) (.inr ⟨rfl, rfl⟩) with ⟨hQ, eD⟩ | ⟨nQ, hL, eD⟩ | ⟨nQ, x, hP, eD, hx, hx2, hkx⟩
        · rw [eD]
          refine ⟨_, rfl, _, _, rfl, rfl, _, rfl, iteT ⟨_, rfl, rfl, _, rfl, iteF ?_⟩⟩
          exact ⟨_, rfl, _, rfl, _, rfl, im, A, v, sl, 2, o, -1, o1, rfl, X1.I, ho, h14, hlg, Aq.p.ok2, how3, hz, .inl ⟨rfl, .inl ⟨hnf, .inl ⟨hQ, rfl⟩⟩⟩, fun H2 S2 => k H2 A v w G (X1.same S2) (Aq.mono (by omega))⟩
        · rw [eD]
          refine ⟨_, rfl, _, _, rfl, rfl, _, rfl, iteT ⟨_, rfl, rfl, _, rfl, iteF ?_⟩⟩
          exact ⟨_, rfl, _, rfl, _, rfl, im, A, v, sl, 2, o, 0, o1, rfl, X1.I, ho, h14, hlg, Aq.p.ok2, how3, hz, .inl ⟨rfl, .inl ⟨hnf, .inr ⟨nQ, hL, rfl⟩⟩⟩, fun H2 S2 => k H2 A v w G (X1.same S2) (Aq.mono (by omega))⟩
        · rw [eD]
          refine ⟨_, rfl, _, _, rfl, rfl, _, rfl, ?_⟩
          rw [decide_eq_false (by omega)]
          refine iteF ⟨_, rfl, rfl, _, rfl, iteF ?_⟩
          refine ⟨_, rfl, _, rfl, _, rfl, im, A, v, 24, 5, sl, B, w, fa, fs, x, o1, 2, 1, _, rfl, X1, by omega, uo, fun H2 X2 k2 => ?_⟩
          refine ⟨_, rfl, _, rfl, _, rfl, B.pl, _, _, o, rfl, rfl, X2.F.get 3 rfl, ixN_nat rfl (by rw [List.length_map]; show o < w.pl.length; rw [Aq.pl]; show o < 12; omega), ?_⟩
          have X3 := X2.put 3 (o' := .lst ((w.pl.map V.int).set o (V.int x))) rfl
          rw [← List.map_set] at X3 ⊢
          generalize upd H2 B.pl (.lst ((w.pl.set o (x : Int)).map V.int)) = H3 at X3 ⊢
          change SI _ _ H3 im A v 24 5 sl (bkL B { { w with kd := w.kd.set x 2, us := w.us.set o1 ((w.us[o1]?).getD 0 + 1) } with pl := w.pl.set o (x : Int) } fa fs) at X3
          refine ⟨_, rfl, _, rfl, im, A, v, 24, 5, sl, 2, o, o1, rfl, X3.I, by decide, by decide, ho, Aq.p.ok2, how3, h14, hlg, fun e => absurd hz e, fun _ _ => ⟨fun z => absurd z nQ, fun _ z => absurd z (pick_ne hP), fun _ x' hx' H4 rs' R I4 k4 => ?_⟩, fun _ z => absurd z hn⟩
          have exx : x' = x := by
            rw [hP] at hx'
            have := Option.some.inj hx'
            omega
          subst exx
          have X4 := X3.tk R I4 k4
          have hox : (v.ho.set x' v.se)[x']? = some v.se := List.getElem?_set_self (by omega)
          refine ⟨_, rfl, _, _, rfl, ?_⟩
          rw [decide_eq_true rfl]
          refine ⟨_, rfl, iteF ?_⟩
          refine ⟨_, rfl, im, _, _, _, _, rfl, X4.I.ob, T.cl_Image, T.na_Image_holdings, rfl, _, rfl, A.ho, _, _, _, rfl, rfl, .of X4.I.ho, atI_nat (j := x') (v := V.int v.se) (by show ((v.ho.set x' v.se).map V.int)[x']? = _; rw [List.getElem?_map, hox]; rfl), _, rfl, im, _, _, _, _, rfl, X4.I.ob, T.cl_Image, T.na_Image_serial, rfl, rfl, _, rfl, ?_⟩
          rw [dec_iv, decide_eq_true (show v.se = (takP 24 v 2 o o1 2 x').se from rfl)]
          refine iteF ⟨_, rfl, rfl, _, rfl, iteT ?_⟩
          have eM : (takP 24 v 2 o o1 2 x').M = setC (tkM v.M x' 2 o1 1) (rowq G o) (celq o) (x' : Int) := by
            show putPl 24 (tkM v.M x' 2 o1 1) 2 o x' = _
            exact put_file (Aq.p.tk hx hx2 (Aq.fresh hx hkx)) ho
          have A2 := Aq.take (v' := takP 24 v 2 o o1 2 x') (q := o) (ow := o1) (kind := 2) hx hx2 hkx (by omega) (fun h2 h10 e => by
            unfold needsT at hnf
            rw [Aq.p.c2, decide_eq_true h2, decide_eq_true e] at hnf
            cases hnf) (fun e => by omega) h14 (.inr rfl) eM
          unfold putW at A2
          rw [if_neg (by omega)] at A2
          exact k H4 _ _ _ _ X4 (A2.mono (by omega))
    · rw [decide_eq_false g]
      refine iteT ⟨_, rfl, _, rfl, im, A, v, 24, 5, sl, 2, o, o1, rfl, I, by decide, by decide, ho, Aq.p.ok2, how3, h14, hlg, fun _ H1 S1 => ?_, fun e => absurd (by rw [← Aq.p.v2 ho]; exact e) g, fun e => absurd (by rw [← Aq.p.v2 ho]; exact e) g⟩
      have X1 := S.same S1
      refine ⟨_, rfl, _, rfl, B.pl, _, _, _, rfl, rfl, .of (X1.F.get 3 rfl), pat o ho, _, _, rfl, ?_⟩
      rw [Aq.p.v2 ho, decide_eq_true rfl]
      exact k H1 A v w G X1 (Aq.mono (by omega))
end
end K07
namespace K07
open PySem PySem.Spec PyProof.Rows L2 Rg
section
variable {P : Program} {w_ : World} {K : PySem.W.Frag} {mg : Str → Option Value} {base : Heap}
def sp_Ltake_folder (CI CP : Addr) : Sp := fun vs H Q _ => ∃ (im : Addr) (A : IA) (v : IV) (s : Int) (B : Bk) (w : BV) (fa : Addr) (fs : List Int) (G : Nat → Int) (o1 o2 i o : Nat), vs = [.ref im, .ref B.bk, .int o, .int v.wi] ∧ SI CI CP H im A v 24 5 s (bkL B w fa fs) ∧ Ag v w G o1 o2 i ∧ o < 2 ∧ i < 900 ∧ Nxt CI CP im s B fa fs o1 o2 (i + 2) Q
theorem ok_Ltake_folder (T : Tx K mg) : FnOk P w_ K mg base CX0 9 T.f_Ltake_folder T.fd_Ltake_folder ["_law_image", "_law_book", "_law_o", "_law_wish"] (sp_Ltake_folder T.C_Image T.C_Plan) := by
  refine T.F_Ltake_folder.ok sc_Ltake_folder (fun vs H Q E h => ?_) (fun cdv A0 outer s H vs Q E hr h => ?_)
  · obtain ⟨_, _, _, _, _, _, _, _, _, _, _, _, _, rfl, _⟩ := h; rfl
  · obtain ⟨im, A, v, sl, B, w, fa, fs, G, o1, o2, ib, o, rfl, S, Aq, ho, hib, k⟩ := h
    have hr1 : Room 1 _ := hr.mono (by decide)
    have hr2 : Room 2 _ := hr.mono (by decide)
    have hr5 : Room 5 _ := hr.mono (by decide)
    refine ⟨_, (pss_cons (ps_asg (pv 1) (pg_lst rfl (pgs_cons (pg_name (i := 4) sc_Ltake_folder.nd rfl (.inl rfl)) (pgs_cons (pg_name (i := 5) sc_Ltake_folder.nd rfl (.inl rfl)) (pgs_cons (pg_name (i := 6) sc_Ltake_folder.nd rfl (.inl rfl)) (pgs_cons (pg_name (i := 7) sc_Ltake_folder.nd rfl (.inl rfl)) (pgs_cons (pg_name (i := 8) sc_Ltake_folder.nd rfl (.inl rfl)) (pgs_cons (pg_name (i := 9) sc_Ltake_folder.nd rfl (.inl rfl)) pgs_nil))))))))
      (pss_cons (ps_set (i := 10) sc_Ltake_folder.nd rfl (.inl rfl) (pe_ix ix_list (pv 9) pe_int (fun _ _ => rfl)))
      (pss_cons (ps_if (pt_cmpR op_ne (pe_ix ix_list (pv 5) (pe_op op_add pe_int (pv 2)) (fun _ _ => rfl)) pe_int (nomark _))
        (pss_one (ps_ret (pe_call (ok_Linteger T) hr1 rfl T.mg_Linteger T.F_Linteger.kp (b_Linteger T) .nil pass0 (pa_cons (pe_call (ok_take_logged T) hr5 rfl T.mg_take_logged T.F_take_logged.kp (b_take_logged T) .nil passLN (pa_cons (pv 0) (pa_cons pe_int (pa_cons (pv 2) pa_nil)))) (pa_cons (pe_ix ix_list (pv 5) (pe_op op_add pe_int (pv 2)) (fun _ _ => rfl)) pa_nil)))))
        pss_nil)
      (pss_cons (ps_set (i := 11) sc_Ltake_folder.nd rfl (.inl rfl) (pe_call (ok_Ldue T) hr2 rfl T.mg_Ldue T.F_Ldue.kp (b_Ldue T) .nil pass0 (pa_cons (pv 1) (pa_cons pe_int (pa_cons (pv 10) (pa_cons (pv 3) (pa_cons (pe_lst pa_nil) pa_nil)))))))
      (pss_cons (ps_if (pt_cmpR op_lt (pv 11) pe_int (nomark _))
        (pss_one (ps_ret (pe_call (ok_Lunchanged T) hr rfl T.mg_Lunchanged T.F_Lunchanged.kp (b_Lunchanged T) .nil pass0 (pa_cons (pv 0) (pa_cons pe_int (pa_cons (pv 2) (pa_cons (pv 11) pa_nil)))))))
        pss_nil)
      (pss_cons (ps_expr (pe_call (ok_Lnote T) hr1 rfl T.mg_Lnote T.F_Lnote.kp (b_Lnote T) .nil pass0 (pa_cons (pv 1) (pa_cons (pv 11) (pa_cons pe_int (pa_cons (pv 10) (pa_cons pe_int pa_nil)))))))
      (pss_cons (ps_asg (pv 11) (pg_sub (pv 5) (pe_op op_add pe_int (pv 2)) set_list))
      (pss_one (ps_ret (pe_and (pe_call (ok_Linteger T) hr1 rfl T.mg_Linteger T.F_Linteger.kp (b_Linteger T) .nil pass0 (pa_cons (pe_call (ok_take_logged T) hr5 rfl T.mg_take_logged T.F_take_logged.kp (b_take_logged T) .nil passLN (pa_cons (pv 0) (pa_cons pe_int (pa_cons (pv 2) pa_nil)))) (pa_cons (pv 11) pa_nil))) (pe_one (pe_cmpR op_eq (pe_ix ix_list (pe_fld (pv 0) rfl) (pv 11) (fun _ _ => rfl)) (pe_fld (pv 0) rfl) (nomark _))))))))))))), ?_⟩
    have I := S.I
    have ml := Aq.k.ml
    have hkl := Aq.k.kl
    have u4 := Aq.k.u4
    have l4 := Aq.k.l4
    have d2 := I.d2
    have h24 := Aq.h2
    have hlg := Aq.log (by omega) h24
    have hlg' : (cellAt v.M 0 o2).natAbs.log2 < 1920 := Nat.lt_trans hlg (by decide)
    have how3 : cellAt v.M (nrow 24 3) 3 = (o2 : Int) := by rw [nr3]; exact cellAt_of Aq.p.r7 rfl
    have ep : w.pl[10 + o]? = some (G (10 + o)) := by
      rw [Aq.pl]
      have : o = 0 ∨ o = 1 := by omega
      rcases this with e | e <;> (subst e; rfl)
    have pat : atI (w.pl.map V.int) ((10 : Int) + (o : Int)) = some (.int (G (10 + o))) := at_of (j := 10 + o) (by omega) (by rw [List.getElem?_map, ep]; rfl)
    have oat : atI (w.ow.map V.int) ((1 : Nat) : Int) = some (.int (o2 : Int)) := atI_nat (by rw [List.getElem?_map, Aq.ow]; rfl)
    have uo : w.us[o2]? = some ((w.us[o2]?).getD 0) := by rw [List.getElem?_eq_getElem (by omega)]; rfl
    refine ⟨_, rfl, B.bk, _, rfl, .of (S.F.get 1 rfl), rfl, _, _, rfl, _, _, rfl, _, _, rfl, _, _, rfl, _, _, rfl, _, _, rfl, rfl, ?_⟩
    refine ⟨_, rfl, B.ow, _, _, _, rfl, rfl, .of (S.F.get 7 rfl), oat, ?_⟩
    refine ⟨_, rfl, _, rfl, _, _, rfl, rfl, B.pl, _, _, _, rfl, rfl, .of (S.F.get 3 rfl), pat, rfl, _, rfl, ?_⟩
    rw [dec_iv]
    by_cases g : G (10 + o) = 0
    · rw [decide_eq_true g]
      have hz : plV 24 v.M 3 o = 0 := by rw [Aq.p.v3 ho, g]
      refine iteF ⟨_, rfl, _, rfl, _, rfl, Nat.zero_le _, fun q nq => ?_⟩
      have sq := same_upd (o := .lst []) nq
      have X0 := S.same sq
      refine ⟨B, w, fa, fs, 1, v.wi, o2, q, [], rfl, X0.F, upd_same, hkl, by omega, by omega, fun H1 S1 => ?_⟩
      have X1 := X0.same S1
      rcases due_cases (w := w) Aq.k rfl rfl rfl h24 (kind := 1) (bs := []) (.inl rfl) with ⟨hQ, eD⟩ | ⟨nQ, hL, eD⟩ | ⟨nQ, x, hP, eD, hx, hx2, hkx⟩
      · rw [eD]
        refine ⟨_, rfl, _, _, rfl, rfl, _, rfl, iteT ?_⟩
        exact ⟨_, rfl, _, rfl, _, rfl, im, A, v, sl, 3, o, -1, o2, rfl, X1.I, by omega, h24, hlg, Aq.p.ok3, how3, hz, .inr ⟨rfl, ho, .inl ⟨hQ, rfl⟩⟩, fun H2 S2 => k H2 A v w G (X1.same S2) (Aq.mono (by omega))⟩
      · rw [eD]
        refine ⟨_, rfl, _, _, rfl, rfl, _, rfl, iteT ?_⟩
        exact ⟨_, rfl, _, rfl, _, rfl, im, A, v, sl, 3, o, 0, o2, rfl, X1.I, by omega, h24, hlg, Aq.p.ok3, how3, hz, .inr ⟨rfl, ho, .inr ⟨nQ, hL, rfl⟩⟩, fun H2 S2 => k H2 A v w G (X1.same S2) (Aq.mono (by omega))⟩
      · rw [eD]
        refine ⟨_, rfl, _, _, rfl, rfl, _, rfl, ?_⟩
        rw [decide_eq_false (by omega)]
        refine iteF ⟨_, rfl, _, rfl, _, rfl, im, A, v, 24, 5, sl, B, w, fa, fs, x, o2, 1, 1, _, rfl, X1, by omega, uo, fun H2 X2 k2 => ?_⟩
        refine ⟨_, rfl, _, rfl, _, rfl, _, _, rfl, rfl, B.pl, _, _, 10 + o, rfl, rfl, X2.F.get 3 rfl, ixN_nat (by omega) (by rw [List.length_map]; show 10 + o < w.pl.length; rw [Aq.pl]; show 10 + o < 12; omega), ?_⟩
        have X3 := X2.put 3 (o' := .lst ((w.pl.map V.int).set (10 + o) (V.int x))) rfl
        rw [← List.map_set] at X3 ⊢
        generalize upd H2 B.pl (.lst ((w.pl.set (10 + o) (x : Int)).map V.int)) = H3 at X3 ⊢
        change SI _ _ H3 im A v 24 5 sl (bkL B { w with kd := w.kd.set x 1, us := w.us.set o2 ((w.us[o2]?).getD 0 + 1), pl := w.pl.set (10 + o) (x : Int) } fa fs) at X3
        refine ⟨_, rfl, _, rfl, im, A, v, 24, 5, sl, 3, o, o2, rfl, X3.I, by decide, by decide, by omega, Aq.p.ok3, fun h2 => absurd ho (by omega), how3, h24, hlg', fun e => absurd hz e, fun _ z => absurd z nQ, fun _ _ z => absurd z (pick_ne hP), fun _ _ x' hx' H4 rs' R I4 k4 => ?_⟩
        have exx : x' = x := by
          rw [hP] at hx'
          have := Option.some.inj hx'
          omega
        subst exx
        have X4 := X3.tk R I4 k4
        have hox : (v.ho.set x' v.se)[x']? = some v.se := List.getElem?_set_self (by omega)
        refine ⟨_, rfl, _, _, rfl, ?_⟩
        rw [decide_eq_true rfl]
        refine ⟨_, rfl, iteT ?_⟩
        refine ⟨_, rfl, im, _, _, _, _, rfl, X4.I.ob, T.cl_Image, T.na_Image_holdings, rfl, _, rfl, A.ho, _, _, _, rfl, rfl, .of X4.I.ho, atI_nat (j := x') (v := V.int v.se) (by show ((v.ho.set x' v.se).map V.int)[x']? = _; rw [List.getElem?_map, hox]; rfl), _, rfl, im, _, _, _, _, rfl, X4.I.ob, T.cl_Image, T.na_Image_serial, rfl, rfl, ?_⟩
        rw [dec_iv, decide_eq_true (show v.se = (takP 24 v 3 o o2 1 x').se from rfl)]
        have eM : (takP 24 v 3 o o2 1 x').M = setC (tkM v.M x' 1 o2 1) (rowq G (10 + o)) (celq (10 + o)) (x' : Int) := by
          show putPl 24 (tkM v.M x' 1 o2 1) 3 o x' = _
          exact put_fold ho
        have A2 := Aq.take (v' := takP 24 v 3 o o2 1 x') (q := 10 + o) (ow := o2) (kind := 1) hx hx2 hkx (by omega) (fun _ h10 => absurd h10 (by omega)) (fun e => by omega) h24 (.inl rfl) eM
        unfold putW at A2
        rw [if_neg (by omega)] at A2
        exact k H4 _ _ _ _ X4 (A2.mono (by omega))
    · rw [decide_eq_false g]
      refine iteT ⟨_, rfl, _, rfl, im, A, v, 24, 5, sl, 3, o, o2, rfl, I, by decide, by decide, by omega, Aq.p.ok3, fun h2 => absurd ho (by omega), how3, h24, hlg', fun _ H1 S1 => ?_, fun e => absurd (by rw [← Aq.p.v3 ho]; exact e) g, fun e => absurd (by rw [← Aq.p.v3 ho]; exact e) g, fun e => absurd (by rw [← Aq.p.v3 ho]; exact e) g⟩
      have X1 := S.same S1
      refine ⟨_, rfl, _, rfl, _, _, rfl, rfl, B.pl, _, _, _, rfl, rfl, .of (X1.F.get 3 rfl), pat, _, _, rfl, ?_⟩
      rw [Aq.p.v3 ho, decide_eq_true rfl]
      exact k H1 A v w G X1 (Aq.mono (by omega))
end
end K07
namespace K07
open PySem PySem.Spec PyProof.Rows L2 Rg
theorem tabR_any {G : Nat → Int} : ((tabR G).any fun x => x != 0) = false ↔ tabR G = [0, 0, 0, 0, 0, 0, 0, 0] := by
  unfold tabR
  simp only [List.any_cons, List.any_nil, Bool.or_false, Bool.or_eq_false_iff, bne_eq_false_iff_eq, List.cons.injEq, and_true]
section
variable {P : Program} {w_ : World} {K : PySem.W.Frag} {mg : Str → Option Value} {base : Heap}
def sp_Ldrop (CI CP : Addr) : Sp := fun vs H Q _ => ∃ (im : Addr) (A : IA) (v : IV) (s : Int) (B : Bk) (w : BV) (fa : Addr) (fs : List Int) (G : Nat → Int) (o1 o2 i : Nat) (m : Int) (o at_ ow : Nat), vs = [.ref im, .ref B.bk, .int m, .int o] ∧ SI CI CP H im A v 24 5 s (bkL B w fa fs) ∧ Ag v w G o1 o2 i ∧ ((m = 2 ∧ at_ = o ∧ o < 10 ∧ ow = o1) ∨ (m = 3 ∧ at_ = 10 + o ∧ o < 2 ∧ ow = o2)) ∧ i < 900 ∧ Nxt CI CP im s B fa fs o1 o2 (i + 2) Q
theorem ok_Ldrop (T : Tx K mg) : FnOk P w_ K mg base CX0 6 T.f_Ldrop T.fd_Ldrop ["_law_image", "_law_book", "_law_n", "_law_o"] (sp_Ldrop T.C_Image T.C_Plan) := by
  refine T.F_Ldrop.ok sc_Ldrop (fun vs H Q E h => ?_) (fun cdv A0 outer s H vs Q E hr h => ?_)
  · obtain ⟨_, _, _, _, _, _, _, _, _, _, _, _, _, _, _, _, rfl, _⟩ := h; rfl
  · obtain ⟨im, A, v, sl, B, w, fa, fs, G, o1, o2, ib, m, o, at_, ow, rfl, S, Aq, hm, hib, k⟩ := h
    have hr1 : Room 1 _ := hr.mono (by decide)
    have hr5 : Room 5 _ := hr.mono (by decide)
    refine ⟨_, (pss_cons (ps_asg (pv 1) (pg_lst rfl (pgs_cons (pg_name (i := 4) sc_Ldrop.nd rfl (.inl rfl)) (pgs_cons (pg_name (i := 5) sc_Ldrop.nd rfl (.inl rfl)) (pgs_cons (pg_name (i := 6) sc_Ldrop.nd rfl (.inl rfl)) (pgs_cons (pg_name (i := 7) sc_Ldrop.nd rfl (.inl rfl)) (pgs_cons (pg_name (i := 8) sc_Ldrop.nd rfl (.inl rfl)) (pgs_cons (pg_name (i := 9) sc_Ldrop.nd rfl (.inl rfl)) pgs_nil))))))))
      (pss_cons (ps_set (i := 10) sc_Ldrop.nd rfl (.inl rfl) (pv 3))
      (Evl.pss_cut (ps_if (pt_cmpR op_eq (pv 2) pe_int (nomark _))
        (pss_one (ps_set (i := 10) sc_Ldrop.nd rfl (.inl rfl) (pe_op op_add pe_int (pv 3))))
        pss_nil)
      (pss_cons (ps_set (i := 11) sc_Ldrop.nd rfl (.inl rfl) (pe_ix ix_list (pv 9) (pe_op op_sub (pv 2) pe_int) (fun _ _ => rfl)))
      (Evl.pss_cut (ps_if (pt_cmpR op_ne (pe_ix ix_list (pv 5) (pv 10) (fun _ _ => rfl)) pe_int (nomark _))
        (pss_cons (ps_expr (pe_call (ok_Lnote T) hr1 rfl T.mg_Lnote T.F_Lnote.kp (b_Lnote T) .nil pass0 (pa_cons (pv 1) (pa_cons (pe_ix ix_list (pv 5) (pv 10) (fun _ _ => rfl)) (pa_cons pe_int (pa_cons (pv 11) (pa_cons (pe_un un_neg pe_int) pa_nil)))))))
        (pss_cons (ps_asg pe_int (pg_sub (pv 5) (pv 10) set_list))
        (pss_one (ps_if (PW.pt (pw_and (pt_cmpR op_eq (pv 2) pe_int (nomark _)) (pw_and (pt_cmpR op_ne (pe_ix ix_list (pv 6) pe_int (fun _ _ => rfl)) pe_int (nomark _)) (pw_and1 (pt_cmpR (op_eqD hr.units) (pe_slice sl_list (pv 5) (po_some pe_int) (po_some pe_int)) (pe_lst (pa_cons pe_int (pa_cons pe_int (pa_cons pe_int (pa_cons pe_int (pa_cons pe_int (pa_cons pe_int (pa_cons pe_int (pa_cons pe_int pa_nil))))))))) (nomark _))))))
          (pss_cons (ps_expr (pe_call (ok_Lnote T) hr1 rfl T.mg_Lnote T.F_Lnote.kp (b_Lnote T) .nil pass0 (pa_cons (pv 1) (pa_cons (pe_ix ix_list (pv 6) pe_int (fun _ _ => rfl)) (pa_cons pe_int (pa_cons (pv 11) (pa_cons (pe_un un_neg pe_int) pa_nil)))))))
          (pss_one (ps_asg pe_int (pg_sub (pv 6) pe_int set_list))))
          pss_nil))))
        pss_nil)
      (pss_one (ps_ret (pe_cmpR op_isN (pe_call (ok_drop_place T) hr5 rfl T.mg_drop_place T.F_drop_place.kp (b_drop_place T) .nil pass0 (pa_cons (pv 0) (pa_cons (pv 2) (pa_cons (pv 3) pa_nil)))) pe_non (nomark _))))))))), ?_⟩
    have I := S.I
    have ml := Aq.k.ml
    have hkl := Aq.k.kl
    have u4 := Aq.k.u4
    have how : ow < 4 := by rcases hm with ⟨_, _, _, e⟩ | ⟨_, _, _, e⟩ <;> rw [e]; exact Aq.h1; exact Aq.h2
    have hat : at_ < 12 := by rcases hm with ⟨_, e, h, _⟩ | ⟨_, e, h, _⟩ <;> omega
    have ho10 : o < 10 := by rcases hm with ⟨_, e, h, _⟩ | ⟨_, e, h, _⟩ <;> omega
    have hm1 : 1 ≤ m ∧ m ≤ 5 := by rcases hm with ⟨e, _⟩ | ⟨e, _⟩ <;> (subst e; decide)
    have how3 : cellAt v.M (nrow 24 m) 3 = (ow : Int) := by
      rcases hm with ⟨e, _, _, e2⟩ | ⟨e, _, _, e2⟩
      · subst e e2; rw [nr2]; exact cellAt_of Aq.p.r6 rfl
      · subst e e2; rw [nr3]; exact cellAt_of Aq.p.r7 rfl
    have hok : PlcOk 24 5 v.M m := by
      rcases hm with ⟨e, _⟩ | ⟨e, _⟩
      · subst e; exact Aq.p.ok2
      · subst e; exact Aq.p.ok3
    have hpv : plV 24 v.M m o = G at_ := by
      rcases hm with ⟨e, e1, h, _⟩ | ⟨e, e1, h, _⟩
      · subst e e1; exact Aq.p.v2 h
      · subst e e1; exact Aq.p.v3 h
    have hfd : fdOf 24 5 = 10 := by decide
    have hpo : PlOk 24 5 v.M m o := by
      unfold PlOk
      rw [hpv, hfd]
      by_cases g : G at_ = 0
      · exact .inl g
      · exact .inr (Aq.p.pf at_ (by omega) g)
    have ep : w.pl[at_]? = some (G at_) := by
      rw [Aq.pl]
      have : at_ = 0 ∨ at_ = 1 ∨ at_ = 2 ∨ at_ = 3 ∨ at_ = 4 ∨ at_ = 5 ∨ at_ = 6 ∨ at_ = 7 ∨ at_ = 8 ∨ at_ = 9 ∨ at_ = 10 ∨ at_ = 11 := by omega
      rcases this with e | e | e | e | e | e | e | e | e | e | e | e <;> (subst e; rfl)
    have pat : atI (w.pl.map V.int) (at_ : Int) = some (.int (G at_)) := atI_nat (by rw [List.getElem?_map, ep]; rfl)
    have tat : atI (w.tb.map V.int) ((0 : Nat) : Int) = some (.int (G 12)) := atI_nat (by rw [List.getElem?_map, Aq.tb]; rfl)
    have uo : w.us[ow]? = some ((w.us[ow]?).getD 0) := by rw [List.getElem?_eq_getElem (by omega)]; rfl
    have oat : atI (w.ow.map V.int) (m - 2) = some (.int (ow : Int)) := by
      rw [Aq.ow]
      rcases hm with ⟨e, _, _, e2⟩ | ⟨e, _, _, e2⟩
      · subst e e2; exact atI_nat (j := 0) rfl
      · subst e e2; exact atI_nat (j := 1) rfl
    refine ⟨_, rfl, B.bk, _, rfl, .of (S.F.get 1 rfl), rfl, _, _, rfl, _, _, rfl, _, _, rfl, _, _, rfl, _, _, rfl, _, _, rfl, rfl, ?_⟩
    refine ⟨_, rfl, ?_⟩
    refine ⟨fun σ H' => σ = [some (.ref im), some (.ref B.bk), some (.int m), some (.int (o : Int)), some (.ref B.kd), some (.ref B.pl), some (.ref B.tb), some (.ref B.us), some (.ref B.li), some (.ref B.ow), some (.int (at_ : Int)), none] ∧ H' = H, ?_, ?_⟩
    · refine ⟨_, rfl, rfl, _, rfl, ?_⟩
      rw [dec_iv]
      rcases hm with ⟨e, e1, h, _⟩ | ⟨e, e1, h, _⟩
      · subst e e1
        rw [decide_eq_false (by decide)]
        exact iteF ⟨rfl, rfl⟩
      · subst e e1
        rw [decide_eq_true rfl]
        exact iteT ⟨_, rfl, _, _, rfl, rfl, by show _ = [_, _, _, _, _, _, _, _, _, _, some (V.int (((10 + o : Nat)) : Int)), _]; rw [show (((10 + o : Nat)) : Int) = 10 + (o : Int) by omega]; rfl, rfl⟩
    rintro σ H0 ⟨rfl, rfl⟩
    refine ⟨_, rfl, _, rfl, _, _, rfl, rfl, B.ow, _, _, _, rfl, rfl, .of (S.F.get 7 rfl), oat, ?_⟩
    -- what the drop leaves, and the book behind it
    refine ⟨fun σ H' => ∃ (w' : BV) (G' : Nat → Int), σ = [some (.ref im), some (.ref B.bk), some (.int m), some (.int (o : Int)), some (.ref B.kd), some (.ref B.pl), some (.ref B.tb), some (.ref B.us), some (.ref B.li), some (.ref B.ow), some (.int (at_ : Int)), some (.int (ow : Int))] ∧ SI T.C_Image T.C_Plan H' im A v 24 5 sl (bkL B w' fa fs) ∧ Ag (dropP 24 v m o ow) w' G' o1 o2 (ib + 2), ?_, ?_⟩
    · refine ⟨_, rfl, _, rfl, B.pl, _, _, _, rfl, rfl, .of (S.F.get 3 rfl), pat, rfl, _, rfl, ?_⟩
      rw [dec_iv]
      by_cases g : G at_ = 0
      · rw [decide_eq_true g]
        refine iteF ⟨w, G, rfl, S, ?_⟩
        unfold dropP
        rw [hpv, if_pos g]
        exact Aq.mono (by omega)
      · rw [decide_eq_false g]
        have pg := Aq.p.pf at_ (by omega) g
        obtain ⟨x, ex⟩ : ∃ x : Nat, G at_ = x := ⟨(G at_).toNat, by omega⟩
        have hdp : dropP 24 v m o ow = dropB 24 { giveV v x ow with M := putPl 24 (giveV v x ow).M m o 0 } m ow := by
          unfold dropP
          rw [hpv, if_neg g, ex, show ((x : Nat) : Int).toNat = x by omega]
        -- the place given back
        have eMp : putPl 24 (giveV v x ow).M m o 0 = setC (tkM v.M x 0 ow (-1)) (rowq G at_) (celq at_) 0 := by
          rcases hm with ⟨e, e1, h, _⟩ | ⟨e, e1, h, _⟩
          · subst e e1
            unfold putPl rowq celq
            have c2 : plc 24 (giveV v x ow).M 2 = G 12 := by
              unfold plc
              rw [nr2]
              exact cellAt_of (by rw [giveV_tk, tkh (by decide) (by omega) (by omega)]; exact Aq.p.r6) rfl
            rw [c2, nr2]
            by_cases c : at_ < 2
            · rw [if_pos c, if_pos (.inl c), if_pos c]; rfl
            · rw [if_neg c, if_neg (by omega), if_neg c, if_pos h, if_pos h]; rfl
          · subst e e1
            exact put_fold h
        have A1 := Aq.drop (v' := { giveV v x ow with M := putPl 24 (giveV v x ow).M m o 0 }) (q := at_) (x := x) (ow := ow) (by omega) ex (by omega) (fun e => by omega) how eMp
        unfold putW at A1
        rw [if_neg (by omega)] at A1
        have u41 : (w.us.set ow ((w.us[ow]?).getD 0 + -1)).length = 4 := by rw [List.length_set]; exact u4
        refine iteT ⟨_, rfl, _, rfl, _, rfl, B.pl, _, _, _, rfl, rfl, .of (S.F.get 3 rfl), pat, _, rfl, _, rfl, im, A, v, 24, 5, sl, B, w, fa, fs, x, ow, 0, -1, _, by rw [ex]; rfl, S, by omega, uo, fun H1 X1 k1 => ?_⟩
        refine ⟨_, rfl, _, rfl, B.pl, _, _, at_, rfl, rfl, X1.F.get 3 rfl, ixN_nat rfl (by rw [List.length_map]; show at_ < w.pl.length; rw [Aq.pl]; exact hat), ?_⟩
        have X2 := X1.put 3 (o' := .lst ((w.pl.map V.int).set at_ (V.int 0))) rfl
        rw [← List.map_set] at X2 ⊢
        generalize upd H1 B.pl (.lst ((w.pl.set at_ 0).map V.int)) = H2 at X2 ⊢
        change SI _ _ H2 im A v 24 5 sl (bkL B { w with kd := w.kd.set x 0, us := w.us.set ow ((w.us[ow]?).getD 0 + -1), pl := w.pl.set at_ 0 } fa fs) at X2
        change Ag _ { w with kd := w.kd.set x 0, us := w.us.set ow ((w.us[ow]?).getD 0 + -1), pl := w.pl.set at_ 0 } (setG G at_ 0) o1 o2 (ib + 1) at A1
        have g12 : setG G at_ 0 12 = G 12 := setG_ne (by omega)
        rcases hm with ⟨e, e1, h, e2⟩ | ⟨e, e1, h, e2⟩
        · subst e
          -- the file
          have c2 : plc 24 (putPl 24 (giveV v x ow).M 2 o 0) 2 = G 12 := by rw [← g12]; exact A1.p.c2
          refine ⟨_, rfl, rfl, _, rfl, ?_⟩
          rw [dec_iv, decide_eq_true rfl]
          refine iteT ⟨_, rfl, B.tb, _, _, _, rfl, rfl, .of (X2.F.get 4 rfl), tat, rfl, _, rfl, ?_⟩
          rw [dec_iv]
          by_cases gt : G 12 = 0
          · rw [decide_eq_true gt]
            refine iteF ⟨_, setG G at_ 0, rfl, X2, ?_⟩
            rw [hdp]
            unfold dropB
            simp only [c2]
            rw [if_pos (.inl gt)]
            exact A1.mono (by omega)
          · rw [decide_eq_false gt]
            have pt := Aq.p.pf 12 (by decide) gt
            obtain ⟨t, et⟩ : ∃ t : Nat, G 12 = t := ⟨(G 12).toNat, by omega⟩
            have htt : ((t : Nat) : Int).toNat = t := by omega
            have rt : (putPl 24 (giveV v x ow).M 2 o 0)[t]? = some (tabR (setG G at_ 0)) := by
              have := A1.p.rt (by rw [g12]; exact gt)
              rw [g12, et, htt] at this
              exact this
            have epl : w.pl.set at_ 0 = plL (setG G at_ 0) := A1.pl
            refine iteT ⟨_, rfl, _, rfl, _, rfl, B.pl, _, rfl, .of (X2.F.get 3 rfl), fun qs nqs => ?_⟩
            have s3 := same_upd (o := .lst (cutV ((w.pl.set at_ 0).map V.int) (some 2) (some 10))) nqs
            have eqs : upd H2 qs (.lst (cutV ((w.pl.set at_ 0).map V.int) (some 2) (some 10))) qs = some (.lst ((tabR (setG G at_ 0)).map V.int)) := by rw [upd_same, epl]; rfl
            refine ⟨(by show 8 ≤ sizeLine; decide), fun qz nqz => ?_⟩
            have s4 := same_upd (o := .lst [V.int 0, V.int 0, V.int 0, V.int 0, V.int 0, V.int 0, V.int 0, V.int 0]) nqz
            have ez : upd (upd H2 qs (.lst (cutV ((w.pl.set at_ 0).map V.int) (some 2) (some 10)))) qz (.lst [V.int 0, V.int 0, V.int 0, V.int 0, V.int 0, V.int 0, V.int 0, V.int 0]) qz = some (.lst (([0, 0, 0, 0, 0, 0, 0, 0] : List Int).map V.int)) := upd_same
            have eqs4 := s4 _ _ eqs
            have X3 := (X2.same s3).same s4
            generalize upd (upd H2 qs (.lst (cutV ((w.pl.set at_ 0).map V.int) (some 2) (some 10)))) qz (.lst [V.int 0, V.int 0, V.int 0, V.int 0, V.int 0, V.int 0, V.int 0, V.int 0]) = H3 at ez eqs4 X3 ⊢
            refine ⟨_, _, dpI eqs4, dpI ez, shI _, shI _, _, rfl, ?_⟩
            rw [eqvI]
            by_cases hz : tabR (setG G at_ 0) = [0, 0, 0, 0, 0, 0, 0, 0]
            · rw [decide_eq_true hz]
              have uo1 : (w.us.set ow ((w.us[ow]?).getD 0 + -1))[ow]? = some ((w.us[ow]?).getD 0 + -1) := List.getElem?_set_self (by omega)
              refine iteT ⟨_, rfl, _, rfl, B.tb, _, _, _, rfl, rfl, .of (X3.F.get 4 rfl), tat, _, rfl, _, rfl, im, A, v, 24, 5, sl, B, _, fa, fs, t, ow, 0, -1, _, by rw [et]; rfl, X3, by show t < (w.kd.set x 0).length; rw [List.length_set]; omega, uo1, fun H4 X4 k4 => ?_⟩
              refine ⟨_, rfl, B.tb, _, _, 0, rfl, rfl, X4.F.get 4 rfl, ixN_nat rfl (by rw [List.length_map]; show 0 < w.tb.length; rw [Aq.tb]; exact Nat.zero_lt_one), ?_⟩
              have X5 := X4.put 4 (o' := .lst ((w.tb.map V.int).set 0 (V.int 0))) rfl
              rw [← List.map_set] at X5 ⊢
              generalize upd H4 B.tb (.lst ((w.tb.set 0 (0 : Int)).map V.int)) = H5 at X5 ⊢
              change SI _ _ H5 im A v 24 5 sl (bkL B { w with kd := (w.kd.set x 0).set t 0, us := (w.us.set ow ((w.us[ow]?).getD 0 + -1)).set ow ((w.us[ow]?).getD 0 + -1 + -1), pl := w.pl.set at_ 0, tb := w.tb.set 0 (0 : Int) } fa fs) at X5
              have etb : w.tb.set 0 (0 : Int) = [0] := by rw [Aq.tb]; rfl
              rw [etb] at X5
              have hall : ∀ i, 2 ≤ i → i < 10 → setG G at_ 0 i = 0 := fun i h2 h10 => by
                have hzz := hz
                unfold tabR at hzz
                simp only [List.cons.injEq, and_true] at hzz
                have : i = 2 ∨ i = 3 ∨ i = 4 ∨ i = 5 ∨ i = 6 ∨ i = 7 ∨ i = 8 ∨ i = 9 := by omega
                rcases this with q | q | q | q | q | q | q | q <;> (subst q; simp only [hzz])
              have A2 := A1.drop (v' := { giveV { giveV v x ow with M := putPl 24 (giveV v x ow).M 2 o 0 } t ow with M := setC (giveV { giveV v x ow with M := putPl 24 (giveV v x ow).M 2 o 0 } t ow).M (nrow 24 2) 6 0 }) (q := 12) (x := t) (ow := ow) (by decide) (by rw [g12]; exact et) (by omega) (fun _ => hall) how (by rw [nr2]; rfl)
              unfold putW at A2
              rw [if_pos rfl] at A2
              have e5 : ((w.us.set ow ((w.us[ow]?).getD 0 + -1))[ow]?).getD 0 = (w.us[ow]?).getD 0 + -1 := by rw [uo1]; rfl
              change Ag _ { w with kd := (w.kd.set x 0).set t 0, us := (w.us.set ow ((w.us[ow]?).getD 0 + -1)).set ow (((w.us.set ow ((w.us[ow]?).getD 0 + -1))[ow]?).getD 0 + -1), pl := w.pl.set at_ 0, tb := [0] } _ _ _ _ at A2
              rw [e5] at A2
              refine ⟨_, setG (setG G at_ 0) 12 0, rfl, X5, ?_⟩
              rw [hdp]
              unfold dropB
              simp only [c2, et, htt, rt]
              rw [if_neg (by
                rintro (z | z)
                · omega
                · rw [show (Option.some (tabR (setG G at_ 0))).getD [] = tabR (setG G at_ 0) from rfl, tabR_any.mpr hz] at z
                  cases z)]
              exact A2
            · rw [decide_eq_false hz]
              refine iteF ⟨_, setG G at_ 0, rfl, X3, ?_⟩
              rw [hdp]
              unfold dropB
              simp only [c2, et, htt, rt]
              rw [if_pos (.inr (by
                cases q : (tabR (setG G at_ 0)).any fun x => x != 0 with
                | true => exact q
                | false => exact absurd (tabR_any.mp q) hz))]
              exact A1.mono (by omega)
        · subst e
          refine ⟨_, rfl, rfl, _, rfl, ?_⟩
          rw [dec_iv, decide_eq_false (by decide)]
          refine iteF ⟨_, setG G at_ 0, rfl, X2, ?_⟩
          have c3 : plc 24 (putPl 24 (giveV v x ow).M 3 o 0) 3 = 0 := A1.p.c3
          rw [hdp]
          unfold dropB
          simp only [c3]
          rw [if_pos (.inl trivial)]
          exact A1.mono (by omega)
    rintro σ H1 ⟨w', G', rfl, X1, A1⟩
    refine ⟨_, rfl, _, rfl, _, rfl, im, A, v, 24, 5, sl, m, o, ow, rfl, X1.I, hm1.1, hm1.2, ho10, hok, hpo, how3, how, fun H2 rs' R I2 k2 => ?_⟩
    exact ⟨rfl, k H2 _ _ w' G' (X1.tk R I2 k2) A1⟩
end
end K07
namespace K07
open PySem PySem.Spec PyProof.Rows L2 Rg
/-- the book with other values -/
theorem bk_same {B : Bk} {w w' : BV} {fa : Addr} {fs fs' : List Int} {p : Addr × HO} (h : p ∈ bkL B w' fa fs') : ∃ o, (p.1, o) ∈ bkL B w fa fs := by
  have : p.1 ∈ (bkL B w' fa fs').map (·.1) := List.mem_map.mpr ⟨p, h, rfl⟩
  rw [bkA_eq, ← bkA_eq (w := w) (fs := fs)] at this
  obtain ⟨q, hq, e⟩ := List.mem_map.mp this
  exact ⟨q.2, by rw [← e]; exact hq⟩
/-- the image changed at its own places, its new parts apart from the others -/
theorem SI.imgN {CI CP : Addr} {H H' : Hp} {im : Addr} {A A' : IA} {v v' : IV} {b n s : Int} {L : List (Addr × HO)} (S : SI CI CP H im A v b n s L) (I' : ImgAt CI CP H' im A' v' b n s) {F : List Addr} (k : Kp F H H') (hF : ∀ x ∈ F, x ∈ A.reads im) (hr : ∀ x ∈ A'.reads im, x ∈ A.reads im ∨ ∀ p ∈ L, p.1 ≠ x) : SI CI CP H' im A' v' b n s L :=
  ⟨I', S.F.keep fun p hp o e => k _ _ e fun z => S.ap p hp (hF _ z), fun p hp z => by
    rcases hr _ z with e | e
    · exact S.ap p hp e
    · exact e p hp rfl⟩
theorem SI.feed {CI CP : Addr} {H : Hp} {im : Addr} {A : IA} {v : IV} {b n s : Int} {B : Bk} {w : BV} {fa : Addr} {fs : List Int} (S : SI CI CP H im A v b n s (bkL B w fa fs)) (fs' : List Int) : SI CI CP (upd H fa (.lst (fs'.map V.int))) im A v b n s (bkL B w fa fs') := S.put 0 rfl
theorem Pls.low {M : List (List Int)} {G : Nat → Int} {o1 o2 : Int} (A : Pls M G o1 o2) {j : Nat} {x : Int} : Pls (setC M 0 j x) G o1 o2 :=
  A.keep (x := 24) (fun y hy _ => setC_row (by omega)) (by decide) fun i hi z => by
    have := A.pf i hi (by omega)
    omega
theorem Ag.limit {v : IV} {w : BV} {G : Nat → Int} {o1 o2 i o : Nat} {l : Int} (A : Ag v w G o1 o2 i) (ho : o < 4) : Ag { v with M := setC v.M 0 (4 + o) l } { w with li := w.li.set o l } G o1 o2 i := { A with k := A.k.limit ho, p := A.p.low }
section
variable {P : Program} {w_ : World} {K : PySem.W.Frag} {mg : Str → Option Value} {base : Heap}
def sp_Lstep (CI CP : Addr) : Sp := fun vs H Q _ => ∃ (im : Addr) (A : IA) (v : IV) (s : Int) (B : Bk) (w : BV) (fa : Addr) (fs : List Int) (G : Nat → Int) (o1 o2 i : Nat), vs = [.ref im, .ref B.bk, .ref fa] ∧ SI CI CP H im A v 24 5 s (bkL B w fa fs) ∧ Ag v w G o1 o2 i ∧ i < 900 ∧
  ∀ (H' : Hp) (A' : IA) (v' : IV) (w' : BV) (G' : Nat → Int) (fs' : List Int), SI CI CP H' im A' v' 24 5 s (bkL B w' fa fs') → Ag v' w' G' o1 o2 (i + 2) → Q (.bl true) H'
theorem ok_Lstep (T : Tx K mg) : FnOk P w_ K mg base CX0 10 T.f_Lstep T.fd_Lstep ["_law_image", "_law_book", "_law_feed_here"] (sp_Lstep T.C_Image T.C_Plan) := by
  refine T.F_Lstep.ok sc_Lstep (fun vs H Q E h => ?_) (fun cdv A0 outer s H vs Q E hr h => ?_)
  · obtain ⟨_, _, _, _, _, _, _, _, _, _, _, _, rfl, _⟩ := h; rfl
  · obtain ⟨im, A, v, sl, B, w, fa, fs, G, o1, o2, ib, rfl, S, Aq, hib, k⟩ := h
    have hr1 : Room 1 _ := hr.mono (by decide)
    have hr6 : Room 6 _ := hr.mono (by decide)
    have hr9 : Room 9 _ := hr.mono (by decide)
    refine ⟨_, (pss_cons (ps_set (i := 3) sc_Lstep.nd rfl (.inl rfl) (pe_call (ok_Lpick T) hr1 rfl T.mg_Lpick T.F_Lpick.kp (b_Lpick T) .nil pass0 (pa_cons (pv 2) (pa_cons pe_int pa_nil))))
      (pss_cons (ps_set (i := 4) sc_Lstep.nd rfl (.inl rfl) (pe_call (ok_Lpick T) hr1 rfl T.mg_Lpick T.F_Lpick.kp (b_Lpick T) .nil pass0 (pa_cons (pv 2) (pa_cons pe_int pa_nil))))
      (pss_cons (ps_set (i := 5) sc_Lstep.nd rfl (.inl rfl) (pe_call (ok_Lpick T) hr1 rfl T.mg_Lpick T.F_Lpick.kp (b_Lpick T) .nil pass0 (pa_cons (pv 2) (pa_cons pe_int pa_nil))))
      (pss_cons (ps_setLc (i := 6) (own := [("_law_k", 7)]) (g := gName 7) (tt := tYes) rfl sc_Lstep.nd rfl rfl (sw_true rfl rfl rfl (by decide +kernel)) (pi_range1 rfl T.b_range (pa_cons (pe_call (ok_Lpick T) hr1 rfl T.mg_Lpick T.F_Lpick.kp (b_Lpick T) .nil pass0 (pa_cons (pv 2) (pa_cons pe_int pa_nil))) pa_nil)) (blkOk_by (N := ["_law_image", "_law_book", "_law_feed_here", "_law_choice", "_law_o", "_law_wish", "_law_barred", "_law_k", "_law_owner", "_law_limits", "_law_row"]) (sc := defScope s_Lstep) (by decide +kernel)) (fun _ _ _ _ _ => pg_name (i := 7) sc_Lstep.nd rfl (Or.inl rfl)) (fun _ _ _ _ _ => pts_nil) (fun _ _ _ _ _ => (pe_op op_add pe_int (pe_call (ok_Lpick T) hr1 rfl T.mg_Lpick T.F_Lpick.kp (b_Lpick T) .nil pass0 (pa_cons (pv 2) (pa_cons pe_int pa_nil))))))
      (pss_cons (ps_expr (pe_meth (pv 0) T.cl_Image T.m_Image_begin (ok_begin T) hr1 (b_Image_begin T) .nil pass0 (pa_cons (pv 5) (pa_cons (pv 6) pa_nil))))
      (pss_cons (ps_if (pt_cmpR op_lt (pv 3) pe_int (nomark _))
        (pss_one (ps_ret (pe_call (ok_Ltake_file T) hr9 rfl T.mg_Ltake_file T.F_Ltake_file.kp (b_Ltake_file T) .nil pass0 (pa_cons (pv 0) (pa_cons (pv 1) (pa_cons (pv 4) (pa_cons (pv 5) (pa_cons (pv 6) pa_nil))))))))
        pss_nil)
      (pss_cons (ps_if (pt_cmpR op_lt (pv 3) pe_int (nomark _))
        (pss_one (ps_ret (pe_call (ok_Ldrop T) hr6 rfl T.mg_Ldrop T.F_Ldrop.kp (b_Ldrop T) .nil pass0 (pa_cons (pv 0) (pa_cons (pv 1) (pa_cons pe_int (pa_cons (pv 4) pa_nil)))))))
        pss_nil)
      (pss_cons (ps_if (pt_cmpR op_eq (pv 3) pe_int (nomark _))
        (pss_one (ps_ret (pe_call (ok_Ltake_folder T) hr9 rfl T.mg_Ltake_folder T.F_Ltake_folder.kp (b_Ltake_folder T) .nil pass0 (pa_cons (pv 0) (pa_cons (pv 1) (pa_cons (pe_op op_mod (pe_callTy call_int1 rfl T.b_int (by decide +kernel) (pa_cons (pv 4) pa_nil)) pe_int) (pa_cons (pv 5) pa_nil)))))))
        pss_nil)
      (pss_cons (ps_if (pt_cmpR op_eq (pv 3) pe_int (nomark _))
        (pss_one (ps_ret (pe_call (ok_Ldrop T) hr6 rfl T.mg_Ldrop T.F_Ldrop.kp (b_Ldrop T) .nil pass0 (pa_cons (pv 0) (pa_cons (pv 1) (pa_cons pe_int (pa_cons (pe_op op_mod (pe_callTy call_int1 rfl T.b_int (by decide +kernel) (pa_cons (pv 4) pa_nil)) pe_int) pa_nil)))))))
        pss_nil)
      (pss_cons (ps_set (i := 8) sc_Lstep.nd rfl (.inl rfl) (pe_call (ok_Lpick T) hr1 rfl T.mg_Lpick T.F_Lpick.kp (b_Lpick T) .nil pass0 (pa_cons (pv 2) (pa_cons pe_int pa_nil))))
      (Evl.pss_cut (ps_if (pt_cmpR op_eq (pv 3) pe_int (nomark _))
        (pss_one (ps_set (i := 8) sc_Lstep.nd rfl (.inl rfl) (pe_ix ix_list (pe_ix ix_list (pv 1) pe_int (fun _ _ => rfl)) pe_int (fun _ _ => rfl))))
        pss_nil)
      (pss_cons (ps_set (i := 9) sc_Lstep.nd rfl (.inl rfl) (pe_ix ix_list (pv 1) pe_int (fun _ _ => rfl)))
      (pss_cons (ps_asg (pv 4) (pg_sub (pv 9) (pv 8) set_list))
      (pss_cons (ps_set (i := 10) sc_Lstep.nd rfl (.inl rfl) (pe_ix ix_list (pe_fld (pv 0) rfl) pe_int (fun _ _ => rfl)))
      (pss_cons (ps_asg (pv 4) (pg_sub (pv 10) (pe_op op_add pe_int (pv 8)) set_list))
      (pss_one (ps_ret pe_bl))))))))))))))))), ?_⟩
    -- the picks
    refine ⟨_, rfl, fa, fs, 10, rfl, S.F.get 0 rfl, by decide, fun ch f1 ch0 ch1 fl1 => ?_⟩
    have S1 := S.feed f1
    refine ⟨_, rfl, fa, f1, 10, rfl, S1.F.get 0 rfl, by decide, fun r2 f2 r20 r21 fl2 => ?_⟩
    rw [upd_upd]
    have S2 := S.feed f2
    refine ⟨_, rfl, fa, f2, 64, rfl, S2.F.get 0 rfl, by decide, fun wi f3 r30 r31 fl3 => ?_⟩
    rw [upd_upd]
    have S3 := S.feed f3
    refine ⟨_, rfl, fa, f3, 5, rfl, S3.F.get 0 rfl, by decide, fun nb f4 nb0 nb4 fl4 => ?_⟩
    rw [upd_upd]
    have S4 := S.feed f4
    generalize upd H fa (.lst (f4.map V.int)) = H4 at S4 ⊢
    obtain ⟨o, rfl⟩ : ∃ o : Nat, r2 = o := ⟨r2.toNat, by omega⟩
    have ho : o < 10 := by omega
    -- the barred blocks
    refine ⟨nb, rfl, by omega, by omega, fun D hD => ?_⟩
    have hD0 : H4 D = none := hD
    refine lc_range (lo := 0) (n := nb.toNat) (fun i H' => ∃ (bs f5 : List Int), SI T.C_Image T.C_Plan H' im A v 24 5 sl (bkL B w fa f5) ∧ H' D = some (.lst (bs.map V.int)) ∧ bs.length = i) ⟨[], f4, S4.same (same_upd hD), upd_same, rfl⟩ ?_ ?_
    · rintro j H' hj ⟨bs, f5, S5, e5, l5⟩
      refine ⟨rfl, ?_⟩
      refine yes_ ?_
      refine ⟨_, rfl, fa, f5, 14, rfl, S5.F.get 0 rfl, by decide, fun rb f6 rb0 rb1 fl6 => ?_⟩
      have S6 := S5.feed f6
      have nDf : D ≠ fa := fun z => by
        have := S4.F.get 0 (a := fa) rfl
        rw [← z, hD0] at this
        cases this
      have e6 : upd H' fa (.lst (f6.map V.int)) D = some (.lst (bs.map V.int)) := by rw [upd_ne nDf]; exact e5
      refine ⟨_, _, rfl, rfl, _, e6, ?_, bs ++ [10 + rb], f6, ?_, ?_, ?_⟩
      · rw [List.length_map]
        exact small1000 (by omega)
      · have nD : ∀ p ∈ bkL B w fa f6, p.1 ≠ D := fun p hp z => by
          obtain ⟨o', q⟩ := bk_same (w := w) (fs := f4) hp
          exact S4.F.held hD0 _ q z
        have nI : ∀ x ∈ A.reads im, x ≠ D := fun x hx z => by
          obtain ⟨o', q⟩ := S4.I.held hx
          rw [z, hD0] at q
          cases q
        refine ⟨S6.I.keepF fun x o' hx e => by rw [upd_ne (nI x hx)]; exact e, S6.F.keep fun p hp o' e => by rw [upd_ne (nD p hp)]; exact e, S6.ap⟩
      · rw [upd_same, List.map_append]
        rfl
      · rw [List.length_append, l5]
        rfl
    rintro H5 ⟨bs, f5, S5, e5, l5⟩
    have nDk : ∀ w' f', ∀ p ∈ bkL B w' fa f', p.1 ≠ D := fun w' f' p hp z => by
      obtain ⟨o', q⟩ := bk_same (w := w) (fs := f4) hp
      exact S4.F.held hD0 _ q z
    -- begin
    refine ⟨_, rfl, im, _, _, rfl, S5.I.ob, rfl, _, rfl, _, rfl, im, A, v, 24, 5, sl, wi, D, bs, rfl, S5.I, .inl e5, fun H7 t I7 k7 nt => ?_⟩
    have S7 : SI T.C_Image T.C_Plan H7 im { A with ba := t } { v with se := v.se + 1, wi := wi, ba := bs } 24 5 sl (bkL B w fa f5) := S5.imgN I7 k7 (by simp [IA.reads]) fun x hx => by
      simp only [IA.reads, List.mem_cons] at hx ⊢
      rcases hx with z | z | z | z | z | z | z | z
      · exact .inl (by simp [z])
      · exact .inl (by simp [z])
      · exact .inl (by simp [z])
      · exact .inl (by simp [z])
      · exact .inl (by simp [z])
      · exact .inl (by simp [z])
      · right
        rw [z]
        rcases nt with q | q
        · exact S5.F.held q
        · show ∀ p ∈ bkL B w fa f5, p.1 ≠ t
          rw [q]
          exact nDk w f5
      · exact .inl (by simp [z])
    have nDi : D ≠ im := fun z => by
      have := S5.I.ob
      rw [← z, e5] at this
      cases this
    have e7 := k7.at1 e5 nDi
    have nDa : D ∉ bkA B fa := fun z => by
      rw [← bkA_eq (w := w) (fs := f4)] at z
      obtain ⟨p, hp, e⟩ := List.mem_map.mp z
      exact nDk w f4 p hp e
    have A7 : Ag { v with se := v.se + 1, wi := wi, ba := bs } w G o1 o2 ib := Aq.beg
    have kn : Nxt T.C_Image T.C_Plan im sl B fa f5 o1 o2 (ib + 2) (fun v H => Q v H) := fun H' A' v' w' G' S' Z => k H' A' v' w' G' f5 S' Z
    have eo : ((o : Int) % 2) = ((o % 2 : Nat) : Int) := by omega
    -- take_file
    refine ⟨_, rfl, _, _, rfl, rfl, _, rfl, ite2 (fun c1 => ?_) (fun c1 => ?_)⟩
    · exact ⟨_, rfl, _, rfl, _, rfl, _, rfl, _, rfl, im, { A with ba := t }, { v with se := v.se + 1, wi := wi, ba := bs }, sl, B, w, fa, f5, G, o1, o2, ib, o, D, rfl, S7, A7, ho, hib, e7, nDa, kn⟩
    refine ⟨_, rfl, _, _, rfl, rfl, _, rfl, ite2 (fun c2 => ?_) (fun c2 => ?_)⟩
    · exact ⟨_, rfl, _, rfl, _, rfl, im, { A with ba := t }, { v with se := v.se + 1, wi := wi, ba := bs }, sl, B, w, fa, f5, G, o1, o2, ib, 2, o, o, o1, rfl, S7, A7, .inl ⟨rfl, rfl, ho, rfl⟩, hib, kn⟩
    refine ⟨_, rfl, rfl, _, rfl, ite2 (fun c3 => ?_) (fun c3 => ?_)⟩
    · refine ⟨_, rfl, _, rfl, _, rfl, .inl ⟨_, rfl, _, _, rfl, rfl, (by show (0 : Int) < 2; decide), _, rfl, im, { A with ba := t }, { v with se := v.se + 1, wi := wi, ba := bs }, sl, B, w, fa, f5, G, o1, o2, ib, o % 2, ?_, S7, A7, by omega, hib, kn⟩⟩
      show [V.ref im, V.ref B.bk, V.int ((o : Int) % 2), V.int wi] = _
      rw [eo]
    refine ⟨_, rfl, rfl, _, rfl, ite2 (fun c4 => ?_) (fun c4 => ?_)⟩
    · refine ⟨_, rfl, _, rfl, _, rfl, .inl ⟨_, rfl, _, _, rfl, rfl, (by show (0 : Int) < 2; decide), im, { A with ba := t }, { v with se := v.se + 1, wi := wi, ba := bs }, sl, B, w, fa, f5, G, o1, o2, ib, 3, o % 2, 10 + o % 2, o2, ?_, S7, A7, .inr ⟨rfl, rfl, by omega, rfl⟩, hib, kn⟩⟩
      show [V.ref im, V.ref B.bk, V.int 3, V.int ((o : Int) % 2)] = _
      rw [eo]
    -- a limit
    refine ⟨_, rfl, fa, f5, 4, rfl, S7.F.get 0 rfl, by decide, fun ow0 f8 w80 w81 fl8 => ?_⟩
    have S8 := S7.feed f8
    generalize upd H7 fa (.lst (f8.map V.int)) = H8 at S8 ⊢
    refine ⟨fun σ H' => H' = H8 ∧ ∃ ow : Nat, ow < 4 ∧ σ = [some (.ref im), some (.ref B.bk), some (.ref fa), some (.int ch), some (.int (o : Int)), some (.int wi), some (.ref D), none, some (.int (ow : Int)), none, none], ?_, ?_⟩
    · refine ⟨_, rfl, rfl, _, rfl, ite2 (fun c5 => ?_) (fun c5 => ?_)⟩
      · refine ⟨_, rfl, B.bk, _, 5, .ref B.ow, rfl, rfl, .of (S8.F.get 1 rfl), atI_nat (j := 5) rfl, B.ow, w.ow.map V.int, 0, .int o1, rfl, rfl, .of (S8.F.get 7 rfl), ?_, rfl, o1, Aq.h1, rfl⟩
        rw [Aq.ow]
        exact atI_nat (j := 0) rfl
      · obtain ⟨ow, rfl⟩ : ∃ ow : Nat, ow0 = ow := ⟨ow0.toNat, by omega⟩
        exact ⟨rfl, ow, by omega, rfl⟩
    rintro σ H' ⟨rfl, ow, how, rfl⟩
    have lil : ow < (w.li.map V.int).length := by rw [List.length_map, Aq.k.l4]; exact how
    refine ⟨_, rfl, B.bk, _, 4, .ref B.li, rfl, rfl, .of (S8.F.get 1 rfl), atI_nat (j := 4) rfl, ?_⟩
    refine ⟨_, rfl, _, rfl, _, rfl, B.li, _, _, ow, rfl, rfl, S8.F.get 6 rfl, ixN_nat rfl lil, ?_⟩
    have S9 := S8.put 6 (o' := .lst ((w.li.map V.int).set ow (V.int o))) rfl
    rw [← List.map_set] at S9 ⊢
    generalize upd H' B.li (.lst ((w.li.set ow (o : Int)).map V.int)) = H9 at S9 ⊢
    change SI T.C_Image T.C_Plan H9 im { A with ba := t } { v with se := v.se + 1, wi := wi, ba := bs } 24 5 sl (bkL B { w with li := w.li.set ow (o : Int) } fa f8) at S9
    obtain ⟨r0, m0, r1, r2', r3, r4⟩ := S9.I.row0
    refine ⟨_, rfl, im, _, _, _, _, rfl, S9.I.ob, T.cl_Image, T.na_Image_cells, rfl, A.ca, _, 0, .ref r0, rfl, rfl, .of S9.I.gr.out, atI_nat (j := 0) (by rw [List.getElem?_map, r1]; rfl), ?_⟩
    refine ⟨_, rfl, _, rfl, _, rfl, _, _, rfl, rfl, r0, _, _, 4 + ow, rfl, rfl, r4, ?_, ?_⟩
    · have := ixN_nat (n := (m0.map V.int).length) (i := 4 + ow) rfl (by rw [List.length_map, r3]; omega)
      exact this
    have I10 := S9.I.setC (j := 4 + ow) (x := (o : Int)) r1 r2'
    have S10 := S9.imgN I10 (F := [r0]) (Kp.refl.own1) (fun x hx => by
      rw [List.mem_singleton.mp hx]
      have : r0 ∈ A.rs := List.mem_of_getElem? r1
      simp [IA.reads, this]) (fun x hx => .inl hx)
    exact k _ _ _ _ G f8 S10 ((A7.limit how).mono (by omega))
end
end K07
namespace K07
open PySem PySem.Spec PyProof.Rows L2 Rg
/-- x is not True, of True -/
theorem op_notB {X : Cx} : OpR X (compareOp .IsNot) (fun x y H Q => x = .bl true ∧ y = .bl true ∧ Q (.bl false) H) := by
  intro pins s σ H x y v u Q I rx ry h
  obtain ⟨rfl, rfl, q⟩ := h
  cases rx
  cases ry
  exact wpAny_isNot_self rfl ⟨.bl false, H, I, rfl, q⟩
section
variable {CI CP : Addr} {H : Hp} {im : Addr} {A : IA} {v : IV} {b n s : Int} {L : List (Addr × HO)}
/-- one more place -/
theorem SI.cons (S : SI CI CP H im A v b n s L) {a : Addr} {o : HO} (h : H a = none) : SI CI CP (upd H a o) im A v b n s ((a, o) :: L) :=
  ⟨S.I.keep (same_upd h), S.F.cons h, fun p hp => by
    rcases List.mem_cons.mp hp with rfl | hp
    · intro z
      obtain ⟨o', e⟩ := S.I.held z
      rw [h] at e
      cases e
    · exact S.ap p hp⟩
theorem SI.front (S : SI CI CP H im A v b n s L) (i : Nat) {p : Addr × HO} (h : L[i]? = some p) : SI CI CP H im A v b n s (p :: L.eraseIdx i) := by
  have hi : i < L.length := (List.getElem?_eq_some_iff.mp h).1
  have pm : (p :: L.eraseIdx i).Perm L := by
    rw [List.getElem?_eq_getElem hi] at h
    have e : L = L.take i ++ p :: L.drop (i + 1) := by
      rw [← Option.some.inj h, ← List.drop_eq_getElem_cons hi, List.take_append_drop]
    rw [List.eraseIdx_eq_take_drop_succ]
    exact (List.perm_middle.symm).trans (.of_eq e.symm)
  exact ⟨S.I, ⟨fun q hq => S.F.at_ q (pm.mem_iff.mp hq), (pm.map (·.1)).nodup_iff.mpr S.F.nd⟩, fun q hq => S.ap q (pm.mem_iff.mp hq)⟩
end
/-! ### the image made -/
def k0L : List Int := [1, 1, 1, 1, 1, 1, 1, 1, 1, 1, 0, 0, 0, 0, 0, 0, 0, 0, 0, 0, 0, 0, 0, 0]
def kI (i : Nat) : List Int := List.replicate (10 + i) 1 ++ List.replicate (14 - i) 0
def MO (o1 o2 : Int) : List (List Int) := ((freshM 24 5).set 6 [1, 0, 0, o1, 0, 0, 0, 1]).set 7 [2, 0, 0, o2, 0, 0, 0, 1]
def v0I : IV := ofV 24 5 (freshM 24 5) (24 : Int).toNat
theorem v0M : v0I.M = freshM 24 5 := by decide +kernel
theorem un1 : unmadeTo 24 (freshM 24 5) 4 = [2, 3, 4, 5] := by decide +kernel
theorem un2 {o1 : Int} : unmadeTo 24 ((freshM 24 5).set 6 [1, 0, 0, o1, 0, 0, 0, 1]) 4 = [3, 4, 5] := by
  have c : ∀ y : Nat, y ≠ 6 → cellAt ((freshM 24 5).set 6 [1, 0, 0, o1, 0, 0, 0, 1]) y 0 = cellAt (freshM 24 5) y 0 := fun y hy => by
    unfold cellAt
    rw [List.getElem?_set_ne fun z => hy z.symm]
  have c6 : cellAt ((freshM 24 5).set 6 [1, 0, 0, o1, 0, 0, 0, 1]) 6 0 = 1 := by
    have : ((freshM 24 5).set 6 [1, 0, 0, o1, 0, 0, 0, 1])[6]? = some [1, 0, 0, o1, 0, 0, 0, 1] := List.getElem?_set_self (by decide +kernel)
    exact cellAt_of this rfl
  show ((([] ++ (if cellAt _ 6 0 = 0 then [((0 : Nat) : Int) + 2] else [])) ++ (if cellAt _ 7 0 = 0 then [((1 : Nat) : Int) + 2] else [])) ++ (if cellAt _ 8 0 = 0 then [((2 : Nat) : Int) + 2] else [])) ++ (if cellAt _ 9 0 = 0 then [((3 : Nat) : Int) + 2] else []) = _
  rw [c6, c 7 (by decide), c 8 (by decide), c 9 (by decide)]
  decide +kernel
theorem MO_len {o1 o2 : Int} : (MO o1 o2).length = 24 := by
  unfold MO
  rw [List.length_set, List.length_set]
  decide +kernel
theorem MO_row {o1 o2 : Int} {y : Nat} (h6 : y ≠ 6) (h7 : y ≠ 7) : (MO o1 o2)[y]? = (freshM 24 5)[y]? := by
  unfold MO
  rw [List.getElem?_set_ne fun z => h7 z.symm, List.getElem?_set_ne fun z => h6 z.symm]
theorem kds0 {o1 o2 : Int} : Kds (MO o1 o2) k0L [0, 0, 0, 0] [0, 0, 0, 0] 0 := by
  refine { ml := MO_len, m8 := fun m hm => ?_, kl := rfl, kf := fun x hx => ?_, k3 := fun x k h => ?_, mp := fun x hx => ?_, u4 := rfl, l4 := rfl, r0 := ?_, ul := ?_ }
  · rcases mem_set_of hm with e | e
    · rw [e]; rfl
    · rcases mem_set_of e with e | e
      · rw [e]; rfl
      · have : ∀ m ∈ freshM 24 5, m.length = 8 := by decide +kernel
        exact this m e
  · have h : ∀ x ∈ List.range 10, k0L[x]? = some 1 := by decide +kernel
    exact h x (by rw [List.mem_range]; exact hx)
  · have hm : k ∈ k0L := List.mem_of_getElem? h
    have hh : ∀ k ∈ k0L, k = 0 ∨ k = 1 ∨ k = 2 := by decide +kernel
    exact hh k hm
  · rw [cellAt_congr (MO_row (by omega) (by omega))]
    have h : ∀ x ∈ List.range 24, cellAt (freshM 24 5) (2 + x / 8) (x % 8) = (k0L[x]?).getD 0 := by decide +kernel
    exact h x (by rw [List.mem_range]; exact hx)
  · rw [MO_row (by decide) (by decide)]
    decide +kernel
  · show ∀ u ∈ ([0, 0, 0, 0] : List Int), u.natAbs ≤ 0
    decide
def g0 : Nat → Int := fun _ => 0
theorem pls0 {o1 o2 : Int} : Pls (MO o1 o2) g0 o1 o2 := by
  refine { r5 := ?_, r6 := ?_, r7 := ?_, rt := fun e => absurd rfl e, rz := fun i _ e => absurd rfl e, pf := fun i _ e => absurd rfl e, nd := fun i j _ _ e _ => absurd rfl e, tz := fun _ i _ _ => rfl }
  · rw [MO_row (by decide) (by decide)]
    decide +kernel
  · unfold MO
    rw [List.getElem?_set_ne (by decide), List.getElem?_set_self (by decide +kernel)]
    rfl
  · unfold MO
    rw [List.getElem?_set_self (by rw [List.length_set]; decide +kernel)]
    rfl
theorem k0_get {i : Nat} (hi : i < 24) : k0L[i]? = some (if decide ((i : Int) < 10) = true then (1 : Int) else 0) := by
  have h : ∀ i ∈ List.range 24, k0L[i]? = some (if decide ((i : Int) < 10) = true then (1 : Int) else 0) := by decide +kernel
  exact h i (by rw [List.mem_range]; exact hi)
theorem c77 {r : List Int} : cellAt ((freshM 24 5).set 6 r) 7 7 + 1 = 1 := by
  unfold cellAt
  rw [List.getElem?_set_ne (by decide)]
  decide +kernel
def w0 (o1 o2 : Int) : BV := ⟨k0L, List.replicate 12 0, [0], [0, 0, 0, 0], [0, 0, 0, 0], [o1, o2]⟩
theorem ag0 {o1 o2 : Nat} {v : IV} (h : v.M = MO o1 o2) (h1 : o1 < 4) (h2 : o2 < 4) : Ag v (w0 o1 o2) g0 o1 o2 0 :=
  { k := by rw [h]; exact kds0, p := by rw [h]; exact pls0, pl := rfl, tb := rfl, ow := rfl, h1 := h1, h2 := h2, pk := fun i _ e => absurd rfl e }
theorem kI_set {i : Nat} (h : i < 11) : (kI i).set (10 + i) 1 = kI (i + 1) := by
  have hh : ∀ i ∈ List.range 11, (kI i).set (10 + i) 1 = kI (i + 1) := by decide +kernel
  exact hh i (by rw [List.mem_range]; exact h)
theorem kI_pick {i : Nat} (h : i < 11) : pickL ((rng 10 14).filter fun x => decide (((kI i)[x.toNat]?).getD 0 = 0)) 0 = some (((10 + i : Nat)) : Int) := by
  have hh : ∀ i ∈ List.range 11, pickL ((rng 10 14).filter fun x => decide (((kI i)[x.toNat]?).getD 0 = 0)) 0 = some (((10 + i : Nat)) : Int) := by decide +kernel
  exact hh i (by rw [List.mem_range]; exact h)
section
variable {P : Program} {w0_ : World} {K : PySem.W.Frag} {mg : Str → Option Value} {base : Heap}
def sp_law (K : PySem.W.Frag) : Sp := fun vs H Q _ => ∃ (a : Addr) (ns : List Int), vs = [.ref a] ∧ SqL K H a (ns.map V.int) ∧ ns.length ≤ 63 ∧ ∀ H', Q (.bl true) H'
theorem ok_law (T : Tx K mg) : FnOk P w0_ K mg base CX0 11 T.f_law T.fd_law ["_law_script"] (sp_law K) := by
  refine T.F_law.ok sc_law (fun vs H Q E h => ?_) (fun cdv A0_ outer s H vs Q E hr h => ?_)
  · obtain ⟨_, _, rfl, _⟩ := h; rfl
  · obtain ⟨a, ns, rfl, hS, hlen, k⟩ := h
    have hr1 : Room 1 _ := hr.mono (by decide)
    have hr2 : Room 2 _ := hr.mono (by decide)
    have hr4 : Room 4 _ := hr.mono (by decide)
    have hr5 : Room 5 _ := hr.mono (by decide)
    have hr10 : Room 10 _ := hr.mono (by decide)
    refine ⟨_, (pss_cons (ps_set (i := 1) sc_law.nd rfl (.inl rfl) (pe_call (ok_Lfeed T) hr1 rfl T.mg_Lfeed T.F_Lfeed.kp (b_Lfeed T) .nil pass0 (pa_cons (pv 0) pa_nil)))
      (pss_cons (ps_set (i := 2) sc_law.nd rfl (.inl rfl) (pe_smeth T.mg_Image T.cr_Image T.sm_Image_fresh (ok_fresh T) hr4 (b_Image_fresh T) .nil pass0 (pa_cons (pe_makeK T.mk_Plan (ok_Plan_init T) hr2 rfl T.mg_Plan (kb_Plan T) pass0 (pa_cons pe_int pa_nil) (pk_cons pe_int (pk_cons pe_int pk_nil))) pa_nil)))
      (pss_cons (ps_set (i := 3) sc_law.nd rfl (.inl rfl) (pe_lst (pa_cons (pe_call (ok_Lpick T) hr1 rfl T.mg_Lpick T.F_Lpick.kp (b_Lpick T) .nil pass0 (pa_cons (pv 1) (pa_cons pe_int pa_nil))) (pa_cons (pe_call (ok_Lpick T) hr1 rfl T.mg_Lpick T.F_Lpick.kp (b_Lpick T) .nil pass0 (pa_cons (pv 1) (pa_cons pe_int pa_nil))) pa_nil))))
      (pss_cons (ps_if (PW.pt (pw_or (pt_not (pt_val (pe_call (ok_Linteger T) hr1 rfl T.mg_Linteger T.F_Linteger.kp (b_Linteger T) .nil pass0 (pa_cons (pe_call (ok_make_node T) hr4 rfl T.mg_make_node T.F_make_node.kp (b_make_node T) .nil passLN (pa_cons (pv 2) (pa_cons pe_int (pa_cons (pe_ix ix_list (pv 3) pe_int (fun _ _ => rfl)) pa_nil)))) (pa_cons pe_int pa_nil))))) (pw_or1 (pt_not (pt_val (pe_call (ok_Linteger T) hr1 rfl T.mg_Linteger T.F_Linteger.kp (b_Linteger T) .nil pass0 (pa_cons (pe_call (ok_make_node T) hr4 rfl T.mg_make_node T.F_make_node.kp (b_make_node T) .nil passLN (pa_cons (pv 2) (pa_cons pe_int (pa_cons (pe_ix ix_list (pv 3) pe_int (fun _ _ => rfl)) pa_nil)))) (pa_cons pe_int pa_nil))))))))
        (pss_one (ps_ret pe_bl))
        pss_nil)
      (pss_cons (ps_set (i := 4) sc_law.nd rfl (.inl rfl) (pe_lst (pa_cons (pe_lc rfl (own := [("_law_x", 5)]) (g := gName 5) (tt := tYes) sc_law.nd (pi_range1 rfl T.b_range (pa_cons pe_int pa_nil)) (blkOk_by (N := ["_law_script", "_law_feed_here", "_law_image", "_law_owners", "_law_book", "_law_x", "_law_o", "_law_k"]) (sc := defScope s_law) (by decide +kernel)) (fun _ _ _ _ _ => pg_name (i := 5) sc_law.nd rfl (Or.inl rfl)) (fun _ _ _ _ _ => pts_nil) (fun _ _ _ _ _ => (pe_callTy call_int1 rfl T.b_int (by decide +kernel) (pa_cons (pe_cmpR op_lt (pv 5) pe_int (nomark _)) pa_nil)))) (pa_cons (pe_lc rfl (own := [("_law_o", 6)]) (g := gName 6) (tt := tYes) sc_law.nd (pi_range1 rfl T.b_range (pa_cons pe_int pa_nil)) (blkOk_by (N := ["_law_script", "_law_feed_here", "_law_image", "_law_owners", "_law_book", "_law_x", "_law_o", "_law_k"]) (sc := defScope s_law) (by decide +kernel)) (fun _ _ _ _ _ => pg_name (i := 6) sc_law.nd rfl (Or.inl rfl)) (fun _ _ _ _ _ => pts_nil) (fun _ _ _ _ _ => pe_int)) (pa_cons (pe_lst (pa_cons pe_int pa_nil)) (pa_cons (pe_lst (pa_cons pe_int (pa_cons pe_int (pa_cons pe_int (pa_cons pe_int pa_nil))))) (pa_cons (pe_lst (pa_cons pe_int (pa_cons pe_int (pa_cons pe_int (pa_cons pe_int pa_nil))))) (pa_cons (pv 3) pa_nil))))))))
      (pss_cons (ps_expr (pe_meth (pv 2) T.cl_Image T.m_Image_begin (ok_begin T) hr1 (b_Image_begin T) .nil pass0 (pa_cons pe_int (pa_cons (pe_tup pa_nil) pa_nil))))
      (pss_cons (ps_for PassesOwn.never rfl (pi_range1 rfl T.b_range (pa_cons (pe_call (ok_Lpick T) hr1 rfl T.mg_Lpick T.F_Lpick.kp (b_Lpick T) .nil pass0 (pa_cons (pv 1) (pa_cons pe_int pa_nil))) pa_nil)) (pg_name (i := 7) sc_law.nd rfl (.inl rfl))
        (pss_cons (ps_expr (pe_call (ok_Lnote T) hr1 rfl T.mg_Lnote T.F_Lnote.kp (b_Lnote T) .nil pass0 (pa_cons (pv 4) (pa_cons (pe_op op_add pe_int (pv 7)) (pa_cons pe_int (pa_cons pe_int (pa_cons pe_int pa_nil)))))))
        (pss_one (ps_if (pt_not (pt_val (pe_call (ok_Linteger T) hr1 rfl T.mg_Linteger T.F_Linteger.kp (b_Linteger T) .nil pass0 (pa_cons (pe_meth (pv 2) T.cl_Image T.m_Image_take (ok_take T) hr4 (b_Image_take T) .nil passLN (pa_cons pe_int (pa_cons pe_int pa_nil))) (pa_cons (pe_op op_add pe_int (pv 7)) pa_nil)))))
          (pss_one (ps_ret pe_bl))
          pss_nil))))
      (pss_cons (ps_if (pt_not (pt_val (pe_call (ok_Lagrees T) hr5 rfl T.mg_Lagrees T.F_Lagrees.kp (b_Lagrees T) .nil pass0 (pa_cons (pv 2) (pa_cons (pv 4) pa_nil)))))
        (pss_one (ps_ret pe_bl))
        pss_nil)
      (pss_cons (ps_for PassesOwn.never rfl (pi_range1 rfl T.b_range (pa_cons (pe_op op_add pe_int (pe_call (ok_Lpick T) hr1 rfl T.mg_Lpick T.F_Lpick.kp (b_Lpick T) .nil pass0 (pa_cons (pv 1) (pa_cons pe_int pa_nil)))) pa_nil)) (pg_name (i := 7) sc_law.nd rfl (.inl rfl))
        (pss_one (ps_if (PW.pt (pw_or (pt_cmpR op_notB (pe_call (ok_Lstep T) hr10 rfl T.mg_Lstep T.F_Lstep.kp (b_Lstep T) .nil pass0 (pa_cons (pv 2) (pa_cons (pv 4) (pa_cons (pv 1) pa_nil)))) pe_bl (nomark _)) (pw_or1 (pt_not (pt_val (pe_call (ok_Lagrees T) hr5 rfl T.mg_Lagrees T.F_Lagrees.kp (b_Lagrees T) .nil pass0 (pa_cons (pv 2) (pa_cons (pv 4) pa_nil))))))))
          (pss_one (ps_ret pe_bl))
          pss_nil)))
      (pss_one (ps_ret pe_bl))))))))))), ?_⟩
    -- the feed
    refine ⟨_, rfl, a, ns, rfl, hS, hlen, fun H1 fa f1 S1 nfa efa lfs => ?_⟩
    -- Plan(24, nodes=5, slots=30), Image.fresh
    refine ⟨rfl, rfl, fun px pdx npx npdx ned => ?_⟩
    refine ⟨px, pdx, 24, 5, 30, rfl, upd_same, by decide, by decide, by decide, by decide, by decide, by decide, by decide, rfl, ?_⟩
    have Pl : PlanAt T.C_Plan (upd (upd (upd H1 pdx (.own px)) px (.ins T.C_Plan pdx [])) px (.ins T.C_Plan pdx (planF 24 5 30))) px 24 5 30 :=
      ⟨⟨pdx, upd_same⟩, by decide, by decide, by decide, by decide, by decide, by decide, by decide⟩
    have Fp : (upd (upd (upd H1 pdx (.own px)) px (.ins T.C_Plan pdx [])) px (.ins T.C_Plan pdx (planF 24 5 30))) fa = some (.lst (f1.map V.int)) := by
      have a1 : fa ≠ px := ne_of_none efa npx
      have a2 : fa ≠ pdx := ne_of_none efa npdx
      rw [upd_ne a1, upd_ne a1, upd_ne a2]
      exact efa
    generalize upd (upd (upd H1 pdx (.own px)) px (.ins T.C_Plan pdx [])) px (.ins T.C_Plan pdx (planF 24 5 30)) = H2 at Pl Fp ⊢
    refine ⟨px, 24, 5, 30, rfl, Pl, fun H3 im A S3 nim I3 N3 eA => ?_⟩
    have F3 := S3 _ _ Fp
    have hfa : ∀ y, H2 y = none → fa ≠ y := fun y e => ne_of_none Fp e
    have X3 : SI T.C_Image T.C_Plan H3 im A v0I 24 5 30 [(fa, .lst (f1.map V.int))] := by
      refine ⟨I3, ⟨fun p hp => ?_, by simp⟩, fun p hp z => ?_⟩
      · rw [List.mem_singleton.mp hp]
        exact F3
      · rw [List.mem_singleton.mp hp] at z
        obtain ⟨dxp, hpl⟩ := I3.pl.ob
        simp only [IA.reads, List.mem_cons] at z
        rcases z with z | z | z | z | z | z | z | z
        · exact hfa _ nim z
        · rw [← z, F3] at hpl
          cases hpl
        · exact hfa _ N3.ca z
        · exact hfa _ N3.ho z
        · exact hfa _ N3.st z
        · exact hfa _ N3.hd z
        · have := I3.ba
          rw [← z, F3] at this
          cases this
        · exact hfa _ (N3.rs _ z) rfl
    -- the owners
    refine ⟨_, rfl, fa, f1, 4, rfl, X3.F.get 0 rfl, by decide, fun r1 f2 r10 r11 fl2 => ?_⟩
    have X4 : SI T.C_Image T.C_Plan (upd H3 fa (.lst (f2.map V.int))) im A v0I 24 5 30 [(fa, .lst (f2.map V.int))] := X3.put 0 rfl
    refine ⟨_, rfl, fa, f2, 4, rfl, X4.F.get 0 rfl, by decide, fun r2 f3 r20 r21 fl3 => ?_⟩
    have X5 : SI T.C_Image T.C_Plan (upd (upd H3 fa (.lst (f2.map V.int))) fa (.lst (f3.map V.int))) im A v0I 24 5 30 [(fa, .lst (f3.map V.int))] := X4.put 0 rfl
    generalize upd (upd H3 fa (.lst (f2.map V.int))) fa (.lst (f3.map V.int)) = H5 at X5 ⊢
    obtain ⟨o1, rfl⟩ : ∃ o : Nat, r1 = o := ⟨r1.toNat, by omega⟩
    obtain ⟨o2, rfl⟩ : ∃ o : Nat, r2 = o := ⟨r2.toNat, by omega⟩
    refine ⟨(by show 2 ≤ sizeLine; decide), fun ow now_ => ?_⟩
    have X6 := X5.cons (o := .lst (([(o1 : Int), (o2 : Int)] : List Int).map V.int)) now_
    change SI _ _ (upd H5 ow (.lst [V.int (o1 : Int), V.int (o2 : Int)])) _ _ _ _ _ _ _ at X6
    generalize upd H5 ow (.lst [V.int (o1 : Int), V.int (o2 : Int)]) = H6 at X6 ⊢
    -- the two nodes
    refine ⟨_, rfl, _, rfl, ow, _, 0, .int (o1 : Int), rfl, rfl, .of (X6.F.get 0 rfl), atI_nat (j := 0) rfl, im, A, v0I, 24, 5, 30, 1, (o1 : Int), rfl, X6.I, (fun e => ?_), fun m rest e H7 I7 k7 => ?_⟩
    · rw [v0M, show ((5 : Int) - 1).toNat = 4 by decide, un1] at e
      cases e
    rw [v0M, show ((5 : Int) - 1).toNat = 4 by decide, un1] at e
    cases e
    have X7 := X6.imgN I7 k7 (fun x hx => by simp [IA.reads, hx]) fun x hx => .inl hx
    rw [nr2, v0M, show cellAt (freshM 24 5) 6 7 + 1 = 1 by decide +kernel] at X7
    refine ⟨2, 2, rfl, ?_⟩
    rw [decide_eq_true rfl]
    refine ⟨_, rfl, iteF ?_⟩
    refine ⟨_, rfl, _, rfl, ow, _, 1, .int (o2 : Int), rfl, rfl, .of (X7.F.get 0 rfl), atI_nat (j := 1) rfl, im, A, _, 24, 5, 30, 2, (o2 : Int), rfl, X7.I, (fun e => ?_), fun m rest e H8 I8 k8 => ?_⟩
    · dsimp only at e
      rw [show ((5 : Int) - 1).toNat = 4 by decide, un2] at e
      cases e
    dsimp only at e
    rw [show ((5 : Int) - 1).toNat = 4 by decide, un2] at e
    cases e
    have X8 := X7.imgN I8 k8 (fun x hx => by simp [IA.reads, hx]) fun x hx => .inl hx
    rw [nr3, c77] at X8
    change SI T.C_Image T.C_Plan H8 im A { v0I with M := MO o1 o2 } 24 5 30 _ at X8
    have e8 : ({ v0I with M := MO o1 o2 } : IV).M = MO o1 o2 := rfl
    have w8 : ({ v0I with M := MO o1 o2 } : IV).wi = 0 := rfl
    generalize ({ v0I with M := MO o1 o2 } : IV) = v8 at X8 e8 w8
    refine ⟨3, 3, rfl, ?_⟩
    rw [decide_eq_true rfl]
    refine ⟨_, rfl, iteF ?_⟩
    -- the book
    refine ⟨24, rfl, by decide, by decide, fun d1 n1 => ?_⟩
    refine lc_range (lo := 0) (n := (24 : Int).toNat) (fun i H' => H' = upd H8 d1 (.lst ((k0L.take i).map V.int))) rfl ?_ ?_
    · rintro i H' hi rfl
      have hi : i < 24 := hi
      refine ⟨rfl, yes_ ⟨_, rfl, _, _, rfl, rfl, .inr ⟨_, rfl, _, upd_same, ?_, ?_⟩⟩⟩
      · rw [List.length_map]
        exact small1000 (by have := List.length_take_le i k0L; omega)
      · rw [upd_upd, show (0 : Int) + (i : Int) = i by omega, take_get (k0_get hi), List.map_append]
        rfl
    rintro H9 rfl
    have X9 := X8.cons (o := .lst (k0L.map V.int)) n1
    have e24 : k0L.take (24 : Int).toNat = k0L := rfl
    rw [e24]
    generalize upd H8 d1 (.lst (k0L.map V.int)) = H9 at X9 ⊢
    refine ⟨12, rfl, by decide, by decide, fun d2 n2 => ?_⟩
    refine lc_range (lo := 0) (n := (12 : Int).toNat) (fun i H' => H' = upd H9 d2 (.lst ((List.replicate i (0 : Int)).map V.int))) rfl ?_ ?_
    · rintro i H' hi rfl
      have hi : i < 12 := hi
      refine ⟨rfl, yes_ ⟨_, upd_same, ?_, ?_⟩⟩
      · rw [List.length_map, List.length_replicate]
        exact small1000 (by omega)
      · rw [upd_upd, List.replicate_succ', List.map_append]
        rfl
    rintro H10 rfl
    have X10 := X9.cons (o := .lst ((List.replicate 12 (0 : Int)).map V.int)) n2
    change SI _ _ (upd H9 d2 (.lst ((List.replicate (12 : Int).toNat (0 : Int)).map V.int))) _ _ _ _ _ _ _ at X10
    generalize upd H9 d2 (.lst ((List.replicate (12 : Int).toNat (0 : Int)).map V.int)) = H10 at X10 ⊢
    refine ⟨(by show 1 ≤ sizeLine; decide), fun d3 n3 => ?_⟩
    have X11 := X10.cons (o := .lst (([0] : List Int).map V.int)) n3
    change SI _ _ (upd H10 d3 (.lst [V.int 0])) _ _ _ _ _ _ _ at X11
    generalize upd H10 d3 (.lst [V.int 0]) = H11 at X11 ⊢
    refine ⟨(by show 4 ≤ sizeLine; decide), fun d4 n4 => ?_⟩
    have X12 := X11.cons (o := .lst (([0, 0, 0, 0] : List Int).map V.int)) n4
    change SI _ _ (upd H11 d4 (.lst [V.int 0, V.int 0, V.int 0, V.int 0])) _ _ _ _ _ _ _ at X12
    generalize upd H11 d4 (.lst [V.int 0, V.int 0, V.int 0, V.int 0]) = H12 at X12 ⊢
    refine ⟨(by show 4 ≤ sizeLine; decide), fun d5 n5 => ?_⟩
    have X13 := X12.cons (o := .lst (([0, 0, 0, 0] : List Int).map V.int)) n5
    change SI _ _ (upd H12 d5 (.lst [V.int 0, V.int 0, V.int 0, V.int 0])) _ _ _ _ _ _ _ at X13
    generalize upd H12 d5 (.lst [V.int 0, V.int 0, V.int 0, V.int 0]) = H13 at X13 ⊢
    refine ⟨_, rfl, (by show 6 ≤ sizeLine; decide), fun bk nbk => ?_⟩
    have X14 := X13.cons (o := .lst (bkR ⟨bk, d1, d2, d3, d4, d5, ow⟩)) nbk
    change SI _ _ (upd H13 bk (.lst [.ref d1, .ref d2, .ref d3, .ref d4, .ref d5, .ref ow])) _ _ _ _ _ _ _ at X14
    generalize upd H13 bk (.lst [.ref d1, .ref d2, .ref d3, .ref d4, .ref d5, .ref ow]) = H14 at X14 ⊢
    have X15 := (((((((X14.front 6 rfl).front 2 rfl).front 3 rfl).front 4 rfl).front 5 rfl).front 6 rfl).front 6 rfl).front 7 rfl
    clear X14
    obtain ⟨B, hB⟩ : ∃ B : Bk, B = ⟨bk, d1, d2, d3, d4, d5, ow⟩ := ⟨_, rfl⟩
    have eb : bk = B.bk := by rw [hB]
    change SI T.C_Image T.C_Plan H14 im A v8 24 5 30 (bkL ⟨bk, d1, d2, d3, d4, d5, ow⟩ (w0 o1 o2) fa f3) at X15
    rw [← hB] at X15
    subst eb
    have A15 : Ag v8 (w0 o1 o2) g0 o1 o2 0 := ag0 e8 (by omega) (by omega)
    -- begin
    refine ⟨_, rfl, im, _, _, rfl, X15.I.ob, rfl, (by show 0 ≤ sizeLine; decide), fun q nq => ?_⟩
    have X16 := X15.same (same_upd (o := .tup []) nq)
    have eq : upd H14 q (.tup []) q = some (.tup []) := upd_same
    have nqL := X15.F.held nq
    generalize upd H14 q (.tup []) = H16 at X16 eq ⊢
    refine ⟨im, A, v8, 24, 5, 30, 0, q, [], rfl, X16.I, .inr eq, fun H17 t I17 k17 nt => ?_⟩
    have X17 : SI T.C_Image T.C_Plan H17 im { A with ba := t } { v8 with se := v8.se + 1, wi := 0, ba := [] } 24 5 30 (bkL B (w0 o1 o2) fa f3) := X16.imgN I17 k17 (by simp [IA.reads]) fun x hx => by
      simp only [IA.reads, List.mem_cons] at hx ⊢
      rcases hx with z | z | z | z | z | z | z | z
      · exact .inl (by simp [z])
      · exact .inl (by simp [z])
      · exact .inl (by simp [z])
      · exact .inl (by simp [z])
      · exact .inl (by simp [z])
      · exact .inl (by simp [z])
      · right
        rw [z]
        rcases nt with q1 | q1
        · exact X16.F.held q1
        · rw [q1]
          exact nqL
      · exact .inl (by simp [z])
    have A17 : Ag { v8 with se := v8.se + 1, wi := 0, ba := [] } (w0 o1 o2) g0 o1 o2 0 := A15.beg
    -- the blocks noted
    refine ⟨_, rfl, fa, f3, 11, rfl, X17.F.get 0 rfl, by decide, fun r3 f4 r30 r31 fl4 => ?_⟩
    have X18 : SI T.C_Image T.C_Plan (upd H17 fa (.lst (f4.map V.int))) im { A with ba := t } { v8 with se := v8.se + 1, wi := 0, ba := [] } 24 5 30 (bkL B (w0 o1 o2) fa f4) := X17.feed f4
    refine ⟨_, rfl, by omega, by omega, for_range (lo := 0) (n := r3.toNat) (fun i σ H' => ∃ (A : IA) (v : IV) (w : BV) (u7 : Option V), σ = [some (.ref a), some (.ref fa), some (.ref im), some (.ref ow), some (.ref B.bk), none, none, u7] ∧ SI T.C_Image T.C_Plan H' im A v 24 5 30 (bkL B w fa f4) ∧ Ag v w g0 o1 o2 i ∧ w.kd = kI i ∧ v.wi = 0 ∧ w.li = [0, 0, 0, 0])
      ⟨_, _, _, _, rfl, X18, A17, rfl, rfl, rfl⟩ ?_ ?_⟩
    · rintro i σ H' hi ⟨A, v, w, u7, rfl, X, Aq, ek, ew, el⟩
      have hi10 : i < 10 := by omega
      have h3 : 3 < w.us.length := by rw [Aq.k.u4]; decide
      have hu : w.us[3]? = some ((w.us[3]?).getD 0) := by
        rw [List.getElem?_eq_getElem h3]
        rfl
      have ex : (10 : Int) + (0 + (i : Int)) = ((10 + i : Nat) : Int) := by omega
      refine ⟨_, rfl, _, rfl, _, _, rfl, rfl, im, A, v, 24, 5, 30, B, w, fa, f4, 10 + i, 3, 1, 1, (w.us[3]?).getD 0, ?_, X, by rw [Aq.k.kl]; omega, hu, fun H2 X2 k2 => ?_⟩
      · show [V.ref B.bk, V.int (10 + (0 + (i : Int))), V.int 1, V.int 3, V.int 1] = _
        rw [ex]
        rfl
      have nq : ¬ quota v 3 := fun z => by
        have := ((quota_iff Aq.k (by decide)).mp z).1
        rw [el] at this
        exact this rfl
      have epk : pickL (letL 24 5 v.M 1 v.ba) v.wi = some ((10 + i : Nat) : Int) := by
        unfold letL
        rw [if_neg (by decide), Aq.free, ek, ew]
        exact kI_pick (by omega)
      refine ⟨_, rfl, im, _, _, rfl, X2.I.ob, rfl, im, A, v, 24, 5, 30, 1, 3, rfl, X2.I, by decide, ?_, fun z => absurd z nq, fun _ z => ?_, fun _ x exx H3 q nq3 I3 k3 => ?_⟩
      · have := Aq.log (o := 3) (by omega) (by decide)
        omega
      · rw [z] at epk
        cases epk
      rw [epk] at exx
      have e10 : x = 10 + i := by
        have := Option.some.inj exx
        omega
      subst e10
      have X3 := X2.tk (RsOf.refl.set nq3) I3 k3
      refine ⟨_, rfl, _, _, rfl, rfl, _, _, rfl, ?_⟩
      rw [ex, decide_eq_true rfl]
      refine ⟨_, rfl, iteF ?_⟩
      refine ⟨_, _, _, _, rfl, X3, ?_, ?_, ew, el⟩
      · exact { k := Aq.k.tk (by omega) (by omega) (by decide) (.inl rfl) (.inr (.inl rfl)), p := Aq.p.tk (by omega) (by omega) (fun j _ z => by
          have : (0 : Int) = ((10 + i : Nat) : Int) := z
          omega), pl := Aq.pl, tb := Aq.tb, ow := Aq.ow, h1 := Aq.h1, h2 := Aq.h2, pk := fun j _ e => absurd rfl e }
      · show w.kd.set (10 + i) 1 = _
        rw [ek]
        exact kI_set (by omega)
    rintro σ H19 ⟨A19, v19, w19, u7, rfl, X19, A19q, _, _, _⟩
    -- the first look
    refine ⟨_, rfl, _, rfl, im, A19, v19, 30, B, w19, fa, f4, g0, o1, o2, _, rfl, X19, A19q, fun H20 S20 => ⟨_, rfl, iteF ?_⟩⟩
    have X20 := X19.same S20
    refine ⟨_, rfl, fa, f4, 24, rfl, X20.F.get 0 rfl, by decide, fun r4 f5 r40 r41 fl5 => ?_⟩
    have X21 := X20.feed f5
    have A21 : Ag v19 w19 g0 o1 o2 (10 + 2 * 0) := A19q.mono (by omega)
    refine ⟨_, _, rfl, rfl, _, rfl, by omega, by omega, for_range (lo := 0) (n := (1 + r4).toNat) (fun i σ H' => ∃ (A : IA) (v : IV) (w : BV) (G : Nat → Int) (fs : List Int) (u7 : Option V), σ = [some (.ref a), some (.ref fa), some (.ref im), some (.ref ow), some (.ref B.bk), none, none, u7] ∧ SI T.C_Image T.C_Plan H' im A v 24 5 30 (bkL B w fa fs) ∧ Ag v w G o1 o2 (10 + 2 * i))
      ⟨_, _, _, _, _, _, rfl, X21, A21⟩ ?_ ?_⟩
    · rintro i σ H' hi ⟨A, v, w, G, fs, u7, rfl, X, Aq⟩
      refine ⟨_, rfl, _, rfl, _, rfl, im, A, v, 30, B, w, fa, fs, G, o1, o2, _, rfl, X, Aq, by omega, fun H2 A2 v2 w2 G2 fs2 X2 Aq2 => ?_⟩
      refine ⟨rfl, rfl, _, rfl, iteF ?_⟩
      refine ⟨_, rfl, _, rfl, im, A2, v2, 30, B, w2, fa, fs2, G2, o1, o2, _, rfl, X2, Aq2, fun H3 S3 => ⟨_, rfl, iteF ?_⟩⟩
      exact ⟨_, _, _, _, _, _, rfl, X2.same S3, Aq2.mono (by omega)⟩
    · rintro σ H' _
      exact k _
end
end K07
namespace K07
open PySem PySem.Spec PyProof.Rows L2 Rg
theorem law_binds {K : PySem.W.Frag} {mg : Str → Option Value} (T : Tx K mg) (s : Shared) (v : Value) : BindsTo s T.fd_law ⟨[v], []⟩ [("_law_script", v)] := by
  obtain ⟨oc, od, kV, doc, pm, an, cdv, ct, osl, e, lk, hcd⟩ := T.F_law.ex
  rw [e]
  exact .of_eq rfl
theorem fin_F {P : Program} {w : World} {K : PySem.W.Frag} {mg : Str → Option Value} {fa : Addr} (z : Nonempty (Tx K mg)) (hmg : mg "law" = some (.ref fa)) :
    ∃ fd : FuncData, (∀ (s : Shared) (u : Value), BindsTo s fd ⟨[u], []⟩ [("_law_script", u)]) ∧ ∀ base : Heap, K.In base → base.Ns mainGlobals mg → FnOk P w K mg base CX0 11 fa fd ["_law_script"] (sp_law K) := by
  obtain ⟨T⟩ := z
  have e : T.f_law = fa := Value.ref.inj (Option.some.inj (T.mg_law.symm.trans hmg))
  subst e
  exact ⟨T.fd_law, fun s v => law_binds T s v, fun base _ _ => ok_law T⟩
theorem all_mk {w : World} {K : PySem.W.Frag} {h : Heap} {mg : Str → Option Value} (X : K.In h) (G : h.Ns mainGlobals mg)
    {a_node_cell : Addr}
    {od_node_cell an_node_cell : Option Addr} {sl_node_cell : Array (Option Value)} {oc_node_cell kV_node_cell dc_node_cell pm_node_cell cd_node_cell ct_node_cell : Value}
    (l_node_cell : K.lookup a_node_cell = some ⟨oc_node_cell, od_node_cell, .func (PySem.W.fnOf "node_cell" "node_cell" (defArgs s_node_cell) (defBody s_node_cell) (defScope s_node_cell) .none kV_node_cell dc_node_cell pm_node_cell an_node_cell cd_node_cell ct_node_cell), sl_node_cell⟩)
    (c_node_cell : PySem.W.codeIn K cd_node_cell "node_cell" = true)
    (k_node_cell : PySem.W.keepIn K (.ref a_node_cell) = true)
    (g_node_cell : PySem.W.nsIn K mainGlobals "node_cell" = some (some (.ref a_node_cell)))
    {a_put_node_cell : Addr}
    {od_put_node_cell an_put_node_cell : Option Addr} {sl_put_node_cell : Array (Option Value)} {oc_put_node_cell kV_put_node_cell dc_put_node_cell pm_put_node_cell cd_put_node_cell ct_put_node_cell : Value}
    (l_put_node_cell : K.lookup a_put_node_cell = some ⟨oc_put_node_cell, od_put_node_cell, .func (PySem.W.fnOf "put_node_cell" "put_node_cell" (defArgs s_put_node_cell) (defBody s_put_node_cell) (defScope s_put_node_cell) .none kV_put_node_cell dc_put_node_cell pm_put_node_cell an_put_node_cell cd_put_node_cell ct_put_node_cell), sl_put_node_cell⟩)
    (c_put_node_cell : PySem.W.codeIn K cd_put_node_cell "put_node_cell" = true)
    (k_put_node_cell : PySem.W.keepIn K (.ref a_put_node_cell) = true)
    (g_put_node_cell : PySem.W.nsIn K mainGlobals "put_node_cell" = some (some (.ref a_put_node_cell)))
    {a_is_made : Addr}
    {od_is_made an_is_made : Option Addr} {sl_is_made : Array (Option Value)} {oc_is_made kV_is_made dc_is_made pm_is_made cd_is_made ct_is_made : Value}
    (l_is_made : K.lookup a_is_made = some ⟨oc_is_made, od_is_made, .func (PySem.W.fnOf "is_made" "is_made" (defArgs s_is_made) (defBody s_is_made) (defScope s_is_made) .none kV_is_made dc_is_made pm_is_made an_is_made cd_is_made ct_is_made), sl_is_made⟩)
    (c_is_made : PySem.W.codeIn K cd_is_made "is_made" = true)
    (k_is_made : PySem.W.keepIn K (.ref a_is_made) = true)
    (g_is_made : PySem.W.nsIn K mainGlobals "is_made" = some (some (.ref a_is_made)))
    {a_make_node : Addr}
    {od_make_node an_make_node : Option Addr} {sl_make_node : Array (Option Value)} {oc_make_node kV_make_node dc_make_node pm_make_node cd_make_node ct_make_node : Value}
    (l_make_node : K.lookup a_make_node = some ⟨oc_make_node, od_make_node, .func (PySem.W.fnOf "make_node" "make_node" (defArgs s_make_node) (defBody s_make_node) (defScope s_make_node) .none kV_make_node dc_make_node pm_make_node an_make_node cd_make_node ct_make_node), sl_make_node⟩)
    (c_make_node : PySem.W.codeIn K cd_make_node "make_node" = true)
    (k_make_node : PySem.W.keepIn K (.ref a_make_node) = true)
    (g_make_node : PySem.W.nsIn K mainGlobals "make_node" = some (some (.ref a_make_node)))
    {a_unmake_node : Addr}
    {od_unmake_node an_unmake_node : Option Addr} {sl_unmake_node : Array (Option Value)} {oc_unmake_node kV_unmake_node dc_unmake_node pm_unmake_node cd_unmake_node ct_unmake_node : Value}
    (l_unmake_node : K.lookup a_unmake_node = some ⟨oc_unmake_node, od_unmake_node, .func (PySem.W.fnOf "unmake_node" "unmake_node" (defArgs s_unmake_node) (defBody s_unmake_node) (defScope s_unmake_node) .none kV_unmake_node dc_unmake_node pm_unmake_node an_unmake_node cd_unmake_node ct_unmake_node), sl_unmake_node⟩)
    (c_unmake_node : PySem.W.codeIn K cd_unmake_node "unmake_node" = true)
    (k_unmake_node : PySem.W.keepIn K (.ref a_unmake_node) = true)
    (g_unmake_node : PySem.W.nsIn K mainGlobals "unmake_node" = some (some (.ref a_unmake_node)))
    {a_place_block : Addr}
    {od_place_block an_place_block : Option Addr} {sl_place_block : Array (Option Value)} {oc_place_block kV_place_block dc_place_block pm_place_block cd_place_block ct_place_block : Value}
    (l_place_block : K.lookup a_place_block = some ⟨oc_place_block, od_place_block, .func (PySem.W.fnOf "place_block" "place_block" (defArgs s_place_block) (defBody s_place_block) (defScope s_place_block) .none kV_place_block dc_place_block pm_place_block an_place_block cd_place_block ct_place_block), sl_place_block⟩)
    (c_place_block : PySem.W.codeIn K cd_place_block "place_block" = true)
    (k_place_block : PySem.W.keepIn K (.ref a_place_block) = true)
    (g_place_block : PySem.W.nsIn K mainGlobals "place_block" = some (some (.ref a_place_block)))
    {a_put_place : Addr}
    {od_put_place an_put_place : Option Addr} {sl_put_place : Array (Option Value)} {oc_put_place kV_put_place dc_put_place pm_put_place cd_put_place ct_put_place : Value}
    (l_put_place : K.lookup a_put_place = some ⟨oc_put_place, od_put_place, .func (PySem.W.fnOf "put_place" "put_place" (defArgs s_put_place) (defBody s_put_place) (defScope s_put_place) .none kV_put_place dc_put_place pm_put_place an_put_place cd_put_place ct_put_place), sl_put_place⟩)
    (c_put_place : PySem.W.codeIn K cd_put_place "put_place" = true)
    (k_put_place : PySem.W.keepIn K (.ref a_put_place) = true)
    (g_put_place : PySem.W.nsIn K mainGlobals "put_place" = some (some (.ref a_put_place)))
    {a_needs_block_of_places : Addr}
    {od_needs_block_of_places an_needs_block_of_places : Option Addr} {sl_needs_block_of_places : Array (Option Value)} {oc_needs_block_of_places kV_needs_block_of_places dc_needs_block_of_places pm_needs_block_of_places cd_needs_block_of_places ct_needs_block_of_places : Value}
    (l_needs_block_of_places : K.lookup a_needs_block_of_places = some ⟨oc_needs_block_of_places, od_needs_block_of_places, .func (PySem.W.fnOf "_needs_block_of_places" "_needs_block_of_places" (defArgs s_needs_block_of_places) (defBody s_needs_block_of_places) (defScope s_needs_block_of_places) .none kV_needs_block_of_places dc_needs_block_of_places pm_needs_block_of_places an_needs_block_of_places cd_needs_block_of_places ct_needs_block_of_places), sl_needs_block_of_places⟩)
    (c_needs_block_of_places : PySem.W.codeIn K cd_needs_block_of_places "_needs_block_of_places" = true)
    (k_needs_block_of_places : PySem.W.keepIn K (.ref a_needs_block_of_places) = true)
    (g_needs_block_of_places : PySem.W.nsIn K mainGlobals "_needs_block_of_places" = some (some (.ref a_needs_block_of_places)))
    {a_fill_place : Addr}
    {od_fill_place an_fill_place : Option Addr} {sl_fill_place : Array (Option Value)} {oc_fill_place kV_fill_place dc_fill_place pm_fill_place cd_fill_place ct_fill_place : Value}
    (l_fill_place : K.lookup a_fill_place = some ⟨oc_fill_place, od_fill_place, .func (PySem.W.fnOf "_fill_place" "_fill_place" (defArgs s_fill_place) (defBody s_fill_place) (defScope s_fill_place) .none kV_fill_place dc_fill_place pm_fill_place an_fill_place cd_fill_place ct_fill_place), sl_fill_place⟩)
    (c_fill_place : PySem.W.codeIn K cd_fill_place "_fill_place" = true)
    (k_fill_place : PySem.W.keepIn K (.ref a_fill_place) = true)
    (g_fill_place : PySem.W.nsIn K mainGlobals "_fill_place" = some (some (.ref a_fill_place)))
    {a_take_place : Addr}
    {od_take_place an_take_place : Option Addr} {sl_take_place : Array (Option Value)} {oc_take_place kV_take_place dc_take_place pm_take_place cd_take_place ct_take_place : Value}
    (l_take_place : K.lookup a_take_place = some ⟨oc_take_place, od_take_place, .func (PySem.W.fnOf "take_place" "take_place" (defArgs s_take_place) (defBody s_take_place) (defScope s_take_place) .none kV_take_place dc_take_place pm_take_place an_take_place cd_take_place ct_take_place), sl_take_place⟩)
    (c_take_place : PySem.W.codeIn K cd_take_place "take_place" = true)
    (k_take_place : PySem.W.keepIn K (.ref a_take_place) = true)
    (g_take_place : PySem.W.nsIn K mainGlobals "take_place" = some (some (.ref a_take_place)))
    {a_take_logged : Addr}
    {od_take_logged an_take_logged : Option Addr} {sl_take_logged : Array (Option Value)} {oc_take_logged kV_take_logged dc_take_logged pm_take_logged cd_take_logged ct_take_logged : Value}
    (l_take_logged : K.lookup a_take_logged = some ⟨oc_take_logged, od_take_logged, .func (PySem.W.fnOf "take_logged" "take_logged" (defArgs s_take_logged) (defBody s_take_logged) (defScope s_take_logged) .none kV_take_logged dc_take_logged pm_take_logged an_take_logged cd_take_logged ct_take_logged), sl_take_logged⟩)
    (c_take_logged : PySem.W.codeIn K cd_take_logged "take_logged" = true)
    (k_take_logged : PySem.W.keepIn K (.ref a_take_logged) = true)
    (g_take_logged : PySem.W.nsIn K mainGlobals "take_logged" = some (some (.ref a_take_logged)))
    {a_drop_block_of_places : Addr}
    {od_drop_block_of_places an_drop_block_of_places : Option Addr} {sl_drop_block_of_places : Array (Option Value)} {oc_drop_block_of_places kV_drop_block_of_places dc_drop_block_of_places pm_drop_block_of_places cd_drop_block_of_places ct_drop_block_of_places : Value}
    (l_drop_block_of_places : K.lookup a_drop_block_of_places = some ⟨oc_drop_block_of_places, od_drop_block_of_places, .func (PySem.W.fnOf "_drop_block_of_places" "_drop_block_of_places" (defArgs s_drop_block_of_places) (defBody s_drop_block_of_places) (defScope s_drop_block_of_places) .none kV_drop_block_of_places dc_drop_block_of_places pm_drop_block_of_places an_drop_block_of_places cd_drop_block_of_places ct_drop_block_of_places), sl_drop_block_of_places⟩)
    (c_drop_block_of_places : PySem.W.codeIn K cd_drop_block_of_places "_drop_block_of_places" = true)
    (k_drop_block_of_places : PySem.W.keepIn K (.ref a_drop_block_of_places) = true)
    (g_drop_block_of_places : PySem.W.nsIn K mainGlobals "_drop_block_of_places" = some (some (.ref a_drop_block_of_places)))
    {a_drop_place : Addr}
    {od_drop_place an_drop_place : Option Addr} {sl_drop_place : Array (Option Value)} {oc_drop_place kV_drop_place dc_drop_place pm_drop_place cd_drop_place ct_drop_place : Value}
    (l_drop_place : K.lookup a_drop_place = some ⟨oc_drop_place, od_drop_place, .func (PySem.W.fnOf "drop_place" "drop_place" (defArgs s_drop_place) (defBody s_drop_place) (defScope s_drop_place) .none kV_drop_place dc_drop_place pm_drop_place an_drop_place cd_drop_place ct_drop_place), sl_drop_place⟩)
    (c_drop_place : PySem.W.codeIn K cd_drop_place "drop_place" = true)
    (k_drop_place : PySem.W.keepIn K (.ref a_drop_place) = true)
    (g_drop_place : PySem.W.nsIn K mainGlobals "drop_place" = some (some (.ref a_drop_place)))
    {a_held_blocks : Addr}
    {od_held_blocks an_held_blocks : Option Addr} {sl_held_blocks : Array (Option Value)} {oc_held_blocks kV_held_blocks dc_held_blocks pm_held_blocks cd_held_blocks ct_held_blocks : Value}
    (l_held_blocks : K.lookup a_held_blocks = some ⟨oc_held_blocks, od_held_blocks, .func (PySem.W.fnOf "held_blocks" "held_blocks" (defArgs s_held_blocks) (defBody s_held_blocks) (defScope s_held_blocks) .none kV_held_blocks dc_held_blocks pm_held_blocks an_held_blocks cd_held_blocks ct_held_blocks), sl_held_blocks⟩)
    (c_held_blocks : PySem.W.codeIn K cd_held_blocks "held_blocks" = true)
    (k_held_blocks : PySem.W.keepIn K (.ref a_held_blocks) = true)
    (g_held_blocks : PySem.W.nsIn K mainGlobals "held_blocks" = some (some (.ref a_held_blocks)))
    {a_Lfeed : Addr}
    {od_Lfeed an_Lfeed : Option Addr} {sl_Lfeed : Array (Option Value)} {oc_Lfeed kV_Lfeed dc_Lfeed pm_Lfeed cd_Lfeed ct_Lfeed : Value}
    (l_Lfeed : K.lookup a_Lfeed = some ⟨oc_Lfeed, od_Lfeed, .func (PySem.W.fnOf "_law_feed" "_law_feed" (defArgs s_Lfeed) (defBody s_Lfeed) (defScope s_Lfeed) .none kV_Lfeed dc_Lfeed pm_Lfeed an_Lfeed cd_Lfeed ct_Lfeed), sl_Lfeed⟩)
    (c_Lfeed : PySem.W.codeIn K cd_Lfeed "_law_feed" = true)
    (k_Lfeed : PySem.W.keepIn K (.ref a_Lfeed) = true)
    (g_Lfeed : PySem.W.nsIn K mainGlobals "_law_feed" = some (some (.ref a_Lfeed)))
    {a_Lpick : Addr}
    {od_Lpick an_Lpick : Option Addr} {sl_Lpick : Array (Option Value)} {oc_Lpick kV_Lpick dc_Lpick pm_Lpick cd_Lpick ct_Lpick : Value}
    (l_Lpick : K.lookup a_Lpick = some ⟨oc_Lpick, od_Lpick, .func (PySem.W.fnOf "_law_pick" "_law_pick" (defArgs s_Lpick) (defBody s_Lpick) (defScope s_Lpick) .none kV_Lpick dc_Lpick pm_Lpick an_Lpick cd_Lpick ct_Lpick), sl_Lpick⟩)
    (c_Lpick : PySem.W.codeIn K cd_Lpick "_law_pick" = true)
    (k_Lpick : PySem.W.keepIn K (.ref a_Lpick) = true)
    (g_Lpick : PySem.W.nsIn K mainGlobals "_law_pick" = some (some (.ref a_Lpick)))
    {a_Linteger : Addr}
    {od_Linteger an_Linteger : Option Addr} {sl_Linteger : Array (Option Value)} {oc_Linteger kV_Linteger dc_Linteger pm_Linteger cd_Linteger ct_Linteger : Value}
    (l_Linteger : K.lookup a_Linteger = some ⟨oc_Linteger, od_Linteger, .func (PySem.W.fnOf "_law_integer" "_law_integer" (defArgs s_Linteger) (defBody s_Linteger) (defScope s_Linteger) .none kV_Linteger dc_Linteger pm_Linteger an_Linteger cd_Linteger ct_Linteger), sl_Linteger⟩)
    (c_Linteger : PySem.W.codeIn K cd_Linteger "_law_integer" = true)
    (k_Linteger : PySem.W.keepIn K (.ref a_Linteger) = true)
    (g_Linteger : PySem.W.nsIn K mainGlobals "_law_integer" = some (some (.ref a_Linteger)))
    {a_Lfirst : Addr}
    {od_Lfirst an_Lfirst : Option Addr} {sl_Lfirst : Array (Option Value)} {oc_Lfirst kV_Lfirst dc_Lfirst pm_Lfirst cd_Lfirst ct_Lfirst : Value}
    (l_Lfirst : K.lookup a_Lfirst = some ⟨oc_Lfirst, od_Lfirst, .func (PySem.W.fnOf "_law_first" "_law_first" (defArgs s_Lfirst) (defBody s_Lfirst) (defScope s_Lfirst) .none kV_Lfirst dc_Lfirst pm_Lfirst an_Lfirst cd_Lfirst ct_Lfirst), sl_Lfirst⟩)
    (c_Lfirst : PySem.W.codeIn K cd_Lfirst "_law_first" = true)
    (k_Lfirst : PySem.W.keepIn K (.ref a_Lfirst) = true)
    (g_Lfirst : PySem.W.nsIn K mainGlobals "_law_first" = some (some (.ref a_Lfirst)))
    {a_Ldue : Addr}
    {od_Ldue an_Ldue : Option Addr} {sl_Ldue : Array (Option Value)} {oc_Ldue kV_Ldue dc_Ldue pm_Ldue cd_Ldue ct_Ldue : Value}
    (l_Ldue : K.lookup a_Ldue = some ⟨oc_Ldue, od_Ldue, .func (PySem.W.fnOf "_law_due" "_law_due" (defArgs s_Ldue) (defBody s_Ldue) (defScope s_Ldue) .none kV_Ldue dc_Ldue pm_Ldue an_Ldue cd_Ldue ct_Ldue), sl_Ldue⟩)
    (c_Ldue : PySem.W.codeIn K cd_Ldue "_law_due" = true)
    (k_Ldue : PySem.W.keepIn K (.ref a_Ldue) = true)
    (g_Ldue : PySem.W.nsIn K mainGlobals "_law_due" = some (some (.ref a_Ldue)))
    {a_Lnote : Addr}
    {od_Lnote an_Lnote : Option Addr} {sl_Lnote : Array (Option Value)} {oc_Lnote kV_Lnote dc_Lnote pm_Lnote cd_Lnote ct_Lnote : Value}
    (l_Lnote : K.lookup a_Lnote = some ⟨oc_Lnote, od_Lnote, .func (PySem.W.fnOf "_law_note" "_law_note" (defArgs s_Lnote) (defBody s_Lnote) (defScope s_Lnote) .none kV_Lnote dc_Lnote pm_Lnote an_Lnote cd_Lnote ct_Lnote), sl_Lnote⟩)
    (c_Lnote : PySem.W.codeIn K cd_Lnote "_law_note" = true)
    (k_Lnote : PySem.W.keepIn K (.ref a_Lnote) = true)
    (g_Lnote : PySem.W.nsIn K mainGlobals "_law_note" = some (some (.ref a_Lnote)))
    {a_Lagrees : Addr}
    {od_Lagrees an_Lagrees : Option Addr} {sl_Lagrees : Array (Option Value)} {oc_Lagrees kV_Lagrees dc_Lagrees pm_Lagrees cd_Lagrees ct_Lagrees : Value}
    (l_Lagrees : K.lookup a_Lagrees = some ⟨oc_Lagrees, od_Lagrees, .func (PySem.W.fnOf "_law_agrees" "_law_agrees" (defArgs s_Lagrees) (defBody s_Lagrees) (defScope s_Lagrees) .none kV_Lagrees dc_Lagrees pm_Lagrees an_Lagrees cd_Lagrees ct_Lagrees), sl_Lagrees⟩)
    (c_Lagrees : PySem.W.codeIn K cd_Lagrees "_law_agrees" = true)
    (k_Lagrees : PySem.W.keepIn K (.ref a_Lagrees) = true)
    (g_Lagrees : PySem.W.nsIn K mainGlobals "_law_agrees" = some (some (.ref a_Lagrees)))
    {a_Lrefused : Addr}
    {od_Lrefused an_Lrefused : Option Addr} {sl_Lrefused : Array (Option Value)} {oc_Lrefused kV_Lrefused dc_Lrefused pm_Lrefused cd_Lrefused ct_Lrefused : Value}
    (l_Lrefused : K.lookup a_Lrefused = some ⟨oc_Lrefused, od_Lrefused, .func (PySem.W.fnOf "_law_refused" "_law_refused" (defArgs s_Lrefused) (defBody s_Lrefused) (defScope s_Lrefused) .none kV_Lrefused dc_Lrefused pm_Lrefused an_Lrefused cd_Lrefused ct_Lrefused), sl_Lrefused⟩)
    (c_Lrefused : PySem.W.codeIn K cd_Lrefused "_law_refused" = true)
    (k_Lrefused : PySem.W.keepIn K (.ref a_Lrefused) = true)
    (g_Lrefused : PySem.W.nsIn K mainGlobals "_law_refused" = some (some (.ref a_Lrefused)))
    {a_Lunchanged : Addr}
    {od_Lunchanged an_Lunchanged : Option Addr} {sl_Lunchanged : Array (Option Value)} {oc_Lunchanged kV_Lunchanged dc_Lunchanged pm_Lunchanged cd_Lunchanged ct_Lunchanged : Value}
    (l_Lunchanged : K.lookup a_Lunchanged = some ⟨oc_Lunchanged, od_Lunchanged, .func (PySem.W.fnOf "_law_unchanged" "_law_unchanged" (defArgs s_Lunchanged) (defBody s_Lunchanged) (defScope s_Lunchanged) .none kV_Lunchanged dc_Lunchanged pm_Lunchanged an_Lunchanged cd_Lunchanged ct_Lunchanged), sl_Lunchanged⟩)
    (c_Lunchanged : PySem.W.codeIn K cd_Lunchanged "_law_unchanged" = true)
    (k_Lunchanged : PySem.W.keepIn K (.ref a_Lunchanged) = true)
    (g_Lunchanged : PySem.W.nsIn K mainGlobals "_law_unchanged" = some (some (.ref a_Lunchanged)))
    {a_Ltake_file : Addr}
    {od_Ltake_file an_Ltake_file : Option Addr} {sl_Ltake_file : Array (Option Value)} {oc_Ltake_file kV_Ltake_file dc_Ltake_file pm_Ltake_file cd_Ltake_file ct_Ltake_file : Value}
    (l_Ltake_file : K.lookup a_Ltake_file = some ⟨oc_Ltake_file, od_Ltake_file, .func (PySem.W.fnOf "_law_take_file" "_law_take_file" (defArgs s_Ltake_file) (defBody s_Ltake_file) (defScope s_Ltake_file) .none kV_Ltake_file dc_Ltake_file pm_Ltake_file an_Ltake_file cd_Ltake_file ct_Ltake_file), sl_Ltake_file⟩)
    (c_Ltake_file : PySem.W.codeIn K cd_Ltake_file "_law_take_file" = true)
    (k_Ltake_file : PySem.W.keepIn K (.ref a_Ltake_file) = true)
    (g_Ltake_file : PySem.W.nsIn K mainGlobals "_law_take_file" = some (some (.ref a_Ltake_file)))
    {a_Ltake_folder : Addr}
    {od_Ltake_folder an_Ltake_folder : Option Addr} {sl_Ltake_folder : Array (Option Value)} {oc_Ltake_folder kV_Ltake_folder dc_Ltake_folder pm_Ltake_folder cd_Ltake_folder ct_Ltake_folder : Value}
    (l_Ltake_folder : K.lookup a_Ltake_folder = some ⟨oc_Ltake_folder, od_Ltake_folder, .func (PySem.W.fnOf "_law_take_folder" "_law_take_folder" (defArgs s_Ltake_folder) (defBody s_Ltake_folder) (defScope s_Ltake_folder) .none kV_Ltake_folder dc_Ltake_folder pm_Ltake_folder an_Ltake_folder cd_Ltake_folder ct_Ltake_folder), sl_Ltake_folder⟩)
    (c_Ltake_folder : PySem.W.codeIn K cd_Ltake_folder "_law_take_folder" = true)
    (k_Ltake_folder : PySem.W.keepIn K (.ref a_Ltake_folder) = true)
    (g_Ltake_folder : PySem.W.nsIn K mainGlobals "_law_take_folder" = some (some (.ref a_Ltake_folder)))
    {a_Ldrop : Addr}
    {od_Ldrop an_Ldrop : Option Addr} {sl_Ldrop : Array (Option Value)} {oc_Ldrop kV_Ldrop dc_Ldrop pm_Ldrop cd_Ldrop ct_Ldrop : Value}
    (l_Ldrop : K.lookup a_Ldrop = some ⟨oc_Ldrop, od_Ldrop, .func (PySem.W.fnOf "_law_drop" "_law_drop" (defArgs s_Ldrop) (defBody s_Ldrop) (defScope s_Ldrop) .none kV_Ldrop dc_Ldrop pm_Ldrop an_Ldrop cd_Ldrop ct_Ldrop), sl_Ldrop⟩)
    (c_Ldrop : PySem.W.codeIn K cd_Ldrop "_law_drop" = true)
    (k_Ldrop : PySem.W.keepIn K (.ref a_Ldrop) = true)
    (g_Ldrop : PySem.W.nsIn K mainGlobals "_law_drop" = some (some (.ref a_Ldrop)))
    {a_Lstep : Addr}
    {od_Lstep an_Lstep : Option Addr} {sl_Lstep : Array (Option Value)} {oc_Lstep kV_Lstep dc_Lstep pm_Lstep cd_Lstep ct_Lstep : Value}
    (l_Lstep : K.lookup a_Lstep = some ⟨oc_Lstep, od_Lstep, .func (PySem.W.fnOf "_law_step" "_law_step" (defArgs s_Lstep) (defBody s_Lstep) (defScope s_Lstep) .none kV_Lstep dc_Lstep pm_Lstep an_Lstep cd_Lstep ct_Lstep), sl_Lstep⟩)
    (c_Lstep : PySem.W.codeIn K cd_Lstep "_law_step" = true)
    (k_Lstep : PySem.W.keepIn K (.ref a_Lstep) = true)
    (g_Lstep : PySem.W.nsIn K mainGlobals "_law_step" = some (some (.ref a_Lstep)))
    {a_law : Addr}
    {od_law an_law : Option Addr} {sl_law : Array (Option Value)} {oc_law kV_law dc_law pm_law cd_law ct_law : Value}
    (l_law : K.lookup a_law = some ⟨oc_law, od_law, .func (PySem.W.fnOf "law" "law" (defArgs s_law) (defBody s_law) (defScope s_law) .none kV_law dc_law pm_law an_law cd_law ct_law), sl_law⟩)
    (c_law : PySem.W.codeIn K cd_law "law" = true)
    (k_law : PySem.W.keepIn K (.ref a_law) = true)
    (g_law : PySem.W.nsIn K mainGlobals "law" = some (some (.ref a_law)))
    {a_Plan___init__ : Addr}
    {od_Plan___init__ an_Plan___init__ : Option Addr} {sl_Plan___init__ : Array (Option Value)} {oc_Plan___init__ kV_Plan___init__ dc_Plan___init__ pm_Plan___init__ cd_Plan___init__ ct_Plan___init__ : Value}
    (l_Plan___init__ : K.lookup a_Plan___init__ = some ⟨oc_Plan___init__, od_Plan___init__, .func (PySem.W.fnOf "__init__" "Plan.__init__" (defArgs s_Plan___init__) (defBody s_Plan___init__) (defScope s_Plan___init__) .none kV_Plan___init__ dc_Plan___init__ pm_Plan___init__ an_Plan___init__ cd_Plan___init__ ct_Plan___init__), sl_Plan___init__⟩)
    (c_Plan___init__ : PySem.W.codeIn K cd_Plan___init__ "Plan.__init__" = true)
    (k_Plan___init__ : PySem.W.keepIn K (.ref a_Plan___init__) = true)
    {a_Plan_map_place : Addr}
    {od_Plan_map_place an_Plan_map_place : Option Addr} {sl_Plan_map_place : Array (Option Value)} {oc_Plan_map_place kV_Plan_map_place dc_Plan_map_place pm_Plan_map_place cd_Plan_map_place ct_Plan_map_place : Value}
    (l_Plan_map_place : K.lookup a_Plan_map_place = some ⟨oc_Plan_map_place, od_Plan_map_place, .func (PySem.W.fnOf "map_place" "Plan.map_place" (defArgs s_Plan_map_place) (defBody s_Plan_map_place) (defScope s_Plan_map_place) .none kV_Plan_map_place dc_Plan_map_place pm_Plan_map_place an_Plan_map_place cd_Plan_map_place ct_Plan_map_place), sl_Plan_map_place⟩)
    (c_Plan_map_place : PySem.W.codeIn K cd_Plan_map_place "Plan.map_place" = true)
    (k_Plan_map_place : PySem.W.keepIn K (.ref a_Plan_map_place) = true)
    {a_Plan_node_block : Addr}
    {od_Plan_node_block an_Plan_node_block : Option Addr} {sl_Plan_node_block : Array (Option Value)} {oc_Plan_node_block kV_Plan_node_block dc_Plan_node_block pm_Plan_node_block cd_Plan_node_block ct_Plan_node_block : Value}
    (l_Plan_node_block : K.lookup a_Plan_node_block = some ⟨oc_Plan_node_block, od_Plan_node_block, .func (PySem.W.fnOf "node_block" "Plan.node_block" (defArgs s_Plan_node_block) (defBody s_Plan_node_block) (defScope s_Plan_node_block) .none kV_Plan_node_block dc_Plan_node_block pm_Plan_node_block an_Plan_node_block cd_Plan_node_block ct_Plan_node_block), sl_Plan_node_block⟩)
    (c_Plan_node_block : PySem.W.codeIn K cd_Plan_node_block "Plan.node_block" = true)
    (k_Plan_node_block : PySem.W.keepIn K (.ref a_Plan_node_block) = true)
    {a_Plan_data_blocks : Addr}
    {od_Plan_data_blocks an_Plan_data_blocks : Option Addr} {sl_Plan_data_blocks : Array (Option Value)} {oc_Plan_data_blocks kV_Plan_data_blocks dc_Plan_data_blocks pm_Plan_data_blocks cd_Plan_data_blocks ct_Plan_data_blocks : Value}
    (l_Plan_data_blocks : K.lookup a_Plan_data_blocks = some ⟨oc_Plan_data_blocks, od_Plan_data_blocks, .func (PySem.W.fnOf "data_blocks" "Plan.data_blocks" (defArgs s_Plan_data_blocks) (defBody s_Plan_data_blocks) (defScope s_Plan_data_blocks) .none kV_Plan_data_blocks dc_Plan_data_blocks pm_Plan_data_blocks an_Plan_data_blocks cd_Plan_data_blocks ct_Plan_data_blocks), sl_Plan_data_blocks⟩)
    (c_Plan_data_blocks : PySem.W.codeIn K cd_Plan_data_blocks "Plan.data_blocks" = true)
    (k_Plan_data_blocks : PySem.W.keepIn K (.ref a_Plan_data_blocks) = true)
    {a_Image___init__ : Addr}
    {od_Image___init__ an_Image___init__ : Option Addr} {sl_Image___init__ : Array (Option Value)} {oc_Image___init__ kV_Image___init__ dc_Image___init__ pm_Image___init__ cd_Image___init__ ct_Image___init__ : Value}
    (l_Image___init__ : K.lookup a_Image___init__ = some ⟨oc_Image___init__, od_Image___init__, .func (PySem.W.fnOf "__init__" "Image.__init__" (defArgs s_Image___init__) (defBody s_Image___init__) (defScope s_Image___init__) .none kV_Image___init__ dc_Image___init__ pm_Image___init__ an_Image___init__ cd_Image___init__ ct_Image___init__), sl_Image___init__⟩)
    (c_Image___init__ : PySem.W.codeIn K cd_Image___init__ "Image.__init__" = true)
    (k_Image___init__ : PySem.W.keepIn K (.ref a_Image___init__) = true)
    {a_Image_begin : Addr}
    {od_Image_begin an_Image_begin : Option Addr} {sl_Image_begin : Array (Option Value)} {oc_Image_begin kV_Image_begin dc_Image_begin pm_Image_begin cd_Image_begin ct_Image_begin : Value}
    (l_Image_begin : K.lookup a_Image_begin = some ⟨oc_Image_begin, od_Image_begin, .func (PySem.W.fnOf "begin" "Image.begin" (defArgs s_Image_begin) (defBody s_Image_begin) (defScope s_Image_begin) .none kV_Image_begin dc_Image_begin pm_Image_begin an_Image_begin cd_Image_begin ct_Image_begin), sl_Image_begin⟩)
    (c_Image_begin : PySem.W.codeIn K cd_Image_begin "Image.begin" = true)
    (k_Image_begin : PySem.W.keepIn K (.ref a_Image_begin) = true)
    {a_Image_twin : Addr}
    {od_Image_twin an_Image_twin : Option Addr} {sl_Image_twin : Array (Option Value)} {oc_Image_twin kV_Image_twin dc_Image_twin pm_Image_twin cd_Image_twin ct_Image_twin : Value}
    (l_Image_twin : K.lookup a_Image_twin = some ⟨oc_Image_twin, od_Image_twin, .func (PySem.W.fnOf "twin" "Image.twin" (defArgs s_Image_twin) (defBody s_Image_twin) (defScope s_Image_twin) .none kV_Image_twin dc_Image_twin pm_Image_twin an_Image_twin cd_Image_twin ct_Image_twin), sl_Image_twin⟩)
    (c_Image_twin : PySem.W.codeIn K cd_Image_twin "Image.twin" = true)
    (k_Image_twin : PySem.W.keepIn K (.ref a_Image_twin) = true)
    {a_Image_take : Addr}
    {od_Image_take an_Image_take : Option Addr} {sl_Image_take : Array (Option Value)} {oc_Image_take kV_Image_take dc_Image_take pm_Image_take cd_Image_take ct_Image_take : Value}
    (l_Image_take : K.lookup a_Image_take = some ⟨oc_Image_take, od_Image_take, .func (PySem.W.fnOf "take" "Image.take" (defArgs s_Image_take) (defBody s_Image_take) (defScope s_Image_take) .none kV_Image_take dc_Image_take pm_Image_take an_Image_take cd_Image_take ct_Image_take), sl_Image_take⟩)
    (c_Image_take : PySem.W.codeIn K cd_Image_take "Image.take" = true)
    (k_Image_take : PySem.W.keepIn K (.ref a_Image_take) = true)
    {a_Image_give : Addr}
    {od_Image_give an_Image_give : Option Addr} {sl_Image_give : Array (Option Value)} {oc_Image_give kV_Image_give dc_Image_give pm_Image_give cd_Image_give ct_Image_give : Value}
    (l_Image_give : K.lookup a_Image_give = some ⟨oc_Image_give, od_Image_give, .func (PySem.W.fnOf "give" "Image.give" (defArgs s_Image_give) (defBody s_Image_give) (defScope s_Image_give) .none kV_Image_give dc_Image_give pm_Image_give an_Image_give cd_Image_give ct_Image_give), sl_Image_give⟩)
    (c_Image_give : PySem.W.codeIn K cd_Image_give "Image.give" = true)
    (k_Image_give : PySem.W.keepIn K (.ref a_Image_give) = true)
    {a_Image__put_block : Addr}
    {od_Image__put_block an_Image__put_block : Option Addr} {sl_Image__put_block : Array (Option Value)} {oc_Image__put_block kV_Image__put_block dc_Image__put_block pm_Image__put_block cd_Image__put_block ct_Image__put_block : Value}
    (l_Image__put_block : K.lookup a_Image__put_block = some ⟨oc_Image__put_block, od_Image__put_block, .func (PySem.W.fnOf "_put_block" "Image._put_block" (defArgs s_Image__put_block) (defBody s_Image__put_block) (defScope s_Image__put_block) .none kV_Image__put_block dc_Image__put_block pm_Image__put_block an_Image__put_block cd_Image__put_block ct_Image__put_block), sl_Image__put_block⟩)
    (c_Image__put_block : PySem.W.codeIn K cd_Image__put_block "Image._put_block" = true)
    (k_Image__put_block : PySem.W.keepIn K (.ref a_Image__put_block) = true)
    {a_Image_free_blocks : Addr}
    {od_Image_free_blocks an_Image_free_blocks : Option Addr} {sl_Image_free_blocks : Array (Option Value)} {oc_Image_free_blocks kV_Image_free_blocks dc_Image_free_blocks pm_Image_free_blocks cd_Image_free_blocks ct_Image_free_blocks : Value}
    (l_Image_free_blocks : K.lookup a_Image_free_blocks = some ⟨oc_Image_free_blocks, od_Image_free_blocks, .func (PySem.W.fnOf "free_blocks" "Image.free_blocks" (defArgs s_Image_free_blocks) (defBody s_Image_free_blocks) (defScope s_Image_free_blocks) .none kV_Image_free_blocks dc_Image_free_blocks pm_Image_free_blocks an_Image_free_blocks cd_Image_free_blocks ct_Image_free_blocks), sl_Image_free_blocks⟩)
    (c_Image_free_blocks : PySem.W.codeIn K cd_Image_free_blocks "Image.free_blocks" = true)
    (k_Image_free_blocks : PySem.W.keepIn K (.ref a_Image_free_blocks) = true)
    {a_Image_kind : Addr}
    {od_Image_kind an_Image_kind : Option Addr} {sl_Image_kind : Array (Option Value)} {oc_Image_kind kV_Image_kind dc_Image_kind pm_Image_kind cd_Image_kind ct_Image_kind : Value}
    (l_Image_kind : K.lookup a_Image_kind = some ⟨oc_Image_kind, od_Image_kind, .func (PySem.W.fnOf "kind" "Image.kind" (defArgs s_Image_kind) (defBody s_Image_kind) (defScope s_Image_kind) .none kV_Image_kind dc_Image_kind pm_Image_kind an_Image_kind cd_Image_kind ct_Image_kind), sl_Image_kind⟩)
    (c_Image_kind : PySem.W.codeIn K cd_Image_kind "Image.kind" = true)
    (k_Image_kind : PySem.W.keepIn K (.ref a_Image_kind) = true)
    {a_Image_fresh : Addr}
    {od_Image_fresh an_Image_fresh : Option Addr} {sl_Image_fresh : Array (Option Value)} {oc_Image_fresh kV_Image_fresh dc_Image_fresh pm_Image_fresh cd_Image_fresh ct_Image_fresh : Value}
    (l_Image_fresh : K.lookup a_Image_fresh = some ⟨oc_Image_fresh, od_Image_fresh, .func (PySem.W.fnOf "fresh" "Image.fresh" (defArgs s_Image_fresh) (defBody s_Image_fresh) (defScope s_Image_fresh) .none kV_Image_fresh dc_Image_fresh pm_Image_fresh an_Image_fresh cd_Image_fresh ct_Image_fresh), sl_Image_fresh⟩)
    (c_Image_fresh : PySem.W.codeIn K cd_Image_fresh "Image.fresh" = true)
    (k_Image_fresh : PySem.W.keepIn K (.ref a_Image_fresh) = true)
    {a_Image_of_cells : Addr}
    {od_Image_of_cells an_Image_of_cells : Option Addr} {sl_Image_of_cells : Array (Option Value)} {oc_Image_of_cells kV_Image_of_cells dc_Image_of_cells pm_Image_of_cells cd_Image_of_cells ct_Image_of_cells : Value}
    (l_Image_of_cells : K.lookup a_Image_of_cells = some ⟨oc_Image_of_cells, od_Image_of_cells, .func (PySem.W.fnOf "of_cells" "Image.of_cells" (defArgs s_Image_of_cells) (defBody s_Image_of_cells) (defScope s_Image_of_cells) .none kV_Image_of_cells dc_Image_of_cells pm_Image_of_cells an_Image_of_cells cd_Image_of_cells ct_Image_of_cells), sl_Image_of_cells⟩)
    (c_Image_of_cells : PySem.W.codeIn K cd_Image_of_cells "Image.of_cells" = true)
    (k_Image_of_cells : PySem.W.keepIn K (.ref a_Image_of_cells) = true)
    {aC_Plan : Addr}
    (g_Plan : PySem.W.nsIn K mainGlobals "Plan" = some (some (.ref aC_Plan)))
    (pg_Plan : PySem.W.plainGet K aC_Plan Str.empty = true)
    (hd_Plan : PySem.W.hasDictIn K aC_Plan = true)
    (po_Plan : PySem.W.plainOver K aC_Plan = true)
    (sa_Plan : PySem.W.findIn K (.ref aC_Plan) "__setattr__" = some (some (.builtin "object.__setattr__")))
    (n_Plan_blocks : PySem.W.findIn K (.ref aC_Plan) "blocks" = some none)
    (n_Plan_nodes : PySem.W.findIn K (.ref aC_Plan) "nodes" = some none)
    (n_Plan_slots : PySem.W.findIn K (.ref aC_Plan) "slots" = some none)
    (n_Plan_maps : PySem.W.findIn K (.ref aC_Plan) "maps" = some none)
    (n_Plan_first_node : PySem.W.findIn K (.ref aC_Plan) "first_node" = some none)
    (n_Plan_first_data : PySem.W.findIn K (.ref aC_Plan) "first_data" = some none)
    (mk1_Plan : PySem.W.makesIn K aC_Plan = true)
    (mk2_Plan : PySem.W.findIn K (.ref aC_Plan) "__init__" = some (some (.ref a_Plan___init__)))
    (mk3_Plan : PySem.W.isFn K (.ref a_Plan___init__) = true)
    (mk4_Plan : PySem.W.keepIn K (.ref aC_Plan) = true)
    {mcv_Plan : Value}
    (tp_Plan : PySem.W.typeIn K (.ref aC_Plan) = some mcv_Plan)
    (rd_Plan : PySem.W.readsIn K aC_Plan mcv_Plan = true)
    (ga_Plan : PySem.W.specialIn K (.ref aC_Plan) "__getattribute__" = some (some (.builtin "type.__getattribute__")))
    {tv_Plan_WIDTH : Tok}
    (v_Plan_WIDTH : PySem.W.findCls K (.ref aC_Plan) mcv_Plan "WIDTH" = some (.val (.int 8 tv_Plan_WIDTH)))
    {tv_Plan_OWNERS : Tok}
    (v_Plan_OWNERS : PySem.W.findCls K (.ref aC_Plan) mcv_Plan "OWNERS" = some (.val (.int 4 tv_Plan_OWNERS)))
    {tv_Plan_FREE : Tok}
    (v_Plan_FREE : PySem.W.findCls K (.ref aC_Plan) mcv_Plan "FREE" = some (.val (.int 0 tv_Plan_FREE)))
    {tv_Plan_LOGGED : Tok}
    (v_Plan_LOGGED : PySem.W.findCls K (.ref aC_Plan) mcv_Plan "LOGGED" = some (.val (.int 1 tv_Plan_LOGGED)))
    {tv_Plan_PLAIN : Tok}
    (v_Plan_PLAIN : PySem.W.findCls K (.ref aC_Plan) mcv_Plan "PLAIN" = some (.val (.int 2 tv_Plan_PLAIN)))
    {tc_Plan_WIDTH : Tok}
    (o_Plan_WIDTH : PySem.W.findIn K (.ref aC_Plan) "WIDTH" = some (some (.int 8 tc_Plan_WIDTH)))
    (og_Plan_WIDTH : PySem.W.specialIn K (.int 8 tc_Plan_WIDTH) "__get__" = some none)
    {aC_Image : Addr}
    (g_Image : PySem.W.nsIn K mainGlobals "Image" = some (some (.ref aC_Image)))
    (pg_Image : PySem.W.plainGet K aC_Image Str.empty = true)
    (hd_Image : PySem.W.hasDictIn K aC_Image = true)
    (po_Image : PySem.W.plainOver K aC_Image = true)
    (sa_Image : PySem.W.findIn K (.ref aC_Image) "__setattr__" = some (some (.builtin "object.__setattr__")))
    (n_Image_plan : PySem.W.findIn K (.ref aC_Image) "plan" = some none)
    (n_Image_cells : PySem.W.findIn K (.ref aC_Image) "cells" = some none)
    (n_Image_holdings : PySem.W.findIn K (.ref aC_Image) "holdings" = some none)
    (n_Image_stamps : PySem.W.findIn K (.ref aC_Image) "stamps" = some none)
    (n_Image_handles : PySem.W.findIn K (.ref aC_Image) "handles" = some none)
    (n_Image_serial : PySem.W.findIn K (.ref aC_Image) "serial" = some none)
    (n_Image_wish : PySem.W.findIn K (.ref aC_Image) "wish" = some none)
    (n_Image_barred : PySem.W.findIn K (.ref aC_Image) "barred" = some none)
    (mk1_Image : PySem.W.makesIn K aC_Image = true)
    (mk2_Image : PySem.W.findIn K (.ref aC_Image) "__init__" = some (some (.ref a_Image___init__)))
    (mk3_Image : PySem.W.isFn K (.ref a_Image___init__) = true)
    (mk4_Image : PySem.W.keepIn K (.ref aC_Image) = true)
    {mcv_Image : Value}
    (tp_Image : PySem.W.typeIn K (.ref aC_Image) = some mcv_Image)
    (rd_Image : PySem.W.readsIn K aC_Image mcv_Image = true)
    (ga_Image : PySem.W.specialIn K (.ref aC_Image) "__getattribute__" = some (some (.builtin "type.__getattribute__")))
    (m1_Plan_map_place : PySem.W.findIn K (.ref aC_Plan) "map_place" = some (some (.ref a_Plan_map_place)))
    (m2_Plan_map_place : PySem.W.isFn K (.ref a_Plan_map_place) = true)
    (m1_Plan_node_block : PySem.W.findIn K (.ref aC_Plan) "node_block" = some (some (.ref a_Plan_node_block)))
    (m2_Plan_node_block : PySem.W.isFn K (.ref a_Plan_node_block) = true)
    (m1_Plan_data_blocks : PySem.W.findIn K (.ref aC_Plan) "data_blocks" = some (some (.ref a_Plan_data_blocks)))
    (m2_Plan_data_blocks : PySem.W.isFn K (.ref a_Plan_data_blocks) = true)
    (m1_Image_begin : PySem.W.findIn K (.ref aC_Image) "begin" = some (some (.ref a_Image_begin)))
    (m2_Image_begin : PySem.W.isFn K (.ref a_Image_begin) = true)
    (m1_Image_twin : PySem.W.findIn K (.ref aC_Image) "twin" = some (some (.ref a_Image_twin)))
    (m2_Image_twin : PySem.W.isFn K (.ref a_Image_twin) = true)
    (m1_Image_take : PySem.W.findIn K (.ref aC_Image) "take" = some (some (.ref a_Image_take)))
    (m2_Image_take : PySem.W.isFn K (.ref a_Image_take) = true)
    (m1_Image_give : PySem.W.findIn K (.ref aC_Image) "give" = some (some (.ref a_Image_give)))
    (m2_Image_give : PySem.W.isFn K (.ref a_Image_give) = true)
    (m1_Image__put_block : PySem.W.findIn K (.ref aC_Image) "_put_block" = some (some (.ref a_Image__put_block)))
    (m2_Image__put_block : PySem.W.isFn K (.ref a_Image__put_block) = true)
    (m1_Image_free_blocks : PySem.W.findIn K (.ref aC_Image) "free_blocks" = some (some (.ref a_Image_free_blocks)))
    (m2_Image_free_blocks : PySem.W.isFn K (.ref a_Image_free_blocks) = true)
    (m1_Image_kind : PySem.W.findIn K (.ref aC_Image) "kind" = some (some (.ref a_Image_kind)))
    (m2_Image_kind : PySem.W.isFn K (.ref a_Image_kind) = true)
    {sp_Image_fresh : Addr} {sr_Image_fresh : List Value}
    (s1_Image_fresh : PySem.W.findCls K (.ref aC_Image) mcv_Image "fresh" = some (.get (.builtin "staticmethod.__get__") (.ref sp_Image_fresh) .none (.ref aC_Image)))
    (s2_Image_fresh : PySem.W.recIn K sp_Image_fresh "staticmethod" = some (.ref a_Image_fresh :: sr_Image_fresh))
    {sp_Image_of_cells : Addr} {sr_Image_of_cells : List Value}
    (s1_Image_of_cells : PySem.W.findCls K (.ref aC_Image) mcv_Image "of_cells" = some (.get (.builtin "staticmethod.__get__") (.ref sp_Image_of_cells) .none (.ref aC_Image)))
    (s2_Image_of_cells : PySem.W.recIn K sp_Image_of_cells "staticmethod" = some (.ref a_Image_of_cells :: sr_Image_of_cells))
    {aC_Refused : Addr}
    (g_Refused : PySem.W.nsIn K mainGlobals "Refused" = some (some (.ref aC_Refused)))
    (be1_Refused : PySem.W.subIn K (.ref aC_Refused) (.type "BaseException") = some true)
    (te1_Refused : PySem.W.typeIn K (.ref aC_Refused) = some (.type "type"))
    (ie1_Refused : PySem.W.isClsIn K aC_Refused = true)
    {aC_NodesFull : Addr}
    (g_NodesFull : PySem.W.nsIn K mainGlobals "NodesFull" = some (some (.ref aC_NodesFull)))
    (be1_NodesFull : PySem.W.subIn K (.ref aC_NodesFull) (.type "BaseException") = some true)
    (te1_NodesFull : PySem.W.typeIn K (.ref aC_NodesFull) = some (.type "type"))
    (ie1_NodesFull : PySem.W.isClsIn K aC_NodesFull = true)
    (xe1_NodesFull : PySem.W.excIn K aC_NodesFull [.type "ValueError", .type "Exception", .type "BaseException", .type "object"] "ValueError.__new__" = true)
    (ke1_NodesFull : PySem.W.keepIn K (.ref aC_NodesFull) = true)
    (ec1_NodesFull : PySem.W.findIn K (.ref aC_NodesFull) "__getattribute__" = some (some (.builtin "BaseException.__getattribute__")))
    (ec2_NodesFull : PySem.W.findIn K (.ref aC_NodesFull) "__getattr__" = some none)
    (ec4_NodesFull : PySem.W.hasDictIn K aC_NodesFull = true)
    (ec5_NodesFull : PySem.W.findIn K (.ref aC_NodesFull) "__class__" = some (some (.builtin "object.__class__")))
    (ec6_NodesFull : PySem.W.specialIn K (.builtin "object.__class__") "__get__" = some (some (.builtin "getset_descriptor.__get__")))
    (ec7_NodesFull : PySem.W.takesIn K (.builtin "object.__class__") = some true)
    (ec8_NodesFull : PySem.W.mroIn K aC_NodesFull (.type "object") = some true)
    {aC_BlocksFull : Addr}
    (g_BlocksFull : PySem.W.nsIn K mainGlobals "BlocksFull" = some (some (.ref aC_BlocksFull)))
    (be1_BlocksFull : PySem.W.subIn K (.ref aC_BlocksFull) (.type "BaseException") = some true)
    (te1_BlocksFull : PySem.W.typeIn K (.ref aC_BlocksFull) = some (.type "type"))
    (ie1_BlocksFull : PySem.W.isClsIn K aC_BlocksFull = true)
    (xe1_BlocksFull : PySem.W.excIn K aC_BlocksFull [.type "ValueError", .type "Exception", .type "BaseException", .type "object"] "ValueError.__new__" = true)
    (ke1_BlocksFull : PySem.W.keepIn K (.ref aC_BlocksFull) = true)
    (ec1_BlocksFull : PySem.W.findIn K (.ref aC_BlocksFull) "__getattribute__" = some (some (.builtin "BaseException.__getattribute__")))
    (ec2_BlocksFull : PySem.W.findIn K (.ref aC_BlocksFull) "__getattr__" = some none)
    (ec4_BlocksFull : PySem.W.hasDictIn K aC_BlocksFull = true)
    (ec5_BlocksFull : PySem.W.findIn K (.ref aC_BlocksFull) "__class__" = some (some (.builtin "object.__class__")))
    (ec6_BlocksFull : PySem.W.specialIn K (.builtin "object.__class__") "__get__" = some (some (.builtin "getset_descriptor.__get__")))
    (ec7_BlocksFull : PySem.W.takesIn K (.builtin "object.__class__") = some true)
    (ec8_BlocksFull : PySem.W.mroIn K aC_BlocksFull (.type "object") = some true)
    {aC_OverQuota : Addr}
    (g_OverQuota : PySem.W.nsIn K mainGlobals "OverQuota" = some (some (.ref aC_OverQuota)))
    (be1_OverQuota : PySem.W.subIn K (.ref aC_OverQuota) (.type "BaseException") = some true)
    (te1_OverQuota : PySem.W.typeIn K (.ref aC_OverQuota) = some (.type "type"))
    (ie1_OverQuota : PySem.W.isClsIn K aC_OverQuota = true)
    (xe1_OverQuota : PySem.W.excIn K aC_OverQuota [.type "ValueError", .type "Exception", .type "BaseException", .type "object"] "ValueError.__new__" = true)
    (ke1_OverQuota : PySem.W.keepIn K (.ref aC_OverQuota) = true)
    (ec1_OverQuota : PySem.W.findIn K (.ref aC_OverQuota) "__getattribute__" = some (some (.builtin "BaseException.__getattribute__")))
    (ec2_OverQuota : PySem.W.findIn K (.ref aC_OverQuota) "__getattr__" = some none)
    (ec4_OverQuota : PySem.W.hasDictIn K aC_OverQuota = true)
    (ec5_OverQuota : PySem.W.findIn K (.ref aC_OverQuota) "__class__" = some (some (.builtin "object.__class__")))
    (ec6_OverQuota : PySem.W.specialIn K (.builtin "object.__class__") "__get__" = some (some (.builtin "getset_descriptor.__get__")))
    (ec7_OverQuota : PySem.W.takesIn K (.builtin "object.__class__") = some true)
    (ec8_OverQuota : PySem.W.mroIn K aC_OverQuota (.type "object") = some true)
    (sb_NodesFull_Refused : PySem.W.subIn K (.ref aC_NodesFull) (.ref aC_Refused) = some true)
    (sb_NodesFull_BlocksFull : PySem.W.subIn K (.ref aC_NodesFull) (.ref aC_BlocksFull) = some false)
    (sb_NodesFull_OverQuota : PySem.W.subIn K (.ref aC_NodesFull) (.ref aC_OverQuota) = some false)
    (sb_BlocksFull_Refused : PySem.W.subIn K (.ref aC_BlocksFull) (.ref aC_Refused) = some true)
    (sb_BlocksFull_BlocksFull : PySem.W.subIn K (.ref aC_BlocksFull) (.ref aC_BlocksFull) = some true)
    (sb_BlocksFull_OverQuota : PySem.W.subIn K (.ref aC_BlocksFull) (.ref aC_OverQuota) = some false)
    (sb_OverQuota_Refused : PySem.W.subIn K (.ref aC_OverQuota) (.ref aC_Refused) = some true)
    (sb_OverQuota_BlocksFull : PySem.W.subIn K (.ref aC_OverQuota) (.ref aC_BlocksFull) = some false)
    (sb_OverQuota_OverQuota : PySem.W.subIn K (.ref aC_OverQuota) (.ref aC_OverQuota) = some true)
    {t_SUMS_BLOCK : Tok}
    (gc_SUMS_BLOCK : PySem.W.nsIn K mainGlobals "SUMS_BLOCK" = some (some (.int 0 t_SUMS_BLOCK)))
    {t_ROOT : Tok}
    (gc_ROOT : PySem.W.nsIn K mainGlobals "ROOT" = some (some (.int 1 t_ROOT)))
    {t_KIND : Tok}
    (gc_KIND : PySem.W.nsIn K mainGlobals "KIND" = some (some (.int 0 t_KIND)))
    {t_LINKS : Tok}
    (gc_LINKS : PySem.W.nsIn K mainGlobals "LINKS" = some (some (.int 1 t_LINKS)))
    {t_OWNER : Tok}
    (gc_OWNER : PySem.W.nsIn K mainGlobals "OWNER" = some (some (.int 3 t_OWNER)))
    {t_FIRST_PLACE : Tok}
    (gc_FIRST_PLACE : PySem.W.nsIn K mainGlobals "FIRST_PLACE" = some (some (.int 4 t_FIRST_PLACE)))
    {t_PLACES : Tok}
    (gc_PLACES : PySem.W.nsIn K mainGlobals "PLACES" = some (some (.int 6 t_PLACES)))
    {t_MAKING : Tok}
    (gc_MAKING : PySem.W.nsIn K mainGlobals "MAKING" = some (some (.int 7 t_MAKING)))
    {t_UNMADE : Tok}
    (gc_UNMADE : PySem.W.nsIn K mainGlobals "UNMADE" = some (some (.int 0 t_UNMADE)))
    {t_FOLDER : Tok}
    (gc_FOLDER : PySem.W.nsIn K mainGlobals "FOLDER" = some (some (.int 2 t_FOLDER)))
    {t_LEAST_BLOCKS : Tok}
    (gc_LEAST_BLOCKS : PySem.W.nsIn K mainGlobals "LEAST_BLOCKS" = some (some (.int 8 t_LEAST_BLOCKS)))
    {t_MOST_BLOCKS : Tok}
    (gc_MOST_BLOCKS : PySem.W.nsIn K mainGlobals "MOST_BLOCKS" = some (some (.int 64 t_MOST_BLOCKS)))
    {t_LEAST_NODES : Tok}
    (gc_LEAST_NODES : PySem.W.nsIn K mainGlobals "LEAST_NODES" = some (some (.int 2 t_LEAST_NODES)))
    {t_MOST_NODES : Tok}
    (gc_MOST_NODES : PySem.W.nsIn K mainGlobals "MOST_NODES" = some (some (.int 16 t_MOST_NODES)))
    {t_MOST_SLOTS : Tok}
    (gc_MOST_SLOTS : PySem.W.nsIn K mainGlobals "MOST_SLOTS" = some (some (.int 200 t_MOST_SLOTS)))
    {t_LEAST_DATA : Tok}
    (gc_LEAST_DATA : PySem.W.nsIn K mainGlobals "LEAST_DATA" = some (some (.int 2 t_LEAST_DATA)))
    {t_FIRST_MAP : Tok}
    (gc_FIRST_MAP : PySem.W.nsIn K mainGlobals "FIRST_MAP" = some (some (.int 2 t_FIRST_MAP)))
    {t_PLACE_COUNT : Tok}
    (gc_PLACE_COUNT : PySem.W.nsIn K mainGlobals "PLACE_COUNT" = some (some (.int 10 t_PLACE_COUNT)))
    {t_NODE_PLACES : Tok}
    (gc_NODE_PLACES : PySem.W.nsIn K mainGlobals "NODE_PLACES" = some (some (.int 2 t_NODE_PLACES)))
    (nb_abs : PySem.W.nsIn K mainGlobals "abs" = some none)
    (nb_any : PySem.W.nsIn K mainGlobals "any" = some none)
    (nb_bool : PySem.W.nsIn K mainGlobals "bool" = some none)
    (nb_dict : PySem.W.nsIn K mainGlobals "dict" = some none)
    (nb_int : PySem.W.nsIn K mainGlobals "int" = some none)
    (nb_isinstance : PySem.W.nsIn K mainGlobals "isinstance" = some none)
    (nb_len : PySem.W.nsIn K mainGlobals "len" = some none)
    (nb_list : PySem.W.nsIn K mainGlobals "list" = some none)
    (nb_range : PySem.W.nsIn K mainGlobals "range" = some none)
    (nb_tuple : PySem.W.nsIn K mainGlobals "tuple" = some none)
    : Nonempty (Tx K mg) := ⟨{
      f_node_cell := a_node_cell,
      fd_node_cell := PySem.W.fnOf "node_cell" "node_cell" (defArgs s_node_cell) (defBody s_node_cell) (defScope s_node_cell) .none kV_node_cell dc_node_cell pm_node_cell an_node_cell cd_node_cell ct_node_cell,
      F_node_cell := fun_mk (st := s_node_cell) l_node_cell c_node_cell k_node_cell,
      mg_node_cell := PySem.W.mg_of X G g_node_cell,
      f_put_node_cell := a_put_node_cell,
      fd_put_node_cell := PySem.W.fnOf "put_node_cell" "put_node_cell" (defArgs s_put_node_cell) (defBody s_put_node_cell) (defScope s_put_node_cell) .none kV_put_node_cell dc_put_node_cell pm_put_node_cell an_put_node_cell cd_put_node_cell ct_put_node_cell,
      F_put_node_cell := fun_mk (st := s_put_node_cell) l_put_node_cell c_put_node_cell k_put_node_cell,
      mg_put_node_cell := PySem.W.mg_of X G g_put_node_cell,
      f_is_made := a_is_made,
      fd_is_made := PySem.W.fnOf "is_made" "is_made" (defArgs s_is_made) (defBody s_is_made) (defScope s_is_made) .none kV_is_made dc_is_made pm_is_made an_is_made cd_is_made ct_is_made,
      F_is_made := fun_mk (st := s_is_made) l_is_made c_is_made k_is_made,
      mg_is_made := PySem.W.mg_of X G g_is_made,
      f_make_node := a_make_node,
      fd_make_node := PySem.W.fnOf "make_node" "make_node" (defArgs s_make_node) (defBody s_make_node) (defScope s_make_node) .none kV_make_node dc_make_node pm_make_node an_make_node cd_make_node ct_make_node,
      F_make_node := fun_mk (st := s_make_node) l_make_node c_make_node k_make_node,
      mg_make_node := PySem.W.mg_of X G g_make_node,
      f_unmake_node := a_unmake_node,
      fd_unmake_node := PySem.W.fnOf "unmake_node" "unmake_node" (defArgs s_unmake_node) (defBody s_unmake_node) (defScope s_unmake_node) .none kV_unmake_node dc_unmake_node pm_unmake_node an_unmake_node cd_unmake_node ct_unmake_node,
      F_unmake_node := fun_mk (st := s_unmake_node) l_unmake_node c_unmake_node k_unmake_node,
      mg_unmake_node := PySem.W.mg_of X G g_unmake_node,
      f_place_block := a_place_block,
      fd_place_block := PySem.W.fnOf "place_block" "place_block" (defArgs s_place_block) (defBody s_place_block) (defScope s_place_block) .none kV_place_block dc_place_block pm_place_block an_place_block cd_place_block ct_place_block,
      F_place_block := fun_mk (st := s_place_block) l_place_block c_place_block k_place_block,
      mg_place_block := PySem.W.mg_of X G g_place_block,
      f_put_place := a_put_place,
      fd_put_place := PySem.W.fnOf "put_place" "put_place" (defArgs s_put_place) (defBody s_put_place) (defScope s_put_place) .none kV_put_place dc_put_place pm_put_place an_put_place cd_put_place ct_put_place,
      F_put_place := fun_mk (st := s_put_place) l_put_place c_put_place k_put_place,
      mg_put_place := PySem.W.mg_of X G g_put_place,
      f_needs_block_of_places := a_needs_block_of_places,
      fd_needs_block_of_places := PySem.W.fnOf "_needs_block_of_places" "_needs_block_of_places" (defArgs s_needs_block_of_places) (defBody s_needs_block_of_places) (defScope s_needs_block_of_places) .none kV_needs_block_of_places dc_needs_block_of_places pm_needs_block_of_places an_needs_block_of_places cd_needs_block_of_places ct_needs_block_of_places,
      F_needs_block_of_places := fun_mk (st := s_needs_block_of_places) l_needs_block_of_places c_needs_block_of_places k_needs_block_of_places,
      mg_needs_block_of_places := PySem.W.mg_of X G g_needs_block_of_places,
      f_fill_place := a_fill_place,
      fd_fill_place := PySem.W.fnOf "_fill_place" "_fill_place" (defArgs s_fill_place) (defBody s_fill_place) (defScope s_fill_place) .none kV_fill_place dc_fill_place pm_fill_place an_fill_place cd_fill_place ct_fill_place,
      F_fill_place := fun_mk (st := s_fill_place) l_fill_place c_fill_place k_fill_place,
      mg_fill_place := PySem.W.mg_of X G g_fill_place,
      f_take_place := a_take_place,
      fd_take_place := PySem.W.fnOf "take_place" "take_place" (defArgs s_take_place) (defBody s_take_place) (defScope s_take_place) .none kV_take_place dc_take_place pm_take_place an_take_place cd_take_place ct_take_place,
      F_take_place := fun_mk (st := s_take_place) l_take_place c_take_place k_take_place,
      mg_take_place := PySem.W.mg_of X G g_take_place,
      f_take_logged := a_take_logged,
      fd_take_logged := PySem.W.fnOf "take_logged" "take_logged" (defArgs s_take_logged) (defBody s_take_logged) (defScope s_take_logged) .none kV_take_logged dc_take_logged pm_take_logged an_take_logged cd_take_logged ct_take_logged,
      F_take_logged := fun_mk (st := s_take_logged) l_take_logged c_take_logged k_take_logged,
      mg_take_logged := PySem.W.mg_of X G g_take_logged,
      f_drop_block_of_places := a_drop_block_of_places,
      fd_drop_block_of_places := PySem.W.fnOf "_drop_block_of_places" "_drop_block_of_places" (defArgs s_drop_block_of_places) (defBody s_drop_block_of_places) (defScope s_drop_block_of_places) .none kV_drop_block_of_places dc_drop_block_of_places pm_drop_block_of_places an_drop_block_of_places cd_drop_block_of_places ct_drop_block_of_places,
      F_drop_block_of_places := fun_mk (st := s_drop_block_of_places) l_drop_block_of_places c_drop_block_of_places k_drop_block_of_places,
      mg_drop_block_of_places := PySem.W.mg_of X G g_drop_block_of_places,
      f_drop_place := a_drop_place,
      fd_drop_place := PySem.W.fnOf "drop_place" "drop_place" (defArgs s_drop_place) (defBody s_drop_place) (defScope s_drop_place) .none kV_drop_place dc_drop_place pm_drop_place an_drop_place cd_drop_place ct_drop_place,
      F_drop_place := fun_mk (st := s_drop_place) l_drop_place c_drop_place k_drop_place,
      mg_drop_place := PySem.W.mg_of X G g_drop_place,
      f_held_blocks := a_held_blocks,
      fd_held_blocks := PySem.W.fnOf "held_blocks" "held_blocks" (defArgs s_held_blocks) (defBody s_held_blocks) (defScope s_held_blocks) .none kV_held_blocks dc_held_blocks pm_held_blocks an_held_blocks cd_held_blocks ct_held_blocks,
      F_held_blocks := fun_mk (st := s_held_blocks) l_held_blocks c_held_blocks k_held_blocks,
      mg_held_blocks := PySem.W.mg_of X G g_held_blocks,
      f_Lfeed := a_Lfeed,
      fd_Lfeed := PySem.W.fnOf "_law_feed" "_law_feed" (defArgs s_Lfeed) (defBody s_Lfeed) (defScope s_Lfeed) .none kV_Lfeed dc_Lfeed pm_Lfeed an_Lfeed cd_Lfeed ct_Lfeed,
      F_Lfeed := fun_mk (st := s_Lfeed) l_Lfeed c_Lfeed k_Lfeed,
      mg_Lfeed := PySem.W.mg_of X G g_Lfeed,
      f_Lpick := a_Lpick,
      fd_Lpick := PySem.W.fnOf "_law_pick" "_law_pick" (defArgs s_Lpick) (defBody s_Lpick) (defScope s_Lpick) .none kV_Lpick dc_Lpick pm_Lpick an_Lpick cd_Lpick ct_Lpick,
      F_Lpick := fun_mk (st := s_Lpick) l_Lpick c_Lpick k_Lpick,
      mg_Lpick := PySem.W.mg_of X G g_Lpick,
      f_Linteger := a_Linteger,
      fd_Linteger := PySem.W.fnOf "_law_integer" "_law_integer" (defArgs s_Linteger) (defBody s_Linteger) (defScope s_Linteger) .none kV_Linteger dc_Linteger pm_Linteger an_Linteger cd_Linteger ct_Linteger,
      F_Linteger := fun_mk (st := s_Linteger) l_Linteger c_Linteger k_Linteger,
      mg_Linteger := PySem.W.mg_of X G g_Linteger,
      f_Lfirst := a_Lfirst,
      fd_Lfirst := PySem.W.fnOf "_law_first" "_law_first" (defArgs s_Lfirst) (defBody s_Lfirst) (defScope s_Lfirst) .none kV_Lfirst dc_Lfirst pm_Lfirst an_Lfirst cd_Lfirst ct_Lfirst,
      F_Lfirst := fun_mk (st := s_Lfirst) l_Lfirst c_Lfirst k_Lfirst,
      mg_Lfirst := PySem.W.mg_of X G g_Lfirst,
      f_Ldue := a_Ldue,
      fd_Ldue := PySem.W.fnOf "_law_due" "_law_due" (defArgs s_Ldue) (defBody s_Ldue) (defScope s_Ldue) .none kV_Ldue dc_Ldue pm_Ldue an_Ldue cd_Ldue ct_Ldue,
      F_Ldue := fun_mk (st := s_Ldue) l_Ldue c_Ldue k_Ldue,
      mg_Ldue := PySem.W.mg_of X G g_Ldue,
      f_Lnote := a_Lnote,
      fd_Lnote := PySem.W.fnOf "_law_note" "_law_note" (defArgs s_Lnote) (defBody s_Lnote) (defScope s_Lnote) .none kV_Lnote dc_Lnote pm_Lnote an_Lnote cd_Lnote ct_Lnote,
      F_Lnote := fun_mk (st := s_Lnote) l_Lnote c_Lnote k_Lnote,
      mg_Lnote := PySem.W.mg_of X G g_Lnote,
      f_Lagrees := a_Lagrees,
      fd_Lagrees := PySem.W.fnOf "_law_agrees" "_law_agrees" (defArgs s_Lagrees) (defBody s_Lagrees) (defScope s_Lagrees) .none kV_Lagrees dc_Lagrees pm_Lagrees an_Lagrees cd_Lagrees ct_Lagrees,
      F_Lagrees := fun_mk (st := s_Lagrees) l_Lagrees c_Lagrees k_Lagrees,
      mg_Lagrees := PySem.W.mg_of X G g_Lagrees,
      f_Lrefused := a_Lrefused,
      fd_Lrefused := PySem.W.fnOf "_law_refused" "_law_refused" (defArgs s_Lrefused) (defBody s_Lrefused) (defScope s_Lrefused) .none kV_Lrefused dc_Lrefused pm_Lrefused an_Lrefused cd_Lrefused ct_Lrefused,
      F_Lrefused := fun_mk (st := s_Lrefused) l_Lrefused c_Lrefused k_Lrefused,
      mg_Lrefused := PySem.W.mg_of X G g_Lrefused,
      f_Lunchanged := a_Lunchanged,
      fd_Lunchanged := PySem.W.fnOf "_law_unchanged" "_law_unchanged" (defArgs s_Lunchanged) (defBody s_Lunchanged) (defScope s_Lunchanged) .none kV_Lunchanged dc_Lunchanged pm_Lunchanged an_Lunchanged cd_Lunchanged ct_Lunchanged,
      F_Lunchanged := fun_mk (st := s_Lunchanged) l_Lunchanged c_Lunchanged k_Lunchanged,
      mg_Lunchanged := PySem.W.mg_of X G g_Lunchanged,
      f_Ltake_file := a_Ltake_file,
      fd_Ltake_file := PySem.W.fnOf "_law_take_file" "_law_take_file" (defArgs s_Ltake_file) (defBody s_Ltake_file) (defScope s_Ltake_file) .none kV_Ltake_file dc_Ltake_file pm_Ltake_file an_Ltake_file cd_Ltake_file ct_Ltake_file,
      F_Ltake_file := fun_mk (st := s_Ltake_file) l_Ltake_file c_Ltake_file k_Ltake_file,
      mg_Ltake_file := PySem.W.mg_of X G g_Ltake_file,
      f_Ltake_folder := a_Ltake_folder,
      fd_Ltake_folder := PySem.W.fnOf "_law_take_folder" "_law_take_folder" (defArgs s_Ltake_folder) (defBody s_Ltake_folder) (defScope s_Ltake_folder) .none kV_Ltake_folder dc_Ltake_folder pm_Ltake_folder an_Ltake_folder cd_Ltake_folder ct_Ltake_folder,
      F_Ltake_folder := fun_mk (st := s_Ltake_folder) l_Ltake_folder c_Ltake_folder k_Ltake_folder,
      mg_Ltake_folder := PySem.W.mg_of X G g_Ltake_folder,
      f_Ldrop := a_Ldrop,
      fd_Ldrop := PySem.W.fnOf "_law_drop" "_law_drop" (defArgs s_Ldrop) (defBody s_Ldrop) (defScope s_Ldrop) .none kV_Ldrop dc_Ldrop pm_Ldrop an_Ldrop cd_Ldrop ct_Ldrop,
      F_Ldrop := fun_mk (st := s_Ldrop) l_Ldrop c_Ldrop k_Ldrop,
      mg_Ldrop := PySem.W.mg_of X G g_Ldrop,
      f_Lstep := a_Lstep,
      fd_Lstep := PySem.W.fnOf "_law_step" "_law_step" (defArgs s_Lstep) (defBody s_Lstep) (defScope s_Lstep) .none kV_Lstep dc_Lstep pm_Lstep an_Lstep cd_Lstep ct_Lstep,
      F_Lstep := fun_mk (st := s_Lstep) l_Lstep c_Lstep k_Lstep,
      mg_Lstep := PySem.W.mg_of X G g_Lstep,
      f_law := a_law,
      fd_law := PySem.W.fnOf "law" "law" (defArgs s_law) (defBody s_law) (defScope s_law) .none kV_law dc_law pm_law an_law cd_law ct_law,
      F_law := fun_mk (st := s_law) l_law c_law k_law,
      mg_law := PySem.W.mg_of X G g_law,
      f_Plan___init__ := a_Plan___init__,
      fd_Plan___init__ := PySem.W.fnOf "__init__" "Plan.__init__" (defArgs s_Plan___init__) (defBody s_Plan___init__) (defScope s_Plan___init__) .none kV_Plan___init__ dc_Plan___init__ pm_Plan___init__ an_Plan___init__ cd_Plan___init__ ct_Plan___init__,
      F_Plan___init__ := fun_mk (st := s_Plan___init__) l_Plan___init__ c_Plan___init__ k_Plan___init__,
      f_Plan_map_place := a_Plan_map_place,
      fd_Plan_map_place := PySem.W.fnOf "map_place" "Plan.map_place" (defArgs s_Plan_map_place) (defBody s_Plan_map_place) (defScope s_Plan_map_place) .none kV_Plan_map_place dc_Plan_map_place pm_Plan_map_place an_Plan_map_place cd_Plan_map_place ct_Plan_map_place,
      F_Plan_map_place := fun_mk (st := s_Plan_map_place) l_Plan_map_place c_Plan_map_place k_Plan_map_place,
      f_Plan_node_block := a_Plan_node_block,
      fd_Plan_node_block := PySem.W.fnOf "node_block" "Plan.node_block" (defArgs s_Plan_node_block) (defBody s_Plan_node_block) (defScope s_Plan_node_block) .none kV_Plan_node_block dc_Plan_node_block pm_Plan_node_block an_Plan_node_block cd_Plan_node_block ct_Plan_node_block,
      F_Plan_node_block := fun_mk (st := s_Plan_node_block) l_Plan_node_block c_Plan_node_block k_Plan_node_block,
      f_Plan_data_blocks := a_Plan_data_blocks,
      fd_Plan_data_blocks := PySem.W.fnOf "data_blocks" "Plan.data_blocks" (defArgs s_Plan_data_blocks) (defBody s_Plan_data_blocks) (defScope s_Plan_data_blocks) .none kV_Plan_data_blocks dc_Plan_data_blocks pm_Plan_data_blocks an_Plan_data_blocks cd_Plan_data_blocks ct_Plan_data_blocks,
      F_Plan_data_blocks := fun_mk (st := s_Plan_data_blocks) l_Plan_data_blocks c_Plan_data_blocks k_Plan_data_blocks,
      f_Image___init__ := a_Image___init__,
      fd_Image___init__ := PySem.W.fnOf "__init__" "Image.__init__" (defArgs s_Image___init__) (defBody s_Image___init__) (defScope s_Image___init__) .none kV_Image___init__ dc_Image___init__ pm_Image___init__ an_Image___init__ cd_Image___init__ ct_Image___init__,
      F_Image___init__ := fun_mk (st := s_Image___init__) l_Image___init__ c_Image___init__ k_Image___init__,
      f_Image_begin := a_Image_begin,
      fd_Image_begin := PySem.W.fnOf "begin" "Image.begin" (defArgs s_Image_begin) (defBody s_Image_begin) (defScope s_Image_begin) .none kV_Image_begin dc_Image_begin pm_Image_begin an_Image_begin cd_Image_begin ct_Image_begin,
      F_Image_begin := fun_mk (st := s_Image_begin) l_Image_begin c_Image_begin k_Image_begin,
      f_Image_twin := a_Image_twin,
      fd_Image_twin := PySem.W.fnOf "twin" "Image.twin" (defArgs s_Image_twin) (defBody s_Image_twin) (defScope s_Image_twin) .none kV_Image_twin dc_Image_twin pm_Image_twin an_Image_twin cd_Image_twin ct_Image_twin,
      F_Image_twin := fun_mk (st := s_Image_twin) l_Image_twin c_Image_twin k_Image_twin,
      f_Image_take := a_Image_take,
      fd_Image_take := PySem.W.fnOf "take" "Image.take" (defArgs s_Image_take) (defBody s_Image_take) (defScope s_Image_take) .none kV_Image_take dc_Image_take pm_Image_take an_Image_take cd_Image_take ct_Image_take,
      F_Image_take := fun_mk (st := s_Image_take) l_Image_take c_Image_take k_Image_take,
      f_Image_give := a_Image_give,
      fd_Image_give := PySem.W.fnOf "give" "Image.give" (defArgs s_Image_give) (defBody s_Image_give) (defScope s_Image_give) .none kV_Image_give dc_Image_give pm_Image_give an_Image_give cd_Image_give ct_Image_give,
      F_Image_give := fun_mk (st := s_Image_give) l_Image_give c_Image_give k_Image_give,
      f_Image__put_block := a_Image__put_block,
      fd_Image__put_block := PySem.W.fnOf "_put_block" "Image._put_block" (defArgs s_Image__put_block) (defBody s_Image__put_block) (defScope s_Image__put_block) .none kV_Image__put_block dc_Image__put_block pm_Image__put_block an_Image__put_block cd_Image__put_block ct_Image__put_block,
      F_Image__put_block := fun_mk (st := s_Image__put_block) l_Image__put_block c_Image__put_block k_Image__put_block,
      f_Image_free_blocks := a_Image_free_blocks,
      fd_Image_free_blocks := PySem.W.fnOf "free_blocks" "Image.free_blocks" (defArgs s_Image_free_blocks) (defBody s_Image_free_blocks) (defScope s_Image_free_blocks) .none kV_Image_free_blocks dc_Image_free_blocks pm_Image_free_blocks an_Image_free_blocks cd_Image_free_blocks ct_Image_free_blocks,
      F_Image_free_blocks := fun_mk (st := s_Image_free_blocks) l_Image_free_blocks c_Image_free_blocks k_Image_free_blocks,
      f_Image_kind := a_Image_kind,
      fd_Image_kind := PySem.W.fnOf "kind" "Image.kind" (defArgs s_Image_kind) (defBody s_Image_kind) (defScope s_Image_kind) .none kV_Image_kind dc_Image_kind pm_Image_kind an_Image_kind cd_Image_kind ct_Image_kind,
      F_Image_kind := fun_mk (st := s_Image_kind) l_Image_kind c_Image_kind k_Image_kind,
      f_Image_fresh := a_Image_fresh,
      fd_Image_fresh := PySem.W.fnOf "fresh" "Image.fresh" (defArgs s_Image_fresh) (defBody s_Image_fresh) (defScope s_Image_fresh) .none kV_Image_fresh dc_Image_fresh pm_Image_fresh an_Image_fresh cd_Image_fresh ct_Image_fresh,
      F_Image_fresh := fun_mk (st := s_Image_fresh) l_Image_fresh c_Image_fresh k_Image_fresh,
      f_Image_of_cells := a_Image_of_cells,
      fd_Image_of_cells := PySem.W.fnOf "of_cells" "Image.of_cells" (defArgs s_Image_of_cells) (defBody s_Image_of_cells) (defScope s_Image_of_cells) .none kV_Image_of_cells dc_Image_of_cells pm_Image_of_cells an_Image_of_cells cd_Image_of_cells ct_Image_of_cells,
      F_Image_of_cells := fun_mk (st := s_Image_of_cells) l_Image_of_cells c_Image_of_cells k_Image_of_cells,
      C_Plan := aC_Plan,
      mg_Plan := PySem.W.mg_of X G g_Plan,
      cl_Plan := ⟨pg_Plan, hd_Plan, po_Plan, sa_Plan⟩,
      na_Plan_blocks := n_Plan_blocks,
      na_Plan_nodes := n_Plan_nodes,
      na_Plan_slots := n_Plan_slots,
      na_Plan_maps := n_Plan_maps,
      na_Plan_first_node := n_Plan_first_node,
      na_Plan_first_data := n_Plan_first_data,
      mk_Plan := ⟨mk1_Plan, mk2_Plan, mk3_Plan, mk4_Plan⟩,
      mc_Plan := mcv_Plan,
      cr_Plan := ⟨rd_Plan, ga_Plan⟩,
      cv_Plan_WIDTH := ⟨_, v_Plan_WIDTH, ⟨_, rfl⟩⟩,
      cv_Plan_OWNERS := ⟨_, v_Plan_OWNERS, ⟨_, rfl⟩⟩,
      cv_Plan_FREE := ⟨_, v_Plan_FREE, ⟨_, rfl⟩⟩,
      cv_Plan_LOGGED := ⟨_, v_Plan_LOGGED, ⟨_, rfl⟩⟩,
      cv_Plan_PLAIN := ⟨_, v_Plan_PLAIN, ⟨_, rfl⟩⟩,
      con_Plan_WIDTH := ⟨_, o_Plan_WIDTH, ⟨_, rfl⟩, og_Plan_WIDTH, by decide +kernel⟩,
      C_Image := aC_Image,
      mg_Image := PySem.W.mg_of X G g_Image,
      cl_Image := ⟨pg_Image, hd_Image, po_Image, sa_Image⟩,
      na_Image_plan := n_Image_plan,
      na_Image_cells := n_Image_cells,
      na_Image_holdings := n_Image_holdings,
      na_Image_stamps := n_Image_stamps,
      na_Image_handles := n_Image_handles,
      na_Image_serial := n_Image_serial,
      na_Image_wish := n_Image_wish,
      na_Image_barred := n_Image_barred,
      mk_Image := ⟨mk1_Image, mk2_Image, mk3_Image, mk4_Image⟩,
      mc_Image := mcv_Image,
      cr_Image := ⟨rd_Image, ga_Image⟩,
      m_Plan_map_place := ⟨m1_Plan_map_place, m2_Plan_map_place, k_Plan_map_place⟩,
      m_Plan_node_block := ⟨m1_Plan_node_block, m2_Plan_node_block, k_Plan_node_block⟩,
      m_Plan_data_blocks := ⟨m1_Plan_data_blocks, m2_Plan_data_blocks, k_Plan_data_blocks⟩,
      m_Image_begin := ⟨m1_Image_begin, m2_Image_begin, k_Image_begin⟩,
      m_Image_twin := ⟨m1_Image_twin, m2_Image_twin, k_Image_twin⟩,
      m_Image_take := ⟨m1_Image_take, m2_Image_take, k_Image_take⟩,
      m_Image_give := ⟨m1_Image_give, m2_Image_give, k_Image_give⟩,
      m_Image__put_block := ⟨m1_Image__put_block, m2_Image__put_block, k_Image__put_block⟩,
      m_Image_free_blocks := ⟨m1_Image_free_blocks, m2_Image_free_blocks, k_Image_free_blocks⟩,
      m_Image_kind := ⟨m1_Image_kind, m2_Image_kind, k_Image_kind⟩,
      sm_Image_fresh := ⟨_, s1_Image_fresh, ⟨_, s2_Image_fresh⟩, k_Image_fresh⟩,
      sm_Image_of_cells := ⟨_, s1_Image_of_cells, ⟨_, s2_Image_of_cells⟩, k_Image_of_cells⟩,
      C_Refused := aC_Refused,
      mg_Refused := PySem.W.mg_of X G g_Refused,
      be_Refused := be1_Refused,
      te_Refused := te1_Refused,
      ie_Refused := ie1_Refused,
      C_NodesFull := aC_NodesFull,
      mg_NodesFull := PySem.W.mg_of X G g_NodesFull,
      be_NodesFull := be1_NodesFull,
      te_NodesFull := te1_NodesFull,
      ie_NodesFull := ie1_NodesFull,
      xe_NodesFull := xe1_NodesFull,
      ke_NodesFull := ke1_NodesFull,
      ec_NodesFull := ⟨ec1_NodesFull, ec2_NodesFull, be1_NodesFull, ec4_NodesFull, ec5_NodesFull, ec6_NodesFull, ec7_NodesFull, ec8_NodesFull⟩,
      C_BlocksFull := aC_BlocksFull,
      mg_BlocksFull := PySem.W.mg_of X G g_BlocksFull,
      be_BlocksFull := be1_BlocksFull,
      te_BlocksFull := te1_BlocksFull,
      ie_BlocksFull := ie1_BlocksFull,
      xe_BlocksFull := xe1_BlocksFull,
      ke_BlocksFull := ke1_BlocksFull,
      ec_BlocksFull := ⟨ec1_BlocksFull, ec2_BlocksFull, be1_BlocksFull, ec4_BlocksFull, ec5_BlocksFull, ec6_BlocksFull, ec7_BlocksFull, ec8_BlocksFull⟩,
      C_OverQuota := aC_OverQuota,
      mg_OverQuota := PySem.W.mg_of X G g_OverQuota,
      be_OverQuota := be1_OverQuota,
      te_OverQuota := te1_OverQuota,
      ie_OverQuota := ie1_OverQuota,
      xe_OverQuota := xe1_OverQuota,
      ke_OverQuota := ke1_OverQuota,
      ec_OverQuota := ⟨ec1_OverQuota, ec2_OverQuota, be1_OverQuota, ec4_OverQuota, ec5_OverQuota, ec6_OverQuota, ec7_OverQuota, ec8_OverQuota⟩,
      sub_NodesFull_Refused := sb_NodesFull_Refused,
      sub_NodesFull_BlocksFull := sb_NodesFull_BlocksFull,
      sub_NodesFull_OverQuota := sb_NodesFull_OverQuota,
      sub_BlocksFull_Refused := sb_BlocksFull_Refused,
      sub_BlocksFull_BlocksFull := sb_BlocksFull_BlocksFull,
      sub_BlocksFull_OverQuota := sb_BlocksFull_OverQuota,
      sub_OverQuota_Refused := sb_OverQuota_Refused,
      sub_OverQuota_BlocksFull := sb_OverQuota_BlocksFull,
      sub_OverQuota_OverQuota := sb_OverQuota_OverQuota,
      c_SUMS_BLOCK := ⟨_, PySem.W.mg_of X G gc_SUMS_BLOCK⟩,
      c_ROOT := ⟨_, PySem.W.mg_of X G gc_ROOT⟩,
      c_KIND := ⟨_, PySem.W.mg_of X G gc_KIND⟩,
      c_LINKS := ⟨_, PySem.W.mg_of X G gc_LINKS⟩,
      c_OWNER := ⟨_, PySem.W.mg_of X G gc_OWNER⟩,
      c_FIRST_PLACE := ⟨_, PySem.W.mg_of X G gc_FIRST_PLACE⟩,
      c_PLACES := ⟨_, PySem.W.mg_of X G gc_PLACES⟩,
      c_MAKING := ⟨_, PySem.W.mg_of X G gc_MAKING⟩,
      c_UNMADE := ⟨_, PySem.W.mg_of X G gc_UNMADE⟩,
      c_FOLDER := ⟨_, PySem.W.mg_of X G gc_FOLDER⟩,
      c_LEAST_BLOCKS := ⟨_, PySem.W.mg_of X G gc_LEAST_BLOCKS⟩,
      c_MOST_BLOCKS := ⟨_, PySem.W.mg_of X G gc_MOST_BLOCKS⟩,
      c_LEAST_NODES := ⟨_, PySem.W.mg_of X G gc_LEAST_NODES⟩,
      c_MOST_NODES := ⟨_, PySem.W.mg_of X G gc_MOST_NODES⟩,
      c_MOST_SLOTS := ⟨_, PySem.W.mg_of X G gc_MOST_SLOTS⟩,
      c_LEAST_DATA := ⟨_, PySem.W.mg_of X G gc_LEAST_DATA⟩,
      c_FIRST_MAP := ⟨_, PySem.W.mg_of X G gc_FIRST_MAP⟩,
      c_PLACE_COUNT := ⟨_, PySem.W.mg_of X G gc_PLACE_COUNT⟩,
      c_NODE_PLACES := ⟨_, PySem.W.mg_of X G gc_NODE_PLACES⟩,
      b_abs := PySem.W.mg_none_of X G nb_abs,
      b_any := PySem.W.mg_none_of X G nb_any,
      b_bool := PySem.W.mg_none_of X G nb_bool,
      b_dict := PySem.W.mg_none_of X G nb_dict,
      b_int := PySem.W.mg_none_of X G nb_int,
      b_isinstance := PySem.W.mg_none_of X G nb_isinstance,
      b_len := PySem.W.mg_none_of X G nb_len,
      b_list := PySem.W.mg_none_of X G nb_list,
      b_range := PySem.W.mg_none_of X G nb_range,
      b_tuple := PySem.W.mg_none_of X G nb_tuple
    }⟩
end K07
open PySem PySem.W PyProof.Rows
set_option maxRecDepth 100000 in
set_option maxHeartbeats 0 in
theorem PySem.Challenge.cw_lotsandties_k07_places_taken_and_dropped_holds : PySem.Challenge.rw_lotsandties_k07_places_taken_and_dropped.Holds := by
  w_on; o_law; k_head; (case hw => w_witness2)
  k_fill
  refine L2.walk_of (l := PySem.Challenge.rw_lotsandties_k07_places_taken_and_dropped) (n := 63) (k := 11) (x := "_law_script") (CX := fun _ => L2.CX0) (sp := fun w => K07.sp_law _) rfl (by decide) rfl ⟨rfl, by decide, by decide⟩ (fun w h Y => PySem.W.kIn_of Y) ?F (fun _ _ a ns hl _ hS => ⟨a, ns, rfl, hS, hl, fun _ => rfl⟩) (fun _ _ _ _ _ h => h)
  case F =>
    intro w mg fa h KX G hmg
    refine K07.fin_F ?_ hmg
    refine' K07.all_mk (w := w) KX G ?l_node_cell ?c_node_cell ?k_node_cell ?g_node_cell ?l_put_node_cell ?c_put_node_cell ?k_put_node_cell ?g_put_node_cell ?l_is_made ?c_is_made ?k_is_made ?g_is_made ?l_make_node ?c_make_node ?k_make_node ?g_make_node ?l_unmake_node ?c_unmake_node ?k_unmake_node ?g_unmake_node ?l_place_block ?c_place_block ?k_place_block ?g_place_block ?l_put_place ?c_put_place ?k_put_place ?g_put_place ?l_needs_block_of_places ?c_needs_block_of_places ?k_needs_block_of_places ?g_needs_block_of_places ?l_fill_place ?c_fill_place ?k_fill_place ?g_fill_place ?l_take_place ?c_take_place ?k_take_place ?g_take_place ?l_take_logged ?c_take_logged ?k_take_logged ?g_take_logged ?l_drop_block_of_places ?c_drop_block_of_places ?k_drop_block_of_places ?g_drop_block_of_places ?l_drop_place ?c_drop_place ?k_drop_place ?g_drop_place ?l_held_blocks ?c_held_blocks ?k_held_blocks ?g_held_blocks ?l_Lfeed ?c_Lfeed ?k_Lfeed ?g_Lfeed ?l_Lpick ?c_Lpick ?k_Lpick ?g_Lpick ?l_Linteger ?c_Linteger ?k_Linteger ?g_Linteger ?l_Lfirst ?c_Lfirst ?k_Lfirst ?g_Lfirst ?l_Ldue ?c_Ldue ?k_Ldue ?g_Ldue ?l_Lnote ?c_Lnote ?k_Lnote ?g_Lnote ?l_Lagrees ?c_Lagrees ?k_Lagrees ?g_Lagrees ?l_Lrefused ?c_Lrefused ?k_Lrefused ?g_Lrefused ?l_Lunchanged ?c_Lunchanged ?k_Lunchanged ?g_Lunchanged ?l_Ltake_file ?c_Ltake_file ?k_Ltake_file ?g_Ltake_file ?l_Ltake_folder ?c_Ltake_folder ?k_Ltake_folder ?g_Ltake_folder ?l_Ldrop ?c_Ldrop ?k_Ldrop ?g_Ldrop ?l_Lstep ?c_Lstep ?k_Lstep ?g_Lstep ?l_law ?c_law ?k_law ?g_law ?l_Plan___init__ ?c_Plan___init__ ?k_Plan___init__ ?l_Plan_map_place ?c_Plan_map_place ?k_Plan_map_place ?l_Plan_node_block ?c_Plan_node_block ?k_Plan_node_block ?l_Plan_data_blocks ?c_Plan_data_blocks ?k_Plan_data_blocks ?l_Image___init__ ?c_Image___init__ ?k_Image___init__ ?l_Image_begin ?c_Image_begin ?k_Image_begin ?l_Image_twin ?c_Image_twin ?k_Image_twin ?l_Image_take ?c_Image_take ?k_Image_take ?l_Image_give ?c_Image_give ?k_Image_give ?l_Image__put_block ?c_Image__put_block ?k_Image__put_block ?l_Image_free_blocks ?c_Image_free_blocks ?k_Image_free_blocks ?l_Image_kind ?c_Image_kind ?k_Image_kind ?l_Image_fresh ?c_Image_fresh ?k_Image_fresh ?l_Image_of_cells ?c_Image_of_cells ?k_Image_of_cells ?g_Plan ?pg_Plan ?hd_Plan ?po_Plan ?sa_Plan ?n_Plan_blocks ?n_Plan_nodes ?n_Plan_slots ?n_Plan_maps ?n_Plan_first_node ?n_Plan_first_data ?mk1_Plan ?mk2_Plan ?mk3_Plan ?mk4_Plan ?tp_Plan ?rd_Plan ?ga_Plan ?v_Plan_WIDTH ?v_Plan_OWNERS ?v_Plan_FREE ?v_Plan_LOGGED ?v_Plan_PLAIN ?o_Plan_WIDTH ?og_Plan_WIDTH ?g_Image ?pg_Image ?hd_Image ?po_Image ?sa_Image ?n_Image_plan ?n_Image_cells ?n_Image_holdings ?n_Image_stamps ?n_Image_handles ?n_Image_serial ?n_Image_wish ?n_Image_barred ?mk1_Image ?mk2_Image ?mk3_Image ?mk4_Image ?tp_Image ?rd_Image ?ga_Image ?m1_Plan_map_place ?m2_Plan_map_place ?m1_Plan_node_block ?m2_Plan_node_block ?m1_Plan_data_blocks ?m2_Plan_data_blocks ?m1_Image_begin ?m2_Image_begin ?m1_Image_twin ?m2_Image_twin ?m1_Image_take ?m2_Image_take ?m1_Image_give ?m2_Image_give ?m1_Image__put_block ?m2_Image__put_block ?m1_Image_free_blocks ?m2_Image_free_blocks ?m1_Image_kind ?m2_Image_kind ?s1_Image_fresh ?s2_Image_fresh ?s1_Image_of_cells ?s2_Image_of_cells ?g_Refused ?be1_Refused ?te1_Refused ?ie1_Refused ?g_NodesFull ?be1_NodesFull ?te1_NodesFull ?ie1_NodesFull ?xe1_NodesFull ?ke1_NodesFull ?ec1_NodesFull ?ec2_NodesFull ?ec4_NodesFull ?ec5_NodesFull ?ec6_NodesFull ?ec7_NodesFull ?ec8_NodesFull ?g_BlocksFull ?be1_BlocksFull ?te1_BlocksFull ?ie1_BlocksFull ?xe1_BlocksFull ?ke1_BlocksFull ?ec1_BlocksFull ?ec2_BlocksFull ?ec4_BlocksFull ?ec5_BlocksFull ?ec6_BlocksFull ?ec7_BlocksFull ?ec8_BlocksFull ?g_OverQuota ?be1_OverQuota ?te1_OverQuota ?ie1_OverQuota ?xe1_OverQuota ?ke1_OverQuota ?ec1_OverQuota ?ec2_OverQuota ?ec4_OverQuota ?ec5_OverQuota ?ec6_OverQuota ?ec7_OverQuota ?ec8_OverQuota ?sb_NodesFull_Refused ?sb_NodesFull_BlocksFull ?sb_NodesFull_OverQuota ?sb_BlocksFull_Refused ?sb_BlocksFull_BlocksFull ?sb_BlocksFull_OverQuota ?sb_OverQuota_Refused ?sb_OverQuota_BlocksFull ?sb_OverQuota_OverQuota ?gc_SUMS_BLOCK ?gc_ROOT ?gc_KIND ?gc_LINKS ?gc_OWNER ?gc_FIRST_PLACE ?gc_PLACES ?gc_MAKING ?gc_UNMADE ?gc_FOLDER ?gc_LEAST_BLOCKS ?gc_MOST_BLOCKS ?gc_LEAST_NODES ?gc_MOST_NODES ?gc_MOST_SLOTS ?gc_LEAST_DATA ?gc_FIRST_MAP ?gc_PLACE_COUNT ?gc_NODE_PLACES ?nb_abs ?nb_any ?nb_bool ?nb_dict ?nb_int ?nb_isinstance ?nb_len ?nb_list ?nb_range ?nb_tuple
    (case g_node_cell => k_is)
    (case g_put_node_cell => k_is)
    (case g_is_made => k_is)
    (case g_make_node => k_is)
    (case g_unmake_node => k_is)
    (case g_place_block => k_is)
    (case g_put_place => k_is)
    (case g_needs_block_of_places => k_is)
    (case g_fill_place => k_is)
    (case g_take_place => k_is)
    (case g_take_logged => k_is)
    (case g_drop_block_of_places => k_is)
    (case g_drop_place => k_is)
    (case g_held_blocks => k_is)
    (case g_Lfeed => k_is)
    (case g_Lpick => k_is)
    (case g_Linteger => k_is)
    (case g_Lfirst => k_is)
    (case g_Ldue => k_is)
    (case g_Lnote => k_is)
    (case g_Lagrees => k_is)
    (case g_Lrefused => k_is)
    (case g_Lunchanged => k_is)
    (case g_Ltake_file => k_is)
    (case g_Ltake_folder => k_is)
    (case g_Ldrop => k_is)
    (case g_Lstep => k_is)
    (case g_law => k_is)
    (case g_Plan => k_is)
    (case g_Image => k_is)
    (case g_Refused => k_is)
    (case g_NodesFull => k_is)
    (case g_BlocksFull => k_is)
    (case g_OverQuota => k_is)
    (case tp_Plan => k_is)
    (case tp_Image => k_is)
    (case mk2_Plan => k_is)
    (case mk2_Image => k_is)
    (case m1_Plan_map_place => k_is)
    (case m1_Plan_node_block => k_is)
    (case m1_Plan_data_blocks => k_is)
    (case m1_Image_begin => k_is)
    (case m1_Image_twin => k_is)
    (case m1_Image_take => k_is)
    (case m1_Image_give => k_is)
    (case m1_Image__put_block => k_is)
    (case m1_Image_free_blocks => k_is)
    (case m1_Image_kind => k_is)
    (case s1_Image_fresh => k_is)
    (case s1_Image_of_cells => k_is)
    (case s2_Image_fresh => k_is)
    (case s2_Image_of_cells => k_is)
    (case l_node_cell => k_is)
    (case c_node_cell => k_is)
    (case k_node_cell => k_is)
    (case l_put_node_cell => k_is)
    (case c_put_node_cell => k_is)
    (case k_put_node_cell => k_is)
    (case l_is_made => k_is)
    (case c_is_made => k_is)
    (case k_is_made => k_is)
    (case l_make_node => k_is)
    (case c_make_node => k_is)
    (case k_make_node => k_is)
    (case l_unmake_node => k_is)
    (case c_unmake_node => k_is)
    (case k_unmake_node => k_is)
    (case l_place_block => k_is)
    (case c_place_block => k_is)
    (case k_place_block => k_is)
    (case l_put_place => k_is)
    (case c_put_place => k_is)
    (case k_put_place => k_is)
    (case l_needs_block_of_places => k_is)
    (case c_needs_block_of_places => k_is)
    (case k_needs_block_of_places => k_is)
    (case l_fill_place => k_is)
    (case c_fill_place => k_is)
    (case k_fill_place => k_is)
    (case l_take_place => k_is)
    (case c_take_place => k_is)
    (case k_take_place => k_is)
    (case l_take_logged => k_is)
    (case c_take_logged => k_is)
    (case k_take_logged => k_is)
    (case l_drop_block_of_places => k_is)
    (case c_drop_block_of_places => k_is)
    (case k_drop_block_of_places => k_is)
    (case l_drop_place => k_is)
    (case c_drop_place => k_is)
    (case k_drop_place => k_is)
    (case l_held_blocks => k_is)
    (case c_held_blocks => k_is)
    (case k_held_blocks => k_is)
    (case l_Lfeed => k_is)
    (case c_Lfeed => k_is)
    (case k_Lfeed => k_is)
    (case l_Lpick => k_is)
    (case c_Lpick => k_is)
    (case k_Lpick => k_is)
    (case l_Linteger => k_is)
    (case c_Linteger => k_is)
    (case k_Linteger => k_is)
    (case l_Lfirst => k_is)
    (case c_Lfirst => k_is)
    (case k_Lfirst => k_is)
    (case l_Ldue => k_is)
    (case c_Ldue => k_is)
    (case k_Ldue => k_is)
    (case l_Lnote => k_is)
    (case c_Lnote => k_is)
    (case k_Lnote => k_is)
    (case l_Lagrees => k_is)
    (case c_Lagrees => k_is)
    (case k_Lagrees => k_is)
    (case l_Lrefused => k_is)
    (case c_Lrefused => k_is)
    (case k_Lrefused => k_is)
    (case l_Lunchanged => k_is)
    (case c_Lunchanged => k_is)
    (case k_Lunchanged => k_is)
    (case l_Ltake_file => k_is)
    (case c_Ltake_file => k_is)
    (case k_Ltake_file => k_is)
    (case l_Ltake_folder => k_is)
    (case c_Ltake_folder => k_is)
    (case k_Ltake_folder => k_is)
    (case l_Ldrop => k_is)
    (case c_Ldrop => k_is)
    (case k_Ldrop => k_is)
    (case l_Lstep => k_is)
    (case c_Lstep => k_is)
    (case k_Lstep => k_is)
    (case l_law => k_is)
    (case c_law => k_is)
    (case k_law => k_is)
    (case l_Plan___init__ => k_is)
    (case c_Plan___init__ => k_is)
    (case k_Plan___init__ => k_is)
    (case l_Plan_map_place => k_is)
    (case c_Plan_map_place => k_is)
    (case k_Plan_map_place => k_is)
    (case l_Plan_node_block => k_is)
    (case c_Plan_node_block => k_is)
    (case k_Plan_node_block => k_is)
    (case l_Plan_data_blocks => k_is)
    (case c_Plan_data_blocks => k_is)
    (case k_Plan_data_blocks => k_is)
    (case l_Image___init__ => k_is)
    (case c_Image___init__ => k_is)
    (case k_Image___init__ => k_is)
    (case l_Image_begin => k_is)
    (case c_Image_begin => k_is)
    (case k_Image_begin => k_is)
    (case l_Image_twin => k_is)
    (case c_Image_twin => k_is)
    (case k_Image_twin => k_is)
    (case l_Image_take => k_is)
    (case c_Image_take => k_is)
    (case k_Image_take => k_is)
    (case l_Image_give => k_is)
    (case c_Image_give => k_is)
    (case k_Image_give => k_is)
    (case l_Image__put_block => k_is)
    (case c_Image__put_block => k_is)
    (case k_Image__put_block => k_is)
    (case l_Image_free_blocks => k_is)
    (case c_Image_free_blocks => k_is)
    (case k_Image_free_blocks => k_is)
    (case l_Image_kind => k_is)
    (case c_Image_kind => k_is)
    (case k_Image_kind => k_is)
    (case l_Image_fresh => k_is)
    (case c_Image_fresh => k_is)
    (case k_Image_fresh => k_is)
    (case l_Image_of_cells => k_is)
    (case c_Image_of_cells => k_is)
    (case k_Image_of_cells => k_is)
    (case pg_Plan => k_is)
    (case hd_Plan => k_is)
    (case po_Plan => k_is)
    (case sa_Plan => k_is)
    (case n_Plan_blocks => k_is)
    (case n_Plan_nodes => k_is)
    (case n_Plan_slots => k_is)
    (case n_Plan_maps => k_is)
    (case n_Plan_first_node => k_is)
    (case n_Plan_first_data => k_is)
    (case mk1_Plan => k_is)
    (case mk3_Plan => k_is)
    (case mk4_Plan => k_is)
    (case rd_Plan => k_is)
    (case ga_Plan => k_is)
    (case v_Plan_WIDTH => k_is)
    (case v_Plan_OWNERS => k_is)
    (case v_Plan_FREE => k_is)
    (case v_Plan_LOGGED => k_is)
    (case v_Plan_PLAIN => k_is)
    (case o_Plan_WIDTH => k_is)
    (case og_Plan_WIDTH => k_is)
    (case pg_Image => k_is)
    (case hd_Image => k_is)
    (case po_Image => k_is)
    (case sa_Image => k_is)
    (case n_Image_plan => k_is)
    (case n_Image_cells => k_is)
    (case n_Image_holdings => k_is)
    (case n_Image_stamps => k_is)
    (case n_Image_handles => k_is)
    (case n_Image_serial => k_is)
    (case n_Image_wish => k_is)
    (case n_Image_barred => k_is)
    (case mk1_Image => k_is)
    (case mk3_Image => k_is)
    (case mk4_Image => k_is)
    (case rd_Image => k_is)
    (case ga_Image => k_is)
    (case m2_Plan_map_place => k_is)
    (case m2_Plan_node_block => k_is)
    (case m2_Plan_data_blocks => k_is)
    (case m2_Image_begin => k_is)
    (case m2_Image_twin => k_is)
    (case m2_Image_take => k_is)
    (case m2_Image_give => k_is)
    (case m2_Image__put_block => k_is)
    (case m2_Image_free_blocks => k_is)
    (case m2_Image_kind => k_is)
    (case be1_Refused => k_is)
    (case te1_Refused => k_is)
    (case ie1_Refused => k_is)
    (case be1_NodesFull => k_is)
    (case te1_NodesFull => k_is)
    (case ie1_NodesFull => k_is)
    (case xe1_NodesFull => first | k_exc | k_is)
    (case ke1_NodesFull => k_is)
    (case ec1_NodesFull => k_is)
    (case ec2_NodesFull => k_is)
    (case ec4_NodesFull => k_is)
    (case ec5_NodesFull => k_is)
    (case ec6_NodesFull => k_is)
    (case ec7_NodesFull => k_is)
    (case ec8_NodesFull => k_is)
    (case be1_BlocksFull => k_is)
    (case te1_BlocksFull => k_is)
    (case ie1_BlocksFull => k_is)
    (case xe1_BlocksFull => first | k_exc | k_is)
    (case ke1_BlocksFull => k_is)
    (case ec1_BlocksFull => k_is)
    (case ec2_BlocksFull => k_is)
    (case ec4_BlocksFull => k_is)
    (case ec5_BlocksFull => k_is)
    (case ec6_BlocksFull => k_is)
    (case ec7_BlocksFull => k_is)
    (case ec8_BlocksFull => k_is)
    (case be1_OverQuota => k_is)
    (case te1_OverQuota => k_is)
    (case ie1_OverQuota => k_is)
    (case xe1_OverQuota => first | k_exc | k_is)
    (case ke1_OverQuota => k_is)
    (case ec1_OverQuota => k_is)
    (case ec2_OverQuota => k_is)
    (case ec4_OverQuota => k_is)
    (case ec5_OverQuota => k_is)
    (case ec6_OverQuota => k_is)
    (case ec7_OverQuota => k_is)
    (case ec8_OverQuota => k_is)
    (case sb_NodesFull_Refused => first | rfl | k_is)
    (case sb_NodesFull_BlocksFull => first | rfl | k_is)
    (case sb_NodesFull_OverQuota => first | rfl | k_is)
    (case sb_BlocksFull_Refused => first | rfl | k_is)
    (case sb_BlocksFull_BlocksFull => first | rfl | k_is)
    (case sb_BlocksFull_OverQuota => first | rfl | k_is)
    (case sb_OverQuota_Refused => first | rfl | k_is)
    (case sb_OverQuota_BlocksFull => first | rfl | k_is)
    (case sb_OverQuota_OverQuota => first | rfl | k_is)
    (case gc_SUMS_BLOCK => k_is)
    (case gc_ROOT => k_is)
    (case gc_KIND => k_is)
    (case gc_LINKS => k_is)
    (case gc_OWNER => k_is)
    (case gc_FIRST_PLACE => k_is)
    (case gc_PLACES => k_is)
    (case gc_MAKING => k_is)
    (case gc_UNMADE => k_is)
    (case gc_FOLDER => k_is)
    (case gc_LEAST_BLOCKS => k_is)
    (case gc_MOST_BLOCKS => k_is)
    (case gc_LEAST_NODES => k_is)
    (case gc_MOST_NODES => k_is)
    (case gc_MOST_SLOTS => k_is)
    (case gc_LEAST_DATA => k_is)
    (case gc_FIRST_MAP => k_is)
    (case gc_PLACE_COUNT => k_is)
    (case gc_NODE_PLACES => k_is)
    (case nb_abs => k_is)
    (case nb_any => k_is)
    (case nb_bool => k_is)
    (case nb_dict => k_is)
    (case nb_int => k_is)
    (case nb_isinstance => k_is)
    (case nb_len => k_is)
    (case nb_list => k_is)
    (case nb_range => k_is)
    (case nb_tuple => k_is)
