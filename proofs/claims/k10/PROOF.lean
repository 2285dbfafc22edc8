import PyProof.Rows.All
import Wide.All
import OpenK.AllK
import Wide.FinOn
import HandS.ForMost
import HandS.IsInst
import HandS.Evl
import HandS.ClsMeth
import HandS.MakeKwOnly
import HandS.TryOnly
import HandS.ExcOwn
import HandS.ExcIs
import HandS.ExcCtx
import HandS.HotCalls
import HandS.WordsExc
import HandS.Conv
import HandS.FStr
import HandS.RaiseMore
import HandS.Style
import HandS.Small
import HandS.More
import HandS.Star
import PySem.Challenge.RW_lotsandties_k10_list_of_unfinished_nodes
set_option Elab.async false
set_option linter.all false
set_option maxRecDepth 100000
set_option maxHeartbeats 4000000
namespace Rg
open PySem PySem.Spec PyProof.Rows L2
/-! ### heaps -/
theorem same_upd {H : Hp} {p : Addr} {o : HO} (h : H p = none) : Same H (upd H p o) := fun b x e => by
  rw [upd_ne (ne_of_none e h)]
  exact e
theorem upd_id {H : Hp} {p : Addr} {o : HO} (h : H p = some o) : upd H p o = H := by
  funext b
  by_cases e : b = p
  · rw [e, upd_same, h]
  · rw [upd_ne e]
theorem yes_ {σ : L2.St} {H : Hp} {A B : Hp → Prop} (h : A H) : tYes σ H fun b H3 => if b = true then A H3 else B H3 := by
  show if true = true then A H else B H
  rw [if_pos rfl]
  exact h
/-- what is free behind a store was free, and is another place -/
theorem un {H : Hp} {a b : Addr} {o : HO} (e : upd H a o b = none) : H b = none := by
  by_cases z : b = a
  · rw [z, upd_same] at e; cases e
  · rw [upd_ne z] at e; exact e
theorem unn {H : Hp} {a b : Addr} {o : HO} (e : upd H a o b = none) : b ≠ a := fun z => by
  rw [z, upd_same] at e; cases e
theorem unn' {H : Hp} {a b : Addr} {o : HO} (e : upd H a o b = none) : a ≠ b := fun z => unn e z.symm
theorem upd_comm {H : Hp} {p q : Addr} {o o' : HO} (h : p ≠ q) : upd (upd H p o) q o' = upd (upd H q o') p o := by
  funext b
  by_cases e : b = p
  · rw [e, upd_same, upd_ne h, upd_same]
  · by_cases e2 : b = q
    · rw [e2, upd_same, upd_ne h.symm, upd_same]
    · rw [upd_ne e2, upd_ne e, upd_ne e, upd_ne e2]
theorem upd_app {H : Hp} {p : Addr} {fs : List Int} {x : Int} : upd (upd H p (.lst (fs.map V.int))) p (.lst (fs.map V.int ++ [V.int x])) = upd H p (.lst ((fs ++ [x]).map V.int)) := by
  rw [upd_upd, List.map_append]
  rfl
/-- kept but for what stands at S -/
def Kp (S : List Addr) (H H' : Hp) : Prop := ∀ x o, H x = some o → x ∉ S → H' x = some o
theorem Kp.refl {S : List Addr} {H : Hp} : Kp S H H := fun _ _ e _ => e
theorem Kp.new {S : List Addr} {H H1 : Hp} {a : Addr} {o : HO} (k : Kp S H H1) (h : H1 a = none) : Kp S H (upd H1 a o) := fun x u e n => by
  rw [upd_ne (ne_of_none (k x u e n) h)]
  exact k x u e n
theorem Kp.own {S : List Addr} {H H1 : Hp} {a : Addr} {o : HO} (k : Kp S H H1) (h : a ∈ S) : Kp S H (upd H1 a o) := fun x u e n => by
  have z : x ≠ a := fun z => by rw [z] at n; exact n h
  rw [upd_ne z]
  exact k x u e n
theorem Kp.own1 {p : Addr} {H H1 : Hp} {o : HO} (k : Kp [p] H H1) : Kp [p] H (upd H1 p o) := k.own (by simp)
theorem Kp.trans {S : List Addr} {H H1 H2 : Hp} (a : Kp S H H1) (b : Kp S H1 H2) : Kp S H H2 := fun x o e n => b x o (a x o e n) n
theorem Kp.same {S : List Addr} {H H1 H2 : Hp} (a : Kp S H H1) (b : Same H1 H2) : Kp S H H2 := fun x o e n => b x o (a x o e n)
theorem Kp.of {S : List Addr} {H H1 : Hp} (b : Same H H1) : Kp S H H1 := fun x o e _ => b x o e
theorem Kp.mono {S S' : List Addr} {H H1 : Hp} (a : Kp S H H1) (h : ∀ x, x ∈ S → x ∈ S') : Kp S' H H1 := fun x o e n => a x o e fun z => n (h x z)
theorem Kp.free {S : List Addr} {H H1 : Hp} {x : Addr} (a : Kp S H H1) (n : x ∉ S) (h : H1 x = none) : H x = none := by
  cases q : H x with
  | none => rfl
  | some o => rw [a x o q n] at h; cases h
theorem Kp.at1 {p x : Addr} {H H' : Hp} {o : HO} (k : Kp [p] H H') (e : H x = some o) (n : x ≠ p) : H' x = some o := k x o e (by simp [n])
theorem Kp.ret {a : Addr} {S : List Addr} {H H' : Hp} {o : HO} (k : Kp (a :: S) H H') (h : H a = none) : Kp S H H' := fun x u e n => k x u e (by
  intro z
  rcases List.mem_cons.mp z with z | z
  · rw [z, h] at e; cases e
  · exact n z)
theorem own_f {H H' : Hp} {p : Addr} {o : HO} (h : upd H p o = H') : H' p = some o ∧ Kp [p] H H' ∧ ∀ x, H' x = none → H x = none ∧ x ≠ p := by
  subst h
  exact ⟨upd_same, Kp.refl.own1, fun x e => ⟨un e, unn e⟩⟩
theorem new_f {H H' : Hp} {a : Addr} {o : HO} (h : upd H a o = H') (n : H a = none) : H' a = some o ∧ Same H H' ∧ ∀ x, H' x = none → H x = none ∧ x ≠ a := by
  subst h
  exact ⟨upd_same, same_upd n, fun x e => ⟨un e, unn e⟩⟩
/-- a whole-number constant of the module -/
theorem pe_gc {X : Cx} {x : Str} {n : Int} {pos : Pos} (hm : ∃ t, X.mg x = some (.int n t)) (hg : Gl X x := by rfl) (hd : (x == ("__debug__" : Str)) = false := by decide) : PE X (.Name x pos) (tC (.int n)) :=
  let ⟨t, h⟩ := hm
  pe_glob hg h ⟨t, rfl⟩ hd
/-- a text constant of the module -/
theorem pe_gs {X : Cx} {x z : Str} {pos : Pos} (hm : ∃ t, X.mg x = some (.str z t)) (hg : Gl X x := by rfl) (hd : (x == ("__debug__" : Str)) = false := by decide) : PE X (.Name x pos) (tC (.str z)) :=
  let ⟨t, h⟩ := hm
  pe_glob hg h ⟨t, rfl⟩ hd
/-- C.f, C a class of the module, f a value of the class -/
theorem pe_cv {X : Cx} {x f : Str} {C : Addr} {mc : Value} {v : V} {p pos : Pos} (hm : X.mg x = some (.ref C)) (r : ClX.CRead X.K C mc) (k : ∃ u, ClX.CVal X.K C mc f v u) (hg : Gl X x := by rfl) (hd : (x == ("__debug__" : Str)) = false := by decide)
    (hb : attributeBase (.Name x p) f X.env (eval (.Name x p) X.env) = eval (.Name x p) X.env := by rfl) : PE X (.Attribute (.Name x p) f pos) (tC v) := by
  obtain ⟨u, k⟩ := k
  have := (ClX.pe_cval (pos := pos) (pe_glob (X := X) (x := x) (v := .ref C) (u := .ref C) (pos := p) hg hm rfl hd) hb)
  exact ⟨fun pins s σ H Q I h => this.run pins s σ H Q I ⟨C, mc, v, u, rfl, r, k, h⟩⟩
/-! ### the same rules with the written part named (inside a comprehension) -/
section
variable {X : Cx} {K : PySem.W.Frag}
def rListOf (K : PySem.W.Frag) : List V → Hp → VK → Prop := fun xs H Q => ∃ p ys, xs = [.ref p] ∧ (SqL K H p ys ∨ SqT K H p ys) ∧ ∀ l, H l = none → Q (.ref l) (upd H l (.lst ys))
theorem pe_listof {e : Expr} {te : TE} {p pos : Pos} (he : PE X e te) (hm : X.mg "list" = none) (hK : X.K = K := by rfl) (hg : Gl X "list" := by rfl) (hs : starEach [e] X.env = (false, eval e X.env) :: starEach [] X.env := by rfl) : PE X (.Call (.Name "list" p) [e] [] pos) (tCB (rListOf K) (tCons te tNil)) := by
  subst hK
  exact pe_callTy call_list_of hg hm (by decide +kernel) (pa_cons he pa_nil hs) (he := hs)
theorem pe_fldK {e : Expr} {f : Str} {pos : Pos} {ta : TE} (he : PE X e ta) (hb : attributeBase e f X.env (eval e X.env) = eval e X.env) (hK : X.K = K := by rfl) : PE X (.Attribute e f pos) (tFld K ta f) := by
  subst hK
  exact pe_fld he hb
theorem pe_ixK {a b : Expr} {pos : Pos} {ta tb : TE} (ha : PE X a ta) (hb : PE X b tb) (hs : PlainIx b) (hK : X.K = K := by rfl) : PE X (.Subscript a b pos) (tOp (rIxL K) ta tb) := by
  subst hK
  exact pe_ix ix_list ha hb hs
theorem pe_lenK {e : Expr} {te : TE} {p pos : Pos} (he : PE X e te) (hm : X.mg "len" = none) (hK : X.K = K := by rfl) (hg : Gl X "len" := by rfl) (hs : starEach [e] X.env = (false, eval e X.env) :: starEach [] X.env := by rfl) : PE X (.Call (.Name "len" p) [e] [] pos) (tCB (fun xs H Q => ∃ p ys, xs = [.ref p] ∧ (SqL K H p ys ∨ SqT K H p ys) ∧ Q (.int ys.length) H) (tCons te tNil)) := by
  subst hK
  exact pe_callB call_len_seq hg hm (by decide +kernel) (pa_cons he pa_nil hs) (he := hs)
end
/-! ### static methods, called off the class -/
structure SMet (K : PySem.W.Frag) (C : Addr) (mc : Value) (m : Str) (g : Addr) : Prop where
  ex : ∃ p, PySem.W.findCls K (.ref C) mc m = some (.get (.builtin "staticmethod.__get__") (.ref p) .none (.ref C)) ∧ (∃ rest, PySem.W.recIn K p "staticmethod" = some (.ref g :: rest)) ∧ PySem.W.keepIn K (.ref g) = true
/-- C.m(e, ..), C the class at C, m a static method -/
def tSMeth (sp : Sp) (dvs : List V) (E : XK) (t : TA) : TE := fun σ H Q => t σ H fun vs H2 => sp (vs ++ dvs) H2 Q E
section
variable {X : Cx} {CX : CXT} {k : Nat} {C g : Addr} {mc : Value} {sp : Sp} {E : XK} {x : Str} {e : Expr} {es : List Expr} {m : Str} {p pos apos : Pos} {t : TA} {pl : Sem Bool} {fd : FuncData} {ps : List Str} {ds : List Value} {dvs : List V}
theorem pe_smeth (hmx : X.mg x = some (.ref C)) (r : ClX.CRead X.K C mc) (c : SMet X.K C mc m g) (F : FnOk X.prog X.w X.K X.mg X.base CX k g fd ps sp) (hr : Room k X.A) (hb : Binds X.K fd ps ds) (hd : Vals dvs ds) (hx : Passes CX X E) (ha : PA X (e :: es) t) (hg : Gl X x := by rfl) (hdb : (x == ("__debug__" : Str)) = false := by decide)
    (hst : starEach (e :: es) X.env = (false, eval e X.env) :: starEach es X.env := by rfl) (hpl : (backTo pos (starEach es X.env)).any (·.1) = false := by rfl)
    (ht : eval (.Call (.Attribute (.Name x p) m apos) (e :: es) [] pos) X.env = (do
      let ov ← eval (.Name x p) X.env
      standAt apos.atName
      let (f, first) ← holding [ov] (getMethod ov m pl)
      callWith pos f first (backTo pos (starEach (e :: es) X.env)) (backToKw pos (keywordEach [] X.env))) := by rfl) :
    PE X (.Call (.Attribute (.Name x p) m apos) (e :: es) [] pos) (tSMeth sp dvs E t) := by
  obtain ⟨q, at_, ⟨rest, hp⟩, hk⟩ := c.ex
  refine ⟨fun pins s σ H Q I h => ?_⟩
  refine PySem.W.methodCall_KW (pl := pl) (ld_glob I hg hmx ?_ hdb) ht
  refine PySem.W.method_cls I.kIn r.ga (PySem.W.cls_bind I.kIn r.rd at_ ?_)
  refine wpAny_call (PySem.W.sm_get (s := { s with toks := s.toks + 1 }) I.kIn hp (PySem.W.handed_on rfl ?_))
  refine PySem.W.callWith_K (f := .ref g) (first := []) (h₀ := X.base) I.ok.mod.kin hk (thn (ha.run pos pins _ σ H _ (I.tok _) h) fun us s1 ⟨vs, H1, I1, r1, q1⟩ => ⟨I1.kIn, ?_⟩) hst hpl
  exact run_fn F hr hb hd hx I1 r1 q1
end
/-! ### errors -/
theorem exm_sub {K : PySem.W.Frag} {D S : Addr} (h1 : PySem.W.subIn K (.ref S) (.type "BaseException") = some true) (h2 : PySem.W.isClsIn K S = true) (h3 : PySem.W.typeIn K (.ref S) = some (.type "type")) (h4 : PySem.W.subIn K (.ref D) (.ref S) = some true) :
    PySem.W.exmOne K (.ref D) (.ref S) = some true := by
  have e1 : (PySem.W.subIn K (.ref S) (.type "BaseException") == some true) = true := by rw [h1] <;> rfl
  have e2 : ((PySem.W.clsIn K S).isSome && PySem.W.typeIn K (.ref S) == some (.type "type")) = true := by
    have h2' : (PySem.W.clsIn K S).isSome = true := h2
    rw [h2', h3] <;> rfl
  show (if (PySem.W.subIn K (.ref S) (.type "BaseException") == some true) = true then (if ((PySem.W.clsIn K S).isSome && PySem.W.typeIn K (.ref S) == some (.type "type")) = true then PySem.W.subIn K (.ref D) (.ref S) else none) else none) = some true
  rw [if_pos e1, if_pos e2]
  exact h4
theorem kit_sub {K : PySem.W.Frag} {D S : Addr} {b : Bool} (hne : D ≠ S) (h2 : PySem.W.isClsIn K S = true) (h3 : PySem.W.typeIn K (.ref S) = some (.type "type")) (h4 : PySem.W.subIn K (.ref D) (.ref S) = some b) :
    PySem.W.kitOne K (.ref D) (.ref S) = some b := by
  have e2 : ((PySem.W.clsIn K S).isSome && PySem.W.typeIn K (.ref S) == some (.type "type")) = true := by
    have h2' : (PySem.W.clsIn K S).isSome = true := h2
    rw [h2', h3] <;> rfl
  unfold PySem.W.kitOne
  rw [if_neg (by intro z; exact hne (Value.ref.inj (beq_iff_eq.mp z)))]
  show (if ((PySem.W.clsIn K S).isSome && PySem.W.typeIn K (.ref S) == some (.type "type")) = true then PySem.W.subIn K (.ref D) (.ref S) else none) = some b
  rw [if_pos e2]
  exact h4
/-- a suite that is come to by an error of the class at D alone (no fields of its own) -/
def tOnly (cls : Value) (d : Option Addr) (D : Addr) (t : TS) : TS := fun E σ H => cls = .ref D ∧ d = none ∧ t E σ H
theorem pss_only {X : Cx} {sts : List Stmt} {t : TS} {cls : Value} {d : Option Addr} {D : Addr} (h : cls = .ref D → d = none → PSs X sts t) : PSs X sts (tOnly cls d D t) :=
  ⟨fun pins s σ H E I hh => (h hh.1 hh.2.1).run pins s σ H E I hh.2.2⟩
theorem kit_self {K : PySem.W.Frag} {D : Addr} : PySem.W.kitOne K (.ref D) (.ref D) = some true := by
  unfold PySem.W.kitOne
  rw [if_pos (beq_self_eq_true _)]
theorem dec_iv (a d : Int) : decide (V.int a = V.int d) = decide (a = d) := by
  by_cases e : a = d
  · subst e; simp
  · rw [decide_eq_false e, decide_eq_false fun q => e (V.int.inj q)]
end Rg
namespace Rg
open PySem PySem.Spec PyProof.Rows L2
/-! ### an error that a suite holds, handed to a def of one's own -/
section
variable {prog : Program} {w : World} {A : Around} {E : Value → Shared → Prop} {s : Shared}
/-- a walk over a list comes to its end while an error is handled -/
theorem list_end_hot {it l x1 : Addr} {i : Nat} {items} {Q : Option Value → Shared → Prop} (hot : HotX.HotAt A x1 s.heap) (hit : s.heap.IsListIter it l i) (hl : s.heap.IsList l items) (hx : items[i]? = none)
    (hQ : ∀ h', Heap.ExtBut it s.heap h' → Q none { s with heap := h' }) : wpAny (model prog w) A (pyNext (.ref it)) Q E s := by
  obtain ⟨hh, o1, vs1, h1, d1, c1⟩ := hot; obtain ⟨o, ho, hc, hd⟩ := id hit
  obtain ⟨ol, hol, _, nl, hdl⟩ := hl; unfold pyNext
  have ni : it ≠ x1 := fun z => by
    rw [← z, ho] at h1
    cases h1
    rw [hd] at d1
    cases d1
    simp at c1
  refine wpAny_bind (wpAny_attempt (wpAny_callSpecial?_slot (name := Str.ofString "__next__") hit.typeIs slot_listiter_next (wpAny_call_entry slot_listiter_next hit.typeIs entry_listiter_next ?_ (args_listiter_next _))))
  refine (show wpAny _ _ (field (.ref it) 0 >>= _) _ _ s from ?_); refine wpAny_bind (wpAny_field ho hd (x := .ref l) rfl ?_)
  refine (show wpAny _ _ (if (Value.ref l == Value.none) = true then _ else _) _ _ s from ?_); rw [if_neg (show ¬ ((Value.ref l == Value.none) = true) from Bool.false_ne_true)]
  refine (show wpAny _ _ (field (.ref it) 1 >>= _) _ _ s from ?_); refine wpAny_bind (wpAny_field ho hd (x := .int i 0) rfl ?_)
  refine (show wpAny _ _ (seqItems? (.ref l) >>= _) _ _ s from ?_); refine wpAny_bind (wpAny_seqItems hol hdl ?_)
  simp only [Int.toNat_natCast, hx]; refine wpAny_bind (wpAny_rule (wpAny_bind (wpAny_setField ho hd (by simp) ?_)))
  refine (show wpAny _ _ (newExc (.type "StopIteration") [] >>= _) _ _ _ from ?_); refine wpAny_bind ?_
  simp only [newExc, newTuple]; refine wpAny_bind (wpAny_newObj_type ?_ (by size_fits))
  refine wpAny_bind (m := firstArgMember _ _) (wpAny_of_eq (a := Value.none) (by first | rfl | (simp only [firstArgMember]; rfl)) ?_); refine wpAny_newObj_type ?_ (by size_fits)
  have g1 : ∀ f : Obj → Obj, (s.heap.update it f).get? x1 = some o1 := fun f => by rw [Heap.get?_update_other _ _ ni]; exact h1
  refine HotX.raiseNew_hot ⟨hh, o1, vs1, Heap.get?_push_of_some _ (Heap.get?_push_of_some _ (g1 _)), d1, c1⟩ (Nat.ne_of_lt (Heap.lt_size (Heap.get?_push_of_some _ (g1 _)))) (Heap.get?_push_size _ rfl) rfl (by first | (simp; done) | (simp; omega) | (simp only [Array.size_append]; simp; omega)) ?_
  refine wpAny_bind (wpAny_isInstance (T := "StopIteration") (b := true) ⟨_, Heap.get?_update_self _ (Heap.get?_push_size _ rfl) rfl, rfl⟩ isSubtype_stop ?_); refine wpAny_pure (hQ _ fun b o' nb e => ?_)
  have e2 : ∀ f oo, ((s.heap.update it f).push oo).get? b = some o' := fun f oo => (Heap.SameBut.update ..).extBut.push _ b o' nb e
  rw [Heap.get?_update_other _ _ (Nat.ne_of_gt (Heap.lt_size (e2 _ _)))]; exact Heap.get?_push_of_some _ (e2 _ _)
end
/-- the turns of a walk over a list while an error is handled -/
theorem turn_listH {P : Program} {w : World} {K : PySem.W.Frag} {tg : Expr} (a it : Addr) : L2H.TurnH P w K tg (Itl K a) [it] it (fun i h => h.IsListIter it a i) where
  mem := by simp
  obj := fun i h st b hb => (turn_list (P := P) (w := w) (K := K) (tg := tg) a it).obj i h st b hb
  keep := fun i h h' st k => (turn_list (P := P) (w := w) (K := K) (tg := tg) a it).keep i h h' st k
  item := by
    intro X hP hw hK hc i pins s σ H E I hf st hg; subst hP hw hK
    obtain ⟨xs, x, hq, hx⟩ := hg; obtain ⟨its, rv, p, hz⟩ := I.list hq
    obtain ⟨u, hu, ru⟩ := rv.get hx; obtain ⟨f0, f1, f2, f3, f4, f5⟩ := hf it (by simp)
    refine wpAny_pyNext_list_item st p.isList (x := u) (by simpa using hu) fun h' st' sb => ?_
    have I1 : Inv X pins σ H { s with heap := h' } := I.turned (t' := s.toks) (fun b o hb e => (sb.2 b hb).trans e) f0 f1 f3 f4 f5
    obtain ⟨o, e, c, d⟩ := id st'
    exact ⟨u, rfl, go_of (s := { s with heap := h' }) e c d (by decide) ⟨x, H, I1, ru, ⟨rfl, fun ys hy => by rw [I.list_inj hy hq]; exact hx⟩, st', fun b hb => (hf b hb).1⟩⟩
  done := by
    intro X hP hw hK hc i pins s σ H E I hf st hg; subst hP hw hK
    obtain ⟨xs, hq, hx⟩ := hg; obtain ⟨its, rv, p, hz⟩ := I.list hq
    obtain ⟨f0, f1, f2, f3, f4, f5⟩ := hf it (by simp); obtain ⟨x1, hot⟩ := hc.at I
    have hl := rv.length
    exact list_end_hot hot st p.isList (by simp; omega) fun h' eb => ⟨rfl, I.turned (t' := s.toks) (fun b o hb e => eb b o hb e) f0 f1 f3 f4 f5⟩
  self := fun _ _ _ _ _ st h => wpAny_pyIter_listiter st h
theorem pi_listH {X : Cx} {tg l : Expr} {tl : TE} (hl : PE X l tl) : L2H.PIH X tg l (iList X.K tl) := by
  refine ⟨fun pins s σ H R I h => thn (hl.run pins s σ H _ I h) fun v s1 ⟨x, H1, I1, r1, q1⟩ => ?_⟩
  obtain ⟨a, e, ⟨xs, hq⟩, q⟩ := q1; subst e; cases r1
  obtain ⟨its, rv, p, hz⟩ := I1.list hq; refine wpAny_pyIter_list p.isList ?_
  refine ⟨s1.heap.objs.size, [s1.heap.objs.size], _, _, H1, rfl, I1.kept (t' := s1.toks) (fun b o e => Heap.get?_push_of_some _ e), turn_listH a _, ⟨_, Heap.get?_push_size _ rfl, rfl, rfl⟩, fun b hb => ?_, q⟩
  have e : b = s1.heap.objs.size := by simpa using hb
  subst e; exact I1.fpOk (Nat.le_refl _) (I1.hok.fresh (Nat.le_refl _))
/-- a def that is called with the error that a suite holds (of the class at D) and lets nothing out -/
structure FnE (P : Program) (w : World) (K : PySem.W.Frag) (mg : Str → Option Value) (base : Heap) (k : Nat) (f : Addr) (fd : FuncData) (ps : List Str) (D : Addr) (sp : Addr → Sp) : Prop where
  len : ∀ a vs H Q E, sp a vs H Q E → vs.length = ps.length
  run : ∀ (A : Around) (outer : List Env) (s : Shared) (H : Hp) (args : Args) (us : List Value) (vs : List V) (Q : VK) (E : XK) (p : Addr × Obj), L2H.RoomH k A → L2H.Hot1 A p → Zc (.ref D) none p.2 → L2H.PinOk outer H s p → Env0 P w K mg base A outer s H →
    BindsTo s fd args (ps.zip us) → Vals vs us → sp p.1 vs H Q E → codeAny (model P w) A (.call (.ref f) args) (CR CX0 outer P w H s Q E) s
section
variable {P : Program} {w : World} {K : PySem.W.Frag} {mg : Str → Option Value} {base : Heap}
theorem _root_.L2.Fun.okE {x qual : Str} {st : Stmt} {f D : Addr} {fd : FuncData} {N ps : List Str} {k : Nat} {sp : Addr → Sp} (F : Fun K x qual st f fd) (S : FnScope N ps (defScope st)) (len : ∀ a vs H Q E, sp a vs H Q E → vs.length = ps.length)
    (hbody : ∀ (cdv : Value) (A : Around) (outer : List Env) (s : Shared) (H : Hp) (vs : List V) (Q : VK) (E : XK) (p : Addr × Obj), L2H.Hot1 A p → Zc (.ref D) none p.2 → L2H.RoomH k (A.deeper (envOfC qual (defScope st) s.heap.objs.size f cdv)) → sp p.1 vs H Q E →
      ∃ t, PSs (L2H.cxH CX0 P w K mg base N qual (defScope st) f cdv A outer s H E p) (defBody st) t ∧ t { nx := fun _ H' => Q .non H', rt := Q } (L2.start N vs) H) : FnE P w K mg base (k + 1) f fd ps D sp := by
  obtain ⟨oc, od, kV, doc, pm, an, cdv, ct, osl, rfl, lk, hcd⟩ := F.ex
  refine ⟨len, fun A outer s H args us vs Q E p hr hot hz hpin e0 hb r hsp => ?_⟩
  have hl := len _ _ _ _ _ hsp; have KX : K.In s.heap := e0.mod.kin.keeps fun b o e => (e0.bs b o e).1
  have lim : s.heap.NoLimit := e0.mod.nolimit.keeps fun b o e => (e0.bs b o e).1; have bb := hb
  have hkind : ∀ y ∈ ps.zip us, (defScope st).names.lookup y.1 = some .local ∨ ((defScope st).names.lookup y.1 = some .cell ∧ ((cellsFrom (s.heap.objs.size + 1) (defScope st).names []).lookup y.1).isSome = true) := fun ⟨n, v⟩ hy =>
    (S.par n (List.of_mem_zip hy).1).elim .inl fun q => .inr ⟨q, PySem.W.cellsFrom_some _ _ _ (.inl q)⟩
  refine codeAny_call_function hr.depth (KX _ _ lk) rfl S.co S.gen rfl (PySem.W.codeRec_of KX hcd) (bb _ _ _ _ (wpAny_newFunctionEnv_cells S.kind hkind fun env he s1 x => ?_))
  subst he; refine ⟨lim.keeps x.toInCall.keep, codeAny_func ?_⟩
  obtain ⟨t, ht, hq⟩ := hbody cdv A outer s H vs Q E p hot hz (hr.deeper _) hsp
  have I := L2H.inv_startH (CX := CX0) (E := E) S hpin e0 hl r x
  refine wpAny_mono (ht.run [] s1 (L2.start N vs) H _ I hq) (fun fl s' hs => ?_) fun _ _ hs => hs
  cases fl with
  | ret u => exact hs.elim fun v ⟨σ', H', J, rv, q⟩ => ⟨v, H', J.os, J.bare, J.base, J.hok, rv, q⟩
  | next => exact hs.elim fun σ' ⟨H', J, q⟩ => ⟨V.non, H', J.os, J.bare, J.base, J.hok, rfl, q⟩
  | brk => exact hs.elim fun _ ⟨_, _, q⟩ => q.elim
  | cont => exact hs.elim fun _ ⟨_, _, q⟩ => q.elim
end
section
variable {X : Cx} {k : Nat} {f D : Addr} {fd : FuncData} {ps : List Str} {sp : Addr → Sp} {x : Str} {q pos : Pos} {e : Expr} {es : List Expr} {t : TA}
/-- f(e, ..), f a def for the error at a -/
def tCallE (sp : Addr → Sp) (a : Addr) (t : TA) : TE := fun σ H Q => t σ H fun vs H1 => sp a vs H1 Q E0
theorem pe_callE (F : FnE X.prog X.w X.K X.mg X.base k f fd ps D sp) (hr : L2H.RoomH k X.A) {p : Addr × Obj} (hot : L2H.Hot1 X.A p) (hz : Zc (.ref D) none p.2) (hp : p ∈ X.pn) (hg : Gl X x) (hm : X.mg x = some (.ref f)) (hk : PySem.W.keepIn X.K (.ref f) = true) (hb : Binds X.K fd ps [])
    (ha : PA X (e :: es) t) (hdb : (x == ("__debug__" : Str)) = false := by decide) (he : starEach (e :: es) X.env = (false, eval e X.env) :: starEach es X.env := by rfl) (hpl : (backTo pos (starEach es X.env)).any (·.1) = false := by rfl) :
    PE X (.Call (.Name x q) (e :: es) [] pos) (tCallE sp p.1 t) := by
  refine ⟨fun pins s σ H Q I h => wpAny_Call_Name_kw (ld_glob I hg hm ?_ hdb)⟩
  refine PySem.W.callWith_K (h₀ := X.base) I.ok.mod.kin hk (thn (ha.run pos pins s σ H _ I h) fun us s1 ⟨vs, H1, I1, r, q⟩ => ⟨I1.kIn, ?_⟩) he hpl
  have hl : us.length = ps.length := by rw [← r.length]; exact F.len _ _ _ _ _ q
  have b := hb s1 us I1.kIn (by rw [List.append_nil]; exact hl)
  rw [List.append_nil] at b
  have P1 := I1.pin p (List.mem_append_left _ hp)
  have hpin : L2H.PinOk X.stack H1 s1 p := ⟨P1.1, P1.2.1, fun hm' => (List.mem_cons.mp (I1.stkSub p.1 hm')).elim P1.2.2.1 P1.2.2.2.1, P1.2.2.2.2⟩
  refine wpAny_call (codeAny_mono (F.run X.A X.stack s1 H1 ⟨us, []⟩ us vs Q E0 p hr hot hz hpin I1.env0 b r q) fun r' s' hq => ?_)
  cases r' with
  | error e => exact False.elim hq
  | ok fl =>
    cases fl with
    | ret u => exact I1.after hq
    | _ => exact False.elim hq
/-- isinstance of the error that is handled, in whatever def it is asked -/
theorem call_isP {a D : Addr} {oe : Obj} (C : ExcC X.K D) (hz : Zc (.ref D) none oe) (hf : ∃ vs, oe.data = .fields vs) (hp : (a, oe) ∈ X.pn) : CallR X (.builtin "isinstance") (rIsE X.K D a) := by
  rintro pins s σ H xs us Q I r ⟨c, cv, b, rfl, hcv, e, q⟩
  obtain ⟨vs, hv⟩ := hf
  cases r with
  | cons rx rr =>
    cases rr with
    | cons rt rr =>
      cases rr; cases rx
      have ec := hcv _ rt
      subst ec
      have hget := (I.pin (a, oe) (List.mem_append_left _ hp)).1
      have J : PySem.W.InstAt s.heap a oe D none := by
        obtain ⟨oc, od, oda, osl⟩ := oe
        obtain ⟨h1, h2⟩ := hz
        subst hv
        cases h1
        cases h2
        exact ⟨hget, rfl, rfl, trivial⟩
      exact PySem.W.kia_one (PySem.W.handS_kitx_exc C.hg C.hk C.hs C.hd C.ha C.hn C.ht C.hm) I.kIn J e (fun z => nomatch z) fun tk => ⟨.bl b, H, I.kept (t' := tk) fun _ _ z => z, rfl, q⟩
end
/-! ### defs that raise: the error's context is told to be None -/
section
variable {P : Program} {w : World} {K : PySem.W.Frag} {mg : Str → Option Value} {base : Heap}
theorem _root_.L2.Fun.okN {x qual : Str} {st : Stmt} {f : Addr} {fd : FuncData} {N ps : List Str} {k : Nat} {sp : Sp} (F : Fun K x qual st f fd) (S : FnScope N ps (defScope st)) (len : ∀ vs H Q E, sp vs H Q E → vs.length = ps.length)
    (hbody : ∀ (cdv : Value) (A : Around) (outer : List Env) (s : Shared) (H : Hp) (vs : List V) (Q : VK) (E : XK), Room k (A.deeper (envOfC qual (defScope st) s.heap.objs.size f cdv)) → sp vs H Q E →
      ∃ t, PSs (cxOf (L2N.CX P w) P w K mg base N qual (defScope st) f cdv A outer s H E) (defBody st) t ∧ t { nx := fun _ H' => Q .non H', rt := Q } (L2.start N vs) H) : FnOk P w K mg base (L2N.CX P w) (k + 1) f fd ps sp := by
  obtain ⟨oc, od, kV, doc, pm, an, cdv, ct, osl, rfl, lk, hcd⟩ := F.ex
  exact fn_of lk hcd S len fun A outer s H vs Q E hr hsp => hbody cdv A outer s H vs Q E hr hsp
theorem takes0N {X : Cx} : L2N.Takes X (fun _ _ _ _ => False) := fun _ _ x => by
  obtain ⟨_, _, _, _, _, _, _, _, _, _, _, _, _, _, _, _, z⟩ := x
  cases z
end
section
variable {X : Cx} {C : Addr} {bmB : List Value} {B newId initId : String}
/-- X(e) -/
theorem pmk_own1N {x : Str} {e : Expr} {ta : TE} {p pos : Pos} (F : ExcBaseFacts B newId initId bmB) (q : PySem.W.excIn X.K C bmB newId = true) (gC : X.mg x = some (.ref C)) (kC : PySem.W.keepIn X.K (.ref C) = true) (r : Raises X (.ref C)) (hg : Gl X x) (he : PE X e ta)
    (hs : starEach [e] X.env = (false, eval e X.env) :: starEach [] X.env := by rfl) (hdb : (x == ("__debug__" : Str)) = false := by decide) : L2N.PMk X (.Call (.Name x p) [e] [] pos) (fun σ H Q => ta σ H fun _ H1 => Q (.ref C) none H1) := by
  intro pins s σ H Q I h; refine wpAny_Call_Name_kw (ld_glob I hg gC ?_ hdb)
  refine PySem.W.callWith_K (h₀ := X.base) I.ok.mod.kin kC ?_ hs (by rfl); rw [hs]
  refine (show wpAny _ _ (spliced ((false, eval e X.env) :: backTo pos (starEach [] X.env))) _ _ s from ?_)
  refine Calls.spliced_cons (thn (he.run pins s σ H _ I h) fun u s1 ⟨v, H1, I1, r1, q1⟩ => Calls.spliced_nil ⟨I1.kIn, ?_⟩)
  refine (show wpAny _ _ (call (.ref C) [u]) _ _ _ from ?_)
  obtain ⟨bm, N, nm, qn, bs, hdct, sn, sub, ab, col, dd, k0, k1, k2, k3, k5, mN, hC, hN, hni, T⟩ := exc_obj I1.kIn q
  exact wpAny_call_exc_subT F T hC hN hni (fun h' e' hm => L2N.mk_of I1 hm r q1 (I1.hok.gone hm.new)) (by show 1 ≤ sizeLine; rw [sizeLine_eq]; omega)
end
end Rg
namespace K10
open PySem PySem.Spec PyProof.Rows L2 Rg
def top (i : Nat) : Stmt := PySem.Challenge.pw_lotsandties_k10_list_of_unfinished_nodes.main.body.getD i (.Pass ⟨0, 0, 0, 0⟩)
abbrev s_listed : Stmt := top 38
abbrev s_put_list : Stmt := top 39
abbrev s_enlist : Stmt := top 40
abbrev s_delist : Stmt := top 41
abbrev s_Lfeed : Stmt := top 45
abbrev s_Lpick : Stmt := top 46
abbrev s_Lsame : Stmt := top 47
abbrev s_Lstate : Stmt := top 48
abbrev s_Lerror : Stmt := top 49
abbrev s_Ldo : Stmt := top 50
abbrev s_Lfresh : Stmt := top 51
abbrev s_Lmoves : Stmt := top 52
abbrev s_Lbehind : Stmt := top 53
abbrev s_Ldue : Stmt := top 54
abbrev s_Ltold : Stmt := top 55
abbrev s_law : Stmt := top 56
abbrev s_Plan___init__ : Stmt := inClass (top 36) 6
abbrev s_Plan_map_place : Stmt := inClass (top 36) 9
abbrev s_Plan_node_block : Stmt := inClass (top 36) 10
abbrev s_Image___init__ : Stmt := inClass (top 43) 0
abbrev s_Image_begin : Stmt := inClass (top 43) 3
abbrev s_Image_settle : Stmt := inClass (top 43) 4
abbrev s_Image_twin : Stmt := inClass (top 43) 5
abbrev s_Image_kind : Stmt := inClass (top 43) 10
abbrev s_Image_fresh : Stmt := inClass (top 43) 1
abbrev s_Image_of_cells : Stmt := inClass (top 43) 2
theorem sc_listed : FnScope ["image", "n"] ["image"] (defScope s_listed) := ⟨rfl, rfl, rfl, by decide +kernel, rfl, by decide +kernel, by decide +kernel⟩
theorem sc_put_list : FnScope ["image", "nodes", "cell"] ["image", "nodes"] (defScope s_put_list) := ⟨rfl, rfl, rfl, by decide +kernel, rfl, by decide +kernel, by decide +kernel⟩
theorem sc_enlist : FnScope ["image", "n", "nodes"] ["image", "n"] (defScope s_enlist) := ⟨rfl, rfl, rfl, by decide +kernel, rfl, by decide +kernel, by decide +kernel⟩
theorem sc_delist : FnScope ["image", "n", "other"] ["image", "n"] (defScope s_delist) := ⟨rfl, rfl, rfl, by decide +kernel, rfl, by decide +kernel, by decide +kernel⟩
theorem sc_Lfeed : FnScope ["_law_script", "_law_feed_here", "_law_cell", "_law_rest", "_law_k"] ["_law_script"] (defScope s_Lfeed) := ⟨rfl, rfl, rfl, by decide +kernel, rfl, by decide +kernel, by decide +kernel⟩
theorem sc_Lpick : FnScope ["_law_feed_here", "_law_limit"] ["_law_feed_here", "_law_limit"] (defScope s_Lpick) := ⟨rfl, rfl, rfl, by decide +kernel, rfl, by decide +kernel, by decide +kernel⟩
theorem sc_Lsame : FnScope ["_law_actual", "_law_due_here", "_law_k"] ["_law_actual", "_law_due_here"] (defScope s_Lsame) := ⟨rfl, rfl, rfl, by decide +kernel, rfl, by decide +kernel, by decide +kernel⟩
theorem sc_Lstate : FnScope ["_law_image", "_law_handles", "_law_n", "_law_row"] ["_law_image"] (defScope s_Lstate) := ⟨rfl, rfl, rfl, by decide +kernel, rfl, by decide +kernel, by decide +kernel⟩
theorem sc_Lerror : FnScope ["_law_e", "_law_told_here", "_law_name", "_law_holds"] ["_law_e"] (defScope s_Lerror) := ⟨rfl, rfl, rfl, by decide +kernel, rfl, by decide +kernel, by decide +kernel⟩
theorem sc_Ldo : FnScope ["_law_image", "_law_deed", "_law_n", "_law_e"] ["_law_image", "_law_deed", "_law_n"] (defScope s_Ldo) := ⟨rfl, rfl, rfl, by decide +kernel, rfl, by decide +kernel, by decide +kernel⟩
theorem sc_Lfresh : FnScope ["_law_rows", "_law_x", "_law_row"] [] (defScope s_Lfresh) := ⟨rfl, rfl, rfl, by decide +kernel, rfl, by decide +kernel, by decide +kernel⟩
theorem sc_Lmoves : FnScope ["_law_feed_here", "_law_moves_here", "_law_which", "_law_many", "_law_first", "_law_step", "_law_k", "_law_cell"] ["_law_feed_here"] (defScope s_Lmoves) := ⟨rfl, rfl, rfl, by decide +kernel, rfl, by decide +kernel, by decide +kernel⟩
theorem sc_Lbehind : FnScope ["_law_nodes_on", "_law_deed", "_law_n", "_law_m"] ["_law_nodes_on", "_law_deed", "_law_n"] (defScope s_Lbehind) := ⟨rfl, rfl, rfl, by decide +kernel, rfl, by decide +kernel, by decide +kernel⟩
theorem sc_Ldue : FnScope ["_law_kept", "_law_nodes_on", "_law_cells", "_law_holdings", "_law_stamps", "_law_handles", "_law_serial", "_law_rows", "_law_row", "_law_marked", "_law_due_here"] ["_law_kept", "_law_nodes_on"] (defScope s_Ldue) := ⟨rfl, rfl, rfl, by decide +kernel, rfl, by decide +kernel, by decide +kernel⟩
theorem sc_Ltold : FnScope ["_law_image", "_law_nodes_on", "_law_first"] ["_law_image", "_law_nodes_on"] (defScope s_Ltold) := ⟨rfl, rfl, rfl, by decide +kernel, rfl, by decide +kernel, by decide +kernel⟩
theorem sc_law : FnScope ["_law_script", "_law_feed_here", "_law_plan", "_law_images", "_law_held", "_law_kept", "_law_lists", "_law_which", "_law_deed", "_law_n", "_law_image", "_law_before", "_law_full", "_law_actual", "_law_k"] ["_law_script"] (defScope s_law) := ⟨rfl, rfl, rfl, by decide +kernel, rfl, by decide +kernel, by decide +kernel⟩
theorem sc_Plan___init__ : FnScope ["self", "blocks", "nodes", "slots"] ["self", "blocks", "nodes", "slots"] (defScope s_Plan___init__) := ⟨rfl, rfl, rfl, by decide +kernel, rfl, by decide +kernel, by decide +kernel⟩
theorem sc_Plan_map_place : FnScope ["self", "x"] ["self", "x"] (defScope s_Plan_map_place) := ⟨rfl, rfl, rfl, by decide +kernel, rfl, by decide +kernel, by decide +kernel⟩
theorem sc_Plan_node_block : FnScope ["self", "n"] ["self", "n"] (defScope s_Plan_node_block) := ⟨rfl, rfl, rfl, by decide +kernel, rfl, by decide +kernel, by decide +kernel⟩
theorem sc_Image___init__ : FnScope ["self", "plan", "_"] ["self", "plan"] (defScope s_Image___init__) := ⟨rfl, rfl, rfl, by decide +kernel, rfl, by decide +kernel, by decide +kernel⟩
theorem sc_Image_begin : FnScope ["self", "wish", "barred"] ["self", "wish", "barred"] (defScope s_Image_begin) := ⟨rfl, rfl, rfl, by decide +kernel, rfl, by decide +kernel, by decide +kernel⟩
theorem sc_Image_settle : FnScope ["self", "before", "x", "changed"] ["self", "before"] (defScope s_Image_settle) := ⟨rfl, rfl, rfl, by decide +kernel, rfl, by decide +kernel, by decide +kernel⟩
theorem sc_Image_twin : FnScope ["self", "other", "row"] ["self"] (defScope s_Image_twin) := ⟨rfl, rfl, rfl, by decide +kernel, rfl, by decide +kernel, by decide +kernel⟩
theorem sc_Image_kind : FnScope ["self", "x", "block", "cell", "kind"] ["self", "x"] (defScope s_Image_kind) := ⟨rfl, rfl, rfl, by decide +kernel, rfl, by decide +kernel, by decide +kernel⟩
theorem sc_Image_fresh : FnScope ["plan", "image", "x", "block", "cell", "root"] ["plan"] (defScope s_Image_fresh) := ⟨rfl, rfl, rfl, by decide +kernel, rfl, by decide +kernel, by decide +kernel⟩
theorem sc_Image_of_cells : FnScope ["plan", "rows", "image", "row", "x"] ["plan", "rows"] (defScope s_Image_of_cells) := ⟨rfl, rfl, rfl, by decide +kernel, rfl, by decide +kernel, by decide +kernel⟩

structure Tx (K : PySem.W.Frag) (mg : Str → Option Value) where
  f_listed : Addr
  fd_listed : FuncData
  F_listed : Fun K "listed" "listed" s_listed f_listed fd_listed
  mg_listed : mg "listed" = some (.ref f_listed)
  f_put_list : Addr
  fd_put_list : FuncData
  F_put_list : Fun K "_put_list" "_put_list" s_put_list f_put_list fd_put_list
  mg_put_list : mg "_put_list" = some (.ref f_put_list)
  f_enlist : Addr
  fd_enlist : FuncData
  F_enlist : Fun K "enlist" "enlist" s_enlist f_enlist fd_enlist
  mg_enlist : mg "enlist" = some (.ref f_enlist)
  f_delist : Addr
  fd_delist : FuncData
  F_delist : Fun K "delist" "delist" s_delist f_delist fd_delist
  mg_delist : mg "delist" = some (.ref f_delist)
  f_Lfeed : Addr
  fd_Lfeed : FuncData
  F_Lfeed : Fun K "_law_feed" "_law_feed" s_Lfeed f_Lfeed fd_Lfeed
  mg_Lfeed : mg "_law_feed" = some (.ref f_Lfeed)
  f_Lpick : Addr
  fd_Lpick : FuncData
  F_Lpick : Fun K "_law_pick" "_law_pick" s_Lpick f_Lpick fd_Lpick
  mg_Lpick : mg "_law_pick" = some (.ref f_Lpick)
  f_Lsame : Addr
  fd_Lsame : FuncData
  F_Lsame : Fun K "_law_same" "_law_same" s_Lsame f_Lsame fd_Lsame
  mg_Lsame : mg "_law_same" = some (.ref f_Lsame)
  f_Lstate : Addr
  fd_Lstate : FuncData
  F_Lstate : Fun K "_law_state" "_law_state" s_Lstate f_Lstate fd_Lstate
  mg_Lstate : mg "_law_state" = some (.ref f_Lstate)
  f_Lerror : Addr
  fd_Lerror : FuncData
  F_Lerror : Fun K "_law_error" "_law_error" s_Lerror f_Lerror fd_Lerror
  mg_Lerror : mg "_law_error" = some (.ref f_Lerror)
  f_Ldo : Addr
  fd_Ldo : FuncData
  F_Ldo : Fun K "_law_do" "_law_do" s_Ldo f_Ldo fd_Ldo
  mg_Ldo : mg "_law_do" = some (.ref f_Ldo)
  f_Lfresh : Addr
  fd_Lfresh : FuncData
  F_Lfresh : Fun K "_law_fresh" "_law_fresh" s_Lfresh f_Lfresh fd_Lfresh
  mg_Lfresh : mg "_law_fresh" = some (.ref f_Lfresh)
  f_Lmoves : Addr
  fd_Lmoves : FuncData
  F_Lmoves : Fun K "_law_moves" "_law_moves" s_Lmoves f_Lmoves fd_Lmoves
  mg_Lmoves : mg "_law_moves" = some (.ref f_Lmoves)
  f_Lbehind : Addr
  fd_Lbehind : FuncData
  F_Lbehind : Fun K "_law_behind" "_law_behind" s_Lbehind f_Lbehind fd_Lbehind
  mg_Lbehind : mg "_law_behind" = some (.ref f_Lbehind)
  f_Ldue : Addr
  fd_Ldue : FuncData
  F_Ldue : Fun K "_law_due" "_law_due" s_Ldue f_Ldue fd_Ldue
  mg_Ldue : mg "_law_due" = some (.ref f_Ldue)
  f_Ltold : Addr
  fd_Ltold : FuncData
  F_Ltold : Fun K "_law_told" "_law_told" s_Ltold f_Ltold fd_Ltold
  mg_Ltold : mg "_law_told" = some (.ref f_Ltold)
  f_law : Addr
  fd_law : FuncData
  F_law : Fun K "law" "law" s_law f_law fd_law
  mg_law : mg "law" = some (.ref f_law)
  f_Plan___init__ : Addr
  fd_Plan___init__ : FuncData
  F_Plan___init__ : Fun K "__init__" "Plan.__init__" s_Plan___init__ f_Plan___init__ fd_Plan___init__
  f_Plan_map_place : Addr
  fd_Plan_map_place : FuncData
  F_Plan_map_place : Fun K "map_place" "Plan.map_place" s_Plan_map_place f_Plan_map_place fd_Plan_map_place
  f_Plan_node_block : Addr
  fd_Plan_node_block : FuncData
  F_Plan_node_block : Fun K "node_block" "Plan.node_block" s_Plan_node_block f_Plan_node_block fd_Plan_node_block
  f_Image___init__ : Addr
  fd_Image___init__ : FuncData
  F_Image___init__ : Fun K "__init__" "Image.__init__" s_Image___init__ f_Image___init__ fd_Image___init__
  f_Image_begin : Addr
  fd_Image_begin : FuncData
  F_Image_begin : Fun K "begin" "Image.begin" s_Image_begin f_Image_begin fd_Image_begin
  f_Image_settle : Addr
  fd_Image_settle : FuncData
  F_Image_settle : Fun K "settle" "Image.settle" s_Image_settle f_Image_settle fd_Image_settle
  f_Image_twin : Addr
  fd_Image_twin : FuncData
  F_Image_twin : Fun K "twin" "Image.twin" s_Image_twin f_Image_twin fd_Image_twin
  f_Image_kind : Addr
  fd_Image_kind : FuncData
  F_Image_kind : Fun K "kind" "Image.kind" s_Image_kind f_Image_kind fd_Image_kind
  f_Image_fresh : Addr
  fd_Image_fresh : FuncData
  F_Image_fresh : Fun K "fresh" "Image.fresh" s_Image_fresh f_Image_fresh fd_Image_fresh
  f_Image_of_cells : Addr
  fd_Image_of_cells : FuncData
  F_Image_of_cells : Fun K "of_cells" "Image.of_cells" s_Image_of_cells f_Image_of_cells fd_Image_of_cells
  C_Plan : Addr
  mg_Plan : mg "Plan" = some (.ref C_Plan)
  cl_Plan : Cls K C_Plan
  na_Plan_blocks : NoAttr K C_Plan "blocks"
  na_Plan_nodes : NoAttr K C_Plan "nodes"
  na_Plan_slots : NoAttr K C_Plan "slots"
  na_Plan_maps : NoAttr K C_Plan "maps"
  na_Plan_first_node : NoAttr K C_Plan "first_node"
  na_Plan_first_data : NoAttr K C_Plan "first_data"
  mk_Plan : Mk K C_Plan f_Plan___init__
  mc_Plan : Value
  cr_Plan : ClX.CRead K C_Plan mc_Plan
  cv_Plan_WIDTH : ∃ u, ClX.CVal K C_Plan mc_Plan "WIDTH" (.int 8) u
  cv_Plan_FREE : ∃ u, ClX.CVal K C_Plan mc_Plan "FREE" (.int 0) u
  cv_Plan_LOGGED : ∃ u, ClX.CVal K C_Plan mc_Plan "LOGGED" (.int 1) u
  cv_Plan_PLAIN : ∃ u, ClX.CVal K C_Plan mc_Plan "PLAIN" (.int 2) u
  con_Plan_WIDTH : ∃ u, Con K C_Plan "WIDTH" (.int 8) u
  C_Image : Addr
  mg_Image : mg "Image" = some (.ref C_Image)
  cl_Image : Cls K C_Image
  na_Image_plan : NoAttr K C_Image "plan"
  na_Image_cells : NoAttr K C_Image "cells"
  na_Image_holdings : NoAttr K C_Image "holdings"
  na_Image_stamps : NoAttr K C_Image "stamps"
  na_Image_handles : NoAttr K C_Image "handles"
  na_Image_serial : NoAttr K C_Image "serial"
  na_Image_wish : NoAttr K C_Image "wish"
  na_Image_barred : NoAttr K C_Image "barred"
  mk_Image : Mk K C_Image f_Image___init__
  mc_Image : Value
  cr_Image : ClX.CRead K C_Image mc_Image
  m_Plan_map_place : Meth K C_Plan "map_place" f_Plan_map_place
  m_Plan_node_block : Meth K C_Plan "node_block" f_Plan_node_block
  m_Image_begin : Meth K C_Image "begin" f_Image_begin
  m_Image_settle : Meth K C_Image "settle" f_Image_settle
  m_Image_twin : Meth K C_Image "twin" f_Image_twin
  m_Image_kind : Meth K C_Image "kind" f_Image_kind
  sm_Image_fresh : SMet K C_Image mc_Image "fresh" f_Image_fresh
  sm_Image_of_cells : SMet K C_Image mc_Image "of_cells" f_Image_of_cells
  C_StoreError : Addr
  mg_StoreError : mg "StoreError" = some (.ref C_StoreError)
  be_StoreError : PySem.W.subIn K (.ref C_StoreError) (.type "BaseException") = some true
  te_StoreError : PySem.W.typeIn K (.ref C_StoreError) = some (.type "type")
  ie_StoreError : PySem.W.isClsIn K C_StoreError = true
  C_BadText : Addr
  mg_BadText : mg "BadText" = some (.ref C_BadText)
  be_BadText : PySem.W.subIn K (.ref C_BadText) (.type "BaseException") = some true
  te_BadText : PySem.W.typeIn K (.ref C_BadText) = some (.type "type")
  ie_BadText : PySem.W.isClsIn K C_BadText = true
  C_BadValue : Addr
  mg_BadValue : mg "BadValue" = some (.ref C_BadValue)
  be_BadValue : PySem.W.subIn K (.ref C_BadValue) (.type "BaseException") = some true
  te_BadValue : PySem.W.typeIn K (.ref C_BadValue) = some (.type "type")
  ie_BadValue : PySem.W.isClsIn K C_BadValue = true
  C_Refused : Addr
  mg_Refused : mg "Refused" = some (.ref C_Refused)
  be_Refused : PySem.W.subIn K (.ref C_Refused) (.type "BaseException") = some true
  te_Refused : PySem.W.typeIn K (.ref C_Refused) = some (.type "type")
  ie_Refused : PySem.W.isClsIn K C_Refused = true
  C_NotNow : Addr
  mg_NotNow : mg "NotNow" = some (.ref C_NotNow)
  be_NotNow : PySem.W.subIn K (.ref C_NotNow) (.type "BaseException") = some true
  te_NotNow : PySem.W.typeIn K (.ref C_NotNow) = some (.type "type")
  ie_NotNow : PySem.W.isClsIn K C_NotNow = true
  C_NotLet : Addr
  mg_NotLet : mg "NotLet" = some (.ref C_NotLet)
  be_NotLet : PySem.W.subIn K (.ref C_NotLet) (.type "BaseException") = some true
  te_NotLet : PySem.W.typeIn K (.ref C_NotLet) = some (.type "type")
  ie_NotLet : PySem.W.isClsIn K C_NotLet = true
  C_FolderFull : Addr
  mg_FolderFull : mg "FolderFull" = some (.ref C_FolderFull)
  be_FolderFull : PySem.W.subIn K (.ref C_FolderFull) (.type "BaseException") = some true
  te_FolderFull : PySem.W.typeIn K (.ref C_FolderFull) = some (.type "type")
  ie_FolderFull : PySem.W.isClsIn K C_FolderFull = true
  C_NodesFull : Addr
  mg_NodesFull : mg "NodesFull" = some (.ref C_NodesFull)
  be_NodesFull : PySem.W.subIn K (.ref C_NodesFull) (.type "BaseException") = some true
  te_NodesFull : PySem.W.typeIn K (.ref C_NodesFull) = some (.type "type")
  ie_NodesFull : PySem.W.isClsIn K C_NodesFull = true
  C_BlocksFull : Addr
  mg_BlocksFull : mg "BlocksFull" = some (.ref C_BlocksFull)
  be_BlocksFull : PySem.W.subIn K (.ref C_BlocksFull) (.type "BaseException") = some true
  te_BlocksFull : PySem.W.typeIn K (.ref C_BlocksFull) = some (.type "type")
  ie_BlocksFull : PySem.W.isClsIn K C_BlocksFull = true
  C_TooLong : Addr
  mg_TooLong : mg "TooLong" = some (.ref C_TooLong)
  be_TooLong : PySem.W.subIn K (.ref C_TooLong) (.type "BaseException") = some true
  te_TooLong : PySem.W.typeIn K (.ref C_TooLong) = some (.type "type")
  ie_TooLong : PySem.W.isClsIn K C_TooLong = true
  C_Unfinished : Addr
  mg_Unfinished : mg "Unfinished" = some (.ref C_Unfinished)
  be_Unfinished : PySem.W.subIn K (.ref C_Unfinished) (.type "BaseException") = some true
  te_Unfinished : PySem.W.typeIn K (.ref C_Unfinished) = some (.type "type")
  ie_Unfinished : PySem.W.isClsIn K C_Unfinished = true
  C_ListFull : Addr
  mg_ListFull : mg "ListFull" = some (.ref C_ListFull)
  be_ListFull : PySem.W.subIn K (.ref C_ListFull) (.type "BaseException") = some true
  te_ListFull : PySem.W.typeIn K (.ref C_ListFull) = some (.type "type")
  ie_ListFull : PySem.W.isClsIn K C_ListFull = true
  xe_ListFull : PySem.W.excIn K C_ListFull [.type "ValueError", .type "Exception", .type "BaseException", .type "object"] "ValueError.__new__" = true
  ke_ListFull : PySem.W.keepIn K (.ref C_ListFull) = true
  ec_ListFull : ExcC K C_ListFull
  C_NotOnList : Addr
  mg_NotOnList : mg "NotOnList" = some (.ref C_NotOnList)
  be_NotOnList : PySem.W.subIn K (.ref C_NotOnList) (.type "BaseException") = some true
  te_NotOnList : PySem.W.typeIn K (.ref C_NotOnList) = some (.type "type")
  ie_NotOnList : PySem.W.isClsIn K C_NotOnList = true
  sub_ListFull_StoreError : PySem.W.subIn K (.ref C_ListFull) (.ref C_StoreError) = some true
  sub_ListFull_BadText : PySem.W.subIn K (.ref C_ListFull) (.ref C_BadText) = some false
  sub_ListFull_BadValue : PySem.W.subIn K (.ref C_ListFull) (.ref C_BadValue) = some false
  sub_ListFull_Refused : PySem.W.subIn K (.ref C_ListFull) (.ref C_Refused) = some true
  sub_ListFull_NotNow : PySem.W.subIn K (.ref C_ListFull) (.ref C_NotNow) = some false
  sub_ListFull_NotLet : PySem.W.subIn K (.ref C_ListFull) (.ref C_NotLet) = some false
  sub_ListFull_FolderFull : PySem.W.subIn K (.ref C_ListFull) (.ref C_FolderFull) = some false
  sub_ListFull_NodesFull : PySem.W.subIn K (.ref C_ListFull) (.ref C_NodesFull) = some false
  sub_ListFull_BlocksFull : PySem.W.subIn K (.ref C_ListFull) (.ref C_BlocksFull) = some false
  sub_ListFull_TooLong : PySem.W.subIn K (.ref C_ListFull) (.ref C_TooLong) = some false
  sub_ListFull_Unfinished : PySem.W.subIn K (.ref C_ListFull) (.ref C_Unfinished) = some false
  sub_ListFull_ListFull : PySem.W.subIn K (.ref C_ListFull) (.ref C_ListFull) = some true
  sub_ListFull_NotOnList : PySem.W.subIn K (.ref C_ListFull) (.ref C_NotOnList) = some false
  bsub_ListFull_ValueError : PySem.W.subIn K (.ref C_ListFull) (.type "ValueError") = some true
  c_LIST_BLOCK : ∃ t, mg "LIST_BLOCK" = some (.int 1 t)
  c_ROOT : ∃ t, mg "ROOT" = some (.int 1 t)
  c_KIND : ∃ t, mg "KIND" = some (.int 0 t)
  c_LINKS : ∃ t, mg "LINKS" = some (.int 1 t)
  c_MAKING : ∃ t, mg "MAKING" = some (.int 7 t)
  c_FOLDER : ∃ t, mg "FOLDER" = some (.int 2 t)
  c_LEAST_BLOCKS : ∃ t, mg "LEAST_BLOCKS" = some (.int 8 t)
  c_MOST_BLOCKS : ∃ t, mg "MOST_BLOCKS" = some (.int 64 t)
  c_LEAST_NODES : ∃ t, mg "LEAST_NODES" = some (.int 2 t)
  c_MOST_NODES : ∃ t, mg "MOST_NODES" = some (.int 16 t)
  c_MOST_SLOTS : ∃ t, mg "MOST_SLOTS" = some (.int 200 t)
  c_LEAST_DATA : ∃ t, mg "LEAST_DATA" = some (.int 2 t)
  c_FIRST_MAP : ∃ t, mg "FIRST_MAP" = some (.int 2 t)
  b_ValueError : mg "ValueError" = none
  b_abs : mg "abs" = none
  b_bool : mg "bool" = none
  b_dict : mg "dict" = none
  b_int : mg "int" = none
  b_isinstance : mg "isinstance" = none
  b_len : mg "len" = none
  b_list : mg "list" = none
  b_min : mg "min" = none
  b_range : mg "range" = none
  b_sorted : mg "sorted" = none
  b_str : mg "str" = none
  b_tuple : mg "tuple" = none

section
variable {P : Program} {w : World} {K : PySem.W.Frag} {mg : Str → Option Value} {base : Heap}
theorem b_listed (T : Tx K mg) : Binds K T.fd_listed ["image"] [] := T.F_listed.binds (ps := ["image"]) fun _ _ _ _ _ _ us hl => match us, hl with | [_], _ => rfl
theorem b_put_list (T : Tx K mg) : Binds K T.fd_put_list ["image", "nodes"] [] := T.F_put_list.binds (ps := ["image", "nodes"]) fun _ _ _ _ _ _ us hl => match us, hl with | [_, _], _ => rfl
theorem b_enlist (T : Tx K mg) : Binds K T.fd_enlist ["image", "n"] [] := T.F_enlist.binds (ps := ["image", "n"]) fun _ _ _ _ _ _ us hl => match us, hl with | [_, _], _ => rfl
theorem b_delist (T : Tx K mg) : Binds K T.fd_delist ["image", "n"] [] := T.F_delist.binds (ps := ["image", "n"]) fun _ _ _ _ _ _ us hl => match us, hl with | [_, _], _ => rfl
theorem b_Lfeed (T : Tx K mg) : Binds K T.fd_Lfeed ["_law_script"] [] := T.F_Lfeed.binds (ps := ["_law_script"]) fun _ _ _ _ _ _ us hl => match us, hl with | [_], _ => rfl
theorem b_Lpick (T : Tx K mg) : Binds K T.fd_Lpick ["_law_feed_here", "_law_limit"] [] := T.F_Lpick.binds (ps := ["_law_feed_here", "_law_limit"]) fun _ _ _ _ _ _ us hl => match us, hl with | [_, _], _ => rfl
theorem b_Lsame (T : Tx K mg) : Binds K T.fd_Lsame ["_law_actual", "_law_due_here"] [] := T.F_Lsame.binds (ps := ["_law_actual", "_law_due_here"]) fun _ _ _ _ _ _ us hl => match us, hl with | [_, _], _ => rfl
theorem b_Lstate (T : Tx K mg) : Binds K T.fd_Lstate ["_law_image"] [] := T.F_Lstate.binds (ps := ["_law_image"]) fun _ _ _ _ _ _ us hl => match us, hl with | [_], _ => rfl
theorem b_Lerror (T : Tx K mg) : Binds K T.fd_Lerror ["_law_e"] [] := T.F_Lerror.binds (ps := ["_law_e"]) fun _ _ _ _ _ _ us hl => match us, hl with | [_], _ => rfl
theorem b_Ldo (T : Tx K mg) : Binds K T.fd_Ldo ["_law_image", "_law_deed", "_law_n"] [] := T.F_Ldo.binds (ps := ["_law_image", "_law_deed", "_law_n"]) fun _ _ _ _ _ _ us hl => match us, hl with | [_, _, _], _ => rfl
theorem b_Lfresh (T : Tx K mg) : Binds K T.fd_Lfresh [] [] := T.F_Lfresh.binds (ps := []) fun _ _ _ _ _ _ us hl => match us, hl with | [], _ => rfl
theorem b_Lmoves (T : Tx K mg) : Binds K T.fd_Lmoves ["_law_feed_here"] [] := T.F_Lmoves.binds (ps := ["_law_feed_here"]) fun _ _ _ _ _ _ us hl => match us, hl with | [_], _ => rfl
theorem b_Lbehind (T : Tx K mg) : Binds K T.fd_Lbehind ["_law_nodes_on", "_law_deed", "_law_n"] [] := T.F_Lbehind.binds (ps := ["_law_nodes_on", "_law_deed", "_law_n"]) fun _ _ _ _ _ _ us hl => match us, hl with | [_, _, _], _ => rfl
theorem b_Ldue (T : Tx K mg) : Binds K T.fd_Ldue ["_law_kept", "_law_nodes_on"] [] := T.F_Ldue.binds (ps := ["_law_kept", "_law_nodes_on"]) fun _ _ _ _ _ _ us hl => match us, hl with | [_, _], _ => rfl
theorem b_Ltold (T : Tx K mg) : Binds K T.fd_Ltold ["_law_image", "_law_nodes_on"] [] := T.F_Ltold.binds (ps := ["_law_image", "_law_nodes_on"]) fun _ _ _ _ _ _ us hl => match us, hl with | [_, _], _ => rfl
theorem b_law (T : Tx K mg) : Binds K T.fd_law ["_law_script"] [] := T.F_law.binds (ps := ["_law_script"]) fun _ _ _ _ _ _ us hl => match us, hl with | [_], _ => rfl
theorem b_Plan_map_place (T : Tx K mg) : Binds K T.fd_Plan_map_place ["self", "x"] [] := T.F_Plan_map_place.binds (ps := ["self", "x"]) fun _ _ _ _ _ _ us hl => match us, hl with | [_, _], _ => rfl
theorem b_Plan_node_block (T : Tx K mg) : Binds K T.fd_Plan_node_block ["self", "n"] [] := T.F_Plan_node_block.binds (ps := ["self", "n"]) fun _ _ _ _ _ _ us hl => match us, hl with | [_, _], _ => rfl
theorem b_Image___init__ (T : Tx K mg) : Binds K T.fd_Image___init__ ["self", "plan"] [] := T.F_Image___init__.binds (ps := ["self", "plan"]) fun _ _ _ _ _ _ us hl => match us, hl with | [_, _], _ => rfl
theorem b_Image_begin (T : Tx K mg) : Binds K T.fd_Image_begin ["self", "wish", "barred"] [] := T.F_Image_begin.binds (ps := ["self", "wish", "barred"]) fun _ _ _ _ _ _ us hl => match us, hl with | [_, _, _], _ => rfl
theorem b_Image_settle (T : Tx K mg) : Binds K T.fd_Image_settle ["self", "before"] [] := T.F_Image_settle.binds (ps := ["self", "before"]) fun _ _ _ _ _ _ us hl => match us, hl with | [_, _], _ => rfl
theorem b_Image_twin (T : Tx K mg) : Binds K T.fd_Image_twin ["self"] [] := T.F_Image_twin.binds (ps := ["self"]) fun _ _ _ _ _ _ us hl => match us, hl with | [_], _ => rfl
theorem b_Image_kind (T : Tx K mg) : Binds K T.fd_Image_kind ["self", "x"] [] := T.F_Image_kind.binds (ps := ["self", "x"]) fun _ _ _ _ _ _ us hl => match us, hl with | [_, _], _ => rfl
theorem b_Image_fresh (T : Tx K mg) : Binds K T.fd_Image_fresh ["plan"] [] := T.F_Image_fresh.binds (ps := ["plan"]) fun _ _ _ _ _ _ us hl => match us, hl with | [_], _ => rfl
theorem b_Image_of_cells (T : Tx K mg) : Binds K T.fd_Image_of_cells ["plan", "rows"] [] := T.F_Image_of_cells.binds (ps := ["plan", "rows"]) fun _ _ _ _ _ _ us hl => match us, hl with | [_, _], _ => rfl
end
end K10
namespace K10
open PySem PySem.Spec PyProof.Rows L2 Rg
section
variable {P : Program} {w : World} {K : PySem.W.Frag} {mg : Str → Option Value} {base : Heap}
/-! ### _law_pick -/
def sp_Lpick : Sp := fun vs H Q _ => ∃ (p : Addr) (fs : List Int) (lim : Int), vs = [.ref p, .int lim] ∧ H p = some (.lst (fs.map V.int)) ∧ 0 < lim ∧
  ∀ (r : Int) (fs' : List Int), 0 ≤ r → r < lim → fs'.length ≤ fs.length → Q (.int r) (upd H p (.lst (fs'.map V.int)))
theorem ok_Lpick (T : Tx K mg) : FnOk P w K mg base CX0 1 T.f_Lpick T.fd_Lpick ["_law_feed_here", "_law_limit"] sp_Lpick := by
  refine T.F_Lpick.ok sc_Lpick (fun vs H Q E h => ?_) (fun cdv A outer s H vs Q E hr h => ?_)
  · obtain ⟨p, fs, lim, rfl, _⟩ := h
    rfl
  · obtain ⟨p, fs, lim, rfl, hp, hl, k⟩ := h
    refine ⟨_, (pss_cons (ps_if (pt_cmpR op_eq (pe_callB call_len_seq rfl T.b_len (by decide +kernel) (pa_cons (pv 0) pa_nil)) pe_int (nomark _))
        (pss_one (ps_ret pe_int))
        pss_nil)
      (pss_one (ps_ret (pe_op op_mod (pe_callTy call_int1 rfl T.b_int (by decide +kernel) (pa_cons (pe_bm PySem.F.plainAttrs_list PySem.F.slot_list_pop PySem.F.type_list_pop mt_popAt (pv 0) (pa_cons pe_int pa_nil)) pa_nil)) (pv 1))))), ?_⟩
    refine ⟨_, rfl, p, fs.map V.int, rfl, .inl (.inl (.inl hp)), rfl, _, rfl, ite2 (fun e => ?_) (fun e => ?_)⟩
    · have := k 0 fs (Int.le_refl _) hl (Nat.le_refl _)
      rw [upd_id hp] at this
      exact this
    · cases fs with
      | nil => exact absurd (decide_eq_true rfl) e
      | cons x r =>
        refine ⟨.ref p, rfl, .inl ⟨rfl, _, .inl (.inl hp)⟩, p, _, 0, 0, .int x, rfl, rfl, hp, by decide, by decide, ?_, rfl, .inl ⟨x, rfl, ?_⟩⟩
        · rw [List.length_map]; simp [seqIndex?]
        · refine ⟨.int lim, rfl, _, _, rfl, rfl, hl, ?_⟩
          exact k _ r (Int.emod_nonneg _ (by omega)) (Int.emod_lt_of_pos _ hl) (by simp)

/-! ### _law_feed -/
def sp_Lfeed (K : PySem.W.Frag) : Sp := fun vs H Q _ => ∃ (a : Addr) (ns : List Int), vs = [.ref a] ∧ SqL K H a (ns.map V.int) ∧ ns.length ≤ 63 ∧
  ∀ (H' : Hp) (p : Addr) (fs : List Int), Same H H' → H p = none → H' p = some (.lst (fs.map V.int)) → fs.length ≤ 5000 → Q (.ref p) H'
theorem ok_Lfeed (T : Tx K mg) : FnOk P w K mg base CX0 1 T.f_Lfeed T.fd_Lfeed ["_law_script"] (sp_Lfeed K) := by
  refine T.F_Lfeed.ok sc_Lfeed (fun vs H Q E h => ?_) (fun cdv A outer s H vs Q E hr h => ?_)
  · obtain ⟨_, _, rfl, _⟩ := h; rfl
  · obtain ⟨a, ns, rfl, hS, hlen, k⟩ := h
    refine ⟨_, (pss_cons (ps_set (i := 1) sc_Lfeed.nd rfl (.inl rfl) (pe_lst pa_nil))
      (pss_cons (ps_for PassesOwn.never rfl (pi_list (pv 0)) (pg_name (i := 2) sc_Lfeed.nd rfl (.inl rfl))
        (pss_cons (ps_set (i := 3) sc_Lfeed.nd rfl (.inl rfl) (pe_callB call_abs rfl T.b_abs (by decide +kernel) (pa_cons (pv 2) pa_nil)))
        (Evl.pss_cut (ps_if (pt_cmpR op_lt (pv 3) (pe_op op_pow pe_int pe_int) (nomark _))
          (pss_cons (ps_set (i := 3) sc_Lfeed.nd rfl (.inl rfl) (pe_op op_mod (pe_callTy call_int1 rfl T.b_int (by decide +kernel) (pa_cons (pe_op op_add (pe_op op_mul (pv 3) pe_int) pe_int) pa_nil)) pe_int))
          (pss_cons (ps_expr (pe_bm PySem.F.plainAttrs_list PySem.F.slot_list_append PySem.F.type_list_append mt_append (pv 1) (pa_cons (pe_op op_mod (pe_callTy call_int1 rfl T.b_int (by decide +kernel) (pa_cons (pe_op op_add (pe_op op_mul (pv 3) pe_int) pe_int) pa_nil)) pe_int) pa_nil)))
          (pss_one (ps_set (i := 3) sc_Lfeed.nd rfl (.inl rfl) pe_int))))
          pss_nil)
        (pss_one (ps_for PassesOwn.never rfl (pi_range1 rfl T.b_range (pa_cons pe_int pa_nil)) (pg_name (i := 4) sc_Lfeed.nd rfl (.inl rfl))
          (pss_one (ps_if (pt_cmpR op_gt (pv 3) pe_int (nomark _))
            (pss_cons (ps_expr (pe_bm PySem.F.plainAttrs_list PySem.F.slot_list_append PySem.F.type_list_append mt_append (pv 1) (pa_cons (pe_op op_mod (pe_callTy call_int1 rfl T.b_int (by decide +kernel) (pa_cons (pv 3) pa_nil)) pe_int) pa_nil)))
            (pss_one (ps_set (i := 3) sc_Lfeed.nd rfl (.inl rfl) (pe_op op_fdiv (pv 3) pe_int))))
            pss_nil)))))))
      (pss_one (ps_ret (pv 1))))), ?_⟩
    refine ⟨Nat.zero_le _, fun p np => ?_⟩
    have s0 : Same H (upd H p (.lst [])) := same_upd np
    have npa : ∀ H2, SqL K H2 a (ns.map V.int) → True := fun _ _ => trivial
    refine ⟨_, rfl, a, rfl, ⟨_, s0.seq hS⟩, for_list (K := K) (a := a) (xs := ns.map V.int) (fun i σ H2 => ∃ (fs : List Int) (v2 v3 v4 : Option V), σ = [some (.ref a), some (.ref p), v2, v3, v4] ∧ H2 = upd H p (.lst (fs.map V.int)) ∧ fs.length ≤ 61 * i)
      ⟨[], none, none, none, rfl, rfl, Nat.zero_le _⟩ (fun i σ H2 _ ⟨_, _, _, _, _, e, _⟩ => by rw [e]; exact (same_upd np).seq hS) ?_ ?_⟩
    · rintro i y σ H2 hi ⟨fs, v2, v3, v4, rfl, rfl, hl⟩
      have hil : i < 63 := by
        have := (List.getElem?_eq_some_iff.mp hi).1
        rw [List.length_map] at this
        omega
      obtain ⟨z, rfl⟩ : ∃ z, y = V.int z := by
        rw [List.getElem?_map] at hi
        cases e : ns[i]? with
        | none => rw [e] at hi; cases hi
        | some z => rw [e] at hi; exact ⟨z, (Option.some.inj hi).symm⟩
      refine ⟨_, rfl, z, rfl, ?_⟩
      refine ⟨fun σ' H' => ∃ (fs : List Int) (R : Int) (v4 : Option V), σ' = [some (.ref a), some (.ref p), some (.int z), some (.int R), v4] ∧ H' = upd H p (.lst (fs.map V.int)) ∧ 0 ≤ R ∧ fs.length ≤ 61 * i + 1, ?_, ?_⟩
      · have hz : 0 ≤ (if z < 0 then -z else z) := by split <;> omega
        refine ⟨_, rfl, _, _, rfl, rfl, ⟨by decide, by decide, by decide⟩, _, _, rfl, rfl, _, rfl, ite2 (fun e => ?_) (fun e => ?_)⟩
        · have e1 : (if z < 0 then -z else z) < 10 ^ 18 := of_decide_eq_true e
          refine ⟨_, rfl, _, _, rfl, rfl, .inl ⟨by omega, by omega⟩, _, _, rfl, rfl, .inl ⟨_, rfl, _, _, rfl, rfl, (by show (0 : Int) < _; decide), ?_⟩⟩
          refine ⟨.ref p, rfl, .inl ⟨rfl, _, .inl (.inl upd_same)⟩, _, rfl, _, _, rfl, rfl, .inr ⟨by decide, by decide⟩, _, _, rfl, rfl, .inl ⟨_, rfl, _, _, rfl, rfl, (by show (0 : Int) < _; decide), p, _, _, rfl, rfl, upd_same, ?_, ?_⟩⟩
          · rw [List.length_map]; exact Nat.lt_of_lt_of_le (Nat.lt_succ_of_le hl) (by unfold sizeLine; omega)
          · exact ⟨fs ++ [_], 0, v4, rfl, upd_app, Int.le_refl _, by rw [List.length_append]; simp; omega⟩
        · exact ⟨fs, _, v4, rfl, rfl, hz, by omega⟩
      · rintro σ' H' ⟨fs, R, v4, rfl, rfl, hR, hl⟩
        refine ⟨60, rfl, by decide, by decide, for_range (lo := 0) (n := 60) (fun j σ' H' => ∃ (fs : List Int) (R : Int) (v4 : Option V), σ' = [some (.ref a), some (.ref p), some (.int z), some (.int R), v4] ∧ H' = upd H p (.lst (fs.map V.int)) ∧ 0 ≤ R ∧ fs.length ≤ 61 * i + 1 + j)
          ⟨fs, R, v4, rfl, rfl, hR, hl⟩ ?_ ?_⟩
        · rintro j σ' H' hj ⟨fs, R, v4, rfl, rfl, hR, hl⟩
          refine ⟨_, rfl, _, _, rfl, rfl, _, rfl, ite2 (fun e => ?_) (fun e => ?_)⟩
          · refine ⟨.ref p, rfl, .inl ⟨rfl, _, .inl (.inl upd_same)⟩, _, rfl, .inl ⟨_, rfl, _, _, rfl, rfl, (by show (0 : Int) < _; decide), p, _, _, rfl, rfl, upd_same, ?_, ?_⟩⟩
            · rw [List.length_map]; exact Nat.lt_of_lt_of_le (Nat.lt_succ_of_le hl) (by unfold sizeLine; omega)
            · refine ⟨_, rfl, _, _, rfl, rfl, ⟨by decide, by decide⟩, fs ++ [_], _, _, rfl, upd_app, Int.ediv_nonneg hR (by decide), by rw [List.length_append]; simp; omega⟩
          · exact ⟨fs, R, _, rfl, rfl, hR, by omega⟩
        · rintro σ' H' ⟨fs, R, v4, rfl, rfl, hR, hl⟩
          exact ⟨fs, _, _, _, rfl, rfl, by omega⟩
    · rintro σ H2 ⟨fs, v2, v3, v4, rfl, rfl, hl⟩
      rw [List.length_map] at hl
      exact ⟨_, rfl, k _ p fs (same_upd np) np upd_same (by omega)⟩
end
end K10
namespace K10
open PySem PySem.Spec PyProof.Rows L2 Rg
section
variable {P : Program} {w : World} {K : PySem.W.Frag} {mg : Str → Option Value} {base : Heap}
/-! ### plans -/
def planF (b n s : Int) : List (Str × V) := [("blocks", .int b), ("nodes", .int n), ("slots", .int s), ("maps", .int ((b + 8 - 1) / 8)), ("first_node", .int (2 + (b + 8 - 1) / 8)), ("first_data", .int (2 + (b + 8 - 1) / 8 + n))]
structure PlanAt (C : Addr) (H : Hp) (p : Addr) (b n s : Int) : Prop where
  ob : ∃ dx, H p = some (.ins C dx (planF b n s))
  b1 : 8 ≤ b
  b2 : b ≤ 64
  n1 : 2 ≤ n
  n2 : n ≤ 16
  s1 : b < s
  s2 : s ≤ 200
  d : 2 ≤ b - (2 + (b + 8 - 1) / 8 + n)
theorem PlanAt.same {C : Addr} {H H' : Hp} {p : Addr} {b n s : Int} (e : Same H H') (h : PlanAt C H p b n s) : PlanAt C H' p b n s :=
  let ⟨dx, z⟩ := h.ob
  ⟨⟨dx, e _ _ z⟩, h.b1, h.b2, h.n1, h.n2, h.s1, h.s2, h.d⟩
theorem PlanAt.of {C : Addr} {H H' : Hp} {p : Addr} {b n s : Int} (h : PlanAt C H p b n s) (e : ∀ o, H p = some o → H' p = some o) : PlanAt C H' p b n s :=
  let ⟨dx, z⟩ := h.ob
  ⟨⟨dx, e _ z⟩, h.b1, h.b2, h.n1, h.n2, h.s1, h.s2, h.d⟩
def sp_Plan_init (C : Addr) : Sp := fun vs H Q _ => ∃ (p dx : Addr) (b n s : Int), vs = [.ref p, .int b, .int n, .int s] ∧ H p = some (.ins C dx []) ∧ 8 ≤ b ∧ b ≤ 64 ∧ 2 ≤ n ∧ n ≤ 16 ∧ b < s ∧ s ≤ 200 ∧ 2 ≤ b - (2 + (b + 8 - 1) / 8 + n) ∧
  Q .non (upd H p (.ins C dx (planF b n s)))
theorem ok_Plan_init (T : Tx K mg) : FnOk P w K mg base CX0 1 T.f_Plan___init__ T.fd_Plan___init__ ["self", "blocks", "nodes", "slots"] (sp_Plan_init T.C_Plan) := by
  refine T.F_Plan___init__.ok sc_Plan___init__ (fun vs H Q E h => ?_) (fun cdv A outer s H vs Q E hr h => ?_)
  · obtain ⟨_, _, _, _, _, rfl, _⟩ := h; rfl
  · obtain ⟨p, dx, b, n, sl, rfl, hp, h1, h2, h3, h4, h5, h6, h7, k⟩ := h
    refine ⟨_, (pss_cons (ps_if (pt_not (pt_chain op_le op_le (pe_gc T.c_LEAST_BLOCKS) (pv 1) (pe_gc T.c_MOST_BLOCKS)))
        (pss_one ps_never)
        pss_nil)
      (pss_cons (ps_if (pt_not (pt_chain op_le op_le (pe_gc T.c_LEAST_NODES) (pv 2) (pe_gc T.c_MOST_NODES)))
        (pss_one ps_never)
        pss_nil)
      (pss_cons (ps_if (pt_not (pt_chain op_lt op_le (pv 1) (pv 3) (pe_gc T.c_MOST_SLOTS)))
        (pss_one ps_never)
        pss_nil)
      (pss_cons (ps_fld (pv 0) (pv 1) rfl)
      (pss_cons (ps_fld (pv 0) (pv 2) rfl)
      (pss_cons (ps_fld (pv 0) (pv 3) rfl)
      (pss_cons (ps_fld (pv 0) (pe_op op_fdiv (pe_op op_sub (pe_op op_add (pv 1) (pe_con (pv 0) rfl)) pe_int) (pe_con (pv 0) rfl)) rfl)
      (pss_cons (ps_fld (pv 0) (pe_op op_add (pe_gc T.c_FIRST_MAP) (pe_fld (pv 0) rfl)) rfl)
      (pss_cons (ps_fld (pv 0) (pe_op op_add (pe_fld (pv 0) rfl) (pv 2)) rfl)
      (pss_one (ps_if (pt_cmpR op_lt (pe_op op_sub (pv 1) (pe_fld (pv 0) rfl)) (pe_gc T.c_LEAST_DATA) (nomark _))
        (pss_one ps_never)
        pss_nil))))))))))), ?_⟩
    obtain ⟨uW, cW⟩ := T.con_Plan_WIDTH
    refine ⟨_, rfl, _, _, rfl, rfl, _, rfl, ?_⟩
    rw [decide_eq_true h1]
    refine iteT ⟨_, _, rfl, rfl, _, rfl, ?_⟩
    rw [decide_eq_true h2]
    refine iteF ⟨_, rfl, _, _, rfl, rfl, _, rfl, ?_⟩
    rw [decide_eq_true h3]
    refine iteT ⟨_, _, rfl, rfl, _, rfl, ?_⟩
    rw [decide_eq_true h4]
    refine iteF ⟨_, rfl, _, rfl, _, _, rfl, rfl, _, rfl, ?_⟩
    rw [decide_eq_true h5]
    refine iteT ⟨_, _, rfl, rfl, _, rfl, ?_⟩
    rw [decide_eq_true h6]
    refine iteF ⟨_, rfl, _, rfl, p, _, dx, _, rfl, hp, T.cl_Plan, T.na_Plan_blocks, (by show 0 < 1000; decide), ?_⟩
    refine ⟨_, rfl, _, rfl, p, _, dx, _, rfl, upd_same, T.cl_Plan, T.na_Plan_nodes, (by show 1 < 1000; decide), ?_⟩
    refine ⟨_, rfl, _, rfl, p, _, dx, _, rfl, upd_same, T.cl_Plan, T.na_Plan_slots, (by show 2 < 1000; decide), ?_⟩
    refine ⟨_, rfl, _, rfl, p, _, dx, _, _, _, rfl, upd_same, T.cl_Plan, cW, rfl, _, _, rfl, rfl, _, _, rfl, rfl, _, rfl, p, _, dx, _, _, _, rfl, upd_same, T.cl_Plan, cW, rfl, _, _, rfl, rfl, ⟨by decide, by decide⟩, ?_⟩
    refine ⟨_, rfl, p, _, dx, _, rfl, upd_same, T.cl_Plan, T.na_Plan_maps, (by show 3 < 1000; decide), ?_⟩
    refine ⟨_, rfl, p, _, dx, _, _, rfl, upd_same, T.cl_Plan, T.na_Plan_maps, rfl, _, _, rfl, rfl, _, rfl, p, _, dx, _, rfl, upd_same, T.cl_Plan, T.na_Plan_first_node, (by show 4 < 1000; decide), ?_⟩
    refine ⟨_, rfl, p, _, dx, _, _, rfl, upd_same, T.cl_Plan, T.na_Plan_first_node, rfl, _, rfl, _, _, rfl, rfl, _, rfl, p, _, dx, _, rfl, upd_same, T.cl_Plan, T.na_Plan_first_data, (by show 5 < 1000; decide), ?_⟩
    refine ⟨_, rfl, _, rfl, p, _, dx, _, _, rfl, upd_same, T.cl_Plan, T.na_Plan_first_data, rfl, _, _, rfl, rfl, _, _, rfl, rfl, _, rfl, ?_⟩
    rw [decide_eq_false (by omega)]
    refine iteF ?_
    rw [upd_upd, upd_upd, upd_upd, upd_upd, upd_upd]
    exact k
/-- the call Plan(b, nodes=n, slots=s) -/
theorem kb_Plan (T : Tx K mg) : KBn K T.fd_Plan___init__ ["self", "blocks", "nodes", "slots"] 2 ["nodes", "slots"] (fun us ws => us ++ ws) (fun us ws => us ++ ws) := by
  obtain ⟨oc, od, kV, doc, pm, an, cdv, ct, osl, e, lk, hcd⟩ := T.F_Plan___init__.ex
  refine ⟨fun s us ws _ l1 l2 => ?_, fun r1 r2 => r1.append r2⟩
  rw [e]
  match us, ws, l1, l2 with
  | [_, _], [_, _], _, _ => exact .of_eq rfl
def sp_map_place (C : Addr) : Sp := fun vs H Q _ => ∃ (p : Addr) (b n s x : Int), vs = [.ref p, .int x] ∧ PlanAt C H p b n s ∧ ∀ t, H t = none → Q (.ref t) (upd H t (.tup [.int (2 + x / 8), .int (x % 8)]))
theorem ok_Plan_map_place (T : Tx K mg) : FnOk P w K mg base CX0 1 T.f_Plan_map_place T.fd_Plan_map_place ["self", "x"] (sp_map_place T.C_Plan) := by
  refine T.F_Plan_map_place.ok sc_Plan_map_place (fun vs H Q E h => ?_) (fun cdv A outer s H vs Q E hr h => ?_)
  · obtain ⟨_, _, _, _, _, rfl, _⟩ := h; rfl
  · obtain ⟨p, b, n, sl, x, rfl, hP, k⟩ := h
    obtain ⟨dx, hp⟩ := hP.ob
    obtain ⟨uW, cW⟩ := T.con_Plan_WIDTH
    refine ⟨_, (pss_one (ps_ret (pe_tup (pa_cons (pe_op op_add (pe_gc T.c_FIRST_MAP) (pe_op op_fdiv (pv 1) (pe_con (pv 0) rfl))) (pa_cons (pe_op op_mod (pv 1) (pe_con (pv 0) rfl)) pa_nil))))), ?_⟩
    refine ⟨_, rfl, _, rfl, p, _, dx, _, _, _, rfl, hp, T.cl_Plan, cW, rfl, _, _, rfl, rfl, ⟨by decide, by decide⟩, _, _, rfl, rfl, _, rfl, _, rfl, p, _, dx, _, _, _, rfl, hp, T.cl_Plan, cW, rfl, _, _, rfl, rfl, (by show (0 : Int) < _; decide), (by show 2 ≤ sizeLine; decide), k⟩
def sp_node_block (C : Addr) : Sp := fun vs H Q _ => ∃ (p : Addr) (b n s x : Int), vs = [.ref p, .int x] ∧ PlanAt C H p b n s ∧ Q (.int (2 + (b + 8 - 1) / 8 + x - 1)) H
theorem ok_Plan_node_block (T : Tx K mg) : FnOk P w K mg base CX0 1 T.f_Plan_node_block T.fd_Plan_node_block ["self", "n"] (sp_node_block T.C_Plan) := by
  refine T.F_Plan_node_block.ok sc_Plan_node_block (fun vs H Q E h => ?_) (fun cdv A outer s H vs Q E hr h => ?_)
  · obtain ⟨_, _, _, _, _, rfl, _⟩ := h; rfl
  · obtain ⟨p, b, n, sl, x, rfl, hP, k⟩ := h
    obtain ⟨dx, hp⟩ := hP.ob
    refine ⟨_, (pss_one (ps_ret (pe_op op_sub (pe_op op_add (pe_fld (pv 0) rfl) (pv 1)) pe_int))), ?_⟩
    exact ⟨_, rfl, p, _, dx, _, _, rfl, hp, T.cl_Plan, T.na_Plan_first_node, rfl, _, rfl, _, _, rfl, rfl, _, _, rfl, rfl, k⟩
end
end K10
namespace K10
open PySem PySem.Spec PyProof.Rows L2 Rg
/-! ### a list of lists of ints -/
structure Grid (H : Hp) (ca : Addr) (rs : List Addr) (M : List (List Int)) : Prop where
  out : H ca = some (.lst (rs.map V.ref))
  len : rs.length = M.length
  row : ∀ (i : Nat) (r : Addr) (m : List Int), rs[i]? = some r → M[i]? = some m → H r = some (.lst (m.map V.int))
  nd : rs.Nodup
  nin : ca ∉ rs
theorem Grid.held {H : Hp} {ca : Addr} {rs : List Addr} {M : List (List Int)} (G : Grid H ca rs M) {r : Addr} (h : r ∈ rs) : ∃ o, H r = some o := by
  obtain ⟨i, hi, e⟩ := List.getElem_of_mem h
  have hm : i < M.length := by rw [← G.len]; exact hi
  exact ⟨_, G.row i r M[i] (by rw [List.getElem?_eq_getElem hi, e]) (List.getElem?_eq_getElem hm)⟩
theorem Grid.same {H H' : Hp} {ca : Addr} {rs : List Addr} {M : List (List Int)} (G : Grid H ca rs M) (s : Same H H') : Grid H' ca rs M :=
  ⟨s _ _ G.out, G.len, fun i r m a b => s _ _ (G.row i r m a b), G.nd, G.nin⟩
/-- kept where it stands -/
theorem Grid.keep {H H' : Hp} {ca : Addr} {rs : List Addr} {M : List (List Int)} (G : Grid H ca rs M) (h : ∀ b o, b = ca ∨ b ∈ rs → H b = some o → H' b = some o) : Grid H' ca rs M :=
  ⟨h _ _ (.inl rfl) G.out, G.len, fun i r m a b => h _ _ (.inr (List.mem_of_getElem? a)) (G.row i r m a b), G.nd, G.nin⟩
theorem Grid.get {H : Hp} {ca : Addr} {rs : List Addr} {M : List (List Int)} (G : Grid H ca rs M) {i : Nat} {m : List Int} (h : M[i]? = some m) : ∃ r, rs[i]? = some r ∧ H r = some (.lst (m.map V.int)) ∧ r ≠ ca := by
  have hi : i < rs.length := by rw [G.len]; exact (List.getElem?_eq_some_iff.mp h).1
  refine ⟨rs[i], List.getElem?_eq_getElem hi, G.row i _ m (List.getElem?_eq_getElem hi) h, fun e => G.nin ?_⟩
  rw [← e]
  exact List.getElem_mem hi
/-- one row stored anew -/
theorem Grid.put {H : Hp} {ca : Addr} {rs : List Addr} {M : List (List Int)} (G : Grid H ca rs M) {i : Nat} {r : Addr} {m : List Int} (hr : rs[i]? = some r) : Grid (upd H r (.lst (m.map V.int))) ca rs (M.set i m) := by
  have hi : i < rs.length := (List.getElem?_eq_some_iff.mp hr).1
  have hir : rs[i] = r := (List.getElem?_eq_some_iff.mp hr).2
  have rin : r ∈ rs := List.mem_of_getElem? hr
  refine ⟨?_, by rw [List.length_set]; exact G.len, fun j q m' hj hm => ?_, G.nd, G.nin⟩
  · rw [upd_ne (fun e => G.nin (by rw [e]; exact rin))]
    exact G.out
  · by_cases e : i = j
    · subst e
      rw [hr] at hj
      cases hj
      rw [List.getElem?_set_self (by rw [← G.len]; exact hi)] at hm
      cases hm
      exact upd_same
    · rw [List.getElem?_set_ne e] at hm
      have hq : q ≠ r := fun z => by
        subst z
        have hjl : j < rs.length := (List.getElem?_eq_some_iff.mp hj).1
        have := (List.getElem?_eq_some_iff.mp hj).2
        exact e ((List.getElem_inj G.nd).mp (hir.trans this.symm))
      rw [upd_ne hq]
      exact G.row j q m' hj hm
theorem map_set {α β : Type} (f : α → β) (l : List α) (i : Nat) (x : α) : (l.map f).set i (f x) = (l.set i x).map f := by
  rw [List.map_set]
/-- a grid that is new -/
structure NewGrid (H0 H : Hp) (D : Addr) (qs : List Addr) (M : List (List Int)) : Prop where
  grid : Grid H D qs M
  fresh : ∀ q ∈ qs, H0 q = none
  freshD : H0 D = none
  same : Same H0 H
theorem NewGrid.start {H0 H : Hp} {D : Addr} (s : Same H0 H) (hD : H0 D = none) (hn : H D = none) : NewGrid H0 (upd H D (.lst [])) D [] [] :=
  ⟨⟨by rw [upd_same]; rfl, rfl, fun i r m a _ => by simp at a, List.nodup_nil, by simp⟩, fun q h => (by cases h), hD, s.trans (same_upd hn)⟩
theorem NewGrid.snoc {H0 H H1 : Hp} {D : Addr} {qs : List Addr} {M : List (List Int)} {p : Addr} {m : List Int} (G : NewGrid H0 H D qs M) (s : Same H H1) (hp : H p = none) (h1 : H1 p = some (.lst (m.map V.int))) :
    NewGrid H0 (upd H1 D (.lst (qs.map V.ref ++ [V.ref p]))) D (qs ++ [p]) (M ++ [m]) := by
  have pD : p ≠ D := fun e => by
    rw [e, G.grid.out] at hp
    cases hp
  have pq : p ∉ qs := fun h => by
    obtain ⟨o, z⟩ := G.grid.held h
    rw [hp] at z
    cases z
  refine ⟨⟨by rw [upd_same, List.map_append]; rfl, by simp [G.grid.len], fun i r m' hi hm => ?_, ?_, ?_⟩, ?_, G.freshD, ?_⟩
  · by_cases e : i < qs.length
    · rw [List.getElem?_append_left e] at hi
      rw [List.getElem?_append_left (by rw [← G.grid.len]; exact e)] at hm
      have hr : r ∈ qs := List.mem_of_getElem? hi
      rw [upd_ne (fun z => G.grid.nin (by rw [← z]; exact hr))]
      exact s _ _ (G.grid.row i r m' hi hm)
    · have hi2 : i = qs.length := by
        have := (List.getElem?_eq_some_iff.mp hi).1
        simp at this
        omega
      subst hi2
      rw [List.getElem?_append_right (Nat.le_refl _)] at hi
      rw [G.grid.len, List.getElem?_append_right (Nat.le_refl _)] at hm
      simp at hi hm
      subst hi hm
      rw [upd_ne pD]
      exact h1
  · exact List.nodup_append.mpr ⟨G.grid.nd, by simp, fun a ha b hb => by simp at hb; subst hb; exact fun e => pq (e ▸ ha)⟩
  · simp
    exact ⟨G.grid.nin, fun e => pD e.symm⟩
  · intro q hq
    rcases List.mem_append.mp hq with h | h
    · exact G.fresh q h
    · simp at h
      subst h
      exact G.same.free hp
  · intro b o e
    rw [upd_ne (ne_of_none e G.freshD)]
    exact s _ _ (G.same _ _ e)
theorem NewGrid.nin0 {H0 H : Hp} {D : Addr} {qs : List Addr} {M : List (List Int)} (G : NewGrid H0 H D qs M) {b : Addr} {o : HO} (h : H0 b = some o) : b ≠ D ∧ b ∉ qs :=
  ⟨ne_of_none h G.freshD, fun z => by rw [G.fresh b z] at h; cases h⟩
end K10
namespace K10
open PySem PySem.Spec PyProof.Rows L2 Rg
/-! ### images -/
structure IA where
  (dx pl ca : Addr) (rs : List Addr) (ho st hd ba : Addr)
structure IV where
  (M : List (List Int)) (ho st : List Int) (hd : List (Int × Int)) (se wi : Int) (ba : List Int)
def imgF (A : IA) (v : IV) : List (Str × V) := [("plan", .ref A.pl), ("cells", .ref A.ca), ("holdings", .ref A.ho), ("stamps", .ref A.st), ("handles", .ref A.hd), ("serial", .int v.se), ("wish", .int v.wi), ("barred", .ref A.ba)]
def hdK (h : List (Int × Int)) : List (Key × V) := h.map fun p => (Sum.inl p.1, V.int p.2)
structure ImgAt (CI CP : Addr) (H : Hp) (im : Addr) (A : IA) (v : IV) (b n s : Int) : Prop where
  ob : H im = some (.ins CI A.dx (imgF A v))
  pl : PlanAt CP H A.pl b n s
  gr : Grid H A.ca A.rs v.M
  ho : H A.ho = some (.lst (v.ho.map V.int))
  st : H A.st = some (.lst (v.st.map V.int))
  hd : H A.hd = some (.dK (hdK v.hd))
  ba : H A.ba = some (.tup (v.ba.map V.int))
  n1 : A.ho ∉ A.rs
  n2 : A.st ∉ A.rs
  n3 : A.ho ≠ A.st
  n4 : A.ca ≠ A.ho
  n5 : A.ca ≠ A.st
  d0 : (v.M.length : Int) = b
  d1 : ∀ m ∈ v.M, m.length = 8
  d2 : (v.ho.length : Int) = b
  d3 : (v.st.length : Int) = b
/-- where an image may be changed -/
def IA.foot (A : IA) (im : Addr) : List Addr := im :: A.ca :: A.ho :: A.st :: A.hd :: A.rs
/-- its parts are new -/
structure IA.New (A : IA) (H0 : Hp) : Prop where
  ca : H0 A.ca = none
  rs : ∀ q ∈ A.rs, H0 q = none
  ho : H0 A.ho = none
  st : H0 A.st = none
  hd : H0 A.hd = none
theorem ImgAt.keep {CI CP : Addr} {H H' : Hp} {im : Addr} {A : IA} {v : IV} {b n s : Int} (I : ImgAt CI CP H im A v b n s) (h : ∀ x o, H x = some o → H' x = some o) : ImgAt CI CP H' im A v b n s :=
  { I with ob := h _ _ I.ob, pl := I.pl.same h, gr := I.gr.same h, ho := h _ _ I.ho, st := h _ _ I.st, hd := h _ _ I.hd, ba := h _ _ I.ba }
theorem rep_flat {α : Type} (n : Nat) (x : α) : (List.replicate n [x]).flatten = List.replicate n x := by
  induction n with
  | zero => rfl
  | succ n ih => rw [List.replicate_succ, List.flatten_cons, ih, List.replicate_succ]; rfl
theorem rep_map (n : Nat) (x : Int) : (List.replicate n (V.int x)) = (List.replicate n x).map V.int := by rw [List.map_replicate]
def zeroV (b : Int) : IV := ⟨List.replicate b.toNat (List.replicate 8 0), List.replicate b.toNat 0, List.replicate b.toNat 0, [], 0, 0, []⟩
section
variable {P : Program} {w : World} {K : PySem.W.Frag} {mg : Str → Option Value} {base : Heap}
def sp_Image_init (CI CP : Addr) : Sp := fun vs H Q _ => ∃ (p dx pl : Addr) (b n s : Int), vs = [.ref p, .ref pl] ∧ H p = some (.ins CI dx []) ∧ PlanAt CP H pl b n s ∧
  ∀ (H' : Hp) (A : IA), (∀ x o, H x = some o → x ≠ p → H' x = some o) → ImgAt CI CP H' p A (zeroV b) b n s → A.New H → A.pl = pl → Q .non H'
theorem ok_Image_init (T : Tx K mg) : FnOk P w K mg base CX0 1 T.f_Image___init__ T.fd_Image___init__ ["self", "plan"] (sp_Image_init T.C_Image T.C_Plan) := by
  refine T.F_Image___init__.ok sc_Image___init__ (fun vs H Q E h => ?_) (fun cdv A outer s H vs Q E hr h => ?_)
  · obtain ⟨_, _, _, _, _, _, rfl, _⟩ := h; rfl
  · obtain ⟨p, dx, pl, b, n, sl, rfl, hp, hP, k⟩ := h
    refine ⟨_, (pss_cons (ps_fld (pv 0) (pv 1) rfl)
      (pss_cons (ps_fld (pv 0) (pe_lc rfl (own := [("_", 2)]) (g := gName 2) (tt := tYes) sc_Image___init__.nd (pi_range1 rfl T.b_range (pa_cons (pe_fld (pv 1) rfl) pa_nil)) (blkOk_by (N := ["self", "plan", "_"]) (sc := defScope s_Image___init__) (by decide +kernel)) (fun _ _ _ _ _ => pg_name (i := 2) sc_Image___init__.nd rfl (Or.inl rfl)) (fun _ _ _ _ _ => pts_nil) (fun _ _ _ _ _ => (pe_op op_rep (pe_lst (pa_cons pe_int pa_nil)) (pe_cv T.mg_Plan T.cr_Plan T.cv_Plan_WIDTH)))) rfl)
      (pss_cons (ps_fld (pv 0) (pe_op op_rep (pe_lst (pa_cons pe_int pa_nil)) (pe_fld (pv 1) rfl)) rfl)
      (pss_cons (ps_fld (pv 0) (pe_op op_rep (pe_lst (pa_cons pe_int pa_nil)) (pe_fld (pv 1) rfl)) rfl)
      (pss_cons (ps_fld (pv 0) pe_dnewK rfl)
      (pss_cons (ps_fld (pv 0) pe_int rfl)
      (pss_cons (ps_fld (pv 0) pe_int rfl)
      (pss_one (ps_fld (pv 0) (pe_tup pa_nil) rfl))))))))), ?_⟩
    obtain ⟨dxp, hpl⟩ := hP.ob
    have hb1 := hP.b1
    have hb2 := hP.b2
    have nppl : pl ≠ p := fun e => by
      rw [e, hp] at hpl
      have := HO.ins.inj (Option.some.inj hpl)
      have := this.2.2
      simp [planF] at this
    -- self.plan = plan
    refine ⟨_, rfl, _, rfl, p, _, dx, _, rfl, hp, T.cl_Image, T.na_Image_plan, (by show 0 < 1000; decide), ?_⟩
    generalize hH1 : upd H p _ = H1
    obtain ⟨e1, k1, n1⟩ := own_f hH1
    have pl1 := k1.at1 hpl nppl
    -- self.cells = [[0] * Plan.WIDTH for _ in range(plan.blocks)]
    refine ⟨_, rfl, pl, _, dxp, _, _, rfl, pl1, T.cl_Plan, T.na_Plan_blocks, rfl, b, rfl, by omega, by omega, fun D hD => ?_⟩
    refine lc_range (lo := 0) (n := b.toNat) (fun i H' => ∃ qs, NewGrid H1 H' D qs (List.replicate i (List.replicate 8 0)))
      ⟨[], NewGrid.start (Same.refl _) hD hD⟩ ?_ ?_
    · rintro i H' hi ⟨qs, G⟩
      refine ⟨rfl, ?_⟩
      refine yes_ ?_
      refine ⟨by show 1 ≤ sizeLine; decide, fun l hl => ?_⟩
      refine ⟨l, 8, _, rfl, rfl, upd_same, by decide, by decide, by show 1 * 8 ≤ sizeLine; decide, fun q hq => ?_⟩
      have hq0 : H' q = none := un hq
      have hlD : H' D = some (.lst (qs.map V.ref)) := G.grid.out
      have hq1 : (upd (upd H' l (.lst [V.int 0])) q (.lst (List.replicate (8 : Int).toNat [V.int 0]).flatten)) q = some (.lst ((List.replicate 8 (0 : Int)).map V.int)) := by rw [upd_same]; rfl
      have sm : Same H' (upd (upd H' l (.lst [V.int 0])) q (.lst (List.replicate (8 : Int).toNat [V.int 0]).flatten)) := (same_upd hl).trans (same_upd hq)
      refine ⟨_, sm _ _ hlD, ?_, qs ++ [q], ?_⟩
      · rw [List.length_map, G.grid.len, List.length_replicate]
        exact small1000 (by omega)
      · rw [List.replicate_succ']
        exact G.snoc sm hq0 hq1
    rintro H2 ⟨qs, G⟩
    have e2 := G.same _ _ e1
    have pl2 := G.same _ _ pl1
    have npD : p ≠ D := ne_of_none e1 G.freshD
    refine ⟨_, rfl, p, _, dx, _, rfl, e2, T.cl_Image, T.na_Image_cells, (by show 1 < 1000; decide), ?_⟩
    generalize hH3 : upd H2 p _ = H3
    obtain ⟨e3, k3, n3⟩ := own_f hH3
    have pl3 := k3.at1 pl2 nppl
    -- self.holdings = [0] * plan.blocks
    refine ⟨by show 1 ≤ sizeLine; decide, fun l hl => ?_⟩
    generalize hH4 : upd H3 l _ = H4
    obtain ⟨e4, s4, n4⟩ := new_f hH4 hl
    have pl4 := s4 _ _ pl3
    refine ⟨_, rfl, pl, _, dxp, _, _, rfl, pl4, T.cl_Plan, T.na_Plan_blocks, rfl, l, b, _, rfl, rfl, e4, by omega, by omega, (by show 1 * b.toNat ≤ sizeLine; exact Nat.le_of_lt (small1000 (by omega))), fun ho hho => ?_⟩
    rw [rep_flat, rep_map]
    generalize hH5 : upd H4 ho _ = H5
    obtain ⟨e5, s5, n5⟩ := new_f hH5 hho
    refine ⟨_, rfl, p, _, dx, _, rfl, s5 _ _ (s4 _ _ e3), T.cl_Image, T.na_Image_holdings, (by show 2 < 1000; decide), ?_⟩
    generalize hH6 : upd H5 p _ = H6
    obtain ⟨e6, k6, n6⟩ := own_f hH6
    have pl6 := k6.at1 (s5 _ _ pl4) nppl
    have nho : ho ≠ p := (ne_of_none (s4 _ _ e3) hho).symm
    have ho6 := k6.at1 e5 nho
    -- self.stamps = [0] * plan.blocks
    refine ⟨by show 1 ≤ sizeLine; decide, fun l2 hl2 => ?_⟩
    generalize hH7 : upd H6 l2 _ = H7
    obtain ⟨e7, s7, n7⟩ := new_f hH7 hl2
    refine ⟨_, rfl, pl, _, dxp, _, _, rfl, s7 _ _ pl6, T.cl_Plan, T.na_Plan_blocks, rfl, l2, b, _, rfl, rfl, e7, by omega, by omega, (by show 1 * b.toNat ≤ sizeLine; exact Nat.le_of_lt (small1000 (by omega))), fun st hst => ?_⟩
    rw [rep_flat, rep_map]
    generalize hH8 : upd H7 st _ = H8
    obtain ⟨e8, s8, n8⟩ := new_f hH8 hst
    refine ⟨_, rfl, p, _, dx, _, rfl, s8 _ _ (s7 _ _ e6), T.cl_Image, T.na_Image_stamps, (by show 3 < 1000; decide), ?_⟩
    generalize hH9 : upd H8 p _ = H9
    obtain ⟨e9, k9, n9⟩ := own_f hH9
    have nst : st ≠ p := (ne_of_none (s7 _ _ e6) hst).symm
    have nsth : st ≠ ho := (ne_of_none (s7 _ _ ho6) hst).symm
    have st9 := k9.at1 e8 nst
    have ho9 := k9.at1 (s8 _ _ (s7 _ _ ho6)) nho
    -- self.handles = {}; serial, wish, barred
    intro hd hhd
    generalize hH10 : upd H9 hd _ = H10
    obtain ⟨e10, s10, n10⟩ := new_f hH10 hhd
    have nhd : hd ≠ p := (ne_of_none e9 hhd).symm
    refine ⟨_, rfl, p, _, dx, _, rfl, s10 _ _ e9, T.cl_Image, T.na_Image_handles, (by show 4 < 1000; decide), ?_⟩
    generalize hH11 : upd H10 p _ = H11
    obtain ⟨e11, k11, n11⟩ := own_f hH11
    refine ⟨_, rfl, p, _, dx, _, rfl, e11, T.cl_Image, T.na_Image_serial, (by show 5 < 1000; decide), ?_⟩
    generalize hH12 : upd H11 p _ = H12
    obtain ⟨e12, k12, n12⟩ := own_f hH12
    refine ⟨_, rfl, p, _, dx, _, rfl, e12, T.cl_Image, T.na_Image_wish, (by show 6 < 1000; decide), ?_⟩
    generalize hH13 : upd H12 p _ = H13
    obtain ⟨e13, k13, n13⟩ := own_f hH13
    refine ⟨by show 0 ≤ sizeLine; decide, fun ba hba => ?_⟩
    generalize hH14 : upd H13 ba _ = H14
    obtain ⟨e14, s14, n14⟩ := new_f hH14 hba
    have nba : ba ≠ p := (ne_of_none e13 hba).symm
    refine ⟨_, rfl, p, _, dx, _, rfl, s14 _ _ e13, T.cl_Image, T.na_Image_barred, (by show 7 < 1000; decide), ?_⟩
    generalize hH15 : upd H14 p _ = H15
    obtain ⟨e15, k15, n15⟩ := own_f hH15
    -- what stands
    have k10 : Kp [p] H10 H15 := (((k11.trans k12).trans k13).same s14).trans k15
    have k2 : Kp [p] H2 H15 := ((((((k3.same s4).same s5).trans k6).same s7).same s8).trans (k9.same s10)).trans k10
    have k0 : Kp [p] H H15 := (k1.same G.same).trans k2
    have f_ho : H2 ho = none := (n3 _ (n4 _ hho).1).1
    have f_st : H2 st = none := (n3 _ (n4 _ (n5 _ (n6 _ (n7 _ hst).1).1).1).1).1
    have f_hd : H2 hd = none := (n3 _ (n4 _ (n5 _ (n6 _ (n7 _ (n8 _ (n9 _ hhd).1).1).1).1).1).1).1
    have fr : ∀ x, H2 x = none → H x = none := fun x e => (n1 _ (G.same.free e)).1
    have qp : ∀ q ∈ qs, q ≠ p := fun q hq e => by
      have := G.fresh q hq
      rw [e, e1] at this
      cases this
    have qn : ∀ x, H2 x = none → x ∉ qs := fun x e hq => by
      obtain ⟨o, z⟩ := G.grid.held hq
      rw [e] at z
      cases z
    refine k _ ⟨dx, pl, D, qs, ho, st, hd, ba⟩ (fun x o e ne => k0.at1 e ne)
      ⟨e15, hP.of fun o e => k0.at1 e nppl, G.grid.keep fun x o hx e => k2.at1 e ?_, k10.at1 (s10 _ _ ho9) nho, k10.at1 (s10 _ _ st9) nst, k10.at1 e10 nhd, k15.at1 e14 nba, qn _ f_ho, qn _ f_st, nsth.symm, ne_of_none G.grid.out f_ho, ne_of_none G.grid.out f_st, ?_, ?_, ?_, ?_⟩
      ⟨(n1 _ G.freshD).1, fun q hq => (n1 _ (G.fresh q hq)).1, fr _ f_ho, fr _ f_st, fr _ f_hd⟩ rfl
    · rcases hx with rfl | hx
      · exact npD.symm
      · exact qp x hx
    · show ((List.replicate b.toNat (List.replicate 8 (0 : Int))).length : Int) = b
      rw [List.length_replicate]
      omega
    · intro m hm
      rw [List.eq_of_mem_replicate hm]
      rfl
    · show ((List.replicate b.toNat (0 : Int)).length : Int) = b
      rw [List.length_replicate]
      omega
    · show ((List.replicate b.toNat (0 : Int)).length : Int) = b
      rw [List.length_replicate]
      omega
end
end K10
namespace K10
open PySem PySem.Spec PyProof.Rows L2 Rg
def cellAt (M : List (List Int)) (i j : Nat) : Int := ((M[i]?.getD [])[j]?).getD 0
theorem cellAt_of {M : List (List Int)} {i j : Nat} {m : List Int} {x : Int} (h : M[i]? = some m) (hj : m[j]? = some x) : cellAt M i j = x := by
  unfold cellAt
  rw [h]
  show (m[j]?).getD 0 = x
  rw [hj]
  rfl
def kindOf (b n : Int) (M : List (List Int)) (x : Int) : Int :=
  if x < 2 + (b + 8 - 1) / 8 + n then 1 else if cellAt M (2 + x / 8).toNat (x % 8).toNat = 1 ∨ cellAt M (2 + x / 8).toNat (x % 8).toNat = 2 then cellAt M (2 + x / 8).toNat (x % 8).toNat else 0
section
variable {P : Program} {w : World} {K : PySem.W.Frag} {mg : Str → Option Value} {base : Heap}
def sp_Image_kind (CI CP : Addr) : Sp := fun vs H Q _ => ∃ (im : Addr) (A : IA) (v : IV) (b n s x : Int), vs = [.ref im, .int x] ∧ ImgAt CI CP H im A v b n s ∧ 0 ≤ x ∧ x < b ∧
  ∀ H', Same H H' → Q (.int (kindOf b n v.M x)) H'
theorem ok_Image_kind (T : Tx K mg) : FnOk P w K mg base CX0 2 T.f_Image_kind T.fd_Image_kind ["self", "x"] (sp_Image_kind T.C_Image T.C_Plan) := by
  refine T.F_Image_kind.ok sc_Image_kind (fun vs H Q E h => ?_) (fun cdv A0 outer s H vs Q E hr h => ?_)
  · obtain ⟨_, _, _, _, _, _, _, rfl, _⟩ := h; rfl
  · obtain ⟨im, A, v, b, n, sl, x, rfl, I, hx0, hxb, k⟩ := h
    refine ⟨_, (pss_cons (ps_if (pt_cmpR op_lt (pv 1) (pe_fld (pe_fld (pv 0) rfl) rfl) (nomark _))
        (pss_one (ps_ret (pe_cv T.mg_Plan T.cr_Plan T.cv_Plan_LOGGED)))
        pss_nil)
      (pss_cons (ps_asg (pe_meth (pe_fld (pv 0) rfl) T.cl_Plan T.m_Plan_map_place (ok_Plan_map_place T) hr (b_Plan_map_place T) .nil pass0 (pa_cons (pv 1) pa_nil)) (pg_tup rfl (pgs_cons (pg_name (i := 2) sc_Image_kind.nd rfl (.inl rfl)) (pgs_cons (pg_name (i := 3) sc_Image_kind.nd rfl (.inl rfl)) pgs_nil))))
      (pss_cons (ps_set (i := 4) sc_Image_kind.nd rfl (.inl rfl) (pe_ix ix_list (pe_ix ix_list (pe_fld (pv 0) rfl) (pv 2) (fun _ _ => rfl)) (pv 3) (fun _ _ => rfl)))
      (pss_one (ps_ret (pe_ifExp (pt_cmpR op_in_seq (pv 4) (pe_tup (pa_cons (pe_cv T.mg_Plan T.cr_Plan T.cv_Plan_LOGGED) (pa_cons (pe_cv T.mg_Plan T.cr_Plan T.cv_Plan_PLAIN) pa_nil))) rfl) (pv 4) (pe_cv T.mg_Plan T.cr_Plan T.cv_Plan_FREE))))))), ?_⟩
    obtain ⟨dxp, hpl⟩ := I.pl.ob
    have b1 := I.pl.b1
    have b2 := I.pl.b2
    have n1 := I.pl.n1
    refine ⟨_, rfl, _, rfl, im, _, _, _, _, rfl, I.ob, T.cl_Image, T.na_Image_plan, rfl, A.pl, _, dxp, _, _, rfl, hpl, T.cl_Plan, T.na_Plan_first_data, rfl, _, _, rfl, rfl, _, rfl, ite2 (fun e => ?_) (fun e => ?_)⟩
    · have e' := of_decide_eq_true e
      have := k H (Same.refl _)
      unfold kindOf at this
      rw [if_pos e'] at this
      exact this
    · have e' : ¬ x < 2 + (b + 8 - 1) / 8 + n := fun z => e (decide_eq_true z)
      -- the cell
      have d0 := I.d0
      have hi : (2 + x / 8).toNat < v.M.length := by omega
      obtain ⟨r, hr1, hr2, _⟩ := I.gr.get (List.getElem?_eq_getElem hi)
      have hj : (x % 8).toNat < (v.M[(2 + x / 8).toNat]).length := by
        rw [I.d1 _ (List.getElem_mem hi)]
        omega
      have hc : cellAt v.M (2 + x / 8).toNat (x % 8).toNat = (v.M[(2 + x / 8).toNat])[(x % 8).toNat] := cellAt_of (List.getElem?_eq_getElem hi) (List.getElem?_eq_getElem hj)
      refine ⟨_, rfl, im, _, _, _, _, rfl, I.ob, T.cl_Image, T.na_Image_plan, rfl, A.pl, dxp, _, rfl, hpl, rfl, _, rfl, A.pl, b, n, sl, x, rfl, I.pl, fun t ht => ?_⟩
      have st := same_upd (o := .tup [.int (2 + x / 8), .int (x % 8)]) ht
      refine ⟨t, _, rfl, .inl (.inl upd_same), rfl, _, _, rfl, _, _, rfl, rfl, ?_⟩
      refine ⟨_, rfl, im, _, _, _, _, rfl, st _ _ I.ob, T.cl_Image, T.na_Image_cells, rfl, _, rfl, A.ca, _, _, .ref r, rfl, rfl, .inl (.inl (st _ _ I.gr.out)), at_of (j := (2 + x / 8).toNat) (by omega) (by rw [List.getElem?_map, hr1]; rfl), _, rfl, r, _, _, _, rfl, rfl, .inl (.inl (st _ _ hr2)), at_of (j := (x % 8).toNat) (by omega) (by rw [List.getElem?_map, List.getElem?_eq_getElem hj]; rfl), ?_⟩
      refine ⟨_, rfl, (by show 2 ≤ sizeLine; decide), fun t2 ht2 => ?_⟩
      have st2 := same_upd (o := .tup [.int 1, .int 2]) ht2
      have kk := k _ (st.trans st2)
      unfold kindOf at kk
      rw [if_neg e', hc] at kk
      generalize (v.M[(2 + x / 8).toNat])[(x % 8).toNat] = c at kk ⊢
      refine ⟨t2, _, rfl, .inr (.inl (.inl upd_same)), rfl, rfl, _, rfl, ite2 (fun q => ?_) (fun q => ?_)⟩
      · have hq : c = 1 ∨ c = 2 := by
          simp [inV, eqV] at q
          omega
        rw [if_pos hq] at kk
        exact ⟨_, rfl, kk⟩
      · have hq : ¬ (c = 1 ∨ c = 2) := fun z => q (by
          simp [inV, eqV]
          omega)
        rw [if_neg hq] at kk
        exact kk
end
end K10
namespace K10
open PySem PySem.Spec PyProof.Rows L2 Rg
theorem mem_set_of {α : Type} {l : List α} {i : Nat} {x y : α} (h : y ∈ l.set i x) : y = x ∨ y ∈ l := by
  rcases List.mem_or_eq_of_mem_set h with h | h
  · exact .inr h
  · exact .inl h
theorem nodup_set {α : Type} : ∀ {l : List α} {i : Nat} {x : α}, l.Nodup → x ∉ l → (l.set i x).Nodup
  | [], _, _, h, _ => by simp
  | y :: l, 0, x, h, n => by
    rw [List.set_cons_zero]
    rw [List.nodup_cons] at h ⊢
    exact ⟨fun z => n (List.mem_cons_of_mem _ z), h.2⟩
  | y :: l, i + 1, x, h, n => by
    rw [List.set_cons_succ]
    rw [List.nodup_cons] at h ⊢
    refine ⟨fun z => ?_, nodup_set h.2 fun z => n (List.mem_cons_of_mem _ z)⟩
    rcases mem_set_of z with e | e
    · exact n (by rw [e]; exact List.mem_cons_self)
    · exact h.1 e
/-- a row replaced by a new one -/
theorem Grid.swap {H H1 : Hp} {ca : Addr} {rs : List Addr} {M : List (List Int)} {i : Nat} {q : Addr} {m : List Int} (G : Grid H ca rs M) (s1 : Same H H1) (hq : H q = none) (h1 : H1 q = some (.lst (m.map V.int))) :
    Grid (upd H1 ca (.lst ((rs.map V.ref).set i (V.ref q)))) ca (rs.set i q) (M.set i m) := by
  have qr : q ∉ rs := fun h => by
    obtain ⟨o, z⟩ := G.held h
    rw [hq] at z
    cases z
  have qc : q ≠ ca := fun e => by
    rw [e, G.out] at hq
    cases hq
  refine ⟨by rw [upd_same, ← List.map_set], by rw [List.length_set, List.length_set]; exact G.len, fun j r m' hj hm => ?_, nodup_set G.nd qr, fun z => ?_⟩
  · by_cases e : i = j
    · subst e
      have hi : i < rs.length := by
        have := (List.getElem?_eq_some_iff.mp hj).1
        rw [List.length_set] at this
        exact this
      rw [List.getElem?_set_self hi] at hj
      rw [List.getElem?_set_self (by rw [← G.len]; exact hi)] at hm
      cases hj
      cases hm
      rw [upd_ne qc]
      exact h1
    · rw [List.getElem?_set_ne e] at hj hm
      rw [upd_ne fun z => G.nin (by rw [← z]; exact List.mem_of_getElem? hj)]
      exact s1 _ _ (G.row j r m' hj hm)
  · rcases mem_set_of z with e | e
    · exact qc e.symm
    · exact G.nin e
section
variable {CI CP : Addr} {H : Hp} {im : Addr} {A : IA} {v : IV} {b n s : Int}
theorem ImgAt.fresh_n (I : ImgAt CI CP H im A v b n s) {q : Addr} (hq : H q = none) : q ≠ im ∧ q ≠ A.ca ∧ q ≠ A.ho ∧ q ≠ A.st ∧ q ≠ A.hd ∧ q ∉ A.rs :=
  ⟨(ne_of_none I.ob hq).symm, (ne_of_none I.gr.out hq).symm, (ne_of_none I.ho hq).symm, (ne_of_none I.st hq).symm, (ne_of_none I.hd hq).symm, fun h => by
    obtain ⟨o, z⟩ := I.gr.held h
    rw [hq] at z
    cases z⟩
/-- image.cells[i] = a new row -/
theorem ImgAt.swap {H1 : Hp} {i : Nat} {q : Addr} {m : List Int} (I : ImgAt CI CP H im A v b n s) (s1 : Same H H1) (hq : H q = none) (h1 : H1 q = some (.lst (m.map V.int))) (hm : m.length = 8) :
    ImgAt CI CP (upd H1 A.ca (.lst ((A.rs.map V.ref).set i (V.ref q)))) im { A with rs := A.rs.set i q } { v with M := v.M.set i m } b n s := by
  obtain ⟨f1, f2, f3, f4, f5, f6⟩ := I.fresh_n hq
  obtain ⟨dxp, hpl⟩ := I.pl.ob
  have oc := I.gr.out
  refine { ob := ?_, pl := I.pl.of fun o e => ?_, gr := I.gr.swap s1 hq h1, ho := ?_, st := ?_, hd := ?_, ba := ?_, n1 := fun z => ?_, n2 := fun z => ?_, n3 := I.n3, n4 := I.n4, n5 := I.n5, d0 := ?_, d1 := fun m' hm' => ?_, d2 := I.d2, d3 := I.d3 }
  · rw [upd_ne (ne_of I.ob oc (by intro z; cases z))]; exact s1 _ _ I.ob
  · rw [upd_ne (ne_of hpl oc (by intro z; cases z))]; exact s1 _ _ e
  · rw [upd_ne I.n4.symm]; exact s1 _ _ I.ho
  · rw [upd_ne I.n5.symm]; exact s1 _ _ I.st
  · rw [upd_ne (ne_of I.hd oc (by intro z; cases z))]; exact s1 _ _ I.hd
  · rw [upd_ne (ne_of I.ba oc (by intro z; cases z))]; exact s1 _ _ I.ba
  · rcases mem_set_of z with e | e
    · exact f3 e.symm
    · exact I.n1 e
  · rcases mem_set_of z with e | e
    · exact f4 e.symm
    · exact I.n2 e
  · show ((v.M.set i m).length : Int) = b
    rw [List.length_set]
    exact I.d0
  · rcases mem_set_of hm' with e | e
    · rw [e]; exact hm
    · exact I.d1 _ e
/-- image.holdings[i] = x -/
theorem ImgAt.putHo {i : Nat} {x : Int} (I : ImgAt CI CP H im A v b n s) : ImgAt CI CP (upd H A.ho (.lst ((v.ho.map V.int).set i (V.int x)))) im A { v with ho := v.ho.set i x } b n s := by
  obtain ⟨dxp, hpl⟩ := I.pl.ob
  have oc := I.ho
  refine { I with ob := ?_, pl := I.pl.of fun o e => ?_, gr := I.gr.keep fun y o hy e => ?_, ho := by rw [upd_same, ← List.map_set], st := ?_, hd := ?_, ba := ?_, d2 := ?_ }
  · rw [upd_ne (ne_of I.ob oc (by intro z; cases z))]; exact I.ob
  · rw [upd_ne (ne_of hpl oc (by intro z; cases z))]; exact e
  · rw [upd_ne]
    · exact e
    · rcases hy with rfl | hy
      · exact I.n4
      · exact fun z => I.n1 (z ▸ hy)
  · rw [upd_ne I.n3.symm]; exact I.st
  · rw [upd_ne (ne_of I.hd oc (by intro z; cases z))]; exact I.hd
  · rw [upd_ne (ne_of I.ba oc (by intro z; cases z))]; exact I.ba
  · show ((v.ho.set i x).length : Int) = b
    rw [List.length_set]
    exact I.d2
/-- image.stamps[i] = x -/
theorem ImgAt.putSt {i : Nat} {x : Int} (I : ImgAt CI CP H im A v b n s) : ImgAt CI CP (upd H A.st (.lst ((v.st.map V.int).set i (V.int x)))) im A { v with st := v.st.set i x } b n s := by
  obtain ⟨dxp, hpl⟩ := I.pl.ob
  have oc := I.st
  refine { I with ob := ?_, pl := I.pl.of fun o e => ?_, gr := I.gr.keep fun y o hy e => ?_, st := by rw [upd_same, ← List.map_set], ho := ?_, hd := ?_, ba := ?_, d3 := ?_ }
  · rw [upd_ne (ne_of I.ob oc (by intro z; cases z))]; exact I.ob
  · rw [upd_ne (ne_of hpl oc (by intro z; cases z))]; exact e
  · rw [upd_ne]
    · exact e
    · rcases hy with rfl | hy
      · exact I.n5
      · exact fun z => I.n2 (z ▸ hy)
  · rw [upd_ne I.n3]; exact I.ho
  · rw [upd_ne (ne_of I.hd oc (by intro z; cases z))]; exact I.hd
  · rw [upd_ne (ne_of I.ba oc (by intro z; cases z))]; exact I.ba
  · show ((v.st.set i x).length : Int) = b
    rw [List.length_set]
    exact I.d3
/-- one row changed: image.cells[i][j] = x and the like -/
theorem ImgAt.putRow {i : Nat} {r : Addr} {m : List Int} (I : ImgAt CI CP H im A v b n s) (hr : A.rs[i]? = some r) (hm : m.length = 8) : ImgAt CI CP (upd H r (.lst (m.map V.int))) im A { v with M := v.M.set i m } b n s := by
  obtain ⟨dxp, hpl⟩ := I.pl.ob
  have rin : r ∈ A.rs := List.mem_of_getElem? hr
  have hi : i < v.M.length := by rw [← I.gr.len]; exact (List.getElem?_eq_some_iff.mp hr).1
  have oc := I.gr.row i r _ hr (List.getElem?_eq_getElem hi)
  refine { I with ob := ?_, pl := I.pl.of fun o e => ?_, gr := I.gr.put hr, st := ?_, ho := ?_, hd := ?_, ba := ?_, d0 := ?_, d1 := fun m' hm' => ?_ }
  · rw [upd_ne (ne_of I.ob oc (by intro z; cases z))]; exact I.ob
  · rw [upd_ne (ne_of hpl oc (by intro z; cases z))]; exact e
  · rw [upd_ne (fun z : A.ho = r => I.n1 (by rw [z]; exact rin))]; exact I.ho
  · rw [upd_ne (fun z : A.st = r => I.n2 (by rw [z]; exact rin))]; exact I.st
  · rw [upd_ne (ne_of I.hd oc (by intro z; cases z))]; exact I.hd
  · rw [upd_ne (ne_of I.ba oc (by intro z; cases z))]; exact I.ba
  · show ((v.M.set i m).length : Int) = b
    rw [List.length_set]
    exact I.d0
  · rcases mem_set_of hm' with e | e
    · rw [e]; exact hm
    · exact I.d1 _ e
end
end K10
namespace K10
open PySem PySem.Spec PyProof.Rows L2 Rg
/-- what of_cells makes of the rows, the blocks before i looked at -/
def ofM (b n : Int) (R : List (List Int)) (i : Nat) : List (List Int) := (List.range b.toNat).map fun x => if x < i ∧ kindOf b n R x = 0 then List.replicate 8 0 else R[x]?.getD []
def ofH (b n : Int) (R : List (List Int)) (i : Nat) : List Int := (List.range b.toNat).map fun x => if x < i ∧ ¬ kindOf b n R x = 0 then 1 else 0
def ofV (b n : Int) (R : List (List Int)) (i : Nat) : IV := ⟨ofM b n R i, ofH b n R i, ofH b n R i, [], 1, 0, []⟩
theorem kindOf_fix {b n : Int} {R : List (List Int)} {x : Int} (h : x < 2 + (b + 8 - 1) / 8 + n) : kindOf b n R x = 1 := by
  unfold kindOf
  rw [if_pos h]
theorem cellAt_congr {M R : List (List Int)} {i j : Nat} (h : M[i]? = R[i]?) : cellAt M i j = cellAt R i j := by
  unfold cellAt
  rw [h]
theorem kindOf_congr {b n : Int} {M R : List (List Int)} {x : Int} (hn : 0 ≤ n) (h0 : 0 ≤ x) (hb : x < b) (h : ∀ y : Nat, (y : Int) < 2 + (b + 8 - 1) / 8 + n → M[y]? = R[y]?) : kindOf b n M x = kindOf b n R x := by
  unfold kindOf
  rw [cellAt_congr (h (2 + x / 8).toNat (by omega))]
theorem ofM_get {b n : Int} {R : List (List Int)} {i x : Nat} (hx : x < b.toNat) : (ofM b n R i)[x]? = some (if x < i ∧ kindOf b n R x = 0 then List.replicate 8 0 else R[x]?.getD []) := by
  unfold ofM
  rw [List.getElem?_map, List.getElem?_range hx]
  rfl
theorem ofM_fix {b n : Int} {R : List (List Int)} {i y : Nat} (hR : (R.length : Int) = b) (hb : 2 + (b + 8 - 1) / 8 + n ≤ b) (hy : (y : Int) < 2 + (b + 8 - 1) / 8 + n) : (ofM b n R i)[y]? = R[y]? := by
  rw [ofM_get (by omega), kindOf_fix hy, if_neg (fun z => by simp at z), List.getElem?_eq_getElem (show y < R.length by omega)]
  rfl
theorem ofM_zero {b n : Int} {R : List (List Int)} (hR : (R.length : Int) = b) : ofM b n R 0 = R := by
  apply List.ext_getElem?
  intro x
  by_cases hx : x < b.toNat
  · rw [ofM_get hx, if_neg (fun z => by simp at z), List.getElem?_eq_getElem (show x < R.length by omega)]
    rfl
  · rw [List.getElem?_eq_none (by unfold ofM; simp; omega), List.getElem?_eq_none (by omega)]
theorem ofM_succ {b n : Int} {R : List (List Int)} {i : Nat} (hi : i < b.toNat) : ofM b n R (i + 1) = if kindOf b n R i = 0 then (ofM b n R i).set i (List.replicate 8 0) else ofM b n R i := by
  apply List.ext_getElem?
  intro x
  by_cases hx : x < b.toNat
  · rw [ofM_get hx]
    by_cases hk : kindOf b n R i = 0
    · rw [if_pos hk]
      by_cases e : i = x
      · subst e
        rw [List.getElem?_set_self (by unfold ofM; simp; omega), if_pos ⟨Nat.lt_succ_self _, hk⟩]
      · rw [List.getElem?_set_ne e, ofM_get hx]
        by_cases h : x < i
        · simp only [show (x < i + 1) ↔ (x < i) by omega]
        · simp only [show (x < i + 1) ↔ (x < i) by omega]
    · rw [if_neg hk, ofM_get hx]
      by_cases e : i = x
      · subst e
        rw [if_neg (fun z => hk z.2), if_neg (fun z => hk z.2)]
      · simp only [show (x < i + 1) ↔ (x < i) by omega]
  · have l1 : (ofM b n R (i + 1)).length = b.toNat := by unfold ofM; simp
    have l2 : (ofM b n R i).length = b.toNat := by unfold ofM; simp
    rw [List.getElem?_eq_none (by omega)]
    split
    · rw [List.getElem?_eq_none (by rw [List.length_set]; omega)]
    · rw [List.getElem?_eq_none (by omega)]
theorem ofH_get {b n : Int} {R : List (List Int)} {i x : Nat} (hx : x < b.toNat) : (ofH b n R i)[x]? = some (if x < i ∧ ¬ kindOf b n R x = 0 then 1 else 0) := by
  unfold ofH
  rw [List.getElem?_map, List.getElem?_range hx]
  rfl
theorem ofH_zero {b n : Int} {R : List (List Int)} : ofH b n R 0 = List.replicate b.toNat 0 := by
  apply List.ext_getElem?
  intro x
  by_cases hx : x < b.toNat
  · rw [ofH_get hx, if_neg (fun z => by simp at z), List.getElem?_replicate, if_pos hx]
  · rw [List.getElem?_eq_none (by unfold ofH; simp; omega), List.getElem?_eq_none (by simp; omega)]
theorem ofH_succ {b n : Int} {R : List (List Int)} {i : Nat} (hi : i < b.toNat) : ofH b n R (i + 1) = if kindOf b n R i = 0 then ofH b n R i else (ofH b n R i).set i 1 := by
  apply List.ext_getElem?
  intro x
  by_cases hx : x < b.toNat
  · rw [ofH_get hx]
    by_cases hk : kindOf b n R i = 0
    · rw [if_pos hk, ofH_get hx]
      by_cases e : i = x
      · subst e
        rw [if_neg (fun z => z.2 hk), if_neg (fun z => z.2 hk)]
      · simp only [show (x < i + 1) ↔ (x < i) by omega]
    · rw [if_neg hk]
      by_cases e : i = x
      · subst e
        rw [List.getElem?_set_self (by unfold ofH; simp; omega), if_pos ⟨Nat.lt_succ_self _, hk⟩]
      · rw [List.getElem?_set_ne e, ofH_get hx]
        simp only [show (x < i + 1) ↔ (x < i) by omega]
  · have l1 : (ofH b n R (i + 1)).length = b.toNat := by unfold ofH; simp
    have l2 : (ofH b n R i).length = b.toNat := by unfold ofH; simp
    rw [List.getElem?_eq_none (by omega)]
    split
    · rw [List.getElem?_eq_none (by omega)]
    · rw [List.getElem?_eq_none (by rw [List.length_set]; omega)]
section
variable {P : Program} {w : World} {K : PySem.W.Frag} {mg : Str → Option Value} {base : Heap}
def sp_of_cells (CI CP : Addr) : Sp := fun vs H Q _ => ∃ (pl ra : Addr) (rr : List Addr) (R : List (List Int)) (b n s : Int), vs = [.ref pl, .ref ra] ∧ PlanAt CP H pl b n s ∧ Grid H ra rr R ∧ (R.length : Int) = b ∧ (∀ m ∈ R, m.length = 8) ∧
  ∀ (H' : Hp) (im : Addr) (A : IA), Same H H' → H im = none → ImgAt CI CP H' im A (ofV b n R b.toNat) b n s → A.New H → A.pl = pl → Q (.ref im) H'
theorem ok_of_cells (T : Tx K mg) : FnOk P w K mg base CX0 3 T.f_Image_of_cells T.fd_Image_of_cells ["plan", "rows"] (sp_of_cells T.C_Image T.C_Plan) := by
  refine T.F_Image_of_cells.ok sc_Image_of_cells (fun vs H Q E h => ?_) (fun cdv A0 outer s H vs Q E hr h => ?_)
  · obtain ⟨_, _, _, _, _, _, _, rfl, _⟩ := h; rfl
  · obtain ⟨pl, ra, rr, R, b, n, sl, rfl, hP, GR, hR, hR8, k⟩ := h
    have hr2 : Room 2 _ := hr.mono (by decide)
    refine ⟨_, (pss_cons (ps_set (i := 2) sc_Image_of_cells.nd rfl (.inl rfl) (pe_make T.mk_Image (ok_Image_init T) hr2 rfl T.mg_Image (b_Image___init__ T) .nil pass0 (pa_cons (pv 0) pa_nil)))
      (pss_cons (ps_fld (pv 2) (pe_lc rfl (own := [("row", 3)]) (g := gName 3) (tt := tYes) sc_Image_of_cells.nd (pi_list (pv 1)) (blkOk_by (N := ["plan", "rows", "image", "row", "x"]) (sc := defScope s_Image_of_cells) (by decide +kernel)) (fun _ _ _ _ _ => pg_name (i := 3) sc_Image_of_cells.nd rfl (Or.inl rfl)) (fun _ _ _ _ _ => pts_nil) (fun _ _ _ _ _ => (pe_listof (K := K) (pv 3) T.b_list))) rfl)
      (pss_cons (ps_fld (pv 2) pe_int rfl)
      (pss_cons (ps_for PassesOwn.never rfl (pi_range1 rfl T.b_range (pa_cons (pe_fld (pv 0) rfl) pa_nil)) (pg_name (i := 4) sc_Image_of_cells.nd rfl (.inl rfl))
        (pss_one (ps_if (pt_cmpR op_eq (pe_meth (pv 2) T.cl_Image T.m_Image_kind (ok_Image_kind T) hr2 (b_Image_kind T) .nil pass0 (pa_cons (pv 4) pa_nil)) (pe_cv T.mg_Plan T.cr_Plan T.cv_Plan_FREE) (nomark _))
          (pss_one (ps_asg (pe_op op_rep (pe_lst (pa_cons pe_int pa_nil)) (pe_cv T.mg_Plan T.cr_Plan T.cv_Plan_WIDTH)) (pg_sub (pe_fld (pv 2) rfl) (pv 4) set_list)))
          (pss_cons (ps_asg pe_int (pg_sub (pe_fld (pv 2) rfl) (pv 4) set_list))
          (pss_one (ps_asg pe_int (pg_sub (pe_fld (pv 2) rfl) (pv 4) set_list)))))))
      (pss_one (ps_ret (pv 2))))))), ?_⟩
    obtain ⟨dxp, hpl⟩ := hP.ob
    have hb1 := hP.b1
    have hb2 := hP.b2
    have hd := hP.d
    have hn1 := hP.n1
    -- image = Image(plan)
    refine ⟨_, rfl, fun x dx nx ndx nex => ?_⟩
    have s1 : Same H (upd (upd H dx (.own x)) x (.ins T.C_Image dx [])) := (same_upd ndx).trans (same_upd (by rw [upd_ne nex.symm]; exact nx))
    refine ⟨x, dx, pl, b, n, sl, rfl, upd_same, hP.same s1, fun H1 A1 k1 I1 N1 eA => ⟨rfl, ?_⟩⟩
    have k1' : ∀ y o, H y = some o → H1 y = some o := fun y o e => k1 y o (s1 _ _ e) (ne_of_none e nx)
    have xs1 : ∀ y, (upd (upd H dx (.own x)) x (.ins T.C_Image dx [])) y = none → H y = none := fun y e => un (un e)
    -- image.cells = [list(row) for row in rows]
    refine ⟨_, rfl, ra, rfl, ⟨_, .of (k1' _ _ GR.out)⟩, fun D hD => ?_⟩
    refine lc_list (K := K) (a := ra) (xs := rr.map V.ref) (fun i H' => ∃ qs, NewGrid H1 H' D qs (R.take i))
      ⟨[], NewGrid.start (Same.refl _) hD hD⟩ (fun i H' _ ⟨qs, G⟩ => .of (G.same _ _ (k1' _ _ GR.out))) ?_ ?_
    · rintro i y H' hi ⟨qs, G⟩
      have hil : i < rr.length := by
        have := (List.getElem?_eq_some_iff.mp hi).1
        rw [List.length_map] at this
        exact this
      rw [List.getElem?_map, List.getElem?_eq_getElem hil] at hi
      have hi : V.ref rr[i] = y := Option.some.inj hi
      subst hi
      have hiR : i < R.length := by rw [← GR.len]; exact hil
      have hrow := G.same _ _ (k1' _ _ (GR.row i rr[i] R[i] (List.getElem?_eq_getElem hil) (List.getElem?_eq_getElem hiR)))
      refine ⟨rfl, ?_⟩
      refine yes_ ?_
      refine ⟨_, rfl, rr[i], _, rfl, .inl (.of hrow), fun q hq => ?_⟩
      refine ⟨_, by rw [upd_ne (ne_of_none G.grid.out hq)]; exact G.grid.out, ?_, qs ++ [q], ?_⟩
      · rw [List.length_map, G.grid.len, List.length_take]
        exact small1000 (by omega)
      · rw [List.take_succ, List.getElem?_eq_getElem hiR]
        exact G.snoc (same_upd hq) hq upd_same
    rintro H2 ⟨qs, G⟩
    rw [List.length_map, GR.len, List.take_length] at G
    have I2 : ImgAt T.C_Image T.C_Plan H2 x A1 (zeroV b) b n sl := I1.keep G.same
    refine ⟨_, rfl, x, _, _, _, rfl, I2.ob, T.cl_Image, T.na_Image_cells, (by show 8 < 1000; decide), ?_⟩
    generalize hH3 : upd H2 x _ = H3
    obtain ⟨e3, k3, n3⟩ := own_f hH3
    refine ⟨_, rfl, x, _, _, _, rfl, e3, T.cl_Image, T.na_Image_serial, (by show 8 < 1000; decide), ?_⟩
    generalize hH4 : upd H3 x _ = H4
    obtain ⟨e4, k4, n4⟩ := own_f hH4
    have k24 : Kp [x] H2 H4 := k3.trans k4
    have kx : ∀ y o, H2 y = some o → y ≠ x → H4 y = some o := fun y o e ne => k24.at1 e ne
    have npl : pl ≠ x := ne_of_none hpl nx
    have pl2 : H2 A1.pl = some (.ins T.C_Plan dxp (planF b n sl)) := by rw [eA]; exact G.same _ _ (k1' _ _ hpl)
    have xD : x ≠ D := ne_of_none I1.ob G.freshD
    have xq : x ∉ qs := (G.nin0 I1.ob).2
    have I4 : ImgAt T.C_Image T.C_Plan H4 x { A1 with ca := D, rs := qs } (ofV b n R 0) b n sl := by
      refine { ob := e4, pl := I2.pl.of fun o e => kx _ _ e (by show A1.pl ≠ x; rw [eA]; exact npl), gr := ?_, ho := ?_, st := ?_, hd := ?_, ba := ?_, n1 := (G.nin0 I1.ho).2, n2 := (G.nin0 I1.st).2, n3 := I1.n3, n4 := (G.nin0 I1.ho).1.symm, n5 := (G.nin0 I1.st).1.symm, d0 := ?_, d1 := ?_, d2 := ?_, d3 := ?_ }
      · show Grid H4 D qs (ofM b n R 0)
        rw [ofM_zero hR]
        refine G.grid.keep fun y o hy e => kx _ _ e ?_
        rcases hy with rfl | hy
        · exact xD.symm
        · exact fun z => xq (by rw [← z]; exact hy)
      · show H4 A1.ho = some (.lst ((ofH b n R 0).map V.int))
        rw [ofH_zero]
        exact kx _ _ I2.ho (ne_of I2.ho I2.ob (by intro z; cases z))
      · show H4 A1.st = some (.lst ((ofH b n R 0).map V.int))
        rw [ofH_zero]
        exact kx _ _ I2.st (ne_of I2.st I2.ob (by intro z; cases z))
      · exact kx _ _ I2.hd (ne_of I2.hd I2.ob (by intro z; cases z))
      · exact kx _ _ I2.ba (ne_of I2.ba I2.ob (by intro z; cases z))
      · show ((ofM b n R 0).length : Int) = b
        rw [ofM_zero hR]
        exact hR
      · show ∀ m ∈ ofM b n R 0, m.length = 8
        rw [ofM_zero hR]
        exact hR8
      · show ((ofH b n R 0).length : Int) = b
        rw [ofH_zero, List.length_replicate]
        omega
      · show ((ofH b n R 0).length : Int) = b
        rw [ofH_zero, List.length_replicate]
        omega
    have N0 : ∀ y, H1 y = none → H y = none := fun y e => by
      cases q : H y with
      | none => rfl
      | some o => rw [k1' y o q] at e; cases e
    have N4 : ({ A1 with ca := D, rs := qs } : IA).New H := ⟨N0 _ G.freshD, fun q hq => N0 _ (G.fresh q hq), xs1 _ N1.ho, xs1 _ N1.st, xs1 _ N1.hd⟩
    have S4 : Same H H4 := fun y o e => kx _ _ (G.same _ _ (k1' _ _ e)) (ne_of_none e nx)
    -- for x in range(plan.blocks)
    have hpl4 : H4 pl = some (.ins T.C_Plan dxp (planF b n sl)) := S4 _ _ hpl
    refine ⟨_, rfl, pl, _, dxp, _, _, rfl, hpl4, T.cl_Plan, T.na_Plan_blocks, rfl, b, rfl, by omega, by omega, for_range (lo := 0) (n := b.toNat) (fun i σ H' => ∃ (A : IA) (u3 u4 : Option V), σ = [some (.ref pl), some (.ref ra), some (.ref x), u3, u4] ∧ ImgAt T.C_Image T.C_Plan H' x A (ofV b n R i) b n sl ∧ Same H H' ∧ A.New H ∧ A.pl = pl)
      ⟨_, _, _, rfl, I4, S4, N4, eA⟩ ?_ ?_⟩
    · rintro i σ H' hi ⟨A, u3, u4, rfl, I, S, N, eA⟩
      have hib : (i : Int) < b := by omega
      refine ⟨_, rfl, x, _, _, rfl, I.ob, rfl, _, rfl, x, A, ofV b n R i, b, n, sl, _, rfl, I, by omega, by omega, fun H5 s5 => ?_⟩
      have ek : kindOf b n (ofV b n R i).M (0 + (i : Int)) = kindOf b n R i := by
        rw [show (0 : Int) + (i : Int) = i by omega]
        exact kindOf_congr (by omega) (by omega) hib fun y hy => ofM_fix hR (by omega) hy
      rw [ek]
      have I5 := I.keep s5
      have S5 := S.trans s5
      refine ⟨rfl, _, rfl, ite2 (fun e => ?_) (fun e => ?_)⟩
      · have hk : kindOf b n R i = 0 := V.int.inj (of_decide_eq_true e)
        refine ⟨by show 1 ≤ sizeLine; decide, fun l hl => ?_⟩
        refine ⟨l, 8, _, rfl, rfl, upd_same, by decide, by decide, by show 1 * 8 ≤ sizeLine; decide, fun q hq => ?_⟩
        have sm : Same H5 (upd (upd H5 l (.lst [V.int 0])) q (.lst (List.replicate (8 : Int).toNat [V.int 0]).flatten)) := (same_upd hl).trans (same_upd hq)
        have hq5 : H5 q = none := un hq
        have hq1 : (upd (upd H5 l (.lst [V.int 0])) q (.lst (List.replicate (8 : Int).toNat [V.int 0]).flatten)) q = some (.lst ((List.replicate 8 (0 : Int)).map V.int)) := by rw [upd_same]; rfl
        generalize hH6 : upd (upd H5 l (.lst [V.int 0])) q (.lst (List.replicate (8 : Int).toNat [V.int 0]).flatten) = H6 at sm hq1 ⊢
        refine ⟨_, rfl, x, _, _, _, _, rfl, sm _ _ I5.ob, T.cl_Image, T.na_Image_cells, rfl, _, rfl, A.ca, _, _, i, rfl, rfl, sm _ _ I5.gr.out, ?_, ?_⟩
        · unfold ixN
          rw [if_pos (by omega), List.length_map, if_pos (by rw [I5.gr.len]; show (0 : Int) + i < (ofM b n R i).length; unfold ofM; simp; omega)]
          congr 1
          omega
        · refine ⟨{ A with rs := A.rs.set i q }, u3, _, rfl, ?_, ?_, ⟨N.ca, fun z hz => ?_, N.ho, N.st, N.hd⟩, eA⟩
          rotate_left
          · exact fun y o e => by
              rw [upd_ne (ne_of_none e N.ca)]
              exact sm _ _ (S5 _ _ e)
          · rcases mem_set_of hz with e | e
            · rw [e]; exact S5.free hq5
            · exact N.rs z e
          · have := I5.swap (i := i) sm hq5 hq1 (by rfl)
            unfold ofV at this ⊢
            dsimp only at this ⊢
            rw [ofM_succ (by omega), if_pos hk, ofH_succ (by omega), if_pos hk]
            exact this
      · have hk : ¬ kindOf b n R i = 0 := fun z => e (by rw [z]; exact decide_eq_true rfl)
        have ix : ∀ (xs : List V), xs.length = b.toNat → ixN xs.length (0 + (i : Int)) = some i := fun xs hx => by
          unfold ixN
          rw [if_pos (by omega), if_pos (by omega)]
          congr 1
          omega
        have lh : ((ofH b n R i).map V.int).length = b.toNat := by unfold ofH; simp
        refine ⟨_, rfl, x, _, _, _, _, rfl, I5.ob, T.cl_Image, T.na_Image_holdings, rfl, _, rfl, A.ho, _, _, i, rfl, rfl, I5.ho, ix _ lh, ?_⟩
        have I6 := I5.putHo (i := i) (x := 1)
        refine ⟨_, rfl, x, _, _, _, _, rfl, I6.ob, T.cl_Image, T.na_Image_stamps, rfl, _, rfl, A.st, _, _, i, rfl, rfl, I6.st, ix _ lh, ?_⟩
        have I7 := I6.putSt (i := i) (x := 1)
        refine ⟨_, u3, _, rfl, ?_, ?_, N, eA⟩
        · unfold ofV at I7 ⊢
          dsimp only at I7 ⊢
          rw [ofM_succ (by omega), if_neg hk, ofH_succ (by omega), if_neg hk]
          exact I7
        · exact fun y o e => by
            rw [upd_ne (ne_of_none e N.st), upd_ne (ne_of_none e N.ho)]
            exact S5 _ _ e
    · rintro σ H' ⟨A, u3, u4, rfl, I, S, N, eA⟩
      exact ⟨_, rfl, k H' x A S nx I N eA⟩
end
end K10
namespace K10
open PySem PySem.Spec PyProof.Rows L2 Rg
def setC (M : List (List Int)) (i j : Nat) (x : Int) : List (List Int) := M.set i ((M[i]?.getD []).set j x)
theorem setC_len {M : List (List Int)} {i j : Nat} {x : Int} : (setC M i j x).length = M.length := by
  unfold setC
  rw [List.length_set]
theorem setC_at {M : List (List Int)} {i j : Nat} {x : Int} {m : List Int} (h : M[i]? = some m) : (setC M i j x)[i]? = some (m.set j x) := by
  have hi := (List.getElem?_eq_some_iff.mp h).1
  unfold setC
  rw [List.getElem?_set_self hi, h]
  rfl
theorem ImgAt.setC {CI CP : Addr} {H : Hp} {im : Addr} {A : IA} {v : IV} {b n s : Int} (I : ImgAt CI CP H im A v b n s) {i j : Nat} {x : Int} {r : Addr} {m : List Int} (hr : A.rs[i]? = some r) (hm : v.M[i]? = some m) :
    ImgAt CI CP (upd H r (.lst ((m.map V.int).set j (V.int x)))) im A { v with M := setC v.M i j x } b n s := by
  have h8 : m.length = 8 := I.d1 m (List.mem_of_getElem? hm)
  have := I.putRow (m := m.set j x) hr (by rw [List.length_set]; exact h8)
  rw [List.map_set] at this
  unfold K10.setC
  rw [hm]
  exact this
/-- the index i of a list of a known length -/
theorem ixN_nat {n : Nat} {z : Int} {i : Nat} (e : z = i) (h : i < n) : ixN n z = some i := by
  subst e
  unfold ixN
  rw [if_pos (by omega), if_pos (by omega)]
  rfl
def zerosM (b : Int) : List (List Int) := List.replicate b.toNat (List.replicate 8 0)
def fmM (b : Int) : Nat → List (List Int)
  | 0 => zerosM b
  | k + 1 => setC (fmM b k) (2 + k / 8) (k % 8) 1
def freshM (b n : Int) : List (List Int) :=
  let r := (2 + (b + 8 - 1) / 8).toNat
  setC (setC (setC (fmM b (r + n.toNat)) r 0 2) r 1 1) r 7 1
section
variable {P : Program} {w : World} {K : PySem.W.Frag} {mg : Str → Option Value} {base : Heap}
def sp_fresh (CI CP : Addr) : Sp := fun vs H Q _ => ∃ (pl : Addr) (b n s : Int), vs = [.ref pl] ∧ PlanAt CP H pl b n s ∧
  ∀ (H' : Hp) (im : Addr) (A : IA), Same H H' → H im = none → ImgAt CI CP H' im A (ofV b n (freshM b n) b.toNat) b n s → A.New H → A.pl = pl → Q (.ref im) H'
theorem ok_fresh (T : Tx K mg) : FnOk P w K mg base CX0 4 T.f_Image_fresh T.fd_Image_fresh ["plan"] (sp_fresh T.C_Image T.C_Plan) := by
  refine T.F_Image_fresh.ok sc_Image_fresh (fun vs H Q E h => ?_) (fun cdv A0 outer s H vs Q E hr h => ?_)
  · obtain ⟨_, _, _, _, rfl, _⟩ := h; rfl
  · obtain ⟨pl, b, n, sl, rfl, hP, k⟩ := h
    have hr1 : Room 1 _ := hr.mono (by decide)
    have hr2 : Room 2 _ := hr.mono (by decide)
    refine ⟨_, (pss_cons (ps_set (i := 1) sc_Image_fresh.nd rfl (.inl rfl) (pe_make T.mk_Image (ok_Image_init T) hr2 rfl T.mg_Image (b_Image___init__ T) .nil pass0 (pa_cons (pv 0) pa_nil)))
      (pss_cons (ps_for PassesOwn.never rfl (pi_range1 rfl T.b_range (pa_cons (pe_fld (pv 0) rfl) pa_nil)) (pg_name (i := 2) sc_Image_fresh.nd rfl (.inl rfl))
        (pss_cons (ps_asg (pe_meth (pv 0) T.cl_Plan T.m_Plan_map_place (ok_Plan_map_place T) hr1 (b_Plan_map_place T) .nil pass0 (pa_cons (pv 2) pa_nil)) (pg_tup rfl (pgs_cons (pg_name (i := 3) sc_Image_fresh.nd rfl (.inl rfl)) (pgs_cons (pg_name (i := 4) sc_Image_fresh.nd rfl (.inl rfl)) pgs_nil))))
        (pss_one (ps_asg (pe_cv T.mg_Plan T.cr_Plan T.cv_Plan_LOGGED) (pg_sub (pe_ix ix_list (pe_fld (pv 1) rfl) (pv 3) (fun _ _ => rfl)) (pv 4) set_list)))))
      (pss_cons (ps_set (i := 5) sc_Image_fresh.nd rfl (.inl rfl) (pe_ix ix_list (pe_fld (pv 1) rfl) (pe_meth (pv 0) T.cl_Plan T.m_Plan_node_block (ok_Plan_node_block T) hr1 (b_Plan_node_block T) .nil pass0 (pa_cons (pe_gc T.c_ROOT) pa_nil)) (fun _ _ => rfl)))
      (pss_cons (ps_asg (pe_gc T.c_FOLDER) (pg_sub (pv 5) (pe_gc T.c_KIND) set_list))
      (pss_cons (ps_asg pe_int (pg_sub (pv 5) (pe_gc T.c_LINKS) set_list))
      (pss_cons (ps_asg pe_int (pg_sub (pv 5) (pe_gc T.c_MAKING) set_list))
      (pss_one (ps_ret (pe_smeth T.mg_Image T.cr_Image T.sm_Image_of_cells (ok_of_cells T) hr (b_Image_of_cells T) .nil pass0 (pa_cons (pv 0) (pa_cons (pe_fld (pv 1) rfl) pa_nil))))))))))), ?_⟩
    obtain ⟨dxp, hpl⟩ := hP.ob
    have hb1 := hP.b1
    have hb2 := hP.b2
    have hd := hP.d
    have hn1 := hP.n1
    -- image = Image(plan)
    refine ⟨_, rfl, fun x dx nx ndx nex => ?_⟩
    have s1 : Same H (upd (upd H dx (.own x)) x (.ins T.C_Image dx [])) := (same_upd ndx).trans (same_upd (by rw [upd_ne nex.symm]; exact nx))
    refine ⟨x, dx, pl, b, n, sl, rfl, upd_same, hP.same s1, fun H1 A k1 I1 N1 eA => ⟨rfl, ?_⟩⟩
    have S1 : Same H H1 := fun y o e => k1 y o (s1 _ _ e) (ne_of_none e nx)
    have Nrs : ∀ q ∈ A.rs, H q = none := fun q hq => un (un (N1.rs q hq))
    have pr : pl ∉ A.rs := fun z => by rw [Nrs _ z] at hpl; cases hpl
    -- the map
    refine ⟨_, rfl, pl, _, dxp, _, _, rfl, S1 _ _ hpl, T.cl_Plan, T.na_Plan_first_data, rfl, _, rfl, by omega, by omega, for_range (lo := 0) (n := (2 + (b + 8 - 1) / 8 + n).toNat) (fun i σ H' => ∃ (u2 u3 u4 : Option V), σ = [some (.ref pl), some (.ref x), u2, u3, u4, none] ∧ ImgAt T.C_Image T.C_Plan H' x A { zeroV b with M := fmM b i } b n sl ∧ Same H H')
      ⟨_, _, _, rfl, I1, S1⟩ ?_ ?_⟩
    · rintro i σ H' hi ⟨u2, u3, u4, rfl, I, S⟩
      refine ⟨_, rfl, pl, dxp, _, rfl, S _ _ hpl, rfl, _, rfl, pl, b, n, sl, _, rfl, hP.same S, fun t ht => ?_⟩
      have st := same_upd (o := .tup [.int (2 + (0 + (i : Int)) / 8), .int ((0 + (i : Int)) % 8)]) ht
      refine ⟨t, _, rfl, .inl (.inl upd_same), rfl, _, _, rfl, _, _, rfl, rfl, ?_⟩
      have It := I.keep st
      have d0 := It.d0
      have hl : 2 + i / 8 < (fmM b i).length := by
        have : ((fmM b i).length : Int) = b := d0
        omega
      obtain ⟨r, hr1, hr2, _⟩ := It.gr.get (List.getElem?_eq_getElem hl)
      have h8 : ((fmM b i)[2 + i / 8]).length = 8 := It.d1 _ (List.getElem_mem hl)
      refine ⟨_, rfl, x, _, _, _, _, rfl, It.ob, T.cl_Image, T.na_Image_cells, rfl, _, rfl, A.ca, _, _, .ref r, rfl, rfl, .of It.gr.out, at_of (j := 2 + i / 8) (by omega) (by rw [List.getElem?_map, hr1]; rfl), _, rfl, r, _, _, i % 8, rfl, rfl, hr2, ixN_nat (by omega) (by rw [List.length_map, h8]; omega), ?_⟩
      refine ⟨_, _, _, rfl, It.setC (j := i % 8) (x := 1) hr1 (List.getElem?_eq_getElem hl), fun y o e => ?_⟩
      rw [upd_ne (ne_of_none e (Nrs r (List.mem_of_getElem? hr1)))]
      exact st _ _ (S _ _ e)
    · rintro σ H' ⟨u2, u3, u4, rfl, I, S⟩
      have d0 := I.d0
      -- root = ..
      have hl : (2 + (b + 8 - 1) / 8).toNat < (fmM b (2 + (b + 8 - 1) / 8 + n).toNat).length := by
        have : ((fmM b (2 + (b + 8 - 1) / 8 + n).toNat).length : Int) = b := d0
        omega
      obtain ⟨r, hr1, hr2, _⟩ := I.gr.get (List.getElem?_eq_getElem hl)
      generalize hm : (fmM b (2 + (b + 8 - 1) / 8 + n).toNat)[(2 + (b + 8 - 1) / 8).toNat] = m at hr2
      have hm' : (fmM b (2 + (b + 8 - 1) / 8 + n).toNat)[(2 + (b + 8 - 1) / 8).toNat]? = some m := by rw [List.getElem?_eq_getElem hl, hm]
      have h8 : m.length = 8 := I.d1 _ (List.mem_of_getElem? hm')
      refine ⟨_, rfl, x, _, _, _, _, rfl, I.ob, T.cl_Image, T.na_Image_cells, rfl, _, rfl, pl, dxp, _, rfl, S _ _ hpl, rfl, pl, b, n, sl, 1, rfl, hP.same S, A.ca, _, _, .ref r, rfl, rfl, .of I.gr.out, at_of (j := (2 + (b + 8 - 1) / 8).toNat) (by omega) (by rw [List.getElem?_map, hr1]; rfl), ?_⟩
      refine ⟨_, rfl, r, _, _, 0, rfl, rfl, hr2, ixN_nat rfl (by rw [List.length_map, h8]; omega), ?_⟩
      have I1 := I.setC (j := 0) (x := 2) hr1 hm'
      refine ⟨_, rfl, r, _, _, 1, rfl, rfl, upd_same, ixN_nat rfl (by simp [h8]), ?_⟩
      have e1 : (m.map V.int).set 0 (V.int 2) = (m.set 0 2).map V.int := List.map_set.symm
      rw [e1] at I1 ⊢
      have I2 := I1.setC (j := 1) (x := 1) hr1 (setC_at hm')
      refine ⟨_, rfl, r, _, _, 7, rfl, rfl, upd_same, ixN_nat rfl (by simp [h8]), ?_⟩
      have e2 : ((m.set 0 2).map V.int).set 1 (V.int 1) = ((m.set 0 2).set 1 1).map V.int := List.map_set.symm
      rw [e2] at I2 ⊢
      have I3 := I2.setC (j := 7) (x := 1) hr1 (setC_at (setC_at hm'))
      rw [upd_upd, upd_upd]
      rw [upd_upd, upd_upd] at I3
      generalize hHf : upd H' r (.lst ((((m.set 0 2).set 1 1).map V.int).set 7 (V.int 1))) = Hf at I3 ⊢
      have Sf : Same H Hf := fun y o e => by
        rw [← hHf, upd_ne (ne_of_none e (Nrs r (List.mem_of_getElem? hr1)))]
        exact S _ _ e
      have eM : freshM b n = setC (setC (setC (fmM b (2 + (b + 8 - 1) / 8 + n).toNat) (2 + (b + 8 - 1) / 8).toNat 0 2) (2 + (b + 8 - 1) / 8).toNat 1 1) (2 + (b + 8 - 1) / 8).toNat 7 1 := by
        unfold freshM
        rw [show (2 + (b + 8 - 1) / 8 + n).toNat = (2 + (b + 8 - 1) / 8).toNat + n.toNat by omega]
      refine ⟨_, rfl, _, rfl, x, _, _, _, _, rfl, I3.ob, T.cl_Image, T.na_Image_cells, rfl, pl, A.ca, A.rs, _, b, n, sl, rfl, hP.same Sf, I3.gr, I3.d0, I3.d1, fun H2 im A2 S2 nim I2 N2 eA2 => ?_⟩
      have fr : ∀ y, Hf y = none → H y = none := fun y e => Sf.free e
      refine k H2 im A2 (Sf.trans S2) (fr _ nim) ?_ ⟨fr _ N2.ca, fun q hq => fr _ (N2.rs q hq), fr _ N2.ho, fr _ N2.st, fr _ N2.hd⟩ eA2
      rw [eM]
      exact I2
end
end K10
namespace K10
open PySem PySem.Spec PyProof.Rows L2 Rg
section
variable {P : Program} {w : World} {K : PySem.W.Frag} {mg : Str → Option Value} {base : Heap}
def sp_twin (CI CP : Addr) : Sp := fun vs H Q _ => ∃ (im : Addr) (A : IA) (v : IV) (b n s : Int), vs = [.ref im] ∧ ImgAt CI CP H im A v b n s ∧
  ∀ (H' : Hp) (im' : Addr) (A' : IA), Same H H' → H im' = none → ImgAt CI CP H' im' A' v b n s → A'.New H → A'.pl = A.pl → A'.ba = A.ba → Q (.ref im') H'
theorem ok_twin (T : Tx K mg) : FnOk P w K mg base CX0 3 T.f_Image_twin T.fd_Image_twin ["self"] (sp_twin T.C_Image T.C_Plan) := by
  refine T.F_Image_twin.ok sc_Image_twin (fun vs H Q E h => ?_) (fun cdv A0 outer s H vs Q E hr h => ?_)
  · obtain ⟨_, _, _, _, _, _, rfl, _⟩ := h; rfl
  · obtain ⟨im, A, v, b, n, sl, rfl, I, k⟩ := h
    refine ⟨_, (pss_cons (ps_set (i := 1) sc_Image_twin.nd rfl (.inl rfl) (pe_make T.mk_Image (ok_Image_init T) hr rfl T.mg_Image (b_Image___init__ T) .nil pass0 (pa_cons (pe_fld (pv 0) rfl) pa_nil)))
      (pss_cons (ps_fld (pv 1) (pe_lc rfl (own := [("row", 2)]) (g := gName 2) (tt := tYes) sc_Image_twin.nd (pi_list (pe_fld (pv 0) rfl)) (blkOk_by (N := ["self", "other", "row"]) (sc := defScope s_Image_twin) (by decide +kernel)) (fun _ _ _ _ _ => pg_name (i := 2) sc_Image_twin.nd rfl (Or.inl rfl)) (fun _ _ _ _ _ => pts_nil) (fun _ _ _ _ _ => (pe_listof (K := K) (pv 2) T.b_list))) rfl)
      (pss_cons (ps_fld (pv 1) (pe_listof (K := K) (pe_fld (pv 0) rfl) T.b_list) rfl)
      (pss_cons (ps_fld (pv 1) (pe_listof (K := K) (pe_fld (pv 0) rfl) T.b_list) rfl)
      (pss_cons (ps_fld (pv 1) (pe_callTy call_dictD rfl T.b_dict (by decide +kernel) (pa_cons (pe_fld (pv 0) rfl) pa_nil)) rfl)
      (pss_cons (ps_fld (pv 1) (pe_fld (pv 0) rfl) rfl)
      (pss_cons (ps_fld (pv 1) (pe_fld (pv 0) rfl) rfl)
      (pss_cons (ps_fld (pv 1) (pe_fld (pv 0) rfl) rfl)
      (pss_one (ps_ret (pv 1))))))))))), ?_⟩
    obtain ⟨dxp, hpl⟩ := I.pl.ob
    have hb1 := I.pl.b1
    have hb2 := I.pl.b2
    -- other = Image(self.plan)
    refine ⟨_, rfl, im, _, _, _, _, rfl, I.ob, T.cl_Image, T.na_Image_plan, rfl, fun x dx nx ndx nex => ?_⟩
    have s1 : Same H (upd (upd H dx (.own x)) x (.ins T.C_Image dx [])) := (same_upd ndx).trans (same_upd (by rw [upd_ne nex.symm]; exact nx))
    refine ⟨x, dx, A.pl, b, n, sl, rfl, upd_same, I.pl.same s1, fun H1 A1 k1 I1 N1 eA => ⟨rfl, ?_⟩⟩
    have S1 : Same H H1 := fun y o e => k1 y o (s1 _ _ e) (ne_of_none e nx)
    have J1 := I.keep S1
    -- other.cells
    refine ⟨_, rfl, im, _, _, _, _, rfl, J1.ob, T.cl_Image, T.na_Image_cells, rfl, A.ca, rfl, ⟨_, .of J1.gr.out⟩, fun D hD => ?_⟩
    refine lc_list (K := K) (a := A.ca) (xs := A.rs.map V.ref) (fun i H' => ∃ qs, NewGrid H1 H' D qs (v.M.take i))
      ⟨[], NewGrid.start (Same.refl _) hD hD⟩ (fun i H' _ ⟨qs, G⟩ => .of (G.same _ _ J1.gr.out)) ?_ ?_
    · rintro i y H' hi ⟨qs, G⟩
      have hil : i < A.rs.length := by
        have := (List.getElem?_eq_some_iff.mp hi).1
        rw [List.length_map] at this
        exact this
      rw [List.getElem?_map, List.getElem?_eq_getElem hil] at hi
      have hi : V.ref A.rs[i] = y := Option.some.inj hi
      subst hi
      have hiR : i < v.M.length := by rw [← J1.gr.len]; exact hil
      have hrow := G.same _ _ (J1.gr.row i A.rs[i] v.M[i] (List.getElem?_eq_getElem hil) (List.getElem?_eq_getElem hiR))
      have d0 := I.d0
      refine ⟨rfl, ?_⟩
      refine yes_ ?_
      refine ⟨_, rfl, A.rs[i], _, rfl, .inl (.of hrow), fun q hq => ?_⟩
      refine ⟨_, by rw [upd_ne (ne_of_none G.grid.out hq)]; exact G.grid.out, ?_, qs ++ [q], ?_⟩
      · rw [List.length_map, G.grid.len, List.length_take]
        exact small1000 (by omega)
      · rw [List.take_succ, List.getElem?_eq_getElem hiR]
        exact G.snoc (same_upd hq) hq upd_same
    rintro H2 ⟨qs, G⟩
    rw [List.length_map, J1.gr.len, List.take_length] at G
    have I2 : ImgAt T.C_Image T.C_Plan H2 x A1 (zeroV b) b n sl := I1.keep G.same
    have J2 := J1.keep G.same
    have nix : im ≠ x := ne_of_none I.ob nx
    refine ⟨_, rfl, x, _, _, _, rfl, I2.ob, T.cl_Image, T.na_Image_cells, (by show 8 < 1000; decide), ?_⟩
    generalize hH3 : upd H2 x _ = H3
    obtain ⟨e3, k3, n3⟩ := own_f hH3
    have o3 := k3.at1 J2.ob nix
    have nxho : A.ho ≠ x := ne_of_none I.ho nx
    have nxst : A.st ≠ x := ne_of_none I.st nx
    have nxhd : A.hd ≠ x := ne_of_none I.hd nx
    -- other.holdings
    refine ⟨_, rfl, im, _, _, _, _, rfl, o3, T.cl_Image, T.na_Image_holdings, rfl, A.ho, _, rfl, .inl (.of (k3.at1 J2.ho nxho)), fun ho hho => ?_⟩
    generalize hH4 : upd H3 ho _ = H4
    obtain ⟨e4, s4, n4⟩ := new_f hH4 hho
    refine ⟨_, rfl, x, _, _, _, rfl, s4 _ _ e3, T.cl_Image, T.na_Image_holdings, (by show 8 < 1000; decide), ?_⟩
    generalize hH5 : upd H4 x _ = H5
    obtain ⟨e5, k5, n5⟩ := own_f hH5
    have o5 := k5.at1 (s4 _ _ o3) nix
    have nhox : ho ≠ x := (ne_of_none e3 hho).symm
    have ho5 := k5.at1 e4 nhox
    -- other.stamps
    refine ⟨_, rfl, im, _, _, _, _, rfl, o5, T.cl_Image, T.na_Image_stamps, rfl, A.st, _, rfl, .inl (.of (k5.at1 (s4 _ _ (k3.at1 J2.st nxst)) nxst)), fun st hst => ?_⟩
    generalize hH6 : upd H5 st _ = H6
    obtain ⟨e6, s6, n6⟩ := new_f hH6 hst
    refine ⟨_, rfl, x, _, _, _, rfl, s6 _ _ e5, T.cl_Image, T.na_Image_stamps, (by show 8 < 1000; decide), ?_⟩
    generalize hH7 : upd H6 x _ = H7
    obtain ⟨e7, k7, n7⟩ := own_f hH7
    have o7 := k7.at1 (s6 _ _ o5) nix
    have nstx : st ≠ x := (ne_of_none e5 hst).symm
    have nstho : st ≠ ho := (ne_of_none ho5 hst).symm
    have st7 := k7.at1 e6 nstx
    have ho7 := k7.at1 (s6 _ _ ho5) nhox
    -- other.handles
    have hd7 := k7.at1 (s6 _ _ (k5.at1 (s4 _ _ (k3.at1 J2.hd nxhd)) nxhd)) nxhd
    refine ⟨_, rfl, im, _, _, _, _, rfl, o7, T.cl_Image, T.na_Image_handles, rfl, A.hd, _, rfl, .inl hd7, fun hd hhd => ?_⟩
    generalize hH8 : upd H7 hd _ = H8
    obtain ⟨e8, s8, n8⟩ := new_f hH8 hhd
    refine ⟨_, rfl, x, _, _, _, rfl, s8 _ _ e7, T.cl_Image, T.na_Image_handles, (by show 8 < 1000; decide), ?_⟩
    generalize hH9 : upd H8 x _ = H9
    obtain ⟨e9, k9, n9⟩ := own_f hH9
    have nhdx : hd ≠ x := (ne_of_none e7 hhd).symm
    have o9 := k9.at1 (s8 _ _ o7) nix
    -- serial, wish, barred
    refine ⟨_, rfl, im, _, _, _, _, rfl, o9, T.cl_Image, T.na_Image_serial, rfl, _, rfl, x, _, _, _, rfl, e9, T.cl_Image, T.na_Image_serial, (by show 8 < 1000; decide), ?_⟩
    generalize hH10 : upd H9 x _ = H10
    obtain ⟨e10, k10, n10⟩ := own_f hH10
    refine ⟨_, rfl, im, _, _, _, _, rfl, k10.at1 o9 nix, T.cl_Image, T.na_Image_wish, rfl, _, rfl, x, _, _, _, rfl, e10, T.cl_Image, T.na_Image_wish, (by show 8 < 1000; decide), ?_⟩
    generalize hH11 : upd H10 x _ = H11
    obtain ⟨e11, k11, n11⟩ := own_f hH11
    refine ⟨_, rfl, im, _, _, _, _, rfl, k11.at1 (k10.at1 o9 nix) nix, T.cl_Image, T.na_Image_barred, rfl, _, rfl, x, _, _, _, rfl, e11, T.cl_Image, T.na_Image_barred, (by show 8 < 1000; decide), ?_⟩
    generalize hH12 : upd H11 x _ = H12
    obtain ⟨e12, k12, n12⟩ := own_f hH12
    have k9' : Kp [x] H9 H12 := (k10.trans k11).trans k12
    have k2' : Kp [x] H2 H12 := (((((k3.same s4).trans k5).same s6).trans k7).same s8).trans (k9.trans k9')
    have S12 : Same H H12 := fun y o e => k2'.at1 (G.same _ _ (S1 _ _ e)) (ne_of_none e nx)
    have N1' : ∀ y, H1 y = none → H y = none := fun y e => S1.free e
    have f_ho : H2 ho = none := (n3 _ hho).1
    have f_st : H2 st = none := (n3 _ (n4 _ (n5 _ hst).1).1).1
    have f_hd : H2 hd = none := (n3 _ (n4 _ (n5 _ (n6 _ (n7 _ hhd).1).1).1).1).1
    have fr : ∀ y, H2 y = none → H y = none := fun y e => N1' _ (G.same.free e)
    have xD : x ≠ D := ne_of_none I1.ob G.freshD
    have xq : x ∉ qs := (G.nin0 I1.ob).2
    have qn : ∀ y, H2 y = none → y ∉ qs := fun y e hq => by
      obtain ⟨o, z⟩ := G.grid.held hq
      rw [e] at z
      cases z
    refine ⟨_, rfl, k H12 x ⟨A1.dx, A1.pl, D, qs, ho, st, hd, A.ba⟩ S12 nx
      { ob := e12, pl := ?_, gr := G.grid.keep fun y o hy e => k2'.at1 e ?_, ho := k9'.at1 (k9.at1 (s8 _ _ ho7) nhox) nhox, st := k9'.at1 (k9.at1 (s8 _ _ st7) nstx) nstx, hd := k9'.at1 (k9.at1 e8 nhdx) nhdx, ba := S12 _ _ I.ba, n1 := qn _ f_ho, n2 := qn _ f_st, n3 := nstho.symm, n4 := ne_of_none G.grid.out f_ho, n5 := ne_of_none G.grid.out f_st, d0 := I.d0, d1 := I.d1, d2 := I.d2, d3 := I.d3 }
      ⟨N1' _ G.freshD, fun q hq => N1' _ (G.fresh q hq), fr _ f_ho, fr _ f_st, fr _ f_hd⟩ eA rfl⟩
    · show PlanAt T.C_Plan H12 A1.pl b n sl
      rw [eA]
      exact I.pl.same S12
    · rcases hy with rfl | hy
      · exact xD.symm
      · exact fun z => xq (by rw [← z]; exact hy)
end
end K10
namespace K10
open PySem PySem.Spec PyProof.Rows L2 Rg
/-- what an image is read from -/
def IA.reads (A : IA) (im : Addr) : List Addr := im :: A.pl :: A.ca :: A.ho :: A.st :: A.hd :: A.ba :: A.rs
section
variable {CI CP : Addr} {H : Hp} {im : Addr} {A : IA} {v : IV} {b n s : Int}
theorem ImgAt.keepF {H' : Hp} (I : ImgAt CI CP H im A v b n s) (h : ∀ x o, x ∈ A.reads im → H x = some o → H' x = some o) : ImgAt CI CP H' im A v b n s :=
  { I with ob := h _ _ (by simp [IA.reads]) I.ob, pl := I.pl.of fun o e => h _ _ (by simp [IA.reads]) e, gr := I.gr.keep fun x o hx e => h _ _ (by rcases hx with rfl | hx <;> simp [IA.reads, *]) e, ho := h _ _ (by simp [IA.reads]) I.ho, st := h _ _ (by simp [IA.reads]) I.st, hd := h _ _ (by simp [IA.reads]) I.hd, ba := h _ _ (by simp [IA.reads]) I.ba }
theorem ImgAt.held (I : ImgAt CI CP H im A v b n s) {x : Addr} (h : x ∈ A.reads im) : ∃ o, H x = some o := by
  obtain ⟨dxp, hpl⟩ := I.pl.ob
  simp only [IA.reads, List.mem_cons] at h
  rcases h with rfl | rfl | rfl | rfl | rfl | rfl | rfl | h
  · exact ⟨_, I.ob⟩
  · exact ⟨_, hpl⟩
  · exact ⟨_, I.gr.out⟩
  · exact ⟨_, I.ho⟩
  · exact ⟨_, I.st⟩
  · exact ⟨_, I.hd⟩
  · exact ⟨_, I.ba⟩
  · exact I.gr.held h
/-- the fields of begin -/
theorem ImgAt.beg {t : Addr} {se wi : Int} {bs : List Int} (I : ImgAt CI CP H im A v b n s) (ht : H t = some (.tup (bs.map V.int))) :
    ImgAt CI CP (upd H im (.ins CI A.dx (imgF { A with ba := t } { v with se := se, wi := wi, ba := bs }))) im { A with ba := t } { v with se := se, wi := wi, ba := bs } b n s := by
  obtain ⟨dxp, hpl⟩ := I.pl.ob
  have oc := I.ob
  refine { I with ob := upd_same, pl := I.pl.of fun o e => ?_, gr := I.gr.keep fun y o hy e => ?_, ho := ?_, st := ?_, hd := ?_, ba := ?_ }
  · rw [upd_ne (fun z : A.pl = im => ?_)]
    · exact e
    · rw [z, oc] at hpl
      have := HO.ins.inj (Option.some.inj hpl)
      have := this.2.2
      simp [planF, imgF] at this
  · rw [upd_ne]
    · exact e
    · rcases hy with rfl | hy
      · exact ne_of I.gr.out oc (by intro z; cases z)
      · rintro rfl
        obtain ⟨i, hi, e2⟩ := List.getElem_of_mem hy
        have hm : i < v.M.length := by rw [← I.gr.len]; exact hi
        have := I.gr.row i y v.M[i] (by rw [List.getElem?_eq_getElem hi, e2]) (List.getElem?_eq_getElem hm)
        rw [oc] at this
        cases this
  · rw [upd_ne (ne_of I.ho oc (by intro z; cases z))]; exact I.ho
  · rw [upd_ne (ne_of I.st oc (by intro z; cases z))]; exact I.st
  · rw [upd_ne (ne_of I.hd oc (by intro z; cases z))]; exact I.hd
  · rw [upd_ne (ne_of ht oc (by intro z; cases z))]; exact ht
end
/-- places that stand apart, each with what it holds -/
structure Fr (L : List (Addr × HO)) (H : Hp) : Prop where
  at_ : ∀ p ∈ L, H p.1 = some p.2
  nd : (L.map (·.1)).Nodup
theorem Fr.get {L : List (Addr × HO)} {H : Hp} (F : Fr L H) (i : Nat) {a : Addr} {o : HO} (h : L[i]? = some (a, o)) : H a = some o := F.at_ _ (List.mem_of_getElem? h)
theorem Fr.keep {L : List (Addr × HO)} {H H' : Hp} (F : Fr L H) (h : ∀ p ∈ L, ∀ o, H p.1 = some o → H' p.1 = some o) : Fr L H' := ⟨fun p hp => h p hp _ (F.at_ p hp), F.nd⟩
theorem Fr.same {L : List (Addr × HO)} {H H' : Hp} (F : Fr L H) (h : Same H H') : Fr L H' := F.keep fun _ _ _ e => h _ _ e
theorem Fr.put {L : List (Addr × HO)} {H : Hp} (F : Fr L H) (i : Nat) {a : Addr} {o o' : HO} (h : L[i]? = some (a, o)) : Fr (L.set i (a, o')) (upd H a o') := by
  have hi : i < L.length := (List.getElem?_eq_some_iff.mp h).1
  have e : (L.set i (a, o')).map (·.1) = L.map (·.1) := by
    apply List.ext_getElem?
    intro j
    rw [List.getElem?_map, List.getElem?_map]
    by_cases q : i = j
    · subst q
      rw [List.getElem?_set_self hi, h]
      rfl
    · rw [List.getElem?_set_ne q]
  refine ⟨fun p hp => ?_, by rw [e]; exact F.nd⟩
  obtain ⟨j, hj, ej⟩ := List.getElem_of_mem hp
  by_cases q : i = j
  · subst q
    rw [List.getElem_set_self] at ej
    rw [← ej]
    exact upd_same
  · rw [List.getElem_set_ne q] at ej
    have hjl : j < L.length := by rw [List.length_set] at hj; exact hj
    have hpL : p ∈ L := by rw [← ej]; exact List.getElem_mem hjl
    rw [upd_ne]
    · exact F.at_ p hpL
    · intro z
      have n1 : (L.map (·.1))[i]? = some a := by rw [List.getElem?_map, h]; rfl
      have n2 : (L.map (·.1))[j]? = some a := by rw [List.getElem?_map, List.getElem?_eq_getElem hjl, ej, ← z]; rfl
      have il : i < (L.map (·.1)).length := by rw [List.length_map]; exact hi
      have jl : j < (L.map (·.1)).length := by rw [List.length_map]; exact hjl
      rw [List.getElem?_eq_getElem il] at n1
      rw [List.getElem?_eq_getElem jl] at n2
      exact q ((List.getElem_inj F.nd).mp ((Option.some.inj n1).trans (Option.some.inj n2).symm))
theorem Fr.held {L : List (Addr × HO)} {H : Hp} (F : Fr L H) {a : Addr} (h : H a = none) : ∀ p ∈ L, p.1 ≠ a := fun p hp z => by
  have := F.at_ p hp
  rw [z, h] at this
  cases this
/-- one more, at a new place -/
theorem Fr.cons {L : List (Addr × HO)} {H : Hp} (F : Fr L H) {a : Addr} {o : HO} (h : H a = none) : Fr ((a, o) :: L) (upd H a o) := by
  refine ⟨fun p hp => ?_, ?_⟩
  · rcases List.mem_cons.mp hp with rfl | hp
    · exact upd_same
    · rw [upd_ne (F.held h p hp)]
      exact F.at_ p hp
  · rw [List.map_cons, List.nodup_cons]
    refine ⟨fun z => ?_, F.nd⟩
    obtain ⟨p, hp, e⟩ := List.mem_map.mp z
    exact F.held h p hp e
theorem Fr.nil {H : Hp} : Fr [] H := ⟨fun _ h => absurd h List.not_mem_nil, List.nodup_nil⟩
/-- an image, and places apart from it -/
structure SI (CI CP : Addr) (H : Hp) (im : Addr) (A : IA) (v : IV) (b n s : Int) (L : List (Addr × HO)) : Prop where
  I : ImgAt CI CP H im A v b n s
  F : Fr L H
  ap : ∀ p ∈ L, p.1 ∉ A.reads im
section
variable {CI CP : Addr} {H : Hp} {im : Addr} {A : IA} {v : IV} {b n s : Int} {L : List (Addr × HO)}
theorem SI.same {H' : Hp} (S : SI CI CP H im A v b n s L) (h : Same H H') : SI CI CP H' im A v b n s L := ⟨S.I.keep h, S.F.same h, S.ap⟩
theorem SI.put (S : SI CI CP H im A v b n s L) (i : Nat) {a : Addr} {o o' : HO} (h : L[i]? = some (a, o)) : SI CI CP (upd H a o') im A v b n s (L.set i (a, o')) := by
  have ha := S.ap _ (List.mem_of_getElem? h)
  refine ⟨S.I.keepF fun x q hx e => ?_, S.F.put i h, fun p hp => ?_⟩
  · rw [upd_ne fun z => ha (by rw [← z]; exact hx)]
    exact e
  · rcases mem_set_of hp with e | e
    · rw [e]; exact ha
    · exact S.ap p e
/-- the image changed, at its own places -/
theorem SI.img {H' : Hp} {A' : IA} {v' : IV} (S : SI CI CP H im A v b n s L) (I' : ImgAt CI CP H' im A' v' b n s) (k : Kp (A.reads im) H H') (hr : ∀ x ∈ A'.reads im, x ∈ A.reads im ∨ H x = none) : SI CI CP H' im A' v' b n s L :=
  ⟨I', S.F.keep fun p hp o e => k _ _ e (S.ap p hp), fun p hp z => by
    rcases hr _ z with e | e
    · exact S.ap p hp e
    · exact S.F.held e p hp rfl⟩
end
section
variable {X : Cx}
def rGetL (K : PySem.W.Frag) : V → V → Hp → VK → Prop := fun x y H Q => ∃ p xs j v, x = .ref p ∧ y = .int ((j : Nat) : Int) ∧ SqL K H p xs ∧ xs[j]? = some v ∧ Q v H
theorem get_list : PGet X (rGetL X.K) := by
  intro pins s σ H o i ov iv Q I ro ri h
  obtain ⟨p, xs, j, v, rfl, rfl, hq, he, q⟩ := h
  cases ro
  obtain ⟨t, rfl⟩ := ri
  obtain ⟨its, r, pl, hz⟩ := I.list hq
  obtain ⟨w, ew, rw'⟩ := r.get he
  have hn := line63
  have hl := r.length
  have hj := (List.getElem?_eq_some_iff.mp he).1
  exact wpAny_getItem_list pl.isList (by omega) (by omega) (by simpa using ew) ⟨v, H, I, rw', q⟩
end
section
variable {P : Program} {w : World} {K : PySem.W.Frag} {mg : Str → Option Value} {base : Heap}
/-! ### begin -/
def sp_begin (CI CP : Addr) : Sp := fun vs H Q _ => ∃ (im : Addr) (A : IA) (v : IV) (b n s wi : Int) (q : Addr) (bs : List Int), vs = [.ref im, .int wi, .ref q] ∧ ImgAt CI CP H im A v b n s ∧ (H q = some (.lst (bs.map V.int)) ∨ H q = some (.tup (bs.map V.int))) ∧
  ∀ (H' : Hp) (t : Addr), ImgAt CI CP H' im { A with ba := t } { v with se := v.se + 1, wi := wi, ba := bs } b n s → Kp [im] H H' → (H t = none ∨ t = q) → Q .non H'
theorem ok_begin (T : Tx K mg) : FnOk P w K mg base CX0 1 T.f_Image_begin T.fd_Image_begin ["self", "wish", "barred"] (sp_begin T.C_Image T.C_Plan) := by
  refine T.F_Image_begin.ok sc_Image_begin (fun vs H Q E h => ?_) (fun cdv A0 outer s H vs Q E hr h => ?_)
  · obtain ⟨_, _, _, _, _, _, _, _, _, rfl, _⟩ := h; rfl
  · obtain ⟨im, A, v, b, n, sl, wi, q, bs, rfl, I, hq, k⟩ := h
    refine ⟨_, (pss_cons (ps_fldaug (pv 0) pe_int in_add)
      (pss_cons (ps_fld (pv 0) (pv 1) rfl)
      (pss_one (ps_fld (pv 0) (pe_callTy call_tuple_of rfl T.b_tuple (by decide +kernel) (pa_cons (pv 2) pa_nil)) rfl)))), ?_⟩
    refine ⟨_, rfl, im, _, _, _, _, rfl, I.ob, T.cl_Image, T.na_Image_serial, rfl, _, _, rfl, rfl, _, _, I.ob, (by show 8 < 1000; decide), ?_⟩
    refine ⟨_, rfl, _, rfl, im, _, _, _, rfl, upd_same, T.cl_Image, T.na_Image_wish, (by show 8 < 1000; decide), ?_⟩
    rw [upd_upd]
    have k0 : ∀ o, Kp [im] H (upd H im o) := fun o => Kp.refl.own1
    have qn : q ≠ im := fun z => by
      rw [z, I.ob] at hq
      rcases hq with e | e <;> cases e
    refine ⟨_, rfl, q, bs.map V.int, rfl, ?_⟩
    rcases hq with hq | hq
    · refine .inl ⟨.of ((k0 _).at1 hq qn), fun t ht => ?_⟩
      refine ⟨_, rfl, im, _, A.dx, _, rfl, (by rw [upd_ne (unn' ht), upd_same]), T.cl_Image, T.na_Image_barred, (by show 8 < 1000; decide), ?_⟩
      have ti := unn' ht
      have t0 := un ht
      have e1 : ∀ o1 o2 o3, upd (upd (upd H im o1) t o2) im o3 = upd (upd H t o2) im o3 := fun o1 o2 o3 => by
        rw [upd_comm ti, upd_upd]
      rw [e1]
      exact k _ t ((I.keep (same_upd t0)).beg upd_same) ((Kp.of (same_upd t0)).own1) (.inl t0)
    · refine .inr ⟨.of ((k0 _).at1 hq qn), ?_⟩
      refine ⟨_, rfl, im, _, A.dx, _, rfl, upd_same, T.cl_Image, T.na_Image_barred, (by show 8 < 1000; decide), ?_⟩
      rw [upd_upd]
      exact k _ q (I.beg hq) (k0 _) (.inr rfl)
/-! ### data_blocks, free_blocks, identity -/
def rng (lo : Int) (n : Nat) : List Int := (List.range n).map fun i => lo + (i : Nat)
theorem rng_succ {lo : Int} {n : Nat} : rng lo (n + 1) = rng lo n ++ [lo + n] := by
  unfold rng
  rw [List.range_succ, List.map_append]
  rfl
theorem rng_len {lo : Int} {n : Nat} : (rng lo n).length = n := by unfold rng; simp
theorem rng_get {lo : Int} {n i : Nat} (h : i < n) : (rng lo n)[i]? = some (lo + i) := by
  unfold rng
  rw [List.getElem?_map, List.getElem?_range h]
  rfl
theorem rng_mem {lo x : Int} {n : Nat} (h : x ∈ rng lo n) : lo ≤ x ∧ x < lo + n := by
  unfold rng at h
  obtain ⟨i, hi, e⟩ := List.mem_map.mp h
  rw [List.mem_range] at hi
  omega
theorem rgV_rng (a b : Int) : rgV a b = (rng a (b - a).toNat).map V.int := by
  unfold rgV rng
  rw [List.map_map]
  rfl
theorem filt_len {l : List Int} {p : Int → Bool} {m : Nat} (h : l.length ≤ m) : (l.filter p).length ≤ m := Nat.le_trans (List.length_filter_le _ _) h
theorem take_get {l : List Int} {i : Nat} {x : Int} (h : l[i]? = some x) : l.take (i + 1) = l.take i ++ [x] := by
  rw [List.take_succ, h]
  rfl
end
end K10
namespace K10
open PySem PySem.Spec PyProof.Rows L2 Rg
/-! ### lists of ints and lists of such lists, compared -/
def dI (ns : List Int) : PyData := .list (ns.map PyData.int)
def dG (M : List (List Int)) : PyData := .list (M.map dI)
theorem dpAllI {K : PySem.W.Frag} {H : Hp} : ∀ ns : List Int, DpAll K H (ns.map V.int) (ns.map PyData.int)
  | [] => .nil
  | n :: ns => .cons (.int n) (dpAllI ns)
theorem dpI {K : PySem.W.Frag} {H : Hp} {a : Addr} {ns : List Int} (h : H a = some (.lst (ns.map V.int))) : Dp K H (.ref a) (dI ns) := .lst (.of h) (dpAllI ns)
theorem dpAllG {K : PySem.W.Frag} {H : Hp} : ∀ (rs : List Addr) (M : List (List Int)), rs.length = M.length → (∀ (i : Nat) (r : Addr) (m : List Int), rs[i]? = some r → M[i]? = some m → H r = some (.lst (m.map V.int))) → DpAll K H (rs.map V.ref) (M.map dI)
  | [], [], _, _ => .nil
  | r :: rs, m :: M, hl, h => .cons (dpI (h 0 r m rfl rfl)) (dpAllG rs M (by simpa using hl) fun i q n a b => h (i + 1) q n (by simpa using a) (by simpa using b))
  | [], _ :: _, hl, _ => by simp at hl
  | _ :: _, [], hl, _ => by simp at hl
theorem dpG {K : PySem.W.Frag} {H : Hp} {ca : Addr} {rs : List Addr} {M : List (List Int)} (G : Grid H ca rs M) : Dp K H (.ref ca) (dG M) := .lst (.of G.out) (dpAllG rs M G.len G.row)
theorem canI : ∀ ns : List Int, PyData.canLayAll0 (ns.map PyData.int) = true
  | [] => rfl
  | n :: ns => by
    show (PyData.canLay0 (.int n) && PyData.canLayAll0 (ns.map PyData.int)) = true
    rw [canI ns]
    rfl
theorem canG : ∀ M : List (List Int), PyData.canLayAll0 (M.map dI) = true
  | [] => rfl
  | m :: M => by
    show (PyData.canLayAll0 (m.map PyData.int) && PyData.canLayAll0 (M.map dI)) = true
    rw [canI, canG M]
    rfl
theorem depI : ∀ ns : List Int, PyData.depthAll (ns.map PyData.int) = 0
  | [] => rfl
  | n :: ns => by
    show max (PyData.depth (.int n)) (PyData.depthAll (ns.map PyData.int)) = 0
    rw [depI ns]
    rfl
theorem depG : ∀ M : List (List Int), PyData.depthAll (M.map dI) ≤ 1
  | [] => Nat.zero_le _
  | m :: M => by
    show max (PyData.depthAll (m.map PyData.int) + 1) (PyData.depthAll (M.map dI)) ≤ 1
    rw [depI m]
    have := depG M
    omega
theorem shI (ns : List Int) : SeqAt.shaped (dI ns) = true := by
  unfold SeqAt.shaped dI
  rw [Bool.and_eq_true]
  refine ⟨canI ns, decide_eq_true ?_⟩
  show PyData.depthAll (ns.map PyData.int) + 1 ≤ 64
  rw [depI ns]
  decide
theorem shG (M : List (List Int)) : SeqAt.shaped (dG M) = true := by
  unfold SeqAt.shaped dG
  rw [Bool.and_eq_true]
  refine ⟨canG M, decide_eq_true ?_⟩
  show PyData.depthAll (M.map dI) + 1 ≤ 64
  have := depG M
  omega
theorem eqI (ns : List Int) : PyData.eqv (dI ns) (dI ns) = true := SeqAt.eqv_refl _ (canI ns)
theorem eqvAllI : ∀ a b : List Int, PyData.eqvAll (a.map PyData.int) (b.map PyData.int) = decide (a = b)
  | [], [] => by simp [PyData.eqvAll]
  | [], _ :: _ => by simp [PyData.eqvAll]
  | _ :: _, [] => by simp [PyData.eqvAll]
  | x :: a, y :: b => by
    rw [List.map_cons, List.map_cons, PyData.eqvAll, eqvAllI a b]
    by_cases e : x = y
    · subst e
      by_cases f : a = b
      · subst f; simp [PyData.eqv]
      · simp [PyData.eqv, f]
    · simp [PyData.eqv, e]
theorem eqvI (a b : List Int) : PyData.eqv (dI a) (dI b) = decide (a = b) := by
  unfold dI
  rw [PyData.eqv]
  exact eqvAllI a b
end K10
namespace K10
open PySem PySem.Spec PyProof.Rows L2 Rg
/-! ### settle -/
/-- block x gets a new stamp -/
def Chg (b n : Int) (M M0 : List (List Int)) (ho : List Int) (se : Int) (x : Nat) : Prop := (kindOf b n M x ≠ 0 ∧ M[x]? ≠ M0[x]?) ∨ ho[x]? = some se
instance {b n : Int} {M M0 : List (List Int)} {ho : List Int} {se : Int} {x : Nat} : Decidable (Chg b n M M0 ho se x) := by unfold Chg; infer_instance
def setl (b n : Int) (M M0 : List (List Int)) (ho : List Int) (se : Int) (st : List Int) : Nat → List Int
  | 0 => st
  | i + 1 => if Chg b n M M0 ho se i then (setl b n M M0 ho se st i).set i se else setl b n M M0 ho se st i
theorem setl_len {b n : Int} {M M0 : List (List Int)} {ho : List Int} {se : Int} {st : List Int} : ∀ i, (setl b n M M0 ho se st i).length = st.length
  | 0 => rfl
  | i + 1 => by
    unfold setl
    split
    · rw [List.length_set]; exact setl_len i
    · exact setl_len i
theorem setl_succ {b n : Int} {M M0 : List (List Int)} {ho : List Int} {se : Int} {st : List Int} {i : Nat} : setl b n M M0 ho se st (i + 1) = if Chg b n M M0 ho se i then (setl b n M M0 ho se st i).set i se else setl b n M M0 ho se st i := rfl
theorem setl_get {b n : Int} {M M0 : List (List Int)} {ho : List Int} {se : Int} {st : List Int} {x : Nat} (hx : x < st.length) : ∀ i, (setl b n M M0 ho se st i)[x]? = if x < i ∧ Chg b n M M0 ho se x then some se else st[x]?
  | 0 => by rw [if_neg (by omega)]; rfl
  | i + 1 => by
    have ih := setl_get (b := b) (n := n) (M := M) (M0 := M0) (ho := ho) (se := se) hx i
    unfold setl
    by_cases c : Chg b n M M0 ho se i
    · rw [if_pos c]
      by_cases e : i = x
      · subst e
        rw [List.getElem?_set_self (by rw [setl_len]; exact hx), if_pos ⟨Nat.lt_succ_self _, c⟩]
      · rw [List.getElem?_set_ne e, ih]
        simp only [show (x < i + 1) ↔ (x < i) by omega]
    · rw [if_neg c, ih]
      by_cases e : i = x
      · subst e
        rw [if_neg (fun z => c z.2), if_neg (fun z => c z.2)]
      · simp only [show (x < i + 1) ↔ (x < i) by omega]
section
variable {P : Program} {w : World} {K : PySem.W.Frag} {mg : Str → Option Value} {base : Heap}
def sp_settle (CI CP : Addr) : Sp := fun vs H Q _ => ∃ (im : Addr) (A : IA) (v : IV) (b n s : Int) (im0 : Addr) (A0 : IA) (v0 : IV), vs = [.ref im, .ref im0] ∧ ImgAt CI CP H im A v b n s ∧ ImgAt CI CP H im0 A0 v0 b n s ∧ A.st ∉ A0.reads im0 ∧
  ∀ H', ImgAt CI CP H' im A { v with st := setl b n v.M v0.M v.ho v.se v.st b.toNat } b n s → Kp [A.st] H H' → Q .non H'
theorem ok_settle (T : Tx K mg) : FnOk P w K mg base CX0 3 T.f_Image_settle T.fd_Image_settle ["self", "before"] (sp_settle T.C_Image T.C_Plan) := by
  refine T.F_Image_settle.ok sc_Image_settle (fun vs H Q E h => ?_) (fun cdv A1 outer s H vs Q E hr h => ?_)
  · obtain ⟨_, _, _, _, _, _, _, _, _, rfl, _⟩ := h; rfl
  · obtain ⟨im, A, v, b, n, sl, im0, A0, v0, rfl, I, I0, hap, k⟩ := h
    refine ⟨_, (pss_one (ps_for PassesOwn.never rfl (pi_range1 rfl T.b_range (pa_cons (pe_fld (pe_fld (pv 0) rfl) rfl) pa_nil)) (pg_name (i := 2) sc_Image_settle.nd rfl (.inl rfl))
        (Evl.pss_cut (ps_set (i := 3) sc_Image_settle.nd rfl (.inl rfl) (pe_and (pe_cmpR op_ne (pe_meth (pv 0) T.cl_Image T.m_Image_kind (ok_Image_kind T) hr (b_Image_kind T) .nil pass0 (pa_cons (pv 2) pa_nil)) (pe_cv T.mg_Plan T.cr_Plan T.cv_Plan_FREE) (nomark _)) (pe_one (pe_cmpR (op_neD hr.units) (pe_ix ix_list (pe_fld (pv 0) rfl) (pv 2) (fun _ _ => rfl)) (pe_ix ix_list (pe_fld (pv 1) rfl) (pv 2) (fun _ _ => rfl)) (nomark _)))))
        (pss_one (ps_if (PW.pt (pw_or (pt_val (pv 3)) (pw_or1 (pt_cmpR op_eq (pe_ix ix_list (pe_fld (pv 0) rfl) (pv 2) (fun _ _ => rfl)) (pe_fld (pv 0) rfl) (nomark _)))))
          (pss_one (ps_asg (pe_fld (pv 0) rfl) (pg_sub (pe_fld (pv 0) rfl) (pv 2) set_list)))
          pss_nil))))), ?_⟩
    obtain ⟨dxp, hpl⟩ := I.pl.ob
    have b1 := I.pl.b1
    have b2 := I.pl.b2
    have d0 := I.d0
    have d00 := I0.d0
    have d2 := I.d2
    have d3 := I.d3
    refine ⟨_, rfl, im, _, _, _, _, rfl, I.ob, T.cl_Image, T.na_Image_plan, rfl, A.pl, _, dxp, _, _, rfl, hpl, T.cl_Plan, T.na_Plan_blocks, rfl, b, rfl, by omega, by omega, for_range (lo := 0) (n := b.toNat) (fun i σ H' => ∃ u2 u3 : Option V, σ = [some (.ref im), some (.ref im0), u2, u3] ∧ ImgAt T.C_Image T.C_Plan H' im A { v with st := setl b n v.M v0.M v.ho v.se v.st i } b n sl ∧ Kp [A.st] H H') ⟨_, _, rfl, I, Kp.refl⟩ ?_ ?_⟩
    · rintro i σ H' hi ⟨u2, u3, rfl, I', k'⟩
      have J0 : ImgAt T.C_Image T.C_Plan H' im0 A0 v0 b n sl := I0.keepF fun x o hx e => k'.at1 e fun z => hap (by rw [← z]; exact hx)
      have hiM : i < v.M.length := by omega
      have hiM0 : i < v0.M.length := by omega
      obtain ⟨r, r1, r2, _⟩ := I'.gr.get (List.getElem?_eq_getElem hiM)
      obtain ⟨r0, r01, r02, _⟩ := J0.gr.get (List.getElem?_eq_getElem hiM0)
      have hiH : i < v.ho.length := by omega
      have hiS : i < (setl b n v.M v0.M v.ho v.se v.st i).length := by rw [setl_len]; omega
      have ez : (0 : Int) + (i : Int) = (i : Int) := by omega
      refine ⟨fun σ H2 => Same H' H2 ∧ ∃ c : Bool, σ = [some (.ref im), some (.ref im0), some (.int (i : Int)), some (.bl c)] ∧ (c = true ↔ kindOf b n v.M i ≠ 0 ∧ v.M[i]? ≠ v0.M[i]?), ?_, ?_⟩
      · refine ⟨_, rfl, im, _, _, rfl, I'.ob, rfl, _, rfl, im, A, _, b, n, sl, _, rfl, I', by omega, by omega, fun H2 S2 => ?_⟩
        have I2 := I'.keep S2
        have J2 := J0.keep S2
        rw [ez]
        refine ⟨rfl, _, rfl, ?_⟩
        rw [dec_iv]
        by_cases hk : kindOf b n v.M i = 0
        · rw [decide_eq_true hk]
          refine iteF ⟨S2, _, rfl, ?_⟩
          constructor
          · intro z; cases z
          · intro z; exact absurd hk z.1
        · rw [decide_eq_false hk]
          refine iteT ⟨_, rfl, im, _, _, _, _, rfl, I2.ob, T.cl_Image, T.na_Image_cells, rfl, _, rfl, A.ca, _, _, .ref r, rfl, rfl, .of I2.gr.out, atI_nat (by rw [List.getElem?_map, r1]; rfl), ?_⟩
          refine ⟨_, rfl, im0, _, _, _, _, rfl, J2.ob, T.cl_Image, T.na_Image_cells, rfl, _, rfl, A0.ca, _, _, .ref r0, rfl, rfl, .of J2.gr.out, atI_nat (by rw [List.getElem?_map, r01]; rfl), dI _, dI _, dpI (S2 _ _ r2), dpI (S2 _ _ r02), shI _, shI _, S2, _, rfl, ?_⟩
          rw [eqvI, List.getElem?_eq_getElem hiM, List.getElem?_eq_getElem hiM0]
          simp [hk]
      · rintro σ H2 ⟨S2, c, rfl, hc⟩
        have I2 := I'.keep S2
        have kk := k'.same S2
        have yes : Chg b n v.M v0.M v.ho v.se i → ∃ u2 u3 : Option V, [some (V.ref im), some (V.ref im0), some (V.int (i : Int)), some (V.bl c)] = [some (.ref im), some (.ref im0), u2, u3] ∧ ImgAt T.C_Image T.C_Plan (upd H2 A.st (.lst (((setl b n v.M v0.M v.ho v.se v.st i).map V.int).set i (V.int v.se)))) im A { v with st := setl b n v.M v0.M v.ho v.se v.st (i + 1) } b n sl ∧ Kp [A.st] H (upd H2 A.st (.lst (((setl b n v.M v0.M v.ho v.se v.st i).map V.int).set i (V.int v.se)))) := fun q => by
          refine ⟨_, _, rfl, ?_, kk.own1⟩
          rw [setl_succ, if_pos q]
          exact I2.putSt
        have no : ¬ Chg b n v.M v0.M v.ho v.se i → ∃ u2 u3 : Option V, [some (V.ref im), some (V.ref im0), some (V.int (i : Int)), some (V.bl c)] = [some (.ref im), some (.ref im0), u2, u3] ∧ ImgAt T.C_Image T.C_Plan H2 im A { v with st := setl b n v.M v0.M v.ho v.se v.st (i + 1) } b n sl ∧ Kp [A.st] H H2 := fun q => by
          refine ⟨_, _, rfl, ?_, kk⟩
          rw [setl_succ, if_neg q]
          exact I2
        have ixS : ixN ((setl b n v.M v0.M v.ho v.se v.st i).map V.int).length (i : Int) = some i := ixN_nat rfl (by rw [List.length_map]; exact hiS)
        refine ⟨_, rfl, _, rfl, ?_⟩
        cases c with
        | true =>
          refine iteT ⟨_, rfl, im, _, _, _, _, rfl, I2.ob, T.cl_Image, T.na_Image_serial, rfl, _, rfl, im, _, _, _, _, rfl, I2.ob, T.cl_Image, T.na_Image_stamps, rfl, _, rfl, A.st, _, _, i, rfl, rfl, I2.st, ixS, ?_⟩
          exact yes (.inl (hc.mp rfl))
        | false =>
          refine iteF ⟨_, rfl, im, _, _, _, _, rfl, I2.ob, T.cl_Image, T.na_Image_holdings, rfl, _, rfl, A.ho, _, _, _, rfl, rfl, .of I2.ho, atI_nat (by rw [List.getElem?_map, List.getElem?_eq_getElem hiH]; rfl), ?_⟩
          refine ⟨_, rfl, im, _, _, _, _, rfl, I2.ob, T.cl_Image, T.na_Image_serial, rfl, rfl, _, rfl, ?_⟩
          rw [dec_iv]
          by_cases hs : v.ho[i] = v.se
          · rw [decide_eq_true hs]
            refine iteT ⟨_, rfl, im, _, _, _, _, rfl, I2.ob, T.cl_Image, T.na_Image_serial, rfl, _, rfl, im, _, _, _, _, rfl, I2.ob, T.cl_Image, T.na_Image_stamps, rfl, _, rfl, A.st, _, _, i, rfl, rfl, I2.st, ixS, ?_⟩
            exact yes (.inr (by rw [List.getElem?_eq_getElem hiH, hs]))
          · rw [decide_eq_false hs]
            refine iteF (no ?_)
            rintro (q | q)
            · have := hc.mpr q
              cases this
            · rw [List.getElem?_eq_getElem hiH] at q
              exact hs (Option.some.inj q)
    · rintro σ H' ⟨u2, u3, rfl, I', k'⟩
      exact k H' I' k'
end
end K10
namespace K10
open PySem PySem.Spec PyProof.Rows L2 Rg
/-! ### two values that read alike -/
def flatE (x y : V) : Prop := x = y ∧ (x = .non ∨ (∃ b, x = .bl b) ∨ (∃ i, x = .int i) ∨ ∃ z, x = .str z)
def Sm (H : Hp) : Nat → V → V → Prop
  | 0, x, y => flatE x y
  | n + 1, x, y => flatE x y ∨ ∃ a b xs ys, x = .ref a ∧ y = .ref b ∧ ((H a = some (.lst xs) ∧ H b = some (.lst ys)) ∨ (H a = some (.tup xs) ∧ H b = some (.tup ys))) ∧ xs.length = ys.length ∧ ys.length < 1000 ∧ ∀ (i : Nat) (x y : V), xs[i]? = some x → ys[i]? = some y → Sm H n x y
theorem Sm.same {H H' : Hp} (s : Same H H') : ∀ {n : Nat} {x y : V}, Sm H n x y → Sm H' n x y
  | 0, _, _, h => h
  | n + 1, _, _, h => by
    rcases h with h | ⟨a, b, xs, ys, e1, e2, e3, e4, e5, e6⟩
    · exact .inl h
    · refine .inr ⟨a, b, xs, ys, e1, e2, ?_, e4, e5, fun i x y h1 h2 => Sm.same s (e6 i x y h1 h2)⟩
      rcases e3 with ⟨p, q⟩ | ⟨p, q⟩
      · exact .inl ⟨s _ _ p, s _ _ q⟩
      · exact .inr ⟨s _ _ p, s _ _ q⟩
theorem Sm.up {H : Hp} : ∀ {n : Nat} {x y : V}, Sm H n x y → Sm H (n + 1) x y
  | 0, _, _, h => .inl h
  | n + 1, _, _, h => by
    rcases h with h | ⟨a, b, xs, ys, e1, e2, e3, e4, e5, e6⟩
    · exact .inl h
    · exact .inr ⟨a, b, xs, ys, e1, e2, e3, e4, e5, fun i x y h1 h2 => (e6 i x y h1 h2).up⟩
theorem Sm.flat {H : Hp} {n : Nat} {x y : V} (h : flatE x y) : Sm H n x y := by
  cases n with
  | zero => exact h
  | succ n => exact .inl h
theorem Sm.int {H : Hp} {n : Nat} {i : Int} : Sm H n (.int i) (.int i) := Sm.flat ⟨rfl, .inr (.inr (.inl ⟨i, rfl⟩))⟩
/-- x is True, x is False -/
theorem op_isB {X : Cx} (c : Bool) : OpR X (compareOp .Is) (fun x y H Q => y = .bl c ∧ Q (.bl (decide (x = .bl c))) H) := by
  intro pins s σ H x y v u Q I rx ry h
  obtain ⟨rfl, q⟩ := h
  cases ry
  cases x with
  | bl b =>
    cases rx
    by_cases e : b = c
    · subst e
      refine wpAny_is_self rfl ⟨.bl true, H, I, rfl, ?_⟩
      rw [decide_eq_true rfl] at q
      exact q
    · refine wpAny_is_other rfl (fun z => e (by injection z)) ⟨.bl false, H, I, rfl, ?_⟩
      rw [decide_eq_false (fun z => e (by injection z))] at q
      exact q
  | non => cases rx; exact wpAny_is_other rfl (fun z => nomatch z) ⟨.bl false, H, I, rfl, q⟩
  | int i => obtain ⟨t, rfl⟩ := rx; exact wpAny_is_other rfl (fun z => nomatch z) ⟨.bl false, H, I, rfl, q⟩
  | str i => obtain ⟨t, rfl⟩ := rx; exact wpAny_is_other rfl (fun z => nomatch z) ⟨.bl false, H, I, rfl, q⟩
  | byt i => obtain ⟨t, rfl⟩ := rx; exact wpAny_is_other rfl (fun z => nomatch z) ⟨.bl false, H, I, rfl, q⟩
  | flt i => obtain ⟨t, rfl⟩ := rx; exact wpAny_is_other rfl (fun z => nomatch z) ⟨.bl false, H, I, rfl, q⟩
  | ref i => cases rx; exact wpAny_is_other rfl (fun z => nomatch z) ⟨.bl false, H, I, rfl, q⟩
  | ty i => cases rx; exact wpAny_is_other rfl (fun z => nomatch z) ⟨.bl false, H, I, rfl, q⟩
theorem Sm.inv {H : Hp} {n : Nat} {x y : V} (h : Sm H n x y) : flatE x y ∨ ∃ m a b xs ys, n = m + 1 ∧ x = .ref a ∧ y = .ref b ∧ ((H a = some (.lst xs) ∧ H b = some (.lst ys)) ∨ (H a = some (.tup xs) ∧ H b = some (.tup ys))) ∧ xs.length = ys.length ∧ ys.length < 1000 ∧ ∀ (i : Nat) (x y : V), xs[i]? = some x → ys[i]? = some y → Sm H m x y := by
  cases n with
  | zero => exact .inl h
  | succ m =>
    rcases h with h | ⟨a, b, xs, ys, e⟩
    · exact .inl h
    · exact .inr ⟨m, a, b, xs, ys, rfl, e⟩
section
variable {P : Program} {w : World} {K : PySem.W.Frag} {mg : Str → Option Value} {base : Heap}
def sp_Lsame (n : Nat) : Sp := fun vs H Q _ => ∃ x y, vs = [x, y] ∧ Sm H n x y ∧ ∀ H', Same H H' → Q (.bl true) H'
/-- the body, its own call given -/
theorem ok_Lsame_step (T : Tx K mg) (n : Nat) (sp0 : Sp) (F0 : FnOk P w K mg base CX0 (n + 1) T.f_Lsame T.fd_Lsame ["_law_actual", "_law_due_here"] sp0) (hsp : ∀ (x y : V) (H : Hp) (Q : VK) (E : XK), (∃ m, n = m + 1 ∧ Sm H m x y) → (∀ H', Same H H' → Q (.bl true) H') → sp0 [x, y] H Q E) : FnOk P w K mg base CX0 (n + 2) T.f_Lsame T.fd_Lsame ["_law_actual", "_law_due_here"] (sp_Lsame n) := by
  refine T.F_Lsame.ok sc_Lsame (fun vs H Q E h => ?_) (fun cdv A outer s H vs Q E hr h => ?_)
  · obtain ⟨_, _, rfl, _⟩ := h; rfl
  · obtain ⟨x, y, rfl, hS, k⟩ := h
    refine ⟨_, (pss_cons (ps_if (PW.pt (pw_or (pt_cmpR op_isN (pv 1) pe_non (nomark _)) (pw_or (pt_cmpR (op_isB true) (pv 1) pe_bl (nomark _)) (pw_or1 (pt_cmpR (op_isB false) (pv 1) pe_bl (nomark _))))))
        (pss_one (ps_ret (pe_or (pe_and (pe_cmpR op_isN (pv 0) pe_non (nomark _)) (pe_one (pe_cmpR op_isN (pv 1) pe_non (nomark _)))) (pe_or (pe_and (pe_cmpR (op_isB true) (pv 0) pe_bl (nomark _)) (pe_one (pe_cmpR (op_isB true) (pv 1) pe_bl (nomark _)))) (pe_one (pe_and (pe_cmpR (op_isB false) (pv 0) pe_bl (nomark _)) (pe_one (pe_cmpR (op_isB false) (pv 1) pe_bl (nomark _)))))))))
        pss_nil)
      (pss_cons (ps_if (pt_val (pe_callB call_isi rfl T.b_isinstance (by decide +kernel) (pa_cons (pv 1) (pa_cons (pe_bltn (v := .ty "int") rfl T.b_int (by decide +kernel) rfl) pa_nil))))
        (pss_one (ps_ret (pe_and (pe_callB call_isi rfl T.b_isinstance (by decide +kernel) (pa_cons (pv 0) (pa_cons (pe_bltn (v := .ty "int") rfl T.b_int (by decide +kernel) rfl) pa_nil))) (pe_and (pe_not (pe_callB call_isi rfl T.b_isinstance (by decide +kernel) (pa_cons (pv 0) (pa_cons (pe_bltn (v := .ty "bool") rfl T.b_bool (by decide +kernel) rfl) pa_nil)))) (pe_one (pe_cmpR op_eq (pv 0) (pv 1) (nomark _)))))))
        pss_nil)
      (pss_cons (ps_if (pt_val (pe_callB call_isi rfl T.b_isinstance (by decide +kernel) (pa_cons (pv 1) (pa_cons (pe_bltn (v := .ty "str") rfl T.b_str (by decide +kernel) rfl) pa_nil))))
        (pss_one (ps_ret (pe_and (pe_callB call_isi rfl T.b_isinstance (by decide +kernel) (pa_cons (pv 0) (pa_cons (pe_bltn (v := .ty "str") rfl T.b_str (by decide +kernel) rfl) pa_nil))) (pe_one (pe_cmpR op_eq (pv 0) (pv 1) (nomark _))))))
        pss_nil)
      (pss_cons (ps_if (PW.pt (pw_and (pt_val (pe_callB call_isi rfl T.b_isinstance (by decide +kernel) (pa_cons (pv 1) (pa_cons (pe_bltn (v := .ty "tuple") rfl T.b_tuple (by decide +kernel) rfl) pa_nil)))) (pw_and1 (pt_not (pt_val (pe_callB call_isi rfl T.b_isinstance (by decide +kernel) (pa_cons (pv 0) (pa_cons (pe_bltn (v := .ty "tuple") rfl T.b_tuple (by decide +kernel) rfl) pa_nil))))))))
        (pss_one (ps_ret pe_bl))
        pss_nil)
      (pss_cons (ps_if (PW.pt (pw_and (pt_val (pe_callB call_isi rfl T.b_isinstance (by decide +kernel) (pa_cons (pv 1) (pa_cons (pe_bltn (v := .ty "list") rfl T.b_list (by decide +kernel) rfl) pa_nil)))) (pw_and1 (pt_not (pt_val (pe_callB call_isi rfl T.b_isinstance (by decide +kernel) (pa_cons (pv 0) (pa_cons (pe_bltn (v := .ty "list") rfl T.b_list (by decide +kernel) rfl) pa_nil))))))))
        (pss_one (ps_ret pe_bl))
        pss_nil)
      (pss_cons (ps_if (PW.pt (pw_or (pt_not (pt_val (pe_callB call_isiT rfl T.b_isinstance (by decide +kernel) (pa_cons (pv 0) (pa_cons (pe_tup (pa_cons (pe_bltn (v := .ty "tuple") rfl T.b_tuple (by decide +kernel) rfl) (pa_cons (pe_bltn (v := .ty "list") rfl T.b_list (by decide +kernel) rfl) pa_nil))) pa_nil))))) (pw_or1 (pt_cmpR op_ne (pe_callB call_len_seq rfl T.b_len (by decide +kernel) (pa_cons (pv 0) pa_nil)) (pe_callB call_len_seq rfl T.b_len (by decide +kernel) (pa_cons (pv 1) pa_nil)) (nomark _)))))
        (pss_one (ps_ret pe_bl))
        pss_nil)
      (pss_cons (ps_for PassesOwn.never rfl (pi_range1 rfl T.b_range (pa_cons (pe_callB call_len_seq rfl T.b_len (by decide +kernel) (pa_cons (pv 1) pa_nil)) pa_nil)) (pg_name (i := 2) sc_Lsame.nd rfl (.inl rfl))
        (pss_one (ps_if (pt_not (pt_val (pe_call F0 hr rfl T.mg_Lsame T.F_Lsame.kp (b_Lsame T) .nil pass0 (pa_cons (pe_ix (IxR.or ix_list ix_tup) (pv 0) (pv 2) (fun _ _ => rfl)) (pa_cons (pe_ix (IxR.or ix_list ix_tup) (pv 1) (pv 2) (fun _ _ => rfl)) pa_nil)))))
          (pss_one (ps_ret pe_bl))
          pss_nil)))
      (pss_one (ps_ret pe_bl))))))))), ?_⟩
    rcases hS.inv with hf | ⟨m, a, b, xs, ys, rfl, rfl, rfl, e3, e4, e5, e6⟩
    · obtain ⟨rfl, hf⟩ := hf
      rcases hf with rfl | ⟨b, rfl⟩ | ⟨i, rfl⟩ | ⟨z, rfl⟩
      · exact ⟨_, rfl, rfl, _, rfl, iteT ⟨_, rfl, rfl, _, rfl, iteT ⟨_, rfl, rfl, _, rfl, iteT (k H (Same.refl _))⟩⟩⟩
      · cases b with
        | true => exact ⟨_, rfl, rfl, _, rfl, iteF ⟨_, rfl, rfl, _, rfl, iteT ⟨_, rfl, rfl, _, rfl, iteF ⟨_, rfl, iteF ⟨_, rfl, rfl, _, rfl, iteT ⟨_, rfl, rfl, _, rfl, iteT (k H (Same.refl _))⟩⟩⟩⟩⟩⟩
        | false => exact ⟨_, rfl, rfl, _, rfl, iteF ⟨_, rfl, rfl, _, rfl, iteF ⟨_, rfl, rfl, _, rfl, iteT ⟨_, rfl, rfl, _, rfl, iteF ⟨_, rfl, iteF ⟨_, rfl, rfl, _, rfl, iteF ⟨_, rfl, iteF ⟨_, rfl, rfl, _, rfl, iteT ⟨_, rfl, rfl, k H (Same.refl _)⟩⟩⟩⟩⟩⟩⟩⟩⟩
      · refine ⟨_, rfl, rfl, _, rfl, iteF ⟨_, rfl, rfl, _, rfl, iteF ⟨_, rfl, rfl, _, rfl, iteF ⟨_, rfl, _, _, _, _, true, rfl, .ty _, .base (.int _), kit_ty (by decide +kernel), _, rfl, iteT ⟨_, rfl, _, _, _, _, true, rfl, .ty _, .base (.int _), kit_ty (by decide +kernel), _, rfl, iteT ⟨_, rfl, _, _, _, _, false, rfl, .ty _, .base (.int _), kit_ty (by decide +kernel), _, rfl, _, rfl, iteT ⟨_, rfl, _, rfl, rfl, ?_⟩⟩⟩⟩⟩⟩⟩
        rw [decide_eq_true rfl]
        exact k H (Same.refl _)
      · refine ⟨_, rfl, rfl, _, rfl, iteF ⟨_, rfl, rfl, _, rfl, iteF ⟨_, rfl, rfl, _, rfl, iteF ⟨_, rfl, _, _, _, _, false, rfl, .ty _, .base (.str _), kit_ty (by decide +kernel), _, rfl, iteF ⟨_, rfl, _, _, _, _, true, rfl, .ty _, .base (.str _), kit_ty (by decide +kernel), _, rfl, iteT ⟨_, rfl, _, _, _, _, true, rfl, .ty _, .base (.str _), kit_ty (by decide +kernel), _, rfl, iteT ⟨_, rfl, _, rfl, rfl, ?_⟩⟩⟩⟩⟩⟩⟩
        rw [decide_eq_true rfl]
        exact k H (Same.refl _)
    · -- what stands behind the looks at the kinds
      have tail : ∀ (H0 : Hp), Same H H0 → ((H0 a = some (.lst xs) ∧ H0 b = some (.lst ys)) ∨ (H0 a = some (.tup xs) ∧ H0 b = some (.tup ys))) → (SqL K H0 a xs ∨ SqT K H0 a xs) ∧ (SqL K H0 b ys ∨ SqT K H0 b ys) := fun H0 _ e => by
        rcases e with ⟨p, q⟩ | ⟨p, q⟩
        · exact ⟨.inl (.of p), .inl (.of q)⟩
        · exact ⟨.inr (.of p), .inr (.of q)⟩
      have kp : ∀ (H0 : Hp), Same H H0 → ((H0 a = some (.lst xs) ∧ H0 b = some (.lst ys)) ∨ (H0 a = some (.tup xs) ∧ H0 b = some (.tup ys))) := fun H0 s0 => by
        rcases e3 with ⟨p, q⟩ | ⟨p, q⟩
        · exact .inl ⟨s0 _ _ p, s0 _ _ q⟩
        · exact .inr ⟨s0 _ _ p, s0 _ _ q⟩
      refine ⟨_, rfl, rfl, _, rfl, iteF ⟨_, rfl, rfl, _, rfl, iteF ⟨_, rfl, rfl, _, rfl, iteF ?_⟩⟩⟩
      rcases e3 with ⟨p, q⟩ | ⟨p, q⟩
      rotate_left
      refine ⟨_, rfl, _, _, _, _, false, rfl, .ty _, .base (.tup q), kit_ty (by decide +kernel), _, rfl, iteF ⟨_, rfl, _, _, _, _, false, rfl, .ty _, .base (.tup q), kit_ty (by decide +kernel), _, rfl, iteF ⟨_, rfl, _, _, _, _, true, rfl, .ty _, .base (.tup q), kit_ty (by decide +kernel), _, rfl, iteT ⟨_, rfl, _, _, _, _, true, rfl, .ty _, .base (.tup p), kit_ty (by decide +kernel), _, rfl, iteF ⟨_, rfl, _, _, _, _, false, rfl, .ty _, .base (.tup q), kit_ty (by decide +kernel), _, rfl, iteF ?_⟩⟩⟩⟩⟩
      refine ⟨_, rfl, (by show 2 ≤ sizeLine; decide), fun t nt => ?_⟩
      have st := same_upd (o := .tup [.ty "tuple", .ty "list"]) nt
      refine ⟨_, t, _, _, _, true, rfl, upd_same, .cons (.ty _) (.cons (.ty _) .nil), .base (.tup (st _ _ p)), kitAny_cons (b := true) (kit_ty (by decide +kernel)) (fun z => by cases z) (fun _ => rfl), _, rfl, iteF ?_⟩
      rotate_left
      refine ⟨_, rfl, _, _, _, _, false, rfl, .ty _, .base (.lst q), kit_ty (by decide +kernel), _, rfl, iteF ⟨_, rfl, _, _, _, _, false, rfl, .ty _, .base (.lst q), kit_ty (by decide +kernel), _, rfl, iteF ⟨_, rfl, _, _, _, _, false, rfl, .ty _, .base (.lst q), kit_ty (by decide +kernel), _, rfl, iteF ⟨_, rfl, _, _, _, _, true, rfl, .ty _, .base (.lst q), kit_ty (by decide +kernel), _, rfl, iteT ⟨_, rfl, _, _, _, _, true, rfl, .ty _, .base (.lst p), kit_ty (by decide +kernel), _, rfl, iteF ?_⟩⟩⟩⟩⟩
      refine ⟨_, rfl, (by show 2 ≤ sizeLine; decide), fun t nt => ?_⟩
      have st := same_upd (o := .tup [.ty "tuple", .ty "list"]) nt
      refine ⟨_, t, _, _, _, true, rfl, upd_same, .cons (.ty _) (.cons (.ty _) .nil), .base (.lst (st _ _ p)), kitAny_cons (b := false) (kit_ty (by decide +kernel)) (fun _ => kitAny_cons (b := true) (kit_ty (by decide +kernel)) (fun z => by cases z) (fun _ => rfl)) (fun z => by cases z), _, rfl, iteF ?_⟩
      all_goals
        have sq := tail _ st (kp _ st)
        refine ⟨_, rfl, a, _, rfl, sq.1, _, rfl, b, _, rfl, sq.2, rfl, _, rfl, ?_⟩
        rw [dec_iv, e4, decide_eq_true rfl]
        refine iteF ⟨_, rfl, b, _, rfl, sq.2, _, rfl, by omega, by omega, for_range (lo := 0) (n := ((ys.length : Int)).toNat) (fun i σ H' => ∃ u2 : Option V, σ = [some (.ref a), some (.ref b), u2] ∧ Same H H') ⟨_, rfl, st⟩ ?_ ?_⟩
        · rintro i σ H' hi ⟨u2, rfl, s2⟩
          have hiy : i < ys.length := by omega
          have hix : i < xs.length := by omega
          have ez : (0 : Int) + (i : Int) = (i : Int) := by omega
          rw [ez]
          have ax : atI xs (i : Int) = some xs[i] := atI_nat (List.getElem?_eq_getElem hix)
          have ay : atI ys (i : Int) = some ys[i] := atI_nat (List.getElem?_eq_getElem hiy)
          have ke := kp _ s2
          have call := hsp xs[i] ys[i] H'
          have sm := Sm.same s2 (e6 i _ _ (List.getElem?_eq_getElem hix) (List.getElem?_eq_getElem hiy))
          rcases ke with ⟨p', q'⟩ | ⟨p', q'⟩
          · exact ⟨_, rfl, _, rfl, .inl ⟨a, _, _, _, rfl, rfl, .of p', ax, _, rfl, _, rfl, .inl ⟨b, _, _, _, rfl, rfl, .of q', ay, call _ _ ⟨m, rfl, sm⟩ fun H3 s3 => ⟨_, rfl, iteF ⟨_, rfl, s2.trans s3⟩⟩⟩⟩⟩
          · exact ⟨_, rfl, _, rfl, .inr ⟨a, _, _, _, rfl, rfl, .of p', ax, _, rfl, _, rfl, .inr ⟨b, _, _, _, rfl, rfl, .of q', ay, call _ _ ⟨m, rfl, sm⟩ fun H3 s3 => ⟨_, rfl, iteF ⟨_, rfl, s2.trans s3⟩⟩⟩⟩⟩
        · rintro σ H' ⟨u2, rfl, s2⟩
          exact k H' s2
/-- the law's own comparison, of values that read alike down to n -/
theorem ok_Lsame (T : Tx K mg) : ∀ n, FnOk P w K mg base CX0 (n + 2) T.f_Lsame T.fd_Lsame ["_law_actual", "_law_due_here"] (sp_Lsame n)
  | 0 => by
    refine ok_Lsame_step T 0 (fun _ _ _ _ => False) ⟨fun _ _ _ _ h => h.elim, fun _ _ _ _ _ _ _ _ _ _ _ _ _ h => h.elim⟩ ?_
    rintro x y H Q E ⟨m, e, _⟩
    omega
  | n + 1 => ok_Lsame_step T (n + 1) (sp_Lsame n) (ok_Lsame T n) fun x y H Q E ⟨m, e, sm⟩ k => ⟨x, y, rfl, by cases e; exact sm, k⟩
end
end K10
namespace K10
open PySem PySem.Spec PyProof.Rows L2 Rg
/-! ### comprehensions that keep some of a list -/
theorem filt_le {l : List Int} {p : Int → Bool} : (l.filter p).length ≤ l.length := List.length_filter_le _ _
def PvF (H0 : Hp) (D : Addr) (l : List Int) (p : Int → Bool) (i : Nat) (H' : Hp) : Prop := Same H0 H' ∧ H' D = some (.lst (((l.take i).filter p).map V.int))
theorem PvF.start {H0 : Hp} {D : Addr} {l : List Int} {p : Int → Bool} (h : H0 D = none) : PvF H0 D l p 0 (upd H0 D (.lst [])) := ⟨same_upd h, upd_same⟩
theorem PvF.yes {H0 H' H2 : Hp} {D : Addr} {l : List Int} {p : Int → Bool} {i : Nat} {x : Int} (h : PvF H0 D l p i H') (hD : H0 D = none) (S : Same H' H2) (hx : l[i]? = some x) (hl : l.length < 1000) (hp : p x = true) :
    ∃ acc, H2 D = some (.lst acc) ∧ acc.length < sizeLine ∧ PvF H0 D l p (i + 1) (upd H2 D (.lst (acc ++ [V.int x]))) := by
  refine ⟨_, S _ _ h.2, ?_, fun a o z => ?_, ?_⟩
  · rw [List.length_map]
    have := filt_len (p := p) (List.length_take_le i l)
    have hi := (List.getElem?_eq_some_iff.mp hx).1
    exact small1000 (by omega)
  · rw [upd_ne (ne_of_none z hD)]
    exact S _ _ (h.1 _ _ z)
  · rw [upd_same, take_get hx, List.filter_append, List.map_append, List.filter_cons, if_pos hp]
    rfl
theorem PvF.no {H0 H' H2 : Hp} {D : Addr} {l : List Int} {p : Int → Bool} {i : Nat} {x : Int} (h : PvF H0 D l p i H') (S : Same H' H2) (hx : l[i]? = some x) (hp : p x = false) : PvF H0 D l p (i + 1) H2 := by
  refine ⟨h.1.trans S, ?_⟩
  rw [take_get hx, List.filter_append, List.filter_cons, if_neg (by rw [hp]; decide), List.filter_nil, List.append_nil]
  exact S _ _ h.2
theorem PvF.all {H0 H' : Hp} {D : Addr} {l : List Int} {p : Int → Bool} {n : Nat} (h : PvF H0 D l p n H') (e : n = l.length) : Same H0 H' ∧ H' D = some (.lst ((l.filter p).map V.int)) := by
  subst e
  have := h.2
  rw [List.take_length] at this
  exact ⟨h.1, this⟩
def tTru (K : PySem.W.Frag) (ta : TE) : TT := fun σ H Q => ta σ H fun x H' => ∃ k, TruV K x H' k ∧ Q k H'
theorem pt_truthK {X : Cx} {K : PySem.W.Frag} {a : Expr} {ta : TE} (ha : PE X a ta) (he : ∀ whole, isTrue a X.env whole = (do let v ← whole; standAt a.pos; holding [v] (truthy v))) (hK : X.K = K := by rfl) : PT X a (tTru K ta) := by
  subst hK
  exact pt_truth ha he
theorem inV_int (x : Int) (l : List Int) : inV (.int x) (l.map V.int) = decide (x ∈ l) := by
  induction l with
  | nil => simp [inV]
  | cons y l ih =>
    have : inV (.int x) ((y :: l).map V.int) = (eqV (.int y) (.int x) || inV (.int x) (l.map V.int)) := rfl
    rw [this, ih]
    simp only [eqV]
    by_cases e : y = x
    · subst e; simp
    · have e' : x ≠ y := fun z => e z.symm
      simp [e, e']
theorem flat_ints (l : List Int) : (l.map V.int).all flatV = true := by
  rw [List.all_eq_true]
  intro y hy
  obtain ⟨i, _, rfl⟩ := List.mem_map.mp hy
  rfl
/-! ### the list of unfinished nodes -/
def lisL (M : List (List Int)) : List Int := (M[1]?.getD []).filter fun x => x != 0
def padL (ns : List Int) : List Int := ns ++ List.replicate (8 - ns.length) 0
theorem padL_len {ns : List Int} (h : ns.length ≤ 8) : (padL ns).length = 8 := by
  unfold padL
  rw [List.length_append, List.length_replicate]
  omega
theorem ImgAt.row1 {CI CP : Addr} {H : Hp} {im : Addr} {A : IA} {v : IV} {b n s : Int} (I : ImgAt CI CP H im A v b n s) : ∃ r m, A.rs[1]? = some r ∧ v.M[1]? = some m ∧ m.length = 8 ∧ H r = some (.lst (m.map V.int)) ∧ lisL v.M = m.filter fun x => x != 0 := by
  have d0 := I.d0
  have b1 := I.pl.b1
  have hl : 1 < v.M.length := by omega
  obtain ⟨r, r1, r2, _⟩ := I.gr.get (List.getElem?_eq_getElem hl)
  refine ⟨r, _, r1, List.getElem?_eq_getElem hl, I.d1 _ (List.getElem_mem hl), r2, ?_⟩
  unfold lisL
  rw [List.getElem?_eq_getElem hl]
  rfl
section
variable {P : Program} {w : World} {K : PySem.W.Frag} {mg : Str → Option Value} {base : Heap}
def sp_listed (CI CP : Addr) : Sp := fun vs H Q _ => ∃ (im : Addr) (A : IA) (v : IV) (b n s : Int), vs = [.ref im] ∧ ImgAt CI CP H im A v b n s ∧ ∀ H' p, Same H H' → H p = none → H' p = some (.lst ((lisL v.M).map V.int)) → Q (.ref p) H'
theorem ok_listed (T : Tx K mg) : FnOk P w K mg base CX0 1 T.f_listed T.fd_listed ["image"] (sp_listed T.C_Image T.C_Plan) := by
  refine T.F_listed.ok sc_listed (fun vs H Q E h => ?_) (fun cdv A0 outer s H vs Q E hr h => ?_)
  · obtain ⟨_, _, _, _, _, _, rfl, _⟩ := h; rfl
  · obtain ⟨im, A, v, b, n, sl, rfl, I, k⟩ := h
    refine ⟨_, (pss_one (ps_ret (pe_lc rfl (own := [("n", 1)]) (g := gName 1) (tt := _) sc_listed.nd (pi_list (pe_ix ix_list (pe_fld (pv 0) rfl) (pe_gc T.c_LIST_BLOCK) (fun _ _ => rfl))) (blkOk_by (N := ["image", "n"]) (sc := defScope s_listed) (by decide +kernel)) (fun _ _ _ _ _ => pg_name (i := 1) sc_listed.nd rfl (Or.inl rfl)) (fun _ _ _ _ _ => pts_one (pt_truthK (K := K) (pv 1) (fun _ => rfl))) (fun _ _ _ _ _ => (pv 1))))), ?_⟩
    obtain ⟨r, m, r1, r2, r3, r4, r5⟩ := I.row1
    refine ⟨_, rfl, im, _, _, _, _, rfl, I.ob, T.cl_Image, T.na_Image_cells, rfl, A.ca, _, _, .ref r, rfl, rfl, .of I.gr.out, at_of (j := 1) rfl (by rw [List.getElem?_map, r1]; rfl), ?_⟩
    refine ⟨r, rfl, ⟨_, .of r4⟩, fun D hD => ?_⟩
    refine lc_list (K := K) (a := r) (xs := m.map V.int) (PvF H D m (fun x => x != 0)) (PvF.start hD) (fun i H3 _ Pv => .of (Pv.1 _ _ r4)) ?_ ?_
    · rintro i y H3 hi Pv
      rw [List.getElem?_map] at hi
      obtain ⟨x, hx, rfl⟩ := Option.map_eq_some_iff.mp hi
      refine ⟨rfl, ?_⟩
      refine ⟨_, rfl, _, rfl, ?_⟩
      by_cases e : x = 0
      · subst e
        exact iteF (Pv.no (Same.refl _) hx rfl)
      · have e' : (x != 0) = true := by simp [e]
        rw [e']
        exact iteT ⟨_, rfl, Pv.yes hD (Same.refl _) hx (by omega) e'⟩
    · intro H3 Pv
      obtain ⟨S3, e3⟩ := Pv.all (by rw [List.length_map])
      rw [← r5] at e3
      exact k H3 D S3 hD e3
def sp_put_list (CI CP : Addr) : Sp := fun vs H Q _ => ∃ (im : Addr) (A : IA) (v : IV) (b n s : Int) (p : Addr) (ns : List Int), vs = [.ref im, .ref p] ∧ ImgAt CI CP H im A v b n s ∧ H p = some (.lst (ns.map V.int)) ∧ ns.length ≤ 8 ∧ p ∉ A.rs ∧
  ∀ H', ImgAt CI CP H' im A { v with M := v.M.set 1 (padL ns) } b n s → Kp A.rs H H' → Q .non H'
theorem pad_step {t m : List Int} {i : Nat} {x : Int} (ht : t.length = 8) (hm : m.length = 8) (hi : i < 8) (hx : t[i]? = some x) : (t.take i ++ m.drop i).set i x = t.take (i + 1) ++ m.drop (i + 1) := by
  rw [take_get hx]
  have hl : (t.take i).length = i := by rw [List.length_take]; omega
  rw [List.set_append_right _ _ (by omega), hl, Nat.sub_self]
  have : m.drop i = (m[i]'(by omega)) :: m.drop (i + 1) := (List.drop_eq_getElem_cons (by omega))
  rw [this, List.set_cons_zero, List.append_assoc]
  rfl
theorem ok_put_list (T : Tx K mg) : FnOk P w K mg base CX0 1 T.f_put_list T.fd_put_list ["image", "nodes"] (sp_put_list T.C_Image T.C_Plan) := by
  refine T.F_put_list.ok sc_put_list (fun vs H Q E h => ?_) (fun cdv A0 outer s H vs Q E hr h => ?_)
  · obtain ⟨_, _, _, _, _, _, _, _, rfl, _⟩ := h; rfl
  · obtain ⟨im, A, v, b, n, sl, p, ns, rfl, I, hp, hl, hpr, k⟩ := h
    refine ⟨_, (pss_one (ps_for PassesOwn.never rfl (pi_range1 rfl T.b_range (pa_cons (pe_cv T.mg_Plan T.cr_Plan T.cv_Plan_WIDTH) pa_nil)) (pg_name (i := 2) sc_put_list.nd rfl (.inl rfl))
        (pss_one (ps_asg (pe_ifExp (pt_cmpR op_lt (pv 2) (pe_callB call_len_seq rfl T.b_len (by decide +kernel) (pa_cons (pv 1) pa_nil)) (nomark _)) (pe_ix ix_list (pv 1) (pv 2) (fun _ _ => rfl)) pe_int) (pg_sub (pe_ix ix_list (pe_fld (pv 0) rfl) (pe_gc T.c_LIST_BLOCK) (fun _ _ => rfl)) (pv 2) set_list))))), ?_⟩
    obtain ⟨r, m, r1, r2, r3, r4, r5⟩ := I.row1
    have tl := padL_len hl
    have hM : 1 < v.M.length := (List.getElem?_eq_some_iff.mp r2).1
    have self : v.M.set 1 m = v.M := by
      apply List.ext_getElem?
      intro i
      by_cases e : 1 = i
      · subst e; rw [List.getElem?_set_self hM, r2]
      · rw [List.getElem?_set_ne e]
    refine ⟨8, rfl, by decide, by decide, for_range (lo := 0) (n := (8 : Int).toNat) (fun i σ H' => ∃ u2 : Option V, σ = [some (.ref im), some (.ref p), u2] ∧ ImgAt T.C_Image T.C_Plan H' im A { v with M := v.M.set 1 ((padL ns).take i ++ m.drop i) } b n sl ∧ Kp A.rs H H')
      ⟨_, rfl, by rw [List.take_zero, List.drop_zero, List.nil_append, self]; exact I, Kp.refl⟩ ?_ ?_⟩
    · rintro i σ H' hi ⟨u2, rfl, I', k'⟩
      have hi : i < 8 := hi
      have ez : (0 : Int) + (i : Int) = (i : Int) := by omega
      rw [ez]
      have hp' := k' _ _ hp hpr
      have hrow : (v.M.set 1 ((padL ns).take i ++ m.drop i))[1]? = some ((padL ns).take i ++ m.drop i) := List.getElem?_set_self hM
      have er := I'.gr.row 1 r _ r1 hrow
      have hlen : ((padL ns).take i ++ m.drop i).length = 8 := by rw [List.length_append, List.length_take, List.length_drop]; omega
      have fin : ∀ x, (padL ns)[i]? = some x → ∃ u2 : Option V, [some (V.ref im), some (V.ref p), some (V.int (i : Int))] = [some (.ref im), some (.ref p), u2] ∧ ImgAt T.C_Image T.C_Plan (upd H' r (.lst ((((padL ns).take i ++ m.drop i).map V.int).set i (V.int x)))) im A { v with M := v.M.set 1 ((padL ns).take (i + 1) ++ m.drop (i + 1)) } b n sl ∧ Kp A.rs H (upd H' r (.lst ((((padL ns).take i ++ m.drop i).map V.int).set i (V.int x)))) := fun x hx => by
        refine ⟨_, rfl, ?_, k'.own (List.mem_of_getElem? r1)⟩
        have := I'.setC (i := 1) (j := i) (x := x) r1 hrow
        unfold setC at this
        dsimp only at this
        rw [hrow] at this
        have e2 : ((some ((padL ns).take i ++ m.drop i)).getD []).set i x = (padL ns).take (i + 1) ++ m.drop (i + 1) := pad_step tl r3 hi hx
        rw [e2, List.set_set] at this
        exact this
      by_cases hn : i < ns.length
      · have hx : (padL ns)[i]? = some ns[i] := by
          unfold padL
          rw [List.getElem?_append_left hn]
          exact List.getElem?_eq_getElem hn
        refine ⟨_, rfl, _, rfl, p, _, rfl, .inl (.of hp'), _, _, rfl, rfl, _, rfl, ?_⟩
        rw [List.length_map, decide_eq_true (by omega)]
        refine iteT ⟨_, rfl, _, rfl, p, _, _, _, rfl, rfl, .of hp', atI_nat (by rw [List.getElem?_map, List.getElem?_eq_getElem hn]; rfl), ?_⟩
        exact ⟨_, rfl, im, _, _, _, _, rfl, I'.ob, T.cl_Image, T.na_Image_cells, rfl, A.ca, _, _, .ref r, rfl, rfl, .of I'.gr.out, at_of (j := 1) rfl (by rw [List.getElem?_map, r1]; rfl), _, rfl, r, _, _, i, rfl, rfl, er, ixN_nat rfl (by rw [List.length_map]; omega), fin _ hx⟩
      · have hx : (padL ns)[i]? = some 0 := by
          unfold padL
          rw [List.getElem?_append_right (by omega), List.getElem?_replicate, if_pos (by omega)]
        refine ⟨_, rfl, _, rfl, p, _, rfl, .inl (.of hp'), _, _, rfl, rfl, _, rfl, ?_⟩
        rw [List.length_map, decide_eq_false (by omega)]
        refine iteF ?_
        exact ⟨_, rfl, im, _, _, _, _, rfl, I'.ob, T.cl_Image, T.na_Image_cells, rfl, A.ca, _, _, .ref r, rfl, rfl, .of I'.gr.out, at_of (j := 1) rfl (by rw [List.getElem?_map, r1]; rfl), _, rfl, r, _, _, i, rfl, rfl, er, ixN_nat rfl (by rw [List.length_map]; omega), fin _ hx⟩
    · rintro σ H' ⟨u2, rfl, I', k'⟩
      refine k H' ?_ k'
      have e8 : (padL ns).take (8 : Int).toNat ++ m.drop (8 : Int).toNat = padL ns := by
        have h8 : (8 : Int).toNat = 8 := rfl
        rw [h8, List.take_of_length_le (by omega), List.drop_of_length_le (by omega), List.append_nil]
      rw [e8] at I'
      exact I'
end
end K10
namespace K10
open PySem PySem.Spec PyProof.Rows L2 Rg
section
variable {P : Program} {w : World} {K : PySem.W.Frag} {mg : Str → Option Value} {base : Heap}
theorem lis_len {CI CP : Addr} {H : Hp} {im : Addr} {A : IA} {v : IV} {b n s : Int} (I : ImgAt CI CP H im A v b n s) : (lisL v.M).length ≤ 8 := by
  obtain ⟨r, m, r1, r2, r3, r4, r5⟩ := I.row1
  rw [r5]
  have := filt_le (l := m) (p := fun x => x != 0)
  omega
def sp_delist (CI CP : Addr) : Sp := fun vs H Q _ => ∃ (im : Addr) (A : IA) (v : IV) (b n s m : Int), vs = [.ref im, .int m] ∧ ImgAt CI CP H im A v b n s ∧
  ∀ H', ImgAt CI CP H' im A { v with M := v.M.set 1 (padL ((lisL v.M).filter fun x => !decide (x = m))) } b n s → Kp A.rs H H' → Q .non H'
theorem ok_delist (T : Tx K mg) : FnOk P w K mg base CX0 2 T.f_delist T.fd_delist ["image", "n"] (sp_delist T.C_Image T.C_Plan) := by
  refine T.F_delist.ok sc_delist (fun vs H Q E h => ?_) (fun cdv A0 outer s H vs Q E hr h => ?_)
  · obtain ⟨_, _, _, _, _, _, _, rfl, _⟩ := h; rfl
  · obtain ⟨im, A, v, b, n, sl, m, rfl, I, k⟩ := h
    refine ⟨_, (pss_one (ps_expr (pe_call (ok_put_list T) hr rfl T.mg_put_list T.F_put_list.kp (b_put_list T) .nil pass0 (pa_cons (pv 0) (pa_cons (pe_lc rfl (own := [("other", 2)]) (g := gName 2) (tt := _) sc_delist.nd (pi_list (pe_call (ok_listed T) hr rfl T.mg_listed T.F_listed.kp (b_listed T) .nil pass0 (pa_cons (pv 0) pa_nil))) (blkOk_by (N := ["image", "n", "other"]) (sc := defScope s_delist) (by decide +kernel)) (fun _ _ _ _ _ => pg_name (i := 2) sc_delist.nd rfl (Or.inl rfl)) (fun _ _ _ _ _ => pts_one (pt_cmpR op_ne (pv 2) (pv 1) (nomark _))) (fun _ _ _ _ _ => (pv 2))) pa_nil))))), ?_⟩
    have hl := lis_len I
    refine ⟨_, rfl, _, rfl, im, A, v, b, n, sl, rfl, I, fun H1 p S1 np ep => ?_⟩
    refine ⟨p, rfl, ⟨_, .of ep⟩, fun D hD => ?_⟩
    refine lc_list (K := K) (a := p) (xs := (lisL v.M).map V.int) (PvF H1 D (lisL v.M) (fun x => !decide (x = m))) (PvF.start hD) (fun i H3 _ Pv => .of (Pv.1 _ _ ep)) ?_ ?_
    · rintro i y H3 hi Pv
      rw [List.getElem?_map] at hi
      obtain ⟨x, hx, rfl⟩ := Option.map_eq_some_iff.mp hi
      refine ⟨rfl, ?_⟩
      refine ⟨_, rfl, _, rfl, rfl, _, rfl, ?_⟩
      rw [dec_iv]
      by_cases e : x = m
      · rw [decide_eq_true e]
        exact iteF (Pv.no (Same.refl _) hx (by simp [e]))
      · rw [decide_eq_false e]
        exact iteT ⟨_, rfl, Pv.yes hD (Same.refl _) hx (by omega) (by simp [e])⟩
    · intro H3 Pv
      obtain ⟨S3, e3⟩ := Pv.all (by rw [List.length_map])
      have S := S1.trans S3
      have I3 := I.keep S
      have hle := filt_le (l := lisL v.M) (p := fun x => !decide (x = m))
      refine ⟨im, A, v, b, n, sl, D, _, rfl, I3, e3, by omega, ?_, fun H4 I4 k4 => ?_⟩
      · exact (I.fresh_n (S1.free hD)).2.2.2.2.2
      · exact k H4 I4 ((Kp.of S).trans k4)
def sp_enlist (CI CP CL : Addr) : Sp := fun vs H Q E => ∃ (im : Addr) (A : IA) (v : IV) (b n s m : Int), vs = [.ref im, .int m] ∧ ImgAt CI CP H im A v b n s ∧
  (m ∈ lisL v.M → ∀ H', Same H H' → Q .non H') ∧
  (m ∉ lisL v.M → (lisL v.M).length = 8 → ∀ H', Same H H' → E (.ref CL) none H') ∧
  (m ∉ lisL v.M → (lisL v.M).length ≠ 8 → ∀ H', ImgAt CI CP H' im A { v with M := v.M.set 1 (padL (lisL v.M ++ [m])) } b n s → Kp A.rs H H' → Q .non H')
theorem ok_enlist (T : Tx K mg) : FnOk P w K mg base (L2N.CX P w) 2 T.f_enlist T.fd_enlist ["image", "n"] (sp_enlist T.C_Image T.C_Plan T.C_ListFull) := by
  refine T.F_enlist.okN sc_enlist (fun vs H Q E h => ?_) (fun cdv A0 outer s H vs Q E hr h => ?_)
  · obtain ⟨_, _, _, _, _, _, _, rfl, _⟩ := h; rfl
  · obtain ⟨im, A, v, b, n, sl, m, rfl, I, k1, k2, k3⟩ := h
    refine ⟨_, (pss_cons (ps_set (i := 2) sc_enlist.nd rfl (.inl rfl) (pe_call (ok_listed T) hr rfl T.mg_listed T.F_listed.kp (b_listed T) .nil pass0 (pa_cons (pv 0) pa_nil)))
      (pss_cons (ps_if (pt_cmpR op_in_seq (pv 1) (pv 2) rfl)
        (pss_one ps_retN)
        pss_nil)
      (pss_cons (ps_if (pt_cmpR op_eq (pe_callB call_len_seq rfl T.b_len (by decide +kernel) (pa_cons (pv 2) pa_nil)) (pe_cv T.mg_Plan T.cr_Plan T.cv_Plan_WIDTH) (nomark _))
        (pss_one (L2N.ps_raise rfl (L2N.takes_of rfl rfl rfl rfl) (L2N.pmk_own PySem.F.excBase_ValueError T.xe_ListFull T.mg_ListFull T.ke_ListFull (raises_own T.be_ListFull T.te_ListFull) rfl)))
        pss_nil)
      (PSs.nox (pss_one (ps_expr (pe_call (ok_put_list T) hr rfl T.mg_put_list T.F_put_list.kp (b_put_list T) .nil pass0 (pa_cons (pv 0) (pa_cons (pe_op op_cat (pv 2) (pe_lst (pa_cons (pv 1) pa_nil))) pa_nil))))))))), ?_⟩
    have hl := lis_len I
    refine ⟨_, rfl, im, A, v, b, n, sl, rfl, I, fun H1 p S1 np ep => ?_⟩
    refine ⟨_, rfl, _, rfl, p, _, rfl, .inl (.of ep), rfl, flat_ints _, _, rfl, ?_⟩
    rw [inV_int]
    by_cases hm : m ∈ lisL v.M
    · rw [decide_eq_true hm]
      exact iteT (k1 hm H1 S1)
    · rw [decide_eq_false hm]
      refine iteF ⟨_, rfl, p, _, rfl, .inl (.of ep), rfl, _, rfl, ?_⟩
      rw [dec_iv, List.length_map]
      by_cases h8 : (lisL v.M).length = 8
      · rw [decide_eq_true (by omega)]
        exact iteT (k2 hm h8 H1 S1)
      · rw [decide_eq_false (by omega)]
        refine iteF ⟨_, rfl, _, rfl, _, rfl, (by show 1 ≤ sizeLine; decide), fun q nq => ?_⟩
        have sq := same_upd (o := .lst [V.int m]) nq
        refine ⟨p, q, _, _, rfl, rfl, sq _ _ ep, upd_same, ?_, fun t nt => ?_⟩
        · rw [List.length_map]
          exact Nat.le_of_lt (small1000 (by simp; omega))
        · have st := same_upd (o := .lst ((lisL v.M).map V.int ++ [V.int m])) nt
          have S := (S1.trans sq).trans st
          refine ⟨im, A, v, b, n, sl, t, lisL v.M ++ [m], rfl, I.keep S, ?_, ?_, ?_, fun H4 I4 k4 => ?_⟩
          · rw [upd_same, List.map_append]
            rfl
          · rw [List.length_append]
            simp
            omega
          · exact (I.fresh_n ((S1.trans sq).free nt)).2.2.2.2.2
          · exact k3 hm h8 H4 I4 ((Kp.of S).trans k4)
end
end K10
namespace K10
open PySem PySem.Spec PyProof.Rows L2 Rg
/-! ### what the law keeps of an image -/
structure KA where
  (p c h s d : Addr) (rs : List Addr)
def KA.all (k : KA) : List Addr := k.p :: k.c :: k.h :: k.s :: k.d :: k.rs
structure Kd (H : Hp) (k : KA) (M : List (List Int)) (ho st : List Int) (se : Int) : Prop where
  p : H k.p = some (.lst [.ref k.c, .ref k.h, .ref k.s, .ref k.d, .int se])
  c : Grid H k.c k.rs M
  h : H k.h = some (.lst (ho.map V.int))
  s : H k.s = some (.lst (st.map V.int))
  d : H k.d = some (.lst [])
theorem Kd.keep {H H' : Hp} {k : KA} {M : List (List Int)} {ho st : List Int} {se : Int} (K : Kd H k M ho st se) (h : ∀ x o, x ∈ k.all → H x = some o → H' x = some o) : Kd H' k M ho st se :=
  ⟨h _ _ (by simp [KA.all]) K.p, K.c.keep fun x o hx e => h _ _ (by rcases hx with rfl | hx <;> simp [KA.all, *]) e, h _ _ (by simp [KA.all]) K.h, h _ _ (by simp [KA.all]) K.s, h _ _ (by simp [KA.all]) K.d⟩
theorem Kd.same {H H' : Hp} {k : KA} {M : List (List Int)} {ho st : List Int} {se : Int} (K : Kd H k M ho st se) (h : Same H H') : Kd H' k M ho st se := K.keep fun _ _ _ e => h _ _ e
theorem Kd.held {H : Hp} {k : KA} {M : List (List Int)} {ho st : List Int} {se : Int} (K : Kd H k M ho st se) {x : Addr} (h : x ∈ k.all) : ∃ o, H x = some o := by
  simp only [KA.all, List.mem_cons] at h
  rcases h with rfl | rfl | rfl | rfl | rfl | h
  · exact ⟨_, K.p⟩
  · exact ⟨_, K.c.out⟩
  · exact ⟨_, K.h⟩
  · exact ⟨_, K.s⟩
  · exact ⟨_, K.d⟩
  · exact K.c.held h
section
variable {P : Program} {w : World} {K : PySem.W.Frag} {mg : Str → Option Value} {base : Heap}
def sp_Lstate (CI CP : Addr) : Sp := fun vs H Q _ => ∃ (im : Addr) (A : IA) (v : IV) (b n s : Int), vs = [.ref im] ∧ ImgAt CI CP H im A v b n s ∧ v.hd = [] ∧ ∀ H' (k : KA), Same H H' → (∀ x ∈ k.all, H x = none) → Kd H' k v.M v.ho v.st v.se → Q (.ref k.p) H'
theorem ok_Lstate (T : Tx K mg) : FnOk P w K mg base CX0 1 T.f_Lstate T.fd_Lstate ["_law_image"] (sp_Lstate T.C_Image T.C_Plan) := by
  refine T.F_Lstate.ok sc_Lstate (fun vs H Q E h => ?_) (fun cdv A0 outer s H vs Q E hr h => ?_)
  · obtain ⟨_, _, _, _, _, _, rfl, _⟩ := h; rfl
  · obtain ⟨im, A, v, b, n, sl, rfl, I, hv, k⟩ := h
    refine ⟨_, (pss_cons (ps_setLc (i := 1) (own := [("_law_n", 2)]) (g := gName 2) (tt := tYes) rfl sc_Lstate.nd rfl rfl (sw_true rfl rfl rfl (by decide +kernel)) (pi_list (pe_callB cr_sorted rfl T.b_sorted (by decide +kernel) (pa_cons (pe_callTy (call_list_dK rfl) rfl T.b_list (by decide +kernel) (pa_cons (pe_fld (pv 0) rfl) pa_nil)) pa_nil))) (blkOk_by (N := ["_law_image", "_law_handles", "_law_n", "_law_row"]) (sc := defScope s_Lstate) (by decide +kernel)) (fun _ _ _ _ _ => pg_name (i := 2) sc_Lstate.nd rfl (Or.inl rfl)) (fun _ _ _ _ _ => pts_nil) (fun _ _ _ _ _ => (pe_tup (pa_cons (pv 2) (pa_cons (pe_ixK (K := K) (pe_fldK (K := K) (pv 0) rfl) (pv 2) (fun _ _ => rfl)) pa_nil)))))
      (pss_one (ps_ret (pe_lst (pa_cons (pe_lc rfl (own := [("_law_row", 3)]) (g := gName 3) (tt := tYes) sc_Lstate.nd (pi_list (pe_fld (pv 0) rfl)) (blkOk_by (N := ["_law_image", "_law_handles", "_law_n", "_law_row"]) (sc := defScope s_Lstate) (by decide +kernel)) (fun _ _ _ _ _ => pg_name (i := 3) sc_Lstate.nd rfl (Or.inl rfl)) (fun _ _ _ _ _ => pts_nil) (fun _ _ _ _ _ => (pe_listof (K := K) (pv 3) T.b_list))) (pa_cons (pe_listof (K := K) (pe_fld (pv 0) rfl) T.b_list) (pa_cons (pe_listof (K := K) (pe_fld (pv 0) rfl) T.b_list) (pa_cons (pv 1) (pa_cons (pe_fld (pv 0) rfl) pa_nil))))))))), ?_⟩
    have d0 := I.d0
    have b2 := I.pl.b2
    have hh := I.hd
    rw [hv] at hh
    refine ⟨_, rfl, im, _, _, _, _, rfl, I.ob, T.cl_Image, T.na_Image_handles, rfl, A.hd, _, rfl, hh, fun q nq => ?_⟩
    have s1 := same_upd (o := .lst []) nq
    have e1 : upd H q (.lst []) q = some (.lst (([] : List Int).map V.int)) := upd_same
    rw [show List.map (fun kv : Key × V => kV kv.1) (hdK []) = [] from rfl]
    refine ⟨q, [], rfl, .of e1, by decide, fun ns' p perm _ np => ?_⟩
    have hn : ns' = [] := List.perm_nil.mp perm
    subst hn
    have s2' := same_upd (o := .lst (([] : List Int).map V.int)) np
    have s2 := s1.trans s2'
    have e2 : upd (upd H q (.lst [])) p (.lst (([] : List Int).map V.int)) p = some (.lst []) := upd_same
    generalize upd (upd H q (.lst [])) p (.lst (([] : List Int).map V.int)) = H2 at s2 e2 ⊢
    refine ⟨p, rfl, ⟨_, .of e2⟩, fun D hD => ?_⟩
    refine lc_list (K := K) (a := p) (xs := []) (fun i H' => H' = upd H2 D (.lst [])) rfl (fun i H' _ e => by rw [e]; exact .of (by rw [upd_ne (ne_of_none e2 hD)]; exact e2)) (fun i x H' hi _ => by simp at hi) ?_
    rintro H3 rfl
    have s3 := s2.trans (same_upd (o := .lst []) hD)
    have e3 : upd H2 D (.lst []) D = some (.lst []) := upd_same
    have nD := s2.free hD
    generalize upd H2 D (.lst []) = H3 at s3 e3 ⊢
    have I3 := I.keep s3
    -- the rows
    refine ⟨_, rfl, im, _, _, _, _, rfl, I3.ob, T.cl_Image, T.na_Image_cells, rfl, A.ca, rfl, ⟨_, .of I3.gr.out⟩, fun C hC => ?_⟩
    refine lc_list (K := K) (a := A.ca) (xs := A.rs.map V.ref) (fun i H' => ∃ qs, NewGrid H3 H' C qs (v.M.take i))
      ⟨[], NewGrid.start (Same.refl _) hC hC⟩ (fun i H' _ ⟨qs, G⟩ => .of (G.same _ _ I3.gr.out)) ?_ ?_
    · rintro i y H' hi ⟨qs, G⟩
      have hil : i < A.rs.length := by
        have := (List.getElem?_eq_some_iff.mp hi).1
        rw [List.length_map] at this
        exact this
      rw [List.getElem?_map, List.getElem?_eq_getElem hil] at hi
      have hi : V.ref A.rs[i] = y := Option.some.inj hi
      subst hi
      have hiR : i < v.M.length := by rw [← I3.gr.len]; exact hil
      have hrow := G.same _ _ (I3.gr.row i A.rs[i] v.M[i] (List.getElem?_eq_getElem hil) (List.getElem?_eq_getElem hiR))
      refine ⟨rfl, ?_⟩
      refine yes_ ?_
      refine ⟨_, rfl, A.rs[i], _, rfl, .inl (.of hrow), fun q hq => ?_⟩
      refine ⟨_, by rw [upd_ne (ne_of_none G.grid.out hq)]; exact G.grid.out, ?_, qs ++ [q], ?_⟩
      · rw [List.length_map, G.grid.len, List.length_take]
        exact small1000 (by omega)
      · rw [List.take_succ, List.getElem?_eq_getElem hiR]
        exact G.snoc (same_upd hq) hq upd_same
    rintro H4 ⟨qs, G4⟩
    rw [List.length_map, I3.gr.len, List.take_length] at G4
    have I4 := I3.keep G4.same
    have s4 := s3.trans G4.same
    refine ⟨_, rfl, im, _, _, _, _, rfl, I4.ob, T.cl_Image, T.na_Image_holdings, rfl, A.ho, _, rfl, .inl (.of I4.ho), fun kh nkh => ?_⟩
    have s5' := same_upd (o := .lst (v.ho.map V.int)) nkh
    have e5 : upd H4 kh (.lst (v.ho.map V.int)) kh = some (.lst (v.ho.map V.int)) := upd_same
    have nkh0 := s4.free nkh
    have s5 := s4.trans s5'
    have t5 := G4.same.trans s5'
    generalize upd H4 kh (.lst (v.ho.map V.int)) = H5 at s5' e5 s5 t5 ⊢
    have I5 := I.keep s5
    refine ⟨_, rfl, im, _, _, _, _, rfl, I5.ob, T.cl_Image, T.na_Image_stamps, rfl, A.st, _, rfl, .inl (.of I5.st), fun ks nks => ?_⟩
    have s6' := same_upd (o := .lst (v.st.map V.int)) nks
    have e6 : upd H5 ks (.lst (v.st.map V.int)) ks = some (.lst (v.st.map V.int)) := upd_same
    have nks0 := s5.free nks
    have s6 := s5.trans s6'
    generalize upd H5 ks (.lst (v.st.map V.int)) = H6 at s6' e6 s6 ⊢
    have I6 := I.keep s6
    refine ⟨_, rfl, _, rfl, im, _, _, _, _, rfl, I6.ob, T.cl_Image, T.na_Image_serial, rfl, (by show 5 ≤ sizeLine; decide), fun kp nkp => ?_⟩
    have s7' := same_upd (o := .lst [.ref C, .ref kh, .ref ks, .ref D, .int v.se]) nkp
    have nC := s3.free G4.freshD
    refine k _ ⟨kp, C, kh, ks, D, qs⟩ (s6.trans s7') (fun x hx => ?_) ⟨upd_same, ((G4.grid.same s5').same s6').same s7', s7' _ _ (s6' _ _ e5), s7' _ _ e6, s7' _ _ (s6' _ _ (t5 _ _ e3))⟩
    simp only [KA.all, List.mem_cons] at hx
    rcases hx with rfl | rfl | rfl | rfl | rfl | hx
    · exact s6.free nkp
    · exact nC
    · exact nkh0
    · exact nks0
    · exact nD
    · exact s3.free (G4.fresh _ hx)
end
end K10
namespace K10
open PySem PySem.Spec PyProof.Rows L2 Rg
theorem Grid.swapN {H1 : Hp} {ca : Addr} {rs : List Addr} {M : List (List Int)} {i : Nat} {q : Addr} {m : List Int} (G : Grid H1 ca rs M) (qr : q ∉ rs) (qc : q ≠ ca) (h1 : H1 q = some (.lst (m.map V.int))) :
    Grid (upd H1 ca (.lst ((rs.map V.ref).set i (V.ref q)))) ca (rs.set i q) (M.set i m) := by
  refine ⟨by rw [upd_same, ← List.map_set], by rw [List.length_set, List.length_set]; exact G.len, fun j r m' hj hm => ?_, nodup_set G.nd qr, fun z => ?_⟩
  · by_cases e : i = j
    · subst e
      have hi : i < rs.length := by
        have := (List.getElem?_eq_some_iff.mp hj).1
        rw [List.length_set] at this
        exact this
      rw [List.getElem?_set_self hi] at hj
      rw [List.getElem?_set_self (by rw [← G.len]; exact hi)] at hm
      cases hj
      cases hm
      rw [upd_ne qc]
      exact h1
    · rw [List.getElem?_set_ne e] at hj hm
      rw [upd_ne fun z => G.nin (by rw [← z]; exact List.mem_of_getElem? hj)]
      exact G.row j r m' hj hm
  · rcases mem_set_of z with e | e
    · exact qc e.symm
    · exact G.nin e
theorem smI {H : Hp} {a b : Addr} {ns : List Int} (h1 : H a = some (.lst (ns.map V.int))) (h2 : H b = some (.lst (ns.map V.int))) (hl : ns.length < 1000) (n : Nat) : Sm H (n + 1) (.ref a) (.ref b) :=
  .inr ⟨a, b, _, _, rfl, rfl, .inl ⟨h1, h2⟩, rfl, by rw [List.length_map]; exact hl, fun i x y e1 e2 => by
    rw [e1] at e2
    cases e2
    rw [List.getElem?_map] at e1
    obtain ⟨z, _, rfl⟩ := Option.map_eq_some_iff.mp e1
    exact Sm.int⟩
section
variable {P : Program} {w : World} {K : PySem.W.Frag} {mg : Str → Option Value} {base : Heap}
/-! ### _law_told -/
def sp_Ltold (CI CP : Addr) : Sp := fun vs H Q _ => ∃ (im : Addr) (A : IA) (v : IV) (b n s : Int) (p : Addr), vs = [.ref im, .ref p] ∧ ImgAt CI CP H im A v b n s ∧ H p = some (.lst ((lisL v.M).map V.int)) ∧ ∀ H', Same H H' → Q (.bl true) H'
theorem ok_Ltold (T : Tx K mg) : FnOk P w K mg base CX0 4 T.f_Ltold T.fd_Ltold ["_law_image", "_law_nodes_on"] (sp_Ltold T.C_Image T.C_Plan) := by
  refine T.F_Ltold.ok sc_Ltold (fun vs H Q E h => ?_) (fun cdv A0 outer s H vs Q E hr h => ?_)
  · obtain ⟨_, _, _, _, _, _, _, rfl, _⟩ := h; rfl
  · obtain ⟨im, A, v, b, n, sl, p, rfl, I, hp, k⟩ := h
    have hr1 : Room 1 _ := hr.mono (by decide)
    refine ⟨_, (pss_cons (ps_set (i := 2) sc_Ltold.nd rfl (.inl rfl) (pe_call (ok_listed T) hr1 rfl T.mg_listed T.F_listed.kp (b_listed T) .nil pass0 (pa_cons (pv 0) pa_nil)))
      (pss_cons (ps_if (pt_not (pt_val (pe_call (ok_Lsame T 1) hr rfl T.mg_Lsame T.F_Lsame.kp (b_Lsame T) .nil pass0 (pa_cons (pv 2) (pa_cons (pv 1) pa_nil)))))
        (pss_one (ps_ret pe_bl))
        pss_nil)
      (pss_cons (ps_expr (pe_bm PySem.F.plainAttrs_list PySem.F.slot_list_append PySem.F.type_list_append mt_append (pv 2) (pa_cons pe_int pa_nil)))
      (pss_one (ps_ret (pe_call (ok_Lsame T 1) hr rfl T.mg_Lsame T.F_Lsame.kp (b_Lsame T) .nil pass0 (pa_cons (pe_call (ok_listed T) hr1 rfl T.mg_listed T.F_listed.kp (b_listed T) .nil pass0 (pa_cons (pv 0) pa_nil)) (pa_cons (pv 1) pa_nil)))))))), ?_⟩
    have hl := lis_len I
    refine ⟨_, rfl, im, A, v, b, n, sl, rfl, I, fun H1 q S1 nq eq => ?_⟩
    refine ⟨_, rfl, _, rfl, .ref q, .ref p, rfl, smI eq (S1 _ _ hp) (by omega) 0, fun H2 S2 => ⟨_, rfl, iteF ?_⟩⟩
    have eq2 := S2 _ _ eq
    have S02 := S1.trans S2
    have own : ∀ o x u, H x = some u → upd H2 q o x = some u := fun o x u e => by
      rw [upd_ne (ne_of_none e nq)]
      exact S02 _ _ e
    refine ⟨.ref q, rfl, .inl ⟨rfl, _, .inl (.inl eq2)⟩, q, _, _, rfl, rfl, eq2, by rw [List.length_map]; exact small1000 (by omega), ?_⟩
    have Sx : Same H (upd H2 q (.lst ((lisL v.M).map V.int ++ [V.int 3]))) := fun x u e => own _ x u e
    generalize upd H2 q (.lst ((lisL v.M).map V.int ++ [V.int 3])) = H3 at Sx ⊢
    refine ⟨_, rfl, im, A, v, b, n, sl, rfl, I.keep Sx, fun H4 q4 S4 nq4 eq4 => ?_⟩
    exact ⟨_, rfl, .ref q4, .ref p, rfl, smI eq4 (S4 _ _ (Sx _ _ hp)) (by omega) 0, fun H5 S5 => k H5 ((Sx.trans S4).trans S5)⟩
/-! ### _law_behind -/
def behV (N : List Int) (deed m : Int) : List Int := if deed < 2 then N.filter fun x => !decide (x = m) else if m ∈ N ∨ N.length = 8 then N else N ++ [m]
def sp_Lbehind : Sp := fun vs H Q _ => ∃ (p : Addr) (N : List Int) (deed m : Int), vs = [.ref p, .int deed, .int m] ∧ H p = some (.lst (N.map V.int)) ∧ N.length ≤ 8 ∧ ∀ H' q, Same H H' → H q = none → H' q = some (.lst ((behV N deed m).map V.int)) → Q (.ref q) H'
theorem ok_Lbehind (T : Tx K mg) : FnOk P w K mg base CX0 1 T.f_Lbehind T.fd_Lbehind ["_law_nodes_on", "_law_deed", "_law_n"] sp_Lbehind := by
  refine T.F_Lbehind.ok sc_Lbehind (fun vs H Q E h => ?_) (fun cdv A outer s H vs Q E hr h => ?_)
  · obtain ⟨_, _, _, _, rfl, _⟩ := h; rfl
  · obtain ⟨p, N, deed, m, rfl, hp, hl, k⟩ := h
    refine ⟨_, (pss_cons (ps_if (pt_cmpR op_lt (pv 1) pe_int (nomark _))
        (pss_one (ps_ret (pe_lc rfl (own := [("_law_m", 3)]) (g := gName 3) (tt := _) sc_Lbehind.nd (pi_list (pv 0)) (blkOk_by (N := ["_law_nodes_on", "_law_deed", "_law_n", "_law_m"]) (sc := defScope s_Lbehind) (by decide +kernel)) (fun _ _ _ _ _ => pg_name (i := 3) sc_Lbehind.nd rfl (Or.inl rfl)) (fun _ _ _ _ _ => pts_one (pt_cmpR op_ne (pv 3) (pv 2) (nomark _))) (fun _ _ _ _ _ => (pv 3)))))
        pss_nil)
      (pss_cons (ps_if (PW.pt (pw_or (pt_cmpR op_in_seq (pv 2) (pv 0) rfl) (pw_or1 (pt_cmpR op_eq (pe_callB call_len_seq rfl T.b_len (by decide +kernel) (pa_cons (pv 0) pa_nil)) pe_int (nomark _)))))
        (pss_one (ps_ret (pe_listof (K := K) (pv 0) T.b_list)))
        pss_nil)
      (pss_one (ps_ret (pe_op op_cat (pv 0) (pe_lst (pa_cons (pv 2) pa_nil))))))), ?_⟩
    refine ⟨_, rfl, _, _, rfl, rfl, _, rfl, ?_⟩
    by_cases hd : deed < 2
    · rw [decide_eq_true hd]
      refine iteT ⟨_, rfl, p, rfl, ⟨_, .of hp⟩, fun D hD => ?_⟩
      refine lc_list (K := K) (a := p) (xs := N.map V.int) (PvF H D N (fun x => !decide (x = m))) (PvF.start hD) (fun i H3 _ Pv => .of (Pv.1 _ _ hp)) ?_ ?_
      · rintro i y H3 hi Pv
        rw [List.getElem?_map] at hi
        obtain ⟨x, hx, rfl⟩ := Option.map_eq_some_iff.mp hi
        refine ⟨rfl, ?_⟩
        refine ⟨_, rfl, _, rfl, rfl, _, rfl, ?_⟩
        rw [dec_iv]
        by_cases e : x = m
        · rw [decide_eq_true e]
          exact iteF (Pv.no (Same.refl _) hx (by simp [e]))
        · rw [decide_eq_false e]
          exact iteT ⟨_, rfl, Pv.yes hD (Same.refl _) hx (by omega) (by simp [e])⟩
      · intro H3 Pv
        obtain ⟨S3, e3⟩ := Pv.all (by rw [List.length_map])
        refine k H3 D S3 hD ?_
        unfold behV
        rw [if_pos hd]
        exact e3
    · rw [decide_eq_false hd]
      refine iteF ⟨_, rfl, _, rfl, p, _, rfl, .inl (.of hp), rfl, flat_ints _, _, rfl, ?_⟩
      rw [inV_int]
      have same : (m ∈ N ∨ N.length = 8) → ∀ l, H l = none → Q (.ref l) (upd H l (.lst (N.map V.int))) := fun q l nl => by
        refine k _ l (same_upd nl) nl ?_
        unfold behV
        rw [if_neg hd, if_pos q]
        exact upd_same
      by_cases hm : m ∈ N
      · rw [decide_eq_true hm]
        exact iteT ⟨_, rfl, p, _, rfl, .inl (.of hp), same (.inl hm)⟩
      · rw [decide_eq_false hm]
        refine iteF ⟨_, rfl, p, _, rfl, .inl (.of hp), rfl, _, rfl, ?_⟩
        rw [dec_iv, List.length_map]
        by_cases h8 : N.length = 8
        · rw [decide_eq_true (by omega)]
          exact iteT ⟨_, rfl, p, _, rfl, .inl (.of hp), same (.inr h8)⟩
        · rw [decide_eq_false (by omega)]
          refine iteF ⟨_, rfl, _, rfl, (by show 1 ≤ sizeLine; decide), fun q nq => ?_⟩
          have sq := same_upd (o := .lst [V.int m]) nq
          refine ⟨p, q, _, _, rfl, rfl, sq _ _ hp, upd_same, ?_, fun t nt => ?_⟩
          · rw [List.length_map]
            exact Nat.le_of_lt (small1000 (by simp; omega))
          · refine k _ t (sq.trans (same_upd nt)) (sq.free nt) ?_
            unfold behV
            rw [if_neg hd, if_neg (fun z => z.elim hm h8), upd_same, List.map_append]
            rfl
/-! ### _law_due -/
def dueSt (M : List (List Int)) (N st : List Int) (se : Int) : List Int := if M[1]? = some (padL N) then st else st.set 1 (se + 1)
def sp_Ldue : Sp := fun vs H Q _ => ∃ (k : KA) (M : List (List Int)) (ho st : List Int) (se : Int) (p : Addr) (N : List Int), vs = [.ref k.p, .ref p] ∧ Kd H k M ho st se ∧ H p = some (.lst (N.map V.int)) ∧ N.length ≤ 8 ∧ M.length = 24 ∧ 1 < st.length ∧ st.length < 1000 ∧
  ∀ H' (k' : KA), Same H H' → (∀ x ∈ k'.all, H x = none ∨ x ∈ k.all) → Kd H' k' (M.set 1 (padL N)) ho (dueSt M N st se) (se + 1) → Q (.ref k'.p) H'
theorem ok_Ldue (T : Tx K mg) : FnOk P w K mg base CX0 1 T.f_Ldue T.fd_Ldue ["_law_kept", "_law_nodes_on"] sp_Ldue := by
  refine T.F_Ldue.ok sc_Ldue (fun vs H Q E h => ?_) (fun cdv A outer s H vs Q E hr h => ?_)
  · obtain ⟨_, _, _, _, _, _, _, rfl, _⟩ := h; rfl
  · obtain ⟨k, M, ho, st, se, p, N, rfl, Kk, hp, hN, hM, hst, hst2, kk⟩ := h
    refine ⟨_, (pss_cons (ps_asg (pv 0) (pg_lst rfl (pgs_cons (pg_name (i := 2) sc_Ldue.nd rfl (.inl rfl)) (pgs_cons (pg_name (i := 3) sc_Ldue.nd rfl (.inl rfl)) (pgs_cons (pg_name (i := 4) sc_Ldue.nd rfl (.inl rfl)) (pgs_cons (pg_name (i := 5) sc_Ldue.nd rfl (.inl rfl)) (pgs_cons (pg_name (i := 6) sc_Ldue.nd rfl (.inl rfl)) pgs_nil)))))))
      (pss_cons (ps_setLc (i := 7) (own := [("_law_row", 8)]) (g := gName 8) (tt := tYes) rfl sc_Ldue.nd rfl rfl (sw_true rfl rfl rfl (by decide +kernel)) (pi_list (pv 2)) (blkOk_by (N := ["_law_kept", "_law_nodes_on", "_law_cells", "_law_holdings", "_law_stamps", "_law_handles", "_law_serial", "_law_rows", "_law_row", "_law_marked", "_law_due_here"]) (sc := defScope s_Ldue) (by decide +kernel)) (fun _ _ _ _ _ => pg_name (i := 8) sc_Ldue.nd rfl (Or.inl rfl)) (fun _ _ _ _ _ => pts_nil) (fun _ _ _ _ _ => (pe_listof (K := K) (pv 8) T.b_list)))
      (pss_cons (ps_set (i := 9) sc_Ldue.nd rfl (.inl rfl) (pe_listof (K := K) (pv 4) T.b_list))
      (pss_cons (ps_set (i := 10) sc_Ldue.nd rfl (.inl rfl) (pe_op op_cat (pv 1) (pe_op op_rep (pe_lst (pa_cons pe_int pa_nil)) (pe_op op_sub pe_int (pe_callB call_len_seq rfl T.b_len (by decide +kernel) (pa_cons (pv 1) pa_nil))))))
      (Evl.pss_cut (ps_if (pt_cmpR (op_neD hr.units) (pe_ix ix_list (pv 7) pe_int (fun _ _ => rfl)) (pv 10) (nomark _))
        (pss_one (ps_asg (pe_op op_add (pv 6) pe_int) (pg_sub (pv 9) pe_int set_list)))
        pss_nil)
      (pss_cons (ps_asg (pv 10) (pg_sub (pv 7) pe_int set_list))
      (pss_one (ps_ret (pe_lst (pa_cons (pv 7) (pa_cons (pv 3) (pa_cons (pv 9) (pa_cons (pv 5) (pa_cons (pe_op op_add (pv 6) pe_int) pa_nil)))))))))))))), ?_⟩
    refine ⟨_, rfl, k.p, _, rfl, .of Kk.p, rfl, _, _, rfl, _, _, rfl, _, _, rfl, _, _, rfl, _, _, rfl, rfl, ?_⟩
    -- the rows
    refine ⟨_, rfl, k.c, rfl, ⟨_, .of Kk.c.out⟩, fun C hC => ?_⟩
    refine lc_list (K := K) (a := k.c) (xs := k.rs.map V.ref) (fun i H' => ∃ qs, NewGrid H H' C qs (M.take i))
      ⟨[], NewGrid.start (Same.refl _) hC hC⟩ (fun i H' _ ⟨qs, G⟩ => .of (G.same _ _ Kk.c.out)) ?_ ?_
    · rintro i y H' hi ⟨qs, G⟩
      have hil : i < k.rs.length := by
        have := (List.getElem?_eq_some_iff.mp hi).1
        rw [List.length_map] at this
        exact this
      rw [List.getElem?_map, List.getElem?_eq_getElem hil] at hi
      have hi : V.ref k.rs[i] = y := Option.some.inj hi
      subst hi
      have hiR : i < M.length := by rw [← Kk.c.len]; exact hil
      have hrow := G.same _ _ (Kk.c.row i k.rs[i] M[i] (List.getElem?_eq_getElem hil) (List.getElem?_eq_getElem hiR))
      refine ⟨rfl, ?_⟩
      refine yes_ ?_
      refine ⟨_, rfl, k.rs[i], _, rfl, .inl (.of hrow), fun q hq => ?_⟩
      refine ⟨_, by rw [upd_ne (ne_of_none G.grid.out hq)]; exact G.grid.out, ?_, qs ++ [q], ?_⟩
      · rw [List.length_map, G.grid.len, List.length_take]
        exact small1000 (by omega)
      · rw [List.take_succ, List.getElem?_eq_getElem hiR]
        exact G.snoc (same_upd hq) hq upd_same
    rintro H4 ⟨qs, G4⟩
    rw [List.length_map, Kk.c.len, List.take_length] at G4
    have s4 := G4.same
    have K4 := Kk.same s4
    -- the stamps
    refine ⟨_, rfl, k.s, _, rfl, .inl (.of K4.s), fun ms nms => ?_⟩
    have s5' := same_upd (o := .lst (st.map V.int)) nms
    have e5 : upd H4 ms (.lst (st.map V.int)) ms = some (.lst (st.map V.int)) := upd_same
    have nms0 := s4.free nms
    have g5 := G4.grid.same s5'
    have msC : ms ≠ C := (ne_of_none G4.grid.out nms).symm
    have msq : ms ∉ qs := fun z => by
      obtain ⟨o, e⟩ := G4.grid.held z
      rw [nms] at e
      cases e
    have s5 := s4.trans s5'
    generalize upd H4 ms (.lst (st.map V.int)) = H5 at s5' e5 g5 s5 ⊢
    -- the due row
    refine ⟨_, rfl, (by show 1 ≤ sizeLine; decide), fun l nl => ?_⟩
    have s6' := same_upd (o := .lst [V.int 0]) nl
    refine ⟨_, rfl, p, _, rfl, .inl (.of (s6' _ _ (s5 _ _ hp))), _, _, rfl, rfl, l, 8 - ((N.map V.int).length : Int), _, rfl, rfl, upd_same, by rw [List.length_map]; omega, by rw [List.length_map]; omega, ?_, fun z nz => ?_⟩
    · show 1 * (8 - ((N.map V.int).length : Int)).toNat ≤ sizeLine
      rw [List.length_map]
      exact Nat.le_of_lt (small1000 (by omega))
    rw [rep_flat, rep_map, List.length_map, show (8 - (N.length : Int)).toNat = 8 - N.length by omega]
    have s7' := s6'.trans (same_upd (o := .lst ((List.replicate (8 - N.length) (0 : Int)).map V.int)) nz)
    have e7 : upd (upd H5 l (.lst [V.int 0])) z (.lst ((List.replicate (8 - N.length) (0 : Int)).map V.int)) z = some (.lst ((List.replicate (8 - N.length) (0 : Int)).map V.int)) := upd_same
    generalize upd (upd H5 l (.lst [V.int 0])) z (.lst ((List.replicate (8 - N.length) (0 : Int)).map V.int)) = H7 at s7' e7 ⊢
    refine ⟨p, z, _, _, rfl, rfl, s7' _ _ (s5 _ _ hp), e7, ?_, fun t nt => ?_⟩
    · rw [List.length_map, List.length_map, List.length_replicate]
      exact Nat.le_of_lt (small1000 (by omega))
    rw [← List.map_append]
    have s8' := s7'.trans (same_upd (o := .lst ((N ++ List.replicate (8 - N.length) (0 : Int)).map V.int)) nt)
    have e8 : upd H7 t (.lst ((N ++ List.replicate (8 - N.length) (0 : Int)).map V.int)) t = some (.lst ((padL N).map V.int)) := upd_same
    have nt5 := s7'.free nt
    generalize upd H7 t (.lst ((N ++ List.replicate (8 - N.length) (0 : Int)).map V.int)) = H8 at s8' e8 ⊢
    have s8 := s5.trans s8'
    have nt0 := s5.free nt5
    have g8 := g5.same s8'
    have ems8 := s8' _ _ e5
    have K8 := Kk.same s8
    have tms : t ≠ ms := (ne_of_none e5 nt5).symm
    have tC : t ≠ C := (ne_of_none g5.out nt5).symm
    have tq : t ∉ qs := fun y => by
      obtain ⟨o, e⟩ := g5.held y
      rw [nt5] at e
      cases e
    have h1M : 1 < M.length := by omega
    obtain ⟨r, r1, r2, _⟩ := g8.get (List.getElem?_eq_getElem h1M)
    refine ⟨fun σ H9 => σ = [some (.ref k.p), some (.ref p), some (.ref k.c), some (.ref k.h), some (.ref k.s), some (.ref k.d), some (.int se), some (.ref C), none, some (.ref ms), some (.ref t)] ∧ Same H H9 ∧ Grid H9 C qs M ∧ H9 ms = some (.lst ((dueSt M N st se).map V.int)) ∧ H9 t = some (.lst ((padL N).map V.int)) ∧ (∀ x, H9 x = none → H8 x = none), ?_, ?_⟩
    · refine ⟨_, rfl, C, _, 1, .ref r, rfl, rfl, .of g8.out, atI_nat (j := 1) (by rw [List.getElem?_map, r1]; rfl), _, rfl, dI _, dI _, dpI r2, dpI e8, shI _, shI _, _, rfl, ?_⟩
      rw [eqvI]
      by_cases q : M[1] = padL N
      · rw [decide_eq_true q]
        refine iteF ⟨rfl, s8, g8, ?_, e8, fun x e => e⟩
        unfold dueSt
        rw [if_pos (by rw [List.getElem?_eq_getElem h1M, q])]
        exact ems8
      · rw [decide_eq_false q]
        refine iteT ⟨_, rfl, _, _, rfl, rfl, _, rfl, ms, _, _, 1, rfl, rfl, ems8, ixN_nat rfl (by rw [List.length_map]; exact hst), rfl, fun x o e => ?_, ?_, ?_, ?_, fun x e => un e⟩
        · rw [upd_ne (ne_of_none e nms0)]
          exact s8 _ _ e
        · refine g8.keep fun x o hx e => ?_
          rw [upd_ne]
          · exact e
          · rcases hx with rfl | hx
            · exact fun y => msC y.symm
            · exact fun y => msq (by rw [← y]; exact hx)
        · rw [upd_same]
          unfold dueSt
          rw [if_neg (by rw [List.getElem?_eq_getElem h1M]; exact fun y => q (Option.some.inj y)), List.map_set]
        · rw [upd_ne tms]
          exact e8
    rintro σ H9 ⟨rfl, s9, g9, e9, t9, f9⟩
    have G10 := g9.swapN (i := 1) tq tC t9
    refine ⟨_, rfl, _, rfl, C, _, _, 1, rfl, rfl, g9.out, ixN_nat rfl (by rw [List.length_map, g9.len]; exact h1M), ?_⟩
    have s10 : Same H (upd H9 C (.lst ((qs.map V.ref).set 1 (V.ref t)))) := fun x o e => by
      rw [upd_ne (ne_of_none e G4.freshD)]
      exact s9 _ _ e
    have e10 : upd H9 C (.lst ((qs.map V.ref).set 1 (V.ref t))) ms = some (.lst ((dueSt M N st se).map V.int)) := by
      rw [upd_ne msC]
      exact e9
    generalize upd H9 C (.lst ((qs.map V.ref).set 1 (V.ref t))) = H10 at G10 s10 e10 ⊢
    refine ⟨_, rfl, _, rfl, _, rfl, _, rfl, _, rfl, _, _, rfl, rfl, (by show 5 ≤ sizeLine; decide), fun u nu => ?_⟩
    have s11' := same_upd (o := .lst [.ref C, .ref k.h, .ref ms, .ref k.d, .int (se + 1)]) nu
    have K10 := Kk.same s10
    refine kk _ ⟨u, C, k.h, ms, k.d, qs.set 1 t⟩ (s10.trans s11') (fun x hx => ?_) ⟨upd_same, G10.same s11', s11' _ _ K10.h, s11' _ _ e10, s11' _ _ K10.d⟩
    simp only [KA.all, List.mem_cons] at hx ⊢
    rcases hx with rfl | rfl | rfl | rfl | rfl | hx
    · exact .inl (s10.free nu)
    · exact .inl G4.freshD
    · exact .inr (by simp)
    · exact .inl nms0
    · exact .inr (by simp)
    · rcases mem_set_of hx with rfl | hx
      · exact .inl nt0
      · exact .inl (G4.fresh _ hx)
end
end K10
namespace K10
open PySem PySem.Spec PyProof.Rows L2 Rg
/-- a move: which image, which deed, which node -/
def TupM (H : Hp) (t : Addr) : Prop := ∃ w d m : Int, H t = some (.tup [.int w, .int d, .int m]) ∧ (w = 0 ∨ w = 1) ∧ 0 ≤ d ∧ d < 6 ∧ 1 ≤ m
structure MvI (H H' : Hp) (fa p : Addr) (fs : List Int) (ts : List Addr) (b : Nat) : Prop where
  hf : H' fa = some (.lst (fs.map V.int))
  hp : H' p = some (.lst (ts.map V.ref))
  ht : ∀ t ∈ ts, TupM H' t
  hl : ts.length ≤ b
  hk : Kp [fa] H H'
  fl : fs.length ≤ 5000
  hn : H p = none
  nf : p ≠ fa
theorem MvI.feed {H H' : Hp} {fa p : Addr} {fs fs' : List Int} {ts : List Addr} {b : Nat} (I : MvI H H' fa p fs ts b) (h : fs'.length ≤ fs.length) : MvI H (upd H' fa (.lst (fs'.map V.int))) fa p fs' ts b :=
  ⟨upd_same, by rw [upd_ne I.nf]; exact I.hp, fun t ht => by
    obtain ⟨w, d, m, e, r⟩ := I.ht t ht
    exact ⟨w, d, m, by rw [upd_ne (ne_of e I.hf (by intro z; cases z))]; exact e, r⟩, I.hl, I.hk.own1, by have := I.fl; omega, I.hn, I.nf⟩
theorem MvI.add {H H' : Hp} {fa p : Addr} {fs : List Int} {ts : List Addr} {b : Nat} (I : MvI H H' fa p fs ts b) {t : Addr} (nt : H' t = none) {w d m : Int} (hw : w = 0 ∨ w = 1) (h0 : 0 ≤ d) (h6 : d < 6) (h1 : 1 ≤ m) :
    MvI H (upd (upd H' t (.tup [.int w, .int d, .int m])) p (.lst (ts.map V.ref ++ [V.ref t]))) fa p fs (ts ++ [t]) (b + 1) := by
  have tp : t ≠ p := (ne_of_none I.hp nt).symm
  have tf : t ≠ fa := (ne_of_none I.hf nt).symm
  refine ⟨?_, by rw [upd_same, List.map_append]; rfl, fun x hx => ?_, by rw [List.length_append]; have := I.hl; simp; omega, fun x o e n => ?_, I.fl, I.hn, I.nf⟩
  · rw [upd_ne I.nf.symm, upd_ne tf.symm]
    exact I.hf
  · rcases List.mem_append.mp hx with h | h
    · obtain ⟨w', d', m', e, r⟩ := I.ht x h
      exact ⟨w', d', m', by rw [upd_ne (ne_of e I.hp (by intro z; cases z)), upd_ne (ne_of_none e nt)]; exact e, r⟩
    · rw [List.mem_singleton.mp h]
      exact ⟨w, d, m, by rw [upd_ne tp, upd_same], hw, h0, h6, h1⟩
  · rw [upd_ne (ne_of_none e I.hn), upd_ne (ne_of_none (I.hk x o e n) nt)]
    exact I.hk x o e n
theorem MvI.mono {H H' : Hp} {fa p : Addr} {fs : List Int} {ts : List Addr} {b c : Nat} (I : MvI H H' fa p fs ts b) (h : b ≤ c) : MvI H H' fa p fs ts c := { I with hl := Nat.le_trans I.hl h }
section
variable {P : Program} {w : World} {K : PySem.W.Frag} {mg : Str → Option Value} {base : Heap}
def sp_Lmoves : Sp := fun vs H Q _ => ∃ (fa : Addr) (fs : List Int), vs = [.ref fa] ∧ H fa = some (.lst (fs.map V.int)) ∧ fs.length ≤ 5000 ∧ ∀ H' p fs' ts, MvI H H' fa p fs' ts 100 → Q (.ref p) H'
theorem ok_Lmoves (T : Tx K mg) : FnOk P w K mg base CX0 2 T.f_Lmoves T.fd_Lmoves ["_law_feed_here"] sp_Lmoves := by
  refine T.F_Lmoves.ok sc_Lmoves (fun vs H Q E h => ?_) (fun cdv A outer s H vs Q E hr h => ?_)
  · obtain ⟨_, _, rfl, _⟩ := h; rfl
  · obtain ⟨fa, fs, rfl, hf, hl, kk⟩ := h
    refine ⟨_, (pss_cons (ps_set (i := 1) sc_Lmoves.nd rfl (.inl rfl) (pe_lst pa_nil))
      (pss_cons (ps_for PassesOwn.never rfl (pi_range1 rfl T.b_range (pa_cons pe_int pa_nil)) (pg_name (i := 2) sc_Lmoves.nd rfl (.inl rfl))
        (pss_cons (ps_set (i := 3) sc_Lmoves.nd rfl (.inl rfl) (pe_call (ok_Lpick T) hr rfl T.mg_Lpick T.F_Lpick.kp (b_Lpick T) .nil pass0 (pa_cons (pv 0) (pa_cons pe_int pa_nil))))
        (pss_cons (ps_set (i := 4) sc_Lmoves.nd rfl (.inl rfl) (pe_call (ok_Lpick T) hr rfl T.mg_Lpick T.F_Lpick.kp (b_Lpick T) .nil pass0 (pa_cons (pv 0) (pa_cons pe_int pa_nil))))
        (pss_cons (ps_set (i := 5) sc_Lmoves.nd rfl (.inl rfl) (pe_op op_add pe_int (pe_op op_mul pe_int (pe_call (ok_Lpick T) hr rfl T.mg_Lpick T.F_Lpick.kp (b_Lpick T) .nil pass0 (pa_cons (pv 0) (pa_cons pe_int pa_nil))))))
        (pss_one (ps_for PassesOwn.never rfl (pi_range1 rfl T.b_range (pa_cons (pv 3) pa_nil)) (pg_name (i := 6) sc_Lmoves.nd rfl (.inl rfl))
          (pss_one (ps_expr (pe_bm PySem.F.plainAttrs_list PySem.F.slot_list_append PySem.F.type_list_append mt_append (pv 1) (pa_cons (pe_tup (pa_cons (pv 2) (pa_cons pe_int (pa_cons (pe_op op_add pe_int (pe_op op_mod (pe_callTy call_int1 rfl T.b_int (by decide +kernel) (pa_cons (pe_op op_add (pv 4) (pe_op op_mul (pv 6) (pv 5))) pa_nil)) pe_int)) pa_nil)))) pa_nil))))))))))
      (pss_cons (ps_for PassesOwn.never rfl (pi_range1 rfl T.b_range (pa_cons (pe_callB (call_min2 rfl) rfl T.b_min (by decide +kernel) (pa_cons pe_int (pa_cons (pe_op op_add (pe_callB call_len_seq rfl T.b_len (by decide +kernel) (pa_cons (pv 0) pa_nil)) pe_int) pa_nil))) pa_nil)) (pg_name (i := 6) sc_Lmoves.nd rfl (.inl rfl))
        (pss_cons (ps_set (i := 7) sc_Lmoves.nd rfl (.inl rfl) (pe_call (ok_Lpick T) hr rfl T.mg_Lpick T.F_Lpick.kp (b_Lpick T) .nil pass0 (pa_cons (pv 0) (pa_cons pe_int pa_nil))))
        (pss_one (ps_expr (pe_bm PySem.F.plainAttrs_list PySem.F.slot_list_append PySem.F.type_list_append mt_append (pv 1) (pa_cons (pe_tup (pa_cons (pe_op op_mod (pe_callTy call_int1 rfl T.b_int (by decide +kernel) (pa_cons (pe_op op_fdiv (pv 7) pe_int) pa_nil)) pe_int) (pa_cons (pe_op op_mod (pe_callTy call_int1 rfl T.b_int (by decide +kernel) (pa_cons (pe_op op_fdiv (pv 7) pe_int) pa_nil)) pe_int) (pa_cons (pe_op op_add pe_int (pe_op op_mod (pe_callTy call_int1 rfl T.b_int (by decide +kernel) (pa_cons (pv 7) pa_nil)) pe_int)) pa_nil)))) pa_nil))))))
      (pss_one (ps_ret (pv 1)))))), ?_⟩
    refine ⟨Nat.zero_le _, fun p np => ?_⟩
    have pf : p ≠ fa := (ne_of_none hf np).symm
    have M0 : MvI H (upd H p (.lst [])) fa p fs [] 0 := ⟨by rw [upd_ne pf.symm]; exact hf, by rw [upd_same]; rfl, fun t ht => absurd ht List.not_mem_nil, Nat.le_refl _, .of (same_upd np), hl, np, pf⟩
    refine ⟨2, rfl, by decide, by decide, for_range (lo := 0) (n := (2 : Int).toNat) (fun i σ H' => ∃ (fs : List Int) (ts : List Addr) (u2 u3 u4 u5 u6 : Option V), σ = [some (.ref fa), some (.ref p), u2, u3, u4, u5, u6, none] ∧ MvI H H' fa p fs ts (9 * i)) ⟨fs, [], _, _, _, _, _, rfl, M0⟩ ?_ ?_⟩
    · rintro i σ H' hi ⟨fs, ts, u2, u3, u4, u5, u6, rfl, M⟩
      have hi : i < 2 := hi
      refine ⟨_, rfl, fa, fs, 9, rfl, M.hf, by decide, fun r f1 r0 r1 fl1 => ?_⟩
      have M1 := M.feed fl1
      refine ⟨_, rfl, fa, f1, 16, rfl, M1.hf, by decide, fun q f2 q0 q1 fl2 => ?_⟩
      have M2 := M1.feed fl2
      refine ⟨_, rfl, fa, f2, 8, rfl, M2.hf, by decide, fun z f3 z0 z1 fl3 => ?_⟩
      have M3 := M2.feed fl3
      refine ⟨_, _, rfl, rfl, .inl ⟨by decide, by decide⟩, _, _, rfl, rfl, ?_⟩
      generalize upd (upd (upd H' fa (.lst (f1.map V.int))) fa (.lst (f2.map V.int))) fa (.lst (f3.map V.int)) = H3 at M3 ⊢
      refine ⟨_, rfl, r, rfl, by omega, by omega, for_range (lo := 0) (n := r.toNat) (fun j σ H' => ∃ (ts : List Addr) (u6 : Option V), σ = [some (.ref fa), some (.ref p), some (.int (0 + (i : Int))), some (.int r), some (.int q), some (.int (1 + 2 * z)), u6, none] ∧ MvI H H' fa p f3 ts (9 * i + j)) ⟨ts, _, rfl, M3⟩ ?_ ?_⟩
      · rintro j σ H4 hj ⟨ts, u6, rfl, M4⟩
        have hl4 := M4.hl
        refine ⟨.ref p, rfl, .inl ⟨rfl, _, .inl (.inl M4.hp)⟩, _, rfl, _, rfl, _, rfl, _, rfl, _, _, rfl, rfl, .inl ⟨by omega, by omega⟩, _, _, rfl, rfl, .inl ⟨_, rfl, _, _, rfl, rfl, (by show (0 : Int) < _; decide), _, _, rfl, rfl, (by show 3 ≤ sizeLine; decide), fun t nt => ?_⟩⟩
        refine ⟨p, _, _, rfl, rfl, by rw [upd_ne (ne_of_none M4.hp nt)]; exact M4.hp, ?_, ?_⟩
        · rw [List.length_map]
          exact small1000 (by omega)
        · exact ⟨ts ++ [t], _, rfl, M4.add nt (by omega) (by decide) (by decide) (by omega)⟩
      · rintro σ H4 ⟨ts, u6, rfl, M4⟩
        exact ⟨f3, ts, _, _, _, _, _, rfl, M4.mono (by omega)⟩
    rintro σ H' ⟨fs, ts, u2, u3, u4, u5, u6, rfl, M⟩
    have hb : 9 * (2 : Int).toNat = 18 := rfl
    rw [hb] at M
    have hfl := M.fl
    refine ⟨_, rfl, fa, _, rfl, .inl (.of M.hf), _, _, rfl, rfl, _, _, rfl, ?_⟩
    have hmin : ∃ c : Int, (if ((fs.map V.int).length : Int) + 1 < 30 then ((fs.map V.int).length : Int) + 1 else 30) = c ∧ 0 ≤ c ∧ c ≤ 30 := ⟨_, rfl, by split <;> omega, by split <;> omega⟩
    obtain ⟨c, ec, c0, c1⟩ := hmin
    refine ⟨c, congrArg (fun z => [V.int z]) ec, by omega, by omega, for_range (lo := 0) (n := c.toNat) (fun i σ H' => ∃ (fs : List Int) (ts : List Addr) (u6 u7 : Option V), σ = [some (.ref fa), some (.ref p), u2, u3, u4, u5, u6, u7] ∧ MvI H H' fa p fs ts (18 + i)) ⟨fs, ts, u6, none, rfl, M⟩ ?_ ?_⟩
    · rintro i σ H4 hi ⟨fs, ts, u6, u7, rfl, M4⟩
      refine ⟨_, rfl, fa, fs, 1000, rfl, M4.hf, by decide, fun r f1 r0 r1 fl1 => ?_⟩
      have M5 := M4.feed fl1
      have hl5 := M5.hl
      generalize upd H4 fa (.lst (f1.map V.int)) = H5 at M5 ⊢
      refine ⟨.ref p, rfl, .inl ⟨rfl, _, .inl (.inl M5.hp)⟩, _, rfl, _, _, rfl, rfl, ⟨by decide, by decide⟩, .inl ⟨_, rfl, _, _, rfl, rfl, (by show (0 : Int) < _; decide), _, rfl, _, _, rfl, rfl, ⟨by decide, by decide⟩, .inl ⟨_, rfl, _, _, rfl, rfl, (by show (0 : Int) < _; decide), _, rfl, .inl ⟨_, rfl, _, _, rfl, rfl, (by show (0 : Int) < _; decide), _, _, rfl, rfl, (by show 3 ≤ sizeLine; decide), fun t nt => ?_⟩⟩⟩⟩
      refine ⟨p, _, _, rfl, rfl, by rw [upd_ne (ne_of_none M5.hp nt)]; exact M5.hp, ?_, ?_⟩
      · rw [List.length_map]
        exact small1000 (by omega)
      · exact ⟨f1, ts ++ [t], _, _, rfl, M5.add nt (by omega) (by omega) (by omega) (by omega)⟩
    · rintro σ H4 ⟨fs, ts, u6, u7, rfl, M4⟩
      exact ⟨_, rfl, kk H4 p fs ts (M4.mono (by omega))⟩
end
end K10
namespace K10
open PySem PySem.Spec PyProof.Rows L2 Rg
def frR : List (List Int) := (fmM 24 21).set 5 [2, 1, 0, 0, 0, 0, 0, 1]
theorem fm_len8 : ∀ k, (fmM 24 k).length = 24 ∧ ∀ m ∈ fmM 24 k, m.length = 8
  | 0 => by
    refine ⟨rfl, fun m hm => ?_⟩
    have : m ∈ List.replicate 24 (List.replicate 8 (0 : Int)) := hm
    rw [List.eq_of_mem_replicate this]
    rfl
  | k + 1 => by
    have ih := fm_len8 k
    refine ⟨by show (setC (fmM 24 k) (2 + k / 8) (k % 8) 1).length = 24; rw [setC_len]; exact ih.1, fun m hm => ?_⟩
    have hm' : m ∈ setC (fmM 24 k) (2 + k / 8) (k % 8) 1 := hm
    by_cases h : 2 + k / 8 < (fmM 24 k).length
    · unfold setC at hm'
      rw [List.getElem?_eq_getElem h] at hm'
      rcases mem_set_of hm' with e | e
      · rw [e]
        show (((fmM 24 k)[2 + k / 8]).set (k % 8) 1).length = 8
        rw [List.length_set]
        exact ih.2 _ (List.getElem_mem h)
      · exact ih.2 m e
    · unfold setC at hm'
      rw [List.set_eq_of_length_le (by omega)] at hm'
      exact ih.2 m hm'
section
variable {P : Program} {w : World} {K : PySem.W.Frag} {mg : Str → Option Value} {base : Heap}
def sp_Lfresh : Sp := fun vs H Q _ => vs = [] ∧ ∀ H' D qs, NewGrid H H' D qs frR → Q (.ref D) H'
theorem ok_Lfresh (T : Tx K mg) : FnOk P w K mg base CX0 1 T.f_Lfresh T.fd_Lfresh [] sp_Lfresh := by
  refine T.F_Lfresh.ok sc_Lfresh (fun vs H Q E h => ?_) (fun cdv A outer s H vs Q E hr h => ?_)
  · obtain ⟨rfl, _⟩ := h; rfl
  · obtain ⟨rfl, k⟩ := h
    refine ⟨_, (pss_cons (ps_setLc (i := 0) (own := [("_law_x", 1)]) (g := gName 1) (tt := tYes) rfl sc_Lfresh.nd rfl rfl (sw_true rfl rfl rfl (by decide +kernel)) (pi_range1 rfl T.b_range (pa_cons pe_int pa_nil)) (blkOk_by (N := ["_law_rows", "_law_x", "_law_row"]) (sc := defScope s_Lfresh) (by decide +kernel)) (fun _ _ _ _ _ => pg_name (i := 1) sc_Lfresh.nd rfl (Or.inl rfl)) (fun _ _ _ _ _ => pts_nil) (fun _ _ _ _ _ => (pe_op op_rep (pe_lst (pa_cons pe_int pa_nil)) pe_int)))
      (pss_cons (ps_for PassesOwn.never rfl (pi_range1 rfl T.b_range (pa_cons pe_int pa_nil)) (pg_name (i := 1) sc_Lfresh.nd rfl (.inl rfl))
        (pss_cons (ps_set (i := 2) sc_Lfresh.nd rfl (.inl rfl) (pe_ix ix_list (pv 0) (pe_op op_add pe_int (pe_op op_fdiv (pv 1) pe_int)) (fun _ _ => rfl)))
        (pss_one (ps_asg pe_int (pg_sub (pv 2) (pe_op op_mod (pe_callTy call_int1 rfl T.b_int (by decide +kernel) (pa_cons (pv 1) pa_nil)) pe_int) set_list)))))
      (pss_cons (ps_asg (pe_lst (pa_cons pe_int (pa_cons pe_int (pa_cons pe_int (pa_cons pe_int (pa_cons pe_int (pa_cons pe_int (pa_cons pe_int (pa_cons pe_int pa_nil))))))))) (pg_sub (pv 0) pe_int set_list))
      (pss_one (ps_ret (pv 0)))))), ?_⟩
    refine ⟨24, rfl, by decide, by decide, fun D hD => ?_⟩
    refine lc_range (lo := 0) (n := (24 : Int).toNat) (fun i H' => ∃ qs, NewGrid H H' D qs (List.replicate i (List.replicate 8 0)))
      ⟨[], NewGrid.start (Same.refl _) hD hD⟩ ?_ ?_
    · rintro i H' hi ⟨qs, G⟩
      have hi : i < 24 := hi
      refine ⟨rfl, ?_⟩
      refine yes_ ?_
      refine ⟨by show 1 ≤ sizeLine; decide, fun l hl => ?_⟩
      refine ⟨l, 8, _, rfl, rfl, upd_same, by decide, by decide, by show 1 * 8 ≤ sizeLine; decide, fun q hq => ?_⟩
      have hq0 : H' q = none := un hq
      have hlD : H' D = some (.lst (qs.map V.ref)) := G.grid.out
      have hq1 : (upd (upd H' l (.lst [V.int 0])) q (.lst (List.replicate (8 : Int).toNat [V.int 0]).flatten)) q = some (.lst ((List.replicate 8 (0 : Int)).map V.int)) := by rw [upd_same]; rfl
      have sm : Same H' (upd (upd H' l (.lst [V.int 0])) q (.lst (List.replicate (8 : Int).toNat [V.int 0]).flatten)) := (same_upd hl).trans (same_upd hq)
      refine ⟨_, sm _ _ hlD, ?_, qs ++ [q], ?_⟩
      · rw [List.length_map, G.grid.len, List.length_replicate]
        exact small1000 (by omega)
      · rw [List.replicate_succ']
        exact G.snoc sm hq0 hq1
    rintro H1 ⟨qs, G⟩
    have hf := G.fresh
    have hDn := G.freshD
    refine ⟨21, rfl, by decide, by decide, for_range (lo := 0) (n := (21 : Int).toNat) (fun i σ H' => ∃ u1 u2 : Option V, σ = [some (.ref D), u1, u2] ∧ Grid H' D qs (fmM 24 i) ∧ Same H H') ⟨_, _, rfl, G.grid, G.same⟩ ?_ ?_⟩
    · rintro i σ H' hi ⟨u1, u2, rfl, Gi, Si⟩
      have hi : i < 21 := hi
      have L := fm_len8 i
      have hml : 2 + i / 8 < (fmM 24 i).length := by omega
      obtain ⟨r, r1, r2, _⟩ := Gi.get (List.getElem?_eq_getElem hml)
      have h8 := L.2 _ (List.getElem_mem hml)
      refine ⟨_, rfl, _, rfl, _, _, rfl, rfl, ⟨by decide, by decide⟩, _, _, rfl, rfl, D, _, _, .ref r, rfl, rfl, .of Gi.out, at_of (j := 2 + i / 8) (by omega) (by rw [List.getElem?_map, r1]; rfl), ?_⟩
      refine ⟨_, rfl, _, rfl, .inl ⟨_, rfl, _, _, rfl, rfl, (by show (0 : Int) < _; decide), r, _, _, i % 8, rfl, rfl, r2, ixN_nat (by omega) (by rw [List.length_map]; omega), ?_⟩⟩
      refine ⟨_, _, rfl, ?_, fun x o e => ?_⟩
      · have := Gi.put (m := ((fmM 24 i)[2 + i / 8]).set (i % 8) 1) r1
        rw [List.map_set] at this
        show Grid _ D qs (setC (fmM 24 i) (2 + i / 8) (i % 8) 1)
        unfold setC
        rw [List.getElem?_eq_getElem hml]
        exact this
      · rw [upd_ne (ne_of_none e (hf r (List.mem_of_getElem? r1)))]
        exact Si _ _ e
    rintro σ H2 ⟨u1, u2, rfl, G2, S2⟩
    refine ⟨(by show 8 ≤ sizeLine; decide), fun q nq => ?_⟩
    have sq := same_upd (o := .lst [V.int 2, V.int 1, V.int 0, V.int 0, V.int 0, V.int 0, V.int 0, V.int 1]) nq
    have nq0 := S2.free nq
    have G3 := G2.swap (i := 5) (m := [2, 1, 0, 0, 0, 0, 0, 1]) sq nq upd_same
    refine ⟨_, rfl, D, _, _, 5, rfl, rfl, sq _ _ G2.out, ixN_nat rfl (by rw [List.length_map, G2.len, (fm_len8 _).1]; decide), ?_⟩
    refine ⟨_, rfl, k _ D (qs.set 5 q) ⟨G3, fun x hx => ?_, hDn, fun x o e => ?_⟩⟩
    · rcases mem_set_of hx with rfl | hx
      · exact nq0
      · exact hf x hx
    · show upd (upd H2 q (.lst [V.int 2, V.int 1, V.int 0, V.int 0, V.int 0, V.int 0, V.int 0, V.int 1])) D (.lst ((qs.map V.ref).set 5 (V.ref q))) x = some o
      rw [upd_ne (ne_of_none e hDn)]
      exact sq _ _ (S2 _ _ e)
end
end K10
namespace Rg
open PySem PySem.Spec PyProof.Rows L2
/-! ### which class an error is of -/
theorem kit_subT {K : PySem.W.Frag} {D S : Addr} (h2 : PySem.W.isClsIn K S = true) (h3 : PySem.W.typeIn K (.ref S) = some (.type "type")) (h4 : PySem.W.subIn K (.ref D) (.ref S) = some true) : PySem.W.kitOne K (.ref D) (.ref S) = some true := by
  by_cases e : D = S
  · subst e
    exact kit_self
  · exact kit_sub e h2 h3 h4
theorem kit_blt {K : PySem.W.Frag} {D : Addr} {b : String} {r : Bool} (hm : PySem.W.kitMeta b = true) (h : PySem.W.subIn K (.ref D) (.type b) = some r) : PySem.W.kitOne K (.ref D) (.type b) = some r := by
  unfold PySem.W.kitOne
  rw [if_neg (by intro z; exact nomatch (beq_iff_eq.mp z))]
  unfold PySem.W.kitCls
  simpa [hm] using h
theorem takeB {α : Type} {l : List α} {i : Nat} {x : α} (h : l[i]? = some x) : l.take (i + 1) = l.take i ++ [x] := by
  rw [List.take_succ, h]
  rfl
/-! ### unpacking a tuple while an error is handled -/
section
variable {prog : Program} {w : World} {A : Around} {E : Value → Shared → Prop} {s : Shared}
theorem tup_end_hot {it l x1 : Addr} {i : Nat} {items} {Q : Option Value → Shared → Prop} (hot : HotX.HotAt A x1 s.heap) (hit : IsTupIter s.heap it l i) (hl : IsTup s.heap l items) (hx : items[i]? = none)
    (hQ : ∀ h', Heap.ExtBut it s.heap h' → Q none { s with heap := h' }) : wpAny (model prog w) A (pyNext (.ref it)) Q E s := by
  obtain ⟨hh, o1, vs1, h1, d1, c1⟩ := hot; obtain ⟨o, ho, hc, hd⟩ := id hit
  obtain ⟨ol, hol, _, nl, hdl⟩ := hl; unfold pyNext
  have ni : it ≠ x1 := fun z => by
    rw [← z, ho] at h1
    cases h1
    rw [hd] at d1
    cases d1
    simp at c1
  refine wpAny_bind (wpAny_attempt (wpAny_callSpecial?_slot (name := Str.ofString "__next__") hit.typeIs slot_tupleiter_next (wpAny_call_entry slot_tupleiter_next hit.typeIs entry_tupleiter_next ?_ (args_tupleiter_next _))))
  refine (show wpAny _ _ (field (.ref it) 0 >>= _) _ _ s from ?_); refine wpAny_bind (wpAny_field ho hd (x := .ref l) rfl ?_)
  refine (show wpAny _ _ (if (Value.ref l == Value.none) = true then _ else _) _ _ s from ?_); rw [if_neg (show ¬ ((Value.ref l == Value.none) = true) from Bool.false_ne_true)]
  refine (show wpAny _ _ (field (.ref it) 1 >>= _) _ _ s from ?_); refine wpAny_bind (wpAny_field ho hd (x := .int i 0) rfl ?_)
  refine (show wpAny _ _ (seqItems? (.ref l) >>= _) _ _ s from ?_); refine wpAny_bind (wpAny_seqItems hol hdl ?_)
  simp only [Int.toNat_natCast, hx]; refine wpAny_bind (wpAny_rule (wpAny_bind (wpAny_setField ho hd (by simp) ?_)))
  refine (show wpAny _ _ (newExc (.type "StopIteration") [] >>= _) _ _ _ from ?_); refine wpAny_bind ?_
  simp only [newExc, newTuple]; refine wpAny_bind (wpAny_newObj_type ?_ (by size_fits))
  refine wpAny_bind (m := firstArgMember _ _) (wpAny_of_eq (a := Value.none) (by first | rfl | (simp only [firstArgMember]; rfl)) ?_); refine wpAny_newObj_type ?_ (by size_fits)
  have g1 : ∀ f : Obj → Obj, (s.heap.update it f).get? x1 = some o1 := fun f => by rw [Heap.get?_update_other _ _ ni]; exact h1
  refine HotX.raiseNew_hot ⟨hh, o1, vs1, Heap.get?_push_of_some _ (Heap.get?_push_of_some _ (g1 _)), d1, c1⟩ (Nat.ne_of_lt (Heap.lt_size (Heap.get?_push_of_some _ (g1 _)))) (Heap.get?_push_size _ rfl) rfl (by first | (simp; done) | (simp; omega) | (simp only [Array.size_append]; simp; omega)) ?_
  refine wpAny_bind (wpAny_isInstance (T := "StopIteration") (b := true) ⟨_, Heap.get?_update_self _ (Heap.get?_push_size _ rfl) rfl, rfl⟩ isSubtype_stop ?_); refine wpAny_pure (hQ _ fun b o' nb e => ?_)
  have e2 : ∀ f oo, ((s.heap.update it f).push oo).get? b = some o' := fun f oo => (Heap.SameBut.update ..).extBut.push _ b o' nb e
  rw [Heap.get?_update_other _ _ (Nat.ne_of_gt (Heap.lt_size (e2 _ _)))]; exact Heap.get?_push_of_some _ (e2 _ _)
theorem unpack_hot {t x1 : Addr} {items : Array Value} {Q : List Value → Shared → Prop} (hot : HotX.HotAt A x1 s.heap) (ht : IsTup s.heap t items)
    (hQ : ∀ h', Heap.ExtBut s.heap.objs.size s.heap h' → Q items.toList { s with heap := h' }) : wpAny (model prog w) A (unpackItems (.ref t) items.size none) Q E s := by
  have hlt : t ≠ s.heap.objs.size := ht.elim fun o ho => Nat.ne_of_lt (Heap.lt_size ho.1)
  have hx : x1 ≠ s.heap.objs.size := hot.2.elim fun o ho => ho.elim fun _ h => Nat.ne_of_lt (Heap.lt_size h.1)
  unfold unpackItems notIterableAtAll; refine wpAny_bind (wpAny_bind (wpAny_specialOf ht.typeIs slot_tuple_iter.lookup (wpAny_pure ?_)))
  simp only [Bool.false_eq_true, if_false]; refine wpAny_bind (wpAny_holding (iter_tuple ht (wpAny_bind (wpAny_holding (draw_tuple hlt items.size 0 _ _ ⟨_, Heap.get?_push_size _ rfl, rfl, rfl⟩ (ht.push _) (by omega) fun h₁ hit₁ hs₁ => ?_)))))
  have hall : List.take items.size (List.drop 0 items.toList) = items.toList := by rw [List.drop_zero]; exact List.take_of_length_le (by simp)
  rw [hall, if_neg (by simp)]
  have ht₁ := (ht.push { cls := .type "tuple_iterator", data := .fields #[.ref t, .int 0 0] }).extBut hs₁.extBut hlt
  have hot₁ : HotX.HotAt A x1 h₁ := hot.2.elim fun o ho => ho.elim fun vv h => ⟨hot.1, o, vv, hs₁.extBut x1 o hx (Heap.get?_push_of_some _ h.1), h.2.1, h.2.2⟩
  refine wpAny_bind (wpAny_holding (tup_end_hot hot₁ hit₁ ht₁ (by simp) fun h₂ he₂ => ?_))
  simp only [Option.isSome_none, Bool.false_eq_true, if_false]; exact wpAny_pure (hQ h₂ fun b o hb e => he₂ b o hb (hs₁.extBut b o hb (Heap.get?_push_of_some _ e)))
end
/-- (a, b, ..) = a tuple, while an error is handled -/
theorem pg_tupH {X : Cx} {pos : Pos} {es : List Expr} {k : Nat} {t : TGs} {n : Nat} (hc : L2H.HotC X) (h : PGs X es t) (hn : (assignEach es X.env).length = n := by rfl) (hst : (assignEach es X.env).findIdx? (·.1) = none := by rfl) : PG X (.Tuple es k pos) (gTup X.K n t) := by
  refine ⟨fun pins s σ H v u Q I r hw => ?_⟩
  obtain ⟨a, xs, e1, hq, hl, hw⟩ := hw; subst e1; cases r
  obtain ⟨its, rv, ht, hz⟩ := I.tuple hq; obtain ⟨x1, hot⟩ := hc.at I
  rw [assign_Tuple]; refine wpAny_bind (wpAny_standAt ?_); unfold unpack
  rw [show (assignEach es X.env).length = its.toArray.size by simp [hn, ← hl, rv.length], hst]
  refine wpAny_bind (wpAny_holding (unpack_hot hot ht fun h' hx => ?_))
  have I1 : Inv X pins σ H { s with heap := h' } := I.kept (t' := s.toks) fun b o e => hx b o (Nat.ne_of_lt (Heap.lt_size e)) e
  exact h.run pins _ σ H xs _ Q I1 (by simpa using rv) hw
end Rg
namespace K10
open PySem PySem.Spec PyProof.Rows L2 Rg
section
variable {P : Program} {w : World} {K : PySem.W.Frag} {mg : Str → Option Value} {base : Heap}
def sp_Lerror (nb : List Str) (a : Addr) : Sp := fun vs H Q _ => vs = [.ref a] ∧ ∀ H' q, Same H H' → H q = none → H' q = some (.lst (nb.map V.str)) → Q (.ref q) H'
theorem ok_Lerror_ListFull (T : Tx K mg) : FnE P w K mg base 1 T.f_Lerror T.fd_Lerror ["_law_e"] T.C_ListFull (sp_Lerror ["ListFull"]) := by
  refine T.F_Lerror.okE sc_Lerror (fun a vs H Q E h => ?_) (fun cdv A outer s H vs Q E p hot hz hr h => ?_)
  · obtain ⟨rfl, _⟩ := h; rfl
  · obtain ⟨rfl, k⟩ := h
    have hf : ∃ vs, p.2.data = .fields vs := hot.2.elim fun vs h => ⟨vs, h.1⟩
    have hc : L2H.HotC (L2H.cxH CX0 P w K mg base ["_law_e", "_law_told_here", "_law_name", "_law_holds"] "_law_error" (defScope s_Lerror) T.f_Lerror cdv A outer s H E p).nox := ⟨p, hot, List.mem_singleton.mpr rfl⟩
    have hp : (p.1, p.2) ∈ (L2H.cxH CX0 P w K mg base ["_law_e", "_law_told_here", "_law_name", "_law_holds"] "_law_error" (defScope s_Lerror) T.f_Lerror cdv A outer s H E p).nox.pn := List.mem_singleton.mpr rfl
    have ne_BadText : T.C_ListFull ≠ T.C_BadText := fun e => by
      have h1 := T.sub_ListFull_ListFull
      exact nomatch (h1.symm.trans ((congrArg (fun z => PySem.W.subIn K (.ref T.C_ListFull) (.ref z)) e).trans T.sub_ListFull_BadText))
    have ne_BadValue : T.C_ListFull ≠ T.C_BadValue := fun e => by
      have h1 := T.sub_ListFull_ListFull
      exact nomatch (h1.symm.trans ((congrArg (fun z => PySem.W.subIn K (.ref T.C_ListFull) (.ref z)) e).trans T.sub_ListFull_BadValue))
    have ne_NotNow : T.C_ListFull ≠ T.C_NotNow := fun e => by
      have h1 := T.sub_ListFull_ListFull
      exact nomatch (h1.symm.trans ((congrArg (fun z => PySem.W.subIn K (.ref T.C_ListFull) (.ref z)) e).trans T.sub_ListFull_NotNow))
    have ne_NotLet : T.C_ListFull ≠ T.C_NotLet := fun e => by
      have h1 := T.sub_ListFull_ListFull
      exact nomatch (h1.symm.trans ((congrArg (fun z => PySem.W.subIn K (.ref T.C_ListFull) (.ref z)) e).trans T.sub_ListFull_NotLet))
    have ne_FolderFull : T.C_ListFull ≠ T.C_FolderFull := fun e => by
      have h1 := T.sub_ListFull_ListFull
      exact nomatch (h1.symm.trans ((congrArg (fun z => PySem.W.subIn K (.ref T.C_ListFull) (.ref z)) e).trans T.sub_ListFull_FolderFull))
    have ne_NodesFull : T.C_ListFull ≠ T.C_NodesFull := fun e => by
      have h1 := T.sub_ListFull_ListFull
      exact nomatch (h1.symm.trans ((congrArg (fun z => PySem.W.subIn K (.ref T.C_ListFull) (.ref z)) e).trans T.sub_ListFull_NodesFull))
    have ne_BlocksFull : T.C_ListFull ≠ T.C_BlocksFull := fun e => by
      have h1 := T.sub_ListFull_ListFull
      exact nomatch (h1.symm.trans ((congrArg (fun z => PySem.W.subIn K (.ref T.C_ListFull) (.ref z)) e).trans T.sub_ListFull_BlocksFull))
    have ne_TooLong : T.C_ListFull ≠ T.C_TooLong := fun e => by
      have h1 := T.sub_ListFull_ListFull
      exact nomatch (h1.symm.trans ((congrArg (fun z => PySem.W.subIn K (.ref T.C_ListFull) (.ref z)) e).trans T.sub_ListFull_TooLong))
    have ne_Unfinished : T.C_ListFull ≠ T.C_Unfinished := fun e => by
      have h1 := T.sub_ListFull_ListFull
      exact nomatch (h1.symm.trans ((congrArg (fun z => PySem.W.subIn K (.ref T.C_ListFull) (.ref z)) e).trans T.sub_ListFull_Unfinished))
    have ne_NotOnList : T.C_ListFull ≠ T.C_NotOnList := fun e => by
      have h1 := T.sub_ListFull_ListFull
      exact nomatch (h1.symm.trans ((congrArg (fun z => PySem.W.subIn K (.ref T.C_ListFull) (.ref z)) e).trans T.sub_ListFull_NotOnList))
    refine ⟨_, PSs.nox (pss_cons (ps_set (i := 1) sc_Lerror.nd rfl (.inl rfl) (pe_lst pa_nil))
      (pss_cons (L2H.ps_forH PassesOwn.never hc (pi_listH (pe_lst (pa_cons (pe_tup (pa_cons pe_str (pa_cons (pe_callB (call_isP T.ec_ListFull hz hf hp) rfl T.b_isinstance (by decide +kernel) (pa_cons (pv 0) (pa_cons (pe_glob (v := .ref T.C_ListFull) rfl T.mg_ListFull rfl) pa_nil))) pa_nil))) (pa_cons (pe_tup (pa_cons pe_str (pa_cons (pe_callB (call_isP T.ec_ListFull hz hf hp) rfl T.b_isinstance (by decide +kernel) (pa_cons (pv 0) (pa_cons (pe_glob (v := .ref T.C_NodesFull) rfl T.mg_NodesFull rfl) pa_nil))) pa_nil))) (pa_cons (pe_tup (pa_cons pe_str (pa_cons (pe_callB (call_isP T.ec_ListFull hz hf hp) rfl T.b_isinstance (by decide +kernel) (pa_cons (pv 0) (pa_cons (pe_glob (v := .ref T.C_BlocksFull) rfl T.mg_BlocksFull rfl) pa_nil))) pa_nil))) (pa_cons (pe_tup (pa_cons pe_str (pa_cons (pe_callB (call_isP T.ec_ListFull hz hf hp) rfl T.b_isinstance (by decide +kernel) (pa_cons (pv 0) (pa_cons (pe_glob (v := .ref T.C_FolderFull) rfl T.mg_FolderFull rfl) pa_nil))) pa_nil))) (pa_cons (pe_tup (pa_cons pe_str (pa_cons (pe_callB (call_isP T.ec_ListFull hz hf hp) rfl T.b_isinstance (by decide +kernel) (pa_cons (pv 0) (pa_cons (pe_glob (v := .ref T.C_NotOnList) rfl T.mg_NotOnList rfl) pa_nil))) pa_nil))) (pa_cons (pe_tup (pa_cons pe_str (pa_cons (pe_callB (call_isP T.ec_ListFull hz hf hp) rfl T.b_isinstance (by decide +kernel) (pa_cons (pv 0) (pa_cons (pe_glob (v := .ref T.C_Unfinished) rfl T.mg_Unfinished rfl) pa_nil))) pa_nil))) (pa_cons (pe_tup (pa_cons pe_str (pa_cons (pe_callB (call_isP T.ec_ListFull hz hf hp) rfl T.b_isinstance (by decide +kernel) (pa_cons (pv 0) (pa_cons (pe_glob (v := .ref T.C_TooLong) rfl T.mg_TooLong rfl) pa_nil))) pa_nil))) (pa_cons (pe_tup (pa_cons pe_str (pa_cons (pe_callB (call_isP T.ec_ListFull hz hf hp) rfl T.b_isinstance (by decide +kernel) (pa_cons (pv 0) (pa_cons (pe_glob (v := .ref T.C_BadText) rfl T.mg_BadText rfl) pa_nil))) pa_nil))) (pa_cons (pe_tup (pa_cons pe_str (pa_cons (pe_callB (call_isP T.ec_ListFull hz hf hp) rfl T.b_isinstance (by decide +kernel) (pa_cons (pv 0) (pa_cons (pe_glob (v := .ref T.C_BadValue) rfl T.mg_BadValue rfl) pa_nil))) pa_nil))) (pa_cons (pe_tup (pa_cons pe_str (pa_cons (pe_callB (call_isP T.ec_ListFull hz hf hp) rfl T.b_isinstance (by decide +kernel) (pa_cons (pv 0) (pa_cons (pe_glob (v := .ref T.C_NotNow) rfl T.mg_NotNow rfl) pa_nil))) pa_nil))) (pa_cons (pe_tup (pa_cons pe_str (pa_cons (pe_callB (call_isP T.ec_ListFull hz hf hp) rfl T.b_isinstance (by decide +kernel) (pa_cons (pv 0) (pa_cons (pe_glob (v := .ref T.C_NotLet) rfl T.mg_NotLet rfl) pa_nil))) pa_nil))) (pa_cons (pe_tup (pa_cons pe_str (pa_cons (pe_not (pe_callB (call_isP T.ec_ListFull hz hf hp) rfl T.b_isinstance (by decide +kernel) (pa_cons (pv 0) (pa_cons (pe_glob (v := .ref T.C_StoreError) rfl T.mg_StoreError rfl) pa_nil)))) pa_nil))) (pa_cons (pe_tup (pa_cons pe_str (pa_cons (pe_not (pe_callB (call_isP T.ec_ListFull hz hf hp) rfl T.b_isinstance (by decide +kernel) (pa_cons (pv 0) (pa_cons (pe_bltn (v := .ty "ValueError") rfl T.b_ValueError (by decide +kernel) rfl) pa_nil)))) pa_nil))) pa_nil))))))))))))))) (pg_tupH hc (pgs_cons (pg_name (i := 2) sc_Lerror.nd rfl (.inl rfl)) (pgs_cons (pg_name (i := 3) sc_Lerror.nd rfl (.inl rfl)) pgs_nil)))
        (pss_one (ps_if (pt_val (pv 3))
          (pss_one (ps_expr (pe_bm PySem.F.plainAttrs_list PySem.F.slot_list_append PySem.F.type_list_append mt_append (pv 1) (pa_cons (pv 2) pa_nil))))
          pss_nil)))
      (pss_one (ps_ret (pv 1))))), ?_⟩
    refine ⟨Nat.zero_le _, fun q n0 => ?_⟩
    have s0 := same_upd (o := .lst []) n0; have e0 : upd H q (.lst []) q = some (.lst []) := upd_same; generalize upd H q (.lst []) = H0 at s0 e0 ⊢
    refine ⟨_, rfl, _, _, true, rfl, fun u hu => hu, kit_self, (by show 2 ≤ sizeLine; decide), fun t0 n1 => ?_⟩
    have s1 := same_upd (o := .tup [V.str "ListFull", V.bl true]) n1; have e1 : upd H0 t0 (.tup [V.str "ListFull", V.bl true]) t0 = some (.tup [V.str "ListFull", V.bl true]) := upd_same; generalize upd H0 t0 (.tup [V.str "ListFull", V.bl true]) = H1 at s1 e1 ⊢
    refine ⟨_, rfl, _, _, false, rfl, fun u hu => hu, kit_sub ne_NodesFull T.ie_NodesFull T.te_NodesFull T.sub_ListFull_NodesFull, (by show 2 ≤ sizeLine; decide), fun t1 n2 => ?_⟩
    have s2 := same_upd (o := .tup [V.str "NodesFull", V.bl false]) n2; have e2 : upd H1 t1 (.tup [V.str "NodesFull", V.bl false]) t1 = some (.tup [V.str "NodesFull", V.bl false]) := upd_same; generalize upd H1 t1 (.tup [V.str "NodesFull", V.bl false]) = H2 at s2 e2 ⊢
    refine ⟨_, rfl, _, _, false, rfl, fun u hu => hu, kit_sub ne_BlocksFull T.ie_BlocksFull T.te_BlocksFull T.sub_ListFull_BlocksFull, (by show 2 ≤ sizeLine; decide), fun t2 n3 => ?_⟩
    have s3 := same_upd (o := .tup [V.str "BlocksFull", V.bl false]) n3; have e3 : upd H2 t2 (.tup [V.str "BlocksFull", V.bl false]) t2 = some (.tup [V.str "BlocksFull", V.bl false]) := upd_same; generalize upd H2 t2 (.tup [V.str "BlocksFull", V.bl false]) = H3 at s3 e3 ⊢
    refine ⟨_, rfl, _, _, false, rfl, fun u hu => hu, kit_sub ne_FolderFull T.ie_FolderFull T.te_FolderFull T.sub_ListFull_FolderFull, (by show 2 ≤ sizeLine; decide), fun t3 n4 => ?_⟩
    have s4 := same_upd (o := .tup [V.str "FolderFull", V.bl false]) n4; have e4 : upd H3 t3 (.tup [V.str "FolderFull", V.bl false]) t3 = some (.tup [V.str "FolderFull", V.bl false]) := upd_same; generalize upd H3 t3 (.tup [V.str "FolderFull", V.bl false]) = H4 at s4 e4 ⊢
    refine ⟨_, rfl, _, _, false, rfl, fun u hu => hu, kit_sub ne_NotOnList T.ie_NotOnList T.te_NotOnList T.sub_ListFull_NotOnList, (by show 2 ≤ sizeLine; decide), fun t4 n5 => ?_⟩
    have s5 := same_upd (o := .tup [V.str "NotOnList", V.bl false]) n5; have e5 : upd H4 t4 (.tup [V.str "NotOnList", V.bl false]) t4 = some (.tup [V.str "NotOnList", V.bl false]) := upd_same; generalize upd H4 t4 (.tup [V.str "NotOnList", V.bl false]) = H5 at s5 e5 ⊢
    refine ⟨_, rfl, _, _, false, rfl, fun u hu => hu, kit_sub ne_Unfinished T.ie_Unfinished T.te_Unfinished T.sub_ListFull_Unfinished, (by show 2 ≤ sizeLine; decide), fun t5 n6 => ?_⟩
    have s6 := same_upd (o := .tup [V.str "Unfinished", V.bl false]) n6; have e6 : upd H5 t5 (.tup [V.str "Unfinished", V.bl false]) t5 = some (.tup [V.str "Unfinished", V.bl false]) := upd_same; generalize upd H5 t5 (.tup [V.str "Unfinished", V.bl false]) = H6 at s6 e6 ⊢
    refine ⟨_, rfl, _, _, false, rfl, fun u hu => hu, kit_sub ne_TooLong T.ie_TooLong T.te_TooLong T.sub_ListFull_TooLong, (by show 2 ≤ sizeLine; decide), fun t6 n7 => ?_⟩
    have s7 := same_upd (o := .tup [V.str "TooLong", V.bl false]) n7; have e7 : upd H6 t6 (.tup [V.str "TooLong", V.bl false]) t6 = some (.tup [V.str "TooLong", V.bl false]) := upd_same; generalize upd H6 t6 (.tup [V.str "TooLong", V.bl false]) = H7 at s7 e7 ⊢
    refine ⟨_, rfl, _, _, false, rfl, fun u hu => hu, kit_sub ne_BadText T.ie_BadText T.te_BadText T.sub_ListFull_BadText, (by show 2 ≤ sizeLine; decide), fun t7 n8 => ?_⟩
    have s8 := same_upd (o := .tup [V.str "BadText", V.bl false]) n8; have e8 : upd H7 t7 (.tup [V.str "BadText", V.bl false]) t7 = some (.tup [V.str "BadText", V.bl false]) := upd_same; generalize upd H7 t7 (.tup [V.str "BadText", V.bl false]) = H8 at s8 e8 ⊢
    refine ⟨_, rfl, _, _, false, rfl, fun u hu => hu, kit_sub ne_BadValue T.ie_BadValue T.te_BadValue T.sub_ListFull_BadValue, (by show 2 ≤ sizeLine; decide), fun t8 n9 => ?_⟩
    have s9 := same_upd (o := .tup [V.str "BadValue", V.bl false]) n9; have e9 : upd H8 t8 (.tup [V.str "BadValue", V.bl false]) t8 = some (.tup [V.str "BadValue", V.bl false]) := upd_same; generalize upd H8 t8 (.tup [V.str "BadValue", V.bl false]) = H9 at s9 e9 ⊢
    refine ⟨_, rfl, _, _, false, rfl, fun u hu => hu, kit_sub ne_NotNow T.ie_NotNow T.te_NotNow T.sub_ListFull_NotNow, (by show 2 ≤ sizeLine; decide), fun t9 n10 => ?_⟩
    have s10 := same_upd (o := .tup [V.str "NotNow", V.bl false]) n10; have e10 : upd H9 t9 (.tup [V.str "NotNow", V.bl false]) t9 = some (.tup [V.str "NotNow", V.bl false]) := upd_same; generalize upd H9 t9 (.tup [V.str "NotNow", V.bl false]) = H10 at s10 e10 ⊢
    refine ⟨_, rfl, _, _, false, rfl, fun u hu => hu, kit_sub ne_NotLet T.ie_NotLet T.te_NotLet T.sub_ListFull_NotLet, (by show 2 ≤ sizeLine; decide), fun t10 n11 => ?_⟩
    have s11 := same_upd (o := .tup [V.str "NotLet", V.bl false]) n11; have e11 : upd H10 t10 (.tup [V.str "NotLet", V.bl false]) t10 = some (.tup [V.str "NotLet", V.bl false]) := upd_same; generalize upd H10 t10 (.tup [V.str "NotLet", V.bl false]) = H11 at s11 e11 ⊢
    refine ⟨_, rfl, _, _, true, rfl, fun u hu => hu, kit_subT T.ie_StoreError T.te_StoreError T.sub_ListFull_StoreError, _, rfl, (by show 2 ≤ sizeLine; decide), fun t11 n12 => ?_⟩
    have s12 := same_upd (o := .tup [V.str "no StoreError", V.bl (!true)]) n12; have e12 : upd H11 t11 (.tup [V.str "no StoreError", V.bl (!true)]) t11 = some (.tup [V.str "no StoreError", V.bl (!true)]) := upd_same; generalize upd H11 t11 (.tup [V.str "no StoreError", V.bl (!true)]) = H12 at s12 e12 ⊢
    refine ⟨_, rfl, _, _, true, rfl, fun u hu => hu, kit_blt (by decide +kernel) T.bsub_ListFull_ValueError, _, rfl, (by show 2 ≤ sizeLine; decide), fun t12 n13 => ?_⟩
    have s13 := same_upd (o := .tup [V.str "no ValueError", V.bl (!true)]) n13; have e13 : upd H12 t12 (.tup [V.str "no ValueError", V.bl (!true)]) t12 = some (.tup [V.str "no ValueError", V.bl (!true)]) := upd_same; generalize upd H12 t12 (.tup [V.str "no ValueError", V.bl (!true)]) = H13 at s13 e13 ⊢
    refine ⟨by show 13 ≤ sizeLine; decide, fun l nl => ?_⟩
    have sl := same_upd (o := .lst [V.ref t0, V.ref t1, V.ref t2, V.ref t3, V.ref t4, V.ref t5, V.ref t6, V.ref t7, V.ref t8, V.ref t9, V.ref t10, V.ref t11, V.ref t12]) nl; have el : upd H13 l (.lst [V.ref t0, V.ref t1, V.ref t2, V.ref t3, V.ref t4, V.ref t5, V.ref t6, V.ref t7, V.ref t8, V.ref t9, V.ref t10, V.ref t11, V.ref t12]) l = some (.lst [V.ref t0, V.ref t1, V.ref t2, V.ref t3, V.ref t4, V.ref t5, V.ref t6, V.ref t7, V.ref t8, V.ref t9, V.ref t10, V.ref t11, V.ref t12]) := upd_same; generalize upd H13 l (.lst [V.ref t0, V.ref t1, V.ref t2, V.ref t3, V.ref t4, V.ref t5, V.ref t6, V.ref t7, V.ref t8, V.ref t9, V.ref t10, V.ref t11, V.ref t12]) = Hl at sl el ⊢
    have S13 : Same H13 Hl := sl
    have S12 : Same H12 Hl := s13.trans S13
    have S11 : Same H11 Hl := s12.trans S12
    have S10 : Same H10 Hl := s11.trans S11
    have S9 : Same H9 Hl := s10.trans S10
    have S8 : Same H8 Hl := s9.trans S9
    have S7 : Same H7 Hl := s8.trans S8
    have S6 : Same H6 Hl := s7.trans S7
    have S5 : Same H5 Hl := s6.trans S6
    have S4 : Same H4 Hl := s5.trans S5
    have S3 : Same H3 Hl := s4.trans S4
    have S2 : Same H2 Hl := s3.trans S3
    have S1 : Same H1 Hl := s2.trans S2
    have S0 : Same H0 Hl := s1.trans S1
    have SH : Same H Hl := s0.trans S0
    have Q0 : H0 q = some (.lst []) := e0
    have Q1 : H1 q = some (.lst []) := s1 _ _ Q0
    have Q2 : H2 q = some (.lst []) := s2 _ _ Q1
    have Q3 : H3 q = some (.lst []) := s3 _ _ Q2
    have Q4 : H4 q = some (.lst []) := s4 _ _ Q3
    have Q5 : H5 q = some (.lst []) := s5 _ _ Q4
    have Q6 : H6 q = some (.lst []) := s6 _ _ Q5
    have Q7 : H7 q = some (.lst []) := s7 _ _ Q6
    have Q8 : H8 q = some (.lst []) := s8 _ _ Q7
    have Q9 : H9 q = some (.lst []) := s9 _ _ Q8
    have Q10 : H10 q = some (.lst []) := s10 _ _ Q9
    have Q11 : H11 q = some (.lst []) := s11 _ _ Q10
    have Q12 : H12 q = some (.lst []) := s12 _ _ Q11
    have Q13 : H13 q = some (.lst []) := s13 _ _ Q12
    have Ql : Hl q = some (.lst []) := sl _ _ Q13
    have ht : ∀ (i : Nat) (t : V), ([V.ref t0, V.ref t1, V.ref t2, V.ref t3, V.ref t4, V.ref t5, V.ref t6, V.ref t7, V.ref t8, V.ref t9, V.ref t10, V.ref t11, V.ref t12] : List V)[i]? = some t → ∃ ta n b, t = .ref ta ∧ ([("ListFull", true), ("NodesFull", false), ("BlocksFull", false), ("FolderFull", false), ("NotOnList", false), ("Unfinished", false), ("TooLong", false), ("BadText", false), ("BadValue", false), ("NotNow", false), ("NotLet", false), ("no StoreError", false), ("no ValueError", false)] : List (Str × Bool))[i]? = some (n, b) ∧ Hl ta = some (.tup [.str n, .bl b]) ∧ ta ≠ q := by
      intro i t hi
      match i, hi with
      | 0, hi => cases hi; exact ⟨_, _, _, rfl, rfl, S1 _ _ e1, (ne_of_none Q0 n1).symm⟩
      | 1, hi => cases hi; exact ⟨_, _, _, rfl, rfl, S2 _ _ e2, (ne_of_none Q1 n2).symm⟩
      | 2, hi => cases hi; exact ⟨_, _, _, rfl, rfl, S3 _ _ e3, (ne_of_none Q2 n3).symm⟩
      | 3, hi => cases hi; exact ⟨_, _, _, rfl, rfl, S4 _ _ e4, (ne_of_none Q3 n4).symm⟩
      | 4, hi => cases hi; exact ⟨_, _, _, rfl, rfl, S5 _ _ e5, (ne_of_none Q4 n5).symm⟩
      | 5, hi => cases hi; exact ⟨_, _, _, rfl, rfl, S6 _ _ e6, (ne_of_none Q5 n6).symm⟩
      | 6, hi => cases hi; exact ⟨_, _, _, rfl, rfl, S7 _ _ e7, (ne_of_none Q6 n7).symm⟩
      | 7, hi => cases hi; exact ⟨_, _, _, rfl, rfl, S8 _ _ e8, (ne_of_none Q7 n8).symm⟩
      | 8, hi => cases hi; exact ⟨_, _, _, rfl, rfl, S9 _ _ e9, (ne_of_none Q8 n9).symm⟩
      | 9, hi => cases hi; exact ⟨_, _, _, rfl, rfl, S10 _ _ e10, (ne_of_none Q9 n10).symm⟩
      | 10, hi => cases hi; exact ⟨_, _, _, rfl, rfl, S11 _ _ e11, (ne_of_none Q10 n11).symm⟩
      | 11, hi => cases hi; exact ⟨_, _, _, rfl, rfl, S12 _ _ e12, (ne_of_none Q11 n12).symm⟩
      | 12, hi => cases hi; exact ⟨_, _, _, rfl, rfl, S13 _ _ e13, (ne_of_none Q12 n13).symm⟩
      | n + 13, hi => simp at hi
    refine ⟨l, rfl, ⟨_, .of el⟩, for_list (K := K) (a := l) (xs := [V.ref t0, V.ref t1, V.ref t2, V.ref t3, V.ref t4, V.ref t5, V.ref t6, V.ref t7, V.ref t8, V.ref t9, V.ref t10, V.ref t11, V.ref t12]) (fun i σ H' => ∃ (v2 v3 : Option V), σ = [some (.ref p.1), some (.ref q), v2, v3] ∧ H' = upd Hl q (.lst (((([("ListFull", true), ("NodesFull", false), ("BlocksFull", false), ("FolderFull", false), ("NotOnList", false), ("Unfinished", false), ("TooLong", false), ("BadText", false), ("BadValue", false), ("NotNow", false), ("NotLet", false), ("no StoreError", false), ("no ValueError", false)] : List (Str × Bool)).take i).filter (·.2)).map fun x => V.str x.1)))
      ⟨_, _, rfl, (upd_id Ql).symm⟩ (fun i σ H' _ h => ?_) ?_ ?_⟩
    · obtain ⟨v2, v3, _, rfl⟩ := h
      exact .of (by rw [upd_ne (ne_of_none Q13 nl).symm]; exact el)
    · rintro i y σ H' hi ⟨v2, v3, rfl, rfl⟩
      obtain ⟨ta, n, b, rfl, e2, e3, e4⟩ := ht i y hi
      have e3' : upd Hl q (.lst (((([("ListFull", true), ("NodesFull", false), ("BlocksFull", false), ("FolderFull", false), ("NotOnList", false), ("Unfinished", false), ("TooLong", false), ("BadText", false), ("BadValue", false), ("NotNow", false), ("NotLet", false), ("no StoreError", false), ("no ValueError", false)] : List (Str × Bool)).take i).filter (·.2)).map fun x => V.str x.1)) ta = some (.tup [.str n, .bl b]) := by rw [upd_ne e4]; exact e3
      have et := takeB e2
      refine ⟨ta, _, rfl, .of e3', rfl, _, _, rfl, _, _, rfl, rfl, ?_⟩
      refine ⟨_, rfl, b, rfl, ?_⟩
      cases b with
      | true =>
        refine iteT ⟨.ref q, rfl, .inl ⟨rfl, _, .inl (.inl upd_same)⟩, _, rfl, q, _, _, rfl, rfl, upd_same, ?_, ?_⟩
        · rw [List.length_map]; exact small1000 (Nat.le_trans (List.length_filter_le _ _) (Nat.le_trans (List.length_take_le' _ _) (by decide)))
        · refine ⟨_, _, rfl, ?_⟩
          rw [upd_upd, et, List.filter_append, List.map_append]; rfl
      | false =>
        refine iteF ⟨_, _, rfl, ?_⟩
        rw [et, List.filter_append, List.map_append, show List.map (fun x : Str × Bool => V.str x.1) (List.filter (·.2) [(n, false)]) = [] from rfl, List.append_nil]
    · rintro σ H' ⟨v2, v3, rfl, rfl⟩
      have nq := n0
      have SF : Same H (upd Hl q (.lst (((([("ListFull", true), ("NodesFull", false), ("BlocksFull", false), ("FolderFull", false), ("NotOnList", false), ("Unfinished", false), ("TooLong", false), ("BadText", false), ("BadValue", false), ("NotNow", false), ("NotLet", false), ("no StoreError", false), ("no ValueError", false)] : List (Str × Bool)).take 13).filter (·.2)).map fun x => V.str x.1))) := fun x o e => by rw [upd_ne (ne_of_none e nq)]; exact SH _ _ e
      have eq : upd Hl q (.lst (((([("ListFull", true), ("NodesFull", false), ("BlocksFull", false), ("FolderFull", false), ("NotOnList", false), ("Unfinished", false), ("TooLong", false), ("BadText", false), ("BadValue", false), ("NotNow", false), ("NotLet", false), ("no StoreError", false), ("no ValueError", false)] : List (Str × Bool)).take 13).filter (·.2)).map fun x => V.str x.1)) q = some (.lst ((["ListFull"] : List Str).map V.str)) := upd_same
      exact ⟨_, rfl, k _ q SF nq eq⟩
end
end K10
namespace K10
open PySem PySem.Spec PyProof.Rows L2 Rg
section
variable {P : Program} {w : World} {K : PySem.W.Frag} {mg : Str → Option Value} {base : Heap}
def delL (M : List (List Int)) (m : Int) : List Int := (lisL M).filter fun x => !decide (x = m)
def sp_Ldo (CI CP : Addr) : Sp := fun vs H Q _ => ∃ (im : Addr) (A : IA) (v : IV) (b n s deed m : Int), vs = [.ref im, .int deed, .int m] ∧ ImgAt CI CP H im A v b n s ∧
  (deed < 2 → ∀ H', ImgAt CI CP H' im A { v with M := v.M.set 1 (padL (delL v.M m)) } b n s → Kp A.rs H H' → Q .non H') ∧
  (¬ deed < 2 → m ∈ lisL v.M → ∀ H', Same H H' → Q .non H') ∧
  (¬ deed < 2 → m ∉ lisL v.M → (lisL v.M).length = 8 → ∀ H' t q, Same H H' → H' q = some (.lst [.str "ListFull"]) → H' t = some (.tup [.str "refused", .ref q]) → Q (.ref t) H') ∧
  (¬ deed < 2 → m ∉ lisL v.M → (lisL v.M).length ≠ 8 → ∀ H', ImgAt CI CP H' im A { v with M := v.M.set 1 (padL (lisL v.M ++ [m])) } b n s → Kp A.rs H H' → Q .non H')
theorem ok_Ldo (T : Tx K mg) : FnOk P w K mg base CX0 4 T.f_Ldo T.fd_Ldo ["_law_image", "_law_deed", "_law_n"] (sp_Ldo T.C_Image T.C_Plan) := by
  refine T.F_Ldo.ok sc_Ldo (fun vs H Q E h => ?_) (fun cdv A0 outer s H vs Q E hr h => ?_)
  · obtain ⟨_, _, _, _, _, _, _, _, rfl, _⟩ := h; rfl
  · obtain ⟨im, A, v, b, n, sl, deed, m, rfl, I, k1, k2, k3, k4⟩ := h
    have hr2 : Room 2 _ := hr.mono (by decide)
    refine ⟨_, (pss_one (L2N.ps_try_as (i := 3) rfl rfl sc_Ldo.nd rfl rfl ⟨rfl, by decide, .inl T.mg_Refused⟩ takes0N
        (fun W pn xe tk _ => pss_cons (ps_if (pt_cmpR op_lt (pv 1) pe_int (nomark _))
            (pss_one (ps_ret (by exact (pe_call (ok_delist T) hr2 rfl T.mg_delist T.F_delist.kp (b_delist T) .nil pass0 (by exact (pa_cons (pv 0) (pa_cons (pv 2) pa_nil)))))))
            pss_nil)
          (pss_one (ps_ret (by exact (pe_callS (ok_enlist T) hr2 rfl T.mg_enlist T.F_enlist.kp (b_enlist T) (fun σ => L2N.passAt tk σ) (by exact (pa_cons (pv 0) (pa_cons (pv 2) pa_nil))))))))
        (fun a oe cls d pn hz hf => pss_only (cls := cls) (d := d) (D := T.C_ListFull) fun e1 e2 => by
            subst e1
            subst e2
            refine pss_one (ps_ret (pe_tup (pa_cons pe_str (pa_cons (te := tCallE (sp_Lerror ["ListFull"]) a (tCons (tVar 3) tNil)) ?_ pa_nil))))
            exact pe_callE (p := (a, oe)) (ok_Lerror_ListFull T) (L2H.RoomH.mono (j := 1) (k := 3) ⟨hr.dp, hr.un⟩ (by decide)) ⟨rfl, hf.elim fun vs h => ⟨vs, h, hz.2.2 vs h⟩⟩ hz.zc (List.mem_cons_self ..) rfl T.mg_Lerror T.F_Lerror.kp (b_Lerror T) (by exact (pa_cons (pv 3) pa_nil))))), ?_⟩
    refine ⟨_, rfl, _, _, rfl, rfl, _, rfl, ?_⟩
    by_cases hd : deed < 2
    · rw [decide_eq_true hd]
      exact iteT ⟨_, rfl, _, rfl, im, A, v, b, n, sl, m, rfl, I, k1 hd⟩
    · rw [decide_eq_false hd]
      refine iteF ⟨_, rfl, _, rfl, im, A, v, b, n, sl, m, rfl, I, k2 hd, fun hm h8 H' S => ?_, k4 hd⟩
      refine ⟨true, exm_sub T.be_Refused T.ie_Refused T.te_Refused T.sub_ListFull_Refused, fun _ a ha => ?_, fun q => nomatch q⟩
      refine ⟨rfl, rfl, ?_⟩
      refine ⟨_, rfl, rfl, fun H2 q S2 nq eq => ?_⟩
      refine ⟨(by show 2 ≤ sizeLine; decide), fun t nt => ?_⟩
      exact k3 hd hm h8 _ t q ((S.trans S2).trans (same_upd nt)) (same_upd nt _ _ eq) upd_same
end
end K10
namespace K10
open PySem PySem.Spec PyProof.Rows L2 Rg
/-! ### row 1 behind a deed -/
theorem lis_put {M : List (List Int)} {N : List Int} (h : 1 < M.length) (hn : ∀ x ∈ N, x ≠ 0) : lisL (M.set 1 (padL N)) = N := by
  unfold lisL padL
  rw [List.getElem?_set_self h]
  show (N ++ List.replicate (8 - N.length) 0).filter (fun x => x != 0) = N
  rw [List.filter_append, List.filter_replicate]
  have e : N.filter (fun x => x != 0) = N := List.filter_eq_self.mpr fun x hx => by simp [hn x hx]
  rw [e]
  simp
theorem setl_row1 {M : List (List Int)} {r : List Int} {ho st : List Int} {se1 : Int} (hM : M.length = 24) (hst : st.length = 24) (hs : ∀ y ∈ ho, y < se1) :
    setl 24 16 (M.set 1 r) M ho se1 st 24 = if M[1]? = some r then st else st.set 1 se1 := by
  have nh : ∀ y, ho[y]? ≠ some se1 := fun y q => by
    have := hs _ (List.mem_of_getElem? q)
    omega
  have k1 : kindOf 24 16 (M.set 1 r) ((1 : Nat) : Int) ≠ 0 := by
    rw [kindOf_fix (by decide)]
    decide
  apply List.ext_getElem?
  intro y
  by_cases hy : y < 24
  · rw [setl_get (by omega)]
    by_cases e : 1 = y
    · subst e
      by_cases q : M[1]? = some r
      · rw [if_pos q, if_neg]
        rintro ⟨_, z | z⟩
        · exact z.2 (by rw [List.getElem?_set_self (by omega), q])
        · exact nh _ z
      · have hne : (M.set 1 r)[1]? ≠ M[1]? := by
          rw [List.getElem?_set_self (by omega)]
          exact fun z => q z.symm
        rw [if_neg q, if_pos ⟨by decide, .inl ⟨k1, hne⟩⟩]
        exact (List.getElem?_set_self (by omega)).symm
    · rw [if_neg]
      · split
        · rfl
        · rw [List.getElem?_set_ne e]
      · rintro ⟨_, z | z⟩
        · exact z.2 (by rw [List.getElem?_set_ne e])
        · exact nh _ z
  · rw [List.getElem?_eq_none (by rw [setl_len]; omega)]
    split
    · rw [List.getElem?_eq_none (by omega)]
    · rw [List.getElem?_eq_none (by rw [List.length_set]; omega)]
theorem set_same {M : List (List Int)} {r : List Int} (h : M[1]? = some r) : M.set 1 r = M := by
  apply List.ext_getElem?
  intro i
  by_cases e : 1 = i
  · subst e
    rw [List.getElem?_set_self (List.getElem?_eq_some_iff.mp h).1, h]
  · rw [List.getElem?_set_ne e]
/-! ### one image, what the law keeps of it, its list -/
structure Us where
  (im : Addr) (A : IA) (v : IV) (k : KA) (l : Addr)
def Us.ft (u : Us) : List Addr := u.im :: u.A.st :: u.A.rs
def Us.rd (u : Us) : List Addr := u.A.reads u.im ++ u.k.all ++ [u.l]
structure Uok (CI CP : Addr) (H : Hp) (u : Us) : Prop where
  I : ImgAt CI CP H u.im u.A u.v 24 16 30
  K : Kd H u.k u.v.M u.v.ho u.v.st u.v.se
  L : H u.l = some (.lst ((lisL u.v.M).map V.int))
  hd : u.v.hd = []
  ho : ∀ y ∈ u.v.ho, y ≤ 1
  se : 1 ≤ u.v.se
  r1 : u.v.M[1]? = some (padL (lisL u.v.M))
  own : ∀ x ∈ u.ft, x ∉ u.k.all ∧ x ≠ u.l
section
variable {CI CP : Addr} {H H' : Hp} {u o : Us}
theorem Uok.keep (U : Uok CI CP H u) (h : ∀ x o, x ∈ u.rd → H x = some o → H' x = some o) : Uok CI CP H' u :=
  { U with I := U.I.keepF fun x o hx e => h x o (by simp [Us.rd, hx]) e, K := U.K.keep fun x o hx e => h x o (by simp [Us.rd, hx]) e, L := h _ _ (by simp [Us.rd]) U.L }
theorem Uok.same (U : Uok CI CP H u) (h : Same H H') : Uok CI CP H' u := U.keep fun _ _ _ e => h _ _ e
theorem Uok.held (U : Uok CI CP H u) {x : Addr} (h : x ∈ u.rd) : ∃ o, H x = some o := by
  simp only [Us.rd, List.mem_append, List.mem_singleton] at h
  rcases h with (h | h) | rfl
  · exact U.I.held h
  · exact U.K.held h
  · exact ⟨_, U.L⟩
theorem ft_rd {x : Addr} (h : x ∈ u.ft) : x ∈ u.rd := by
  simp only [Us.ft, List.mem_cons] at h
  simp only [Us.rd, IA.reads, List.mem_append, List.mem_cons]
  rcases h with rfl | rfl | h
  · simp
  · simp
  · exact .inl (.inl (by simp [h]))
theorem Uok.at24 (U : Uok CI CP H u) : u.v.M.length = 24 ∧ u.v.ho.length = 24 ∧ u.v.st.length = 24 := by
  have d0 := U.I.d0
  have d2 := U.I.d2
  have d3 := U.I.d3
  exact ⟨by omega, by omega, by omega⟩
/-- the plan, the barred blocks, the handles are none of what deeds write -/
theorem ft_shape (I : ImgAt CI CP H u.im u.A u.v 24 16 30) {x : Addr} (h : x ∈ u.ft) : (∃ xs, H x = some (.lst xs)) ∨ x = u.im := by
  simp only [Us.ft, List.mem_cons] at h
  rcases h with rfl | rfl | h
  · exact .inr rfl
  · exact .inl ⟨_, I.st⟩
  · obtain ⟨i, hi, e⟩ := List.getElem_of_mem h
    have hm : i < u.v.M.length := by rw [← I.gr.len]; exact hi
    exact .inl ⟨_, I.gr.row i x _ (by rw [List.getElem?_eq_getElem hi, e]) (List.getElem?_eq_getElem hm)⟩
theorem ft_pl (I : ImgAt CI CP H u.im u.A u.v 24 16 30) : u.A.pl ∉ u.ft := fun z => by
  obtain ⟨dxp, hpl⟩ := I.pl.ob
  rcases ft_shape I z with ⟨xs, e⟩ | e
  · rw [hpl] at e; cases e
  · rw [e, I.ob] at hpl
    have := (HO.ins.inj (Option.some.inj hpl)).2.2
    simp [planF, imgF] at this
theorem ft_ba (I : ImgAt CI CP H u.im u.A u.v 24 16 30) : u.A.ba ∉ u.ft := fun z => by
  have hb := I.ba
  rcases ft_shape I z with ⟨xs, e⟩ | e
  · rw [hb] at e; cases e
  · rw [e, I.ob] at hb; cases hb
end
/-- two of them, in the law's three lists -/
def ord (w : Nat) (a b : V) : List V := if w = 0 then [a, b] else [b, a]
structure Two (CI CP : Addr) (H : Hp) (c3 c5 c6 : Addr) (w : Nat) (u o : Us) : Prop where
  U : Uok CI CP H u
  O : Uok CI CP H o
  h3 : H c3 = some (.lst (ord w (.ref u.im) (.ref o.im)))
  h5 : H c5 = some (.lst (ord w (.ref u.k.p) (.ref o.k.p)))
  h6 : H c6 = some (.lst (ord w (.ref u.l) (.ref o.l)))
  auo : ∀ x ∈ u.ft, x ∉ o.rd
  aou : ∀ x ∈ o.ft, x ∉ u.rd
  n35 : c3 ≠ c5
  n36 : c3 ≠ c6
  n56 : c5 ≠ c6
  cu : ∀ x ∈ u.rd, x ≠ c3 ∧ x ≠ c5 ∧ x ≠ c6
  co : ∀ x ∈ o.rd, x ≠ c3 ∧ x ≠ c5 ∧ x ≠ c6
theorem ord_swap {w : Nat} (h : w = 0 ∨ w = 1) (a b : V) : ord (1 - w) b a = ord w a b := by rcases h with rfl | rfl <;> rfl
theorem ord_at {w : Nat} (h : w = 0 ∨ w = 1) (a b : V) : (ord w a b)[w]? = some a := by rcases h with rfl | rfl <;> rfl
theorem ord_at' {w : Nat} (h : w = 0 ∨ w = 1) (a b : V) : (ord w a b)[1 - w]? = some b := by rcases h with rfl | rfl <;> rfl
theorem ord_set {w : Nat} (h : w = 0 ∨ w = 1) (a b c : V) : (ord w a b).set w c = ord w c b := by rcases h with rfl | rfl <;> rfl
theorem ord_set' {w : Nat} (h : w = 0 ∨ w = 1) (a b c : V) : (ord w a b).set (1 - w) c = ord w a c := by rcases h with rfl | rfl <;> rfl
theorem ord_len {w : Nat} (a b : V) : (ord w a b).length = 2 := by unfold ord; split <;> rfl
section
variable {CI CP : Addr} {H H' : Hp} {c3 c5 c6 : Addr} {w : Nat} {u o : Us}
theorem Two.swap (T : Two CI CP H c3 c5 c6 w u o) (h : w = 0 ∨ w = 1) : Two CI CP H c3 c5 c6 (1 - w) o u :=
  { U := T.O, O := T.U, h3 := by rw [ord_swap h]; exact T.h3, h5 := by rw [ord_swap h]; exact T.h5, h6 := by rw [ord_swap h]; exact T.h6, auo := T.aou, aou := T.auo, n35 := T.n35, n36 := T.n36, n56 := T.n56, cu := T.co, co := T.cu }
theorem Two.same (T : Two CI CP H c3 c5 c6 w u o) (h : Same H H') : Two CI CP H' c3 c5 c6 w u o :=
  { T with U := T.U.same h, O := T.O.same h, h3 := h _ _ T.h3, h5 := h _ _ T.h5, h6 := h _ _ T.h6 }
/-- a twin takes the other's place -/
theorem Two.twin (T : Two CI CP H c3 c5 c6 w u o) (hw : w = 0 ∨ w = 1) {H1 H2 : Hp} {im' l' : Addr} {A' : IA} (S1 : Same H H1) (nim : H im' = none) (I' : ImgAt CI CP H1 im' A' u.v 24 16 30) (N : A'.New H) (ep : A'.pl = u.A.pl) (eb : A'.ba = u.A.ba)
    (nl : H1 l' = none) (hl : Same (upd (upd H1 c3 (.lst (ord w (.ref u.im) (.ref im')))) c5 (.lst (ord w (.ref u.k.p) (.ref u.k.p)))) H2) (el : H2 l' = some (.lst ((lisL u.v.M).map V.int))) :
    Two CI CP (upd H2 c6 (.lst (ord w (.ref u.l) (.ref l')))) c3 c5 c6 w u ⟨im', A', u.v, u.k, l'⟩ := by
  have hc : ∀ x o, x ≠ c3 → x ≠ c5 → x ≠ c6 → H1 x = some o → upd H2 c6 (.lst (ord w (.ref u.l) (.ref l'))) x = some o := fun x o a b c e => by
    rw [upd_ne c]
    exact hl _ _ (by rw [upd_ne b, upd_ne a]; exact e)
  have held : ∀ {x}, x ∈ u.rd → ∃ o, H x = some o := fun h => T.U.held h
  have nr : ∀ x ∈ A'.reads im', H x = none ∨ x = u.A.pl ∨ x = u.A.ba := fun x hx => by
    simp only [IA.reads, List.mem_cons] at hx
    rcases hx with rfl | rfl | rfl | rfl | rfl | rfl | rfl | h
    · exact .inl nim
    · exact .inr (.inl ep)
    · exact .inl N.ca
    · exact .inl N.ho
    · exact .inl N.st
    · exact .inl N.hd
    · exact .inr (.inr eb)
    · exact .inl (N.rs _ h)
  have nf : ∀ x ∈ (Us.mk im' A' u.v u.k l').ft, H x = none := fun x hx => by
    simp only [Us.ft, List.mem_cons] at hx
    rcases hx with rfl | rfl | h
    · exact nim
    · exact N.st
    · exact N.rs _ h
  have nl0 : H l' = none := S1.free nl
  have c3h := T.h3
  have c5h := T.h5
  have c6h := T.h6
  have plr : u.A.pl ∈ u.rd := by simp [Us.rd, IA.reads]
  have bar : u.A.ba ∈ u.rd := by simp [Us.rd, IA.reads]
  have cr : ∀ x, (H x = none ∨ x ∈ u.rd) → x ≠ c3 ∧ x ≠ c5 ∧ x ≠ c6 := fun x hx => by
    rcases hx with e | e
    · exact ⟨(ne_of_none c3h e).symm, (ne_of_none c5h e).symm, (ne_of_none c6h e).symm⟩
    · exact T.cu x e
  have ccr : ∀ x ∈ A'.reads im', x ≠ c3 ∧ x ≠ c5 ∧ x ≠ c6 := fun x hx => by
    rcases nr x hx with e | e | e
    · exact cr x (.inl e)
    · rw [e]; exact cr _ (.inr plr)
    · rw [e]; exact cr _ (.inr bar)
  have I'' : ImgAt CI CP (upd H2 c6 (.lst (ord w (.ref u.l) (.ref l')))) im' A' u.v 24 16 30 := I'.keepF fun x o hx e => (ccr x hx).elim fun a b => hc x o a b.1 b.2 e
  have krd : ∀ x ∈ u.k.all, x ∈ u.rd := fun x hx => by simp [Us.rd, hx]
  refine { U := (T.U.same S1).keep fun x o hx e => (T.cu x hx).elim fun a b => hc x o a b.1 b.2 e, O := ⟨I'', ?_, ?_, T.U.hd, T.U.ho, T.U.se, T.U.r1, ?_⟩, h3 := ?_, h5 := ?_, h6 := upd_same, auo := ?_, aou := ?_, n35 := T.n35, n36 := T.n36, n56 := T.n56, cu := T.cu, co := ?_ }
  · exact (T.U.K.same S1).keep fun x o hx e => (T.cu x (krd x hx)).elim fun a b => hc x o a b.1 b.2 e
  · rw [upd_ne (cr l' (.inl nl0)).2.2]
    exact el
  · intro x hx
    refine ⟨fun z => ?_, fun z => ?_⟩
    · obtain ⟨o', e⟩ := held (krd x z)
      rw [nf x hx] at e
      cases e
    · have hx' : x ∈ im' :: A'.st :: A'.rs := hx
      obtain ⟨o', e⟩ : ∃ o, H1 x = some o := I'.held (by
        simp only [List.mem_cons] at hx'
        simp only [IA.reads, List.mem_cons]
        rcases hx' with e | e | e
        · simp [e]
        · simp [e]
        · simp [e])
      have z' : x = l' := z
      rw [z', nl] at e
      cases e
  · rw [upd_ne T.n36]
    exact hl _ _ (by rw [upd_ne T.n35, upd_same])
  · rw [upd_ne T.n56]
    exact hl _ _ upd_same
  · intro x hx z
    obtain ⟨q, e⟩ := held (ft_rd hx)
    simp only [Us.rd, List.mem_append, List.mem_singleton] at z
    rcases z with (z | z) | z
    · rcases nr x z with f | f | f
      · rw [f] at e; cases e
      · rw [f] at hx; exact ft_pl T.U.I hx
      · rw [f] at hx; exact ft_ba T.U.I hx
    · exact (T.U.own x hx).1 z
    · have z' : x = l' := z
      rw [z', nl0] at e
      cases e
  · intro x hx z
    obtain ⟨q, e⟩ := held z
    rw [nf x hx] at e
    cases e
  · intro x hx
    simp only [Us.rd, List.mem_append, List.mem_singleton] at hx
    rcases hx with (z | z) | z
    · exact ccr x z
    · exact cr x (.inr (krd x z))
    · rw [z]; exact cr _ (.inl nl0)
end
end K10
namespace K10
open PySem PySem.Spec PyProof.Rows L2 Rg
def dueV (v : IV) (N' : List Int) : IV := { v with M := v.M.set 1 (padL N'), st := dueSt v.M N' v.st v.se, se := v.se + 1, wi := 0, ba := [] }
section
variable {CI CP : Addr} {H H' : Hp} {c3 c5 c6 : Addr} {w : Nat} {u o : Us}
theorem Two.deed (T : Two CI CP H c3 c5 c6 w u o) (hw : w = 0 ∨ w = 1) {t l' : Addr} {N' : List Int} {k' : KA} {H5 H6 H8 : Hp} (ht : H t = none) (hN : N'.length ≤ 8) (hn : ∀ x ∈ N', x ≠ 0) (k5 : Kp u.ft H H5)
    (I5 : ImgAt CI CP H5 u.im { u.A with ba := t } (dueV u.v N') 24 16 30) (S6 : Same H5 H6) (nl : H5 l' = none) (el : H6 l' = some (.lst (N'.map V.int))) (S8 : Same (upd H6 c6 (.lst (ord w (.ref l') (.ref o.l)))) H8)
    (nk : ∀ x ∈ k'.all, upd H6 c6 (.lst (ord w (.ref l') (.ref o.l))) x = none ∨ x ∈ u.k.all) (K8 : Kd H8 k' (dueV u.v N').M u.v.ho (dueV u.v N').st (u.v.se + 1)) :
    Two CI CP (upd H8 c5 (.lst (ord w (.ref k'.p) (.ref o.k.p)))) c3 c5 c6 w ⟨u.im, { u.A with ba := t }, dueV u.v N', k', l'⟩ o := by
  have eft : (Us.mk u.im { u.A with ba := t } (dueV u.v N') k' l').ft = u.ft := rfl
  have hM : 1 < u.v.M.length := by rw [T.U.at24.1]; decide
  have lis' : lisL (dueV u.v N').M = N' := lis_put hM hn
  -- what stands apart of u's own is kept
  have out5 : ∀ x q, H x = some q → x ∉ u.ft → H5 x = some q := fun x q e n => k5 x q e n
  have out : ∀ x q, H5 x = some q → x ≠ c5 → x ≠ c6 → upd H8 c5 (.lst (ord w (.ref k'.p) (.ref o.k.p))) x = some q := fun x q e n5 n6 => by
    rw [upd_ne n5]
    exact S8 _ _ (by rw [upd_ne n6]; exact S6 _ _ e)
  have cft : ∀ c, (c = c3 ∨ c = c5 ∨ c = c6) → c ∉ u.ft := fun c hc z => by
    obtain ⟨a1, a2, a3⟩ := T.cu c (ft_rd z)
    rcases hc with e | e | e
    · exact a1 e
    · exact a2 e
    · exact a3 e
  have h53 := out5 _ _ T.h3 (cft _ (.inl rfl))
  have h55 := out5 _ _ T.h5 (cft _ (.inr (.inl rfl)))
  have h56 := out5 _ _ T.h6 (cft _ (.inr (.inr rfl)))
  have l3 : l' ≠ c3 := (ne_of_none h53 nl).symm
  have l5 : l' ≠ c5 := (ne_of_none h55 nl).symm
  have l6 : l' ≠ c6 := (ne_of_none h56 nl).symm
  have t3 : t ≠ c3 := (ne_of_none T.h3 ht).symm
  have t5 : t ≠ c5 := (ne_of_none T.h5 ht).symm
  have t6 : t ≠ c6 := (ne_of_none T.h6 ht).symm
  have rd2 : ∀ x ∈ ({ u.A with ba := t } : IA).reads u.im, x ∈ u.A.reads u.im ∨ x = t := fun x hx => by
    simp only [IA.reads, List.mem_cons] at hx ⊢
    rcases hx with e | e | e | e | e | e | e | e
    · exact .inl (by simp [e])
    · exact .inl (by simp [e])
    · exact .inl (by simp [e])
    · exact .inl (by simp [e])
    · exact .inl (by simp [e])
    · exact .inl (by simp [e])
    · exact .inr e
    · exact .inl (by simp [e])
  have c2 : ∀ x ∈ ({ u.A with ba := t } : IA).reads u.im, x ≠ c3 ∧ x ≠ c5 ∧ x ≠ c6 := fun x hx => by
    rcases rd2 x hx with e | e
    · exact T.cu x (by simp [Us.rd, e])
    · rw [e]; exact ⟨t3, t5, t6⟩
  have held7 : ∀ x q, H5 x = some q → ∃ q, upd H6 c6 (.lst (ord w (.ref l') (.ref o.l))) x = some q := fun x q e => by
    by_cases z : x = c6
    · rw [z]; exact ⟨_, upd_same⟩
    · exact ⟨q, by rw [upd_ne z]; exact S6 _ _ e⟩
  have ck : ∀ x ∈ k'.all, x ≠ c3 ∧ x ≠ c5 ∧ x ≠ c6 := fun x hx => by
    rcases nk x hx with e | e
    · have f : ∀ c q, H5 c = some q → x ≠ c := fun c q eq z => by
        obtain ⟨q', e'⟩ := held7 c q eq
        rw [z, e'] at e
        cases e
      exact ⟨f _ _ h53, f _ _ h55, f _ _ h56⟩
    · exact T.cu x (by simp [Us.rd, e])
  have ohe : ∀ x ∈ o.rd, ∀ q, H x = some q → H5 x = some q := fun x hx q e => out5 x q e fun z => T.auo x z hx
  have uhe : ∀ x ∈ u.ft, ∃ q, H5 x = some q := fun x hx => I5.held (by
    simp only [Us.ft, List.mem_cons] at hx
    simp only [IA.reads, List.mem_cons]
    rcases hx with e | e | e
    · simp [e]
    · simp [e]
    · simp [e])
  have kU : Kd (upd H8 c5 (.lst (ord w (.ref k'.p) (.ref o.k.p)))) k' (dueV u.v N').M u.v.ho (dueV u.v N').st (u.v.se + 1) := K8.keep fun x q hx e => (by rw [upd_ne (ck x hx).2.1]; exact e)
  have kI : ImgAt CI CP (upd H8 c5 (.lst (ord w (.ref k'.p) (.ref o.k.p)))) u.im { u.A with ba := t } (dueV u.v N') 24 16 30 := I5.keepF fun x q hx e => (c2 x hx).elim fun _ b => out x q e b.1 b.2
  refine { U := ⟨kI, kU, ?_, T.U.hd, T.U.ho, ?_, ?_, fun x hx => ⟨fun z => ?_, fun z => ?_⟩⟩, O := T.O.keep fun x q hx e => (T.co x hx).elim fun _ b => out x q (ohe x hx q e) b.1 b.2, h3 := ?_, h5 := upd_same, h6 := ?_, auo := T.auo, aou := fun x hx z => ?_, n35 := T.n35, n36 := T.n36, n56 := T.n56, cu := fun x hx => ?_, co := T.co }
  · show upd H8 c5 _ l' = some (.lst ((lisL (dueV u.v N').M).map V.int))
    rw [lis', upd_ne l5]
    exact S8 _ _ (by rw [upd_ne l6]; exact el)
  · have := T.U.se
    show 1 ≤ u.v.se + 1
    omega
  · show (u.v.M.set 1 (padL N'))[1]? = some (padL (lisL (dueV u.v N').M))
    rw [lis', List.getElem?_set_self hM]
  · rcases nk x z with e | e
    · obtain ⟨q, e1⟩ := uhe x hx
      obtain ⟨q', e2⟩ := held7 x q e1
      rw [e2] at e
      cases e
    · exact (T.U.own x hx).1 e
  · obtain ⟨q, e1⟩ := uhe x hx
    have z' : x = l' := z
    rw [z', nl] at e1
    cases e1
  · exact out _ _ h53 T.n35 T.n36
  · rw [upd_ne T.n56.symm]
    exact S8 _ _ upd_same
  · obtain ⟨q, e0⟩ := T.O.held (ft_rd hx)
    have e5 := ohe x (ft_rd hx) q e0
    simp only [Us.rd, List.mem_append, List.mem_singleton] at z
    rcases z with (z | z) | z
    · rcases rd2 x z with e | e
      · exact T.aou x hx (by simp [Us.rd, e])
      · rw [e, ht] at e0; cases e0
    · rcases nk x z with e | e
      · obtain ⟨q', e2⟩ := held7 x q e5
        rw [e2] at e; cases e
      · exact T.aou x hx (by simp [Us.rd, e])
    · have z' : x = l' := z
      rw [z', nl] at e5
      cases e5
  · simp only [Us.rd, List.mem_append, List.mem_singleton] at hx
    rcases hx with (z | z) | z
    · exact c2 x z
    · exact ck x z
    · rw [z]; exact ⟨l3, l5, l6⟩
/-- what a deed leaves is what is due -/
theorem due_eq {v : IV} {N' : List Int} {b2 : List Int} (hM : v.M.length = 24) (hst : v.st.length = 24) (ho : ∀ y ∈ v.ho, y ≤ 1) (se : 1 ≤ v.se) :
    ({ ({ v with se := v.se + 1, wi := 0, ba := [], M := v.M.set 1 (padL N') } : IV) with st := setl 24 16 (v.M.set 1 (padL N')) v.M v.ho (v.se + 1) v.st 24 } : IV) = dueV v N' := by
  unfold dueV dueSt
  rw [setl_row1 hM hst (fun y hy => by have := ho y hy; omega)]
theorem beh_len {N : List Int} {deed m : Int} (h : N.length ≤ 8) : (behV N deed m).length ≤ 8 := by
  unfold behV
  split
  · exact Nat.le_trans (List.length_filter_le _ _) h
  · split
    · exact h
    · rename_i z
      rw [List.length_append]
      simp only [List.length_cons, List.length_nil]
      have : N.length ≠ 8 := fun e => z (.inr e)
      omega
theorem beh_ne {N : List Int} {deed m : Int} (h : ∀ x ∈ N, x ≠ 0) (hm : m ≠ 0) : ∀ x ∈ behV N deed m, x ≠ 0 := fun x hx => by
  unfold behV at hx
  split at hx
  · exact h x (List.mem_filter.mp hx).1
  · split at hx
    · exact h x hx
    · rcases List.mem_append.mp hx with e | e
      · exact h x e
      · rw [List.mem_singleton.mp e]; exact hm
theorem lis_ne {M : List (List Int)} : ∀ x ∈ lisL M, x ≠ 0 := fun x hx => by
  have := (List.mem_filter.mp hx).2
  simpa using this
end
/-! ### the law's states, compared -/
def dK (M : List (List Int)) (ho st : List Int) (se : Int) : PyData := .list [dG M, dI ho, dI st, .list [], .int se]
theorem Kd.dp {K : PySem.W.Frag} {H : Hp} {k : KA} {M : List (List Int)} {ho st : List Int} {se : Int} (D : Kd H k M ho st se) : Dp K H (.ref k.p) (dK M ho st se) :=
  .lst (.of D.p) (.cons (dpG D.c) (.cons (dpI D.h) (.cons (dpI D.s) (.cons (.lst (.of D.d) .nil) (.cons (.int _) .nil)))))
def dK4 (M : List (List Int)) (ho st : List Int) : PyData := .list [dG M, dI ho, dI st, .list []]
theorem Kd.dp4 {K : PySem.W.Frag} {H : Hp} {k : KA} {M : List (List Int)} {ho st : List Int} {se : Int} {p : Addr} (D : Kd H k M ho st se) (h : H p = some (.lst [.ref k.c, .ref k.h, .ref k.s, .ref k.d])) : Dp K H (.ref p) (dK4 M ho st) :=
  .lst (.of h) (.cons (dpG D.c) (.cons (dpI D.h) (.cons (dpI D.s) (.cons (.lst (.of D.d) .nil) .nil))))
theorem canK {M : List (List Int)} {ho st : List Int} {se : Int} : PyData.canLay0 (dK M ho st se) = true := by
  show (PyData.canLayAll0 (M.map dI) && (PyData.canLayAll0 (ho.map PyData.int) && (PyData.canLayAll0 (st.map PyData.int) && true))) = true
  rw [canG, canI, canI]
  rfl
theorem canK4 {M : List (List Int)} {ho st : List Int} : PyData.canLay0 (dK4 M ho st) = true := by
  show (PyData.canLayAll0 (M.map dI) && (PyData.canLayAll0 (ho.map PyData.int) && (PyData.canLayAll0 (st.map PyData.int) && true))) = true
  rw [canG, canI, canI]
  rfl
theorem shK {M : List (List Int)} {ho st : List Int} {se : Int} : SeqAt.shaped (dK M ho st se) = true := by
  unfold SeqAt.shaped
  rw [Bool.and_eq_true]
  refine ⟨canK, decide_eq_true ?_⟩
  show max (PyData.depthAll (M.map dI) + 1) (max (PyData.depthAll (ho.map PyData.int) + 1) (max (PyData.depthAll (st.map PyData.int) + 1) (max (0 + 1) (max 0 0)))) + 1 ≤ 64
  rw [depI, depI]
  have := depG M
  omega
theorem shK4 {M : List (List Int)} {ho st : List Int} : SeqAt.shaped (dK4 M ho st) = true := by
  unfold SeqAt.shaped
  rw [Bool.and_eq_true]
  refine ⟨canK4, decide_eq_true ?_⟩
  show max (PyData.depthAll (M.map dI) + 1) (max (PyData.depthAll (ho.map PyData.int) + 1) (max (PyData.depthAll (st.map PyData.int) + 1) (max (0 + 1) 0))) + 1 ≤ 64
  rw [depI, depI]
  have := depG M
  omega
theorem eqvK {M : List (List Int)} {ho st : List Int} {se : Int} : PyData.eqv (dK M ho st se) (dK M ho st se) = true := SeqAt.eqv_refl _ canK
theorem eqvK4 {M : List (List Int)} {ho st : List Int} : PyData.eqv (dK4 M ho st) (dK4 M ho st) = true := SeqAt.eqv_refl _ canK4
/-- two states of the same cells read alike -/
theorem Kd.sm {H : Hp} {k k' : KA} {M : List (List Int)} {ho st : List Int} {se : Int} (D : Kd H k M ho st se) (D' : Kd H k' M ho st se) (h1 : M.length < 1000) (h2 : ∀ m ∈ M, m.length < 1000) (h3 : ho.length < 1000) (h4 : st.length < 1000) : Sm H 3 (.ref k.p) (.ref k'.p) := by
  refine .inr ⟨k.p, k'.p, _, _, rfl, rfl, .inl ⟨D.p, D'.p⟩, rfl, (by show 5 < 1000; decide), fun i x y e1 e2 => ?_⟩
  match i, e1, e2 with
  | 0, e1, e2 =>
    cases e1
    cases e2
    refine .inr ⟨k.c, k'.c, _, _, rfl, rfl, .inl ⟨D.c.out, D'.c.out⟩, by rw [List.length_map, List.length_map, D.c.len, D'.c.len], by rw [List.length_map, D'.c.len]; exact h1, fun j x y f1 f2 => ?_⟩
    rw [List.getElem?_map] at f1 f2
    obtain ⟨r, hr, rfl⟩ := Option.map_eq_some_iff.mp f1
    obtain ⟨r', hr', rfl⟩ := Option.map_eq_some_iff.mp f2
    have hj : j < M.length := by rw [← D.c.len]; exact (List.getElem?_eq_some_iff.mp hr).1
    exact smI (D.c.row j r _ hr (List.getElem?_eq_getElem hj)) (D'.c.row j r' _ hr' (List.getElem?_eq_getElem hj)) (h2 _ (List.getElem_mem hj)) 0
  | 1, e1, e2 => cases e1; cases e2; exact smI D.h D'.h h3 1
  | 2, e1, e2 => cases e1; cases e2; exact smI D.s D'.s h4 1
  | 3, e1, e2 =>
    cases e1
    cases e2
    exact .inr ⟨k.d, k'.d, [], [], rfl, rfl, .inl ⟨D.d, D'.d⟩, rfl, by decide, fun j x y f1 _ => by cases f1⟩
  | 4, e1, e2 => cases e1; cases e2; exact Sm.int
  | n + 5, e1, _ => cases e1
end K10
namespace K10
open PySem PySem.Spec PyProof.Rows L2 Rg
section
variable {CI CP : Addr} {H H' : Hp} {c3 c5 c6 : Addr} {w : Nat} {u o : Us}
theorem rd_deed {t l' : Addr} {v' : IV} {k' : KA} : ∀ x ∈ (Us.mk u.im { u.A with ba := t } v' k' l').rd, x ∈ u.rd ∨ x = t ∨ x ∈ k'.all ∨ x = l' := fun x hx => by
  simp only [Us.rd, List.mem_append, List.mem_singleton] at hx
  rcases hx with (z | z) | z
  · simp only [IA.reads, List.mem_cons] at z
    have h : ∀ y, y ∈ u.A.reads u.im → y ∈ u.rd := fun y hy => by simp [Us.rd, hy]
    rcases z with e | e | e | e | e | e | e | e
    · exact .inl (h _ (by simp [IA.reads, e]))
    · exact .inl (h _ (by simp [IA.reads, e]))
    · exact .inl (h _ (by simp [IA.reads, e]))
    · exact .inl (h _ (by simp [IA.reads, e]))
    · exact .inl (h _ (by simp [IA.reads, e]))
    · exact .inl (h _ (by simp [IA.reads, e]))
    · exact .inr (.inl e)
    · exact .inl (h _ (by simp [IA.reads, e]))
  · exact .inr (.inr (.inl z))
  · exact .inr (.inr (.inr z))
theorem rd_twin {im' l' : Addr} {A' : IA} {v' : IV} (nim : H im' = none) (N : A'.New H) (ep : A'.pl = u.A.pl) (eb : A'.ba = u.A.ba) : ∀ x ∈ (Us.mk im' A' v' u.k l').rd, x ∈ u.rd ∨ H x = none ∨ x = l' := fun x hx => by
  simp only [Us.rd, List.mem_append, List.mem_singleton] at hx
  rcases hx with (z | z) | z
  · simp only [IA.reads, List.mem_cons] at z
    have h : ∀ y, y ∈ u.A.reads u.im → y ∈ u.rd := fun y hy => by simp [Us.rd, hy]
    rcases z with e | e | e | e | e | e | e | e
    · exact .inr (.inl (by rw [e]; exact nim))
    · exact .inl (h _ (by simp [IA.reads, e, ep]))
    · exact .inr (.inl (by rw [e]; exact N.ca))
    · exact .inr (.inl (by rw [e]; exact N.ho))
    · exact .inr (.inl (by rw [e]; exact N.st))
    · exact .inr (.inl (by rw [e]; exact N.hd))
    · exact .inl (h _ (by simp [IA.reads, e, eb]))
    · exact .inr (.inl (N.rs _ e))
  · exact .inl (by simp [Us.rd, z])
  · exact .inr (.inr z)
/-- the moves stand apart -/
structure Mv (H : Hp) (p c3 c5 c6 : Addr) (ts : List Addr) (u o : Us) : Prop where
  hp : H p = some (.lst (ts.map V.ref))
  ht : ∀ t ∈ ts, TupM H t
  pu : p ∉ u.rd
  po : p ∉ o.rd
  p3 : p ≠ c3
  p5 : p ≠ c5
  p6 : p ≠ c6
theorem TupM.keep {t : Addr} (h : TupM H t) (k : ∀ o, H t = some o → H' t = some o) : TupM H' t :=
  let ⟨a, b, c, e, r⟩ := h
  ⟨a, b, c, k _ e, r⟩
theorem TupM.put {t c : Addr} {xs ys : List V} (h : TupM H t) (hc : H c = some (.lst xs)) : TupM (upd H c (.lst ys)) t :=
  h.keep fun o e => by
    obtain ⟨a, b, d, e', _⟩ := h
    rw [upd_ne (ne_of e' hc (by intro z; cases z))]
    exact e
theorem Mv.same {p : Addr} {ts : List Addr} (M : Mv H p c3 c5 c6 ts u o) (h : Same H H') : Mv H' p c3 c5 c6 ts u o := { M with hp := h _ _ M.hp, ht := fun t ht => (M.ht t ht).keep fun _ e => h _ _ e }
theorem Mv.swap {p : Addr} {ts : List Addr} (M : Mv H p c3 c5 c6 ts u o) : Mv H p c3 c5 c6 ts o u := { M with pu := M.po, po := M.pu }
/-- kept where the image's own places change -/
theorem ft_tup (I : ImgAt CI CP H u.im u.A u.v 24 16 30) {t : Addr} (h : TupM H t) : t ∉ u.ft := fun z => by
  obtain ⟨a, b, d, e', _⟩ := h
  rcases ft_shape I z with ⟨xs, e⟩ | e
  · rw [e'] at e; cases e
  · rw [e, I.ob] at e'; cases e'
theorem Mv.kp {p : Addr} {ts : List Addr} (M : Mv H p c3 c5 c6 ts u o) (I : ImgAt CI CP H u.im u.A u.v 24 16 30) (k : Kp u.ft H H') : H' p = some (.lst (ts.map V.ref)) ∧ ∀ t ∈ ts, TupM H' t :=
  ⟨k _ _ M.hp fun z => M.pu (ft_rd z), fun t ht => (M.ht t ht).keep fun _ e => k _ _ e (ft_tup I (M.ht t ht))⟩
end
section
variable {P : Program} {w_ : World} {K : PySem.W.Frag} {mg : Str → Option Value} {base : Heap}
/-- both ends: states read as due, lists told -/
theorem look_st {X : Cx} {CI CP : Addr} {H H' : Hp} {c3 c5 c6 : Addr} {w : Nat} {u o : Us} {k : KA} (T : Two CI CP H c3 c5 c6 w u o) (S : Same H H') (D : Kd H' k u.v.M u.v.ho u.v.st u.v.se) : Dp X.K H' (.ref k.p) (dK u.v.M u.v.ho u.v.st u.v.se) ∧ Dp X.K H' (.ref u.k.p) (dK u.v.M u.v.ho u.v.st u.v.se) := ⟨D.dp, (T.U.K.same S).dp⟩
end
/-! ### the start -/
def V0 : IV := ⟨frR, List.replicate 21 1 ++ List.replicate 3 0, List.replicate 21 1 ++ List.replicate 3 0, [], 1, 0, []⟩
theorem v0_fresh : ofV 24 16 (freshM 24 16) (24 : Int).toNat = V0 := by
  unfold ofV V0
  have e1 : ofM 24 16 (freshM 24 16) (24 : Int).toNat = frR := by decide +kernel
  have e2 : ofH 24 16 (freshM 24 16) (24 : Int).toNat = List.replicate 21 1 ++ List.replicate 3 0 := by decide +kernel
  rw [e1, e2]
theorem v0_cells : ofV 24 16 frR (24 : Int).toNat = V0 := by
  unfold ofV V0
  have e1 : ofM 24 16 frR (24 : Int).toNat = frR := by decide +kernel
  have e2 : ofH 24 16 frR (24 : Int).toNat = List.replicate 21 1 ++ List.replicate 3 0 := by decide +kernel
  rw [e1, e2]
theorem fr_len : (frR.length : Int) = 24 ∧ ∀ m ∈ frR, m.length = 8 := by
  have h : frR.length = 24 ∧ frR.all (fun m => decide (m.length = 8)) = true := by decide +kernel
  refine ⟨by rw [h.1]; rfl, fun m hm => ?_⟩
  have := List.all_eq_true.mp h.2 m hm
  exact of_decide_eq_true this
theorem v0_lis : lisL V0.M = [] := by
  show lisL frR = []
  decide +kernel
theorem v0_r1 : V0.M[1]? = some (padL (lisL V0.M)) := by
  rw [v0_lis]
  show frR[1]? = some (padL [])
  decide +kernel
theorem v0_ho : ∀ y ∈ V0.ho, y ≤ 1 := by
  show ∀ y ∈ (List.replicate 21 (1 : Int) ++ List.replicate 3 0), y ≤ 1
  decide
end K10
namespace K10
open PySem PySem.Spec PyProof.Rows L2 Rg
section
variable {P : Program} {w_ : World} {K : PySem.W.Frag} {mg : Str → Option Value} {base : Heap}
def sp_law (K : PySem.W.Frag) : Sp := fun vs H Q _ => ∃ (a : Addr) (ns : List Int), vs = [.ref a] ∧ SqL K H a (ns.map V.int) ∧ ns.length ≤ 63 ∧ ∀ H', Q (.bl true) H'
theorem ok_law (T : Tx K mg) : FnOk P w_ K mg base CX0 7 T.f_law T.fd_law ["_law_script"] (sp_law K) := by
  refine T.F_law.ok sc_law (fun vs H Q E h => ?_) (fun cdv A0_ outer s H vs Q E hr h => ?_)
  · obtain ⟨_, _, rfl, _⟩ := h; rfl
  · obtain ⟨a, ns, rfl, hS, hlen, k⟩ := h
    have hr1 : Room 1 _ := hr.mono (by decide)
    have hr2 : Room 2 _ := hr.mono (by decide)
    have hr3 : Room 3 _ := hr.mono (by decide)
    have hr4 : Room 4 _ := hr.mono (by decide)
    have hr5 : Room 5 _ := hr.mono (by decide)
    refine ⟨_, (pss_cons (ps_set (i := 1) sc_law.nd rfl (.inl rfl) (pe_call (ok_Lfeed T) hr1 rfl T.mg_Lfeed T.F_Lfeed.kp (b_Lfeed T) .nil pass0 (pa_cons (pv 0) pa_nil)))
      (pss_cons (ps_set (i := 2) sc_law.nd rfl (.inl rfl) (pe_makeK T.mk_Plan (ok_Plan_init T) hr2 rfl T.mg_Plan (kb_Plan T) pass0 (pa_cons pe_int pa_nil) (pk_cons pe_int (pk_cons pe_int pk_nil))))
      (pss_cons (ps_set (i := 3) sc_law.nd rfl (.inl rfl) (pe_lst (pa_cons (pe_smeth T.mg_Image T.cr_Image T.sm_Image_fresh (ok_fresh T) hr4 (b_Image_fresh T) .nil pass0 (pa_cons (pv 2) pa_nil)) (pa_cons (pe_smeth T.mg_Image T.cr_Image T.sm_Image_of_cells (ok_of_cells T) hr3 (b_Image_of_cells T) .nil pass0 (pa_cons (pv 2) (pa_cons (pe_call0 (ok_Lfresh T) hr1 rfl T.mg_Lfresh T.F_Lfresh.kp (b_Lfresh T) .nil pass0) pa_nil))) pa_nil))))
      (pss_cons (ps_set (i := 4) sc_law.nd rfl (.inl rfl) (pe_op op_cat (pe_op op_rep (pe_lst (pa_cons pe_int pa_nil)) pe_int) (pe_op op_rep (pe_lst (pa_cons pe_int pa_nil)) pe_int)))
      (pss_cons (ps_set (i := 5) sc_law.nd rfl (.inl rfl) (pe_lst (pa_cons (pe_lst (pa_cons (pe_call0 (ok_Lfresh T) hr1 rfl T.mg_Lfresh T.F_Lfresh.kp (b_Lfresh T) .nil pass0) (pa_cons (pv 4) (pa_cons (pv 4) (pa_cons (pe_lst pa_nil) (pa_cons pe_int pa_nil)))))) (pa_cons (pe_lst (pa_cons (pe_call0 (ok_Lfresh T) hr1 rfl T.mg_Lfresh T.F_Lfresh.kp (b_Lfresh T) .nil pass0) (pa_cons (pv 4) (pa_cons (pv 4) (pa_cons (pe_lst pa_nil) (pa_cons pe_int pa_nil)))))) pa_nil))))
      (pss_cons (ps_set (i := 6) sc_law.nd rfl (.inl rfl) (pe_lst (pa_cons (pe_lst pa_nil) (pa_cons (pe_lst pa_nil) pa_nil))))
      (pss_cons (ps_for PassesOwn.never rfl (pi_list (pe_call (ok_Lmoves T) hr2 rfl T.mg_Lmoves T.F_Lmoves.kp (b_Lmoves T) .nil pass0 (pa_cons (pv 1) pa_nil))) (pg_tup rfl (pgs_cons (pg_name (i := 7) sc_law.nd rfl (.inl rfl)) (pgs_cons (pg_name (i := 8) sc_law.nd rfl (.inl rfl)) (pgs_cons (pg_name (i := 9) sc_law.nd rfl (.inl rfl)) pgs_nil))))
        (pss_cons (ps_set (i := 10) sc_law.nd rfl (.inl rfl) (pe_ix ix_list (pv 3) (pv 7) (fun _ _ => rfl)))
        (Evl.pss_cut (ps_if (pt_cmpR op_eq (pv 8) pe_int (nomark _))
          (pss_cons (ps_asg (pe_meth0 (pv 10) T.cl_Image T.m_Image_twin (ok_twin T) hr3 (b_Image_twin T) .nil pass0) (pg_sub (pv 3) (pe_op op_sub pe_int (pv 7)) set_list))
          (pss_cons (ps_asg (pe_ix ix_list (pv 5) (pv 7) (fun _ _ => rfl)) (pg_sub (pv 5) (pe_op op_sub pe_int (pv 7)) set_list))
          (pss_one (ps_asg (pe_listof (K := K) (pe_ix ix_list (pv 6) (pv 7) (fun _ _ => rfl)) T.b_list) (pg_sub (pv 6) (pe_op op_sub pe_int (pv 7)) set_list)))))
          (pss_cons (ps_set (i := 11) sc_law.nd rfl (.inl rfl) (pe_meth0 (pv 10) T.cl_Image T.m_Image_twin (ok_twin T) hr3 (b_Image_twin T) .nil pass0))
          (Evl.pss_cut (ps_set (i := 12) sc_law.nd rfl (.inl rfl) (pe_and (pe_cmpR op_gt (pv 8) pe_int (nomark _)) (pe_and (pe_cmpR op_notIn_seq (pv 9) (pe_ix ix_list (pv 6) (pv 7) (fun _ _ => rfl)) rfl) (pe_one (pe_cmpR op_eq (pe_callB call_len_seq rfl T.b_len (by decide +kernel) (pa_cons (pe_ix ix_list (pv 6) (pv 7) (fun _ _ => rfl)) pa_nil)) pe_int (nomark _))))))
          (pss_cons (ps_expr (pe_meth (pv 10) T.cl_Image T.m_Image_begin (ok_begin T) hr1 (b_Image_begin T) .nil pass0 (pa_cons pe_int (pa_cons (pe_tup pa_nil) pa_nil))))
          (Evl.pss_cut (ps_set (i := 13) sc_law.nd rfl (.inl rfl) (pe_call (ok_Ldo T) hr4 rfl T.mg_Ldo T.F_Ldo.kp (b_Ldo T) .nil pass0 (pa_cons (pv 10) (pa_cons (pv 8) (pa_cons (pv 9) pa_nil)))))
          (Evl.pss_cut (ps_if (PW.pt (pw_and (pt_val (pv 12)) (pw_and1 (pt_not (pt_val (pe_call (ok_Lsame T 2) hr4 rfl T.mg_Lsame T.F_Lsame.kp (b_Lsame T) .nil pass0 (pa_cons (pv 13) (pa_cons (pe_tup (pa_cons pe_str (pa_cons (pe_lst (pa_cons pe_str pa_nil)) pa_nil))) pa_nil))))))))
            (pss_one (ps_ret pe_bl))
            pss_nil)
          (Evl.pss_cut (ps_if (PW.pt (pw_and (pt_not (pt_val (pv 12))) (pw_and1 (pt_cmpR op_notN (pv 13) pe_non (nomark _)))))
            (pss_one (ps_ret pe_bl))
            pss_nil)
          (Evl.pss_cut (ps_if (PW.pt (pw_and (pt_val (pv 12)) (pw_and1 (pt_cmpR (op_neD hr.units) (pe_slice sl_list (pe_call (ok_Lstate T) hr1 rfl T.mg_Lstate T.F_Lstate.kp (b_Lstate T) .nil pass0 (pa_cons (pv 10) pa_nil)) po_none (po_some pe_int)) (pe_slice sl_list (pe_ix ix_list (pv 5) (pv 7) (fun _ _ => rfl)) po_none (po_some pe_int)) (nomark _)))))
            (pss_one (ps_ret pe_bl))
            pss_nil)
          (pss_cons (ps_expr (pe_meth (pv 10) T.cl_Image T.m_Image_settle (ok_settle T) hr3 (b_Image_settle T) .nil pass0 (pa_cons (pv 11) pa_nil)))
          (pss_cons (ps_asg (pe_call (ok_Lbehind T) hr1 rfl T.mg_Lbehind T.F_Lbehind.kp (b_Lbehind T) .nil pass0 (pa_cons (pe_ix ix_list (pv 6) (pv 7) (fun _ _ => rfl)) (pa_cons (pv 8) (pa_cons (pv 9) pa_nil)))) (pg_sub (pv 6) (pv 7) set_list))
          (pss_one (ps_asg (pe_call (ok_Ldue T) hr1 rfl T.mg_Ldue T.F_Ldue.kp (b_Ldue T) .nil pass0 (pa_cons (pe_ix ix_list (pv 5) (pv 7) (fun _ _ => rfl)) (pa_cons (pe_ix ix_list (pv 6) (pv 7) (fun _ _ => rfl)) pa_nil))) (pg_sub (pv 5) (pv 7) set_list)))))))))))))
        (pss_one (ps_for PassesOwn.never rfl (pi_range1 rfl T.b_range (pa_cons pe_int pa_nil)) (pg_name (i := 14) sc_law.nd rfl (.inl rfl))
          (pss_one (ps_if (PW.pt (pw_or (pt_cmpR (op_neD hr.units) (pe_call (ok_Lstate T) hr1 rfl T.mg_Lstate T.F_Lstate.kp (b_Lstate T) .nil pass0 (pa_cons (pe_ix ix_list (pv 3) (pv 14) (fun _ _ => rfl)) pa_nil)) (pe_ix ix_list (pv 5) (pv 14) (fun _ _ => rfl)) (nomark _)) (pw_or1 (pt_not (pt_val (pe_call (ok_Ltold T) hr4 rfl T.mg_Ltold T.F_Ltold.kp (b_Ltold T) .nil pass0 (pa_cons (pe_ix ix_list (pv 3) (pv 14) (fun _ _ => rfl)) (pa_cons (pe_ix ix_list (pv 6) (pv 14) (fun _ _ => rfl)) pa_nil))))))))
            (pss_one (ps_ret pe_bl))
            pss_nil)))))))
      (pss_one (ps_ret (pe_and (pe_call (ok_Lsame T 3) hr5 rfl T.mg_Lsame T.F_Lsame.kp (b_Lsame T) .nil pass0 (pa_cons (pe_call (ok_Lstate T) hr1 rfl T.mg_Lstate T.F_Lstate.kp (b_Lstate T) .nil pass0 (pa_cons (pe_ix ix_list (pv 3) pe_int (fun _ _ => rfl)) pa_nil)) (pa_cons (pe_ix ix_list (pv 5) pe_int (fun _ _ => rfl)) pa_nil))) (pe_one (pe_call (ok_Lsame T 3) hr5 rfl T.mg_Lsame T.F_Lsame.kp (b_Lsame T) .nil pass0 (pa_cons (pe_call (ok_Lstate T) hr1 rfl T.mg_Lstate T.F_Lstate.kp (b_Lstate T) .nil pass0 (pa_cons (pe_ix ix_list (pv 3) pe_int (fun _ _ => rfl)) pa_nil)) (pa_cons (pe_ix ix_list (pv 5) pe_int (fun _ _ => rfl)) pa_nil)))))))))))))), ?_⟩
    refine ⟨_, rfl, a, ns, rfl, hS, hlen, fun H1 fa f1 S1 nfa efa lfs => ?_⟩
    refine ⟨rfl, rfl, fun px pdx npx npdx ned => ?_⟩
    refine ⟨px, pdx, 24, 16, 30, rfl, upd_same, by decide, by decide, by decide, by decide, by decide, by decide, by decide, rfl, ?_⟩
    have Pl : PlanAt T.C_Plan (upd (upd (upd H1 pdx (.own px)) px (.ins T.C_Plan pdx [])) px (.ins T.C_Plan pdx (planF 24 16 30))) px 24 16 30 :=
      ⟨⟨pdx, upd_same⟩, by decide, by decide, by decide, by decide, by decide, by decide, by decide⟩
    have Fp : (upd (upd (upd H1 pdx (.own px)) px (.ins T.C_Plan pdx [])) px (.ins T.C_Plan pdx (planF 24 16 30))) fa = some (.lst (f1.map V.int)) := by
      have a1 : fa ≠ px := ne_of_none efa npx
      have a2 : fa ≠ pdx := ne_of_none efa npdx
      rw [upd_ne a1, upd_ne a1, upd_ne a2]
      exact efa
    generalize upd (upd (upd H1 pdx (.own px)) px (.ins T.C_Plan pdx [])) px (.ins T.C_Plan pdx (planF 24 16 30)) = H2 at Pl Fp ⊢
    -- the images
    refine ⟨_, rfl, px, 24, 16, 30, rfl, Pl, fun H3 im0 A0 S3 nim0 I0 N0 eA0 => ?_⟩
    refine ⟨_, rfl, rfl, fun H4 D qs G4 => ?_⟩
    have S4 := G4.same
    refine ⟨px, D, qs, frR, 24, 16, 30, rfl, (Pl.same S3).same S4, G4.grid, fr_len.1, fr_len.2, fun H5 im1 A1 S5 nim1 I1 N1 eA1 => ?_⟩
    rw [v0_fresh] at I0
    rw [v0_cells] at I1
    refine ⟨(by show 2 ≤ sizeLine; decide), fun c3 nc3 => ?_⟩
    have s6 := same_upd (o := .lst [V.ref im0, V.ref im1]) nc3
    have e3 : upd H5 c3 (.lst [V.ref im0, V.ref im1]) c3 = some (.lst [V.ref im0, V.ref im1]) := upd_same
    generalize upd H5 c3 (.lst [V.ref im0, V.ref im1]) = H6 at s6 e3 ⊢
    -- [1] * 21 + [0] * 3
    refine ⟨(by show 1 ≤ sizeLine; decide), fun q1 nq1 => ?_⟩
    refine ⟨q1, 21, _, rfl, rfl, upd_same, by decide, by decide, (by show 1 * 21 ≤ sizeLine; decide), fun q2 nq2 => ?_⟩
    refine ⟨(by show 1 ≤ sizeLine; decide), fun q3 nq3 => ?_⟩
    refine ⟨q3, 3, _, rfl, rfl, upd_same, by decide, by decide, (by show 1 * 3 ≤ sizeLine; decide), fun q4 nq4 => ?_⟩
    refine ⟨q2, q4, _, _, rfl, rfl, same_upd nq4 _ _ (same_upd nq3 _ _ upd_same), upd_same, (by show 21 + 3 ≤ sizeLine; decide), fun he nhe => ?_⟩
    have sh : Same H6 (upd (upd (upd (upd H6 q1 (.lst [V.int 1])) q2 (.lst (List.replicate (21 : Int).toNat [V.int 1]).flatten)) q3 (.lst [V.int 0])) q4 (.lst (List.replicate (3 : Int).toNat [V.int 0]).flatten)) :=
      (((same_upd nq1).trans (same_upd nq2)).trans (same_upd nq3)).trans (same_upd nq4)
    have nhe6 := sh.free nhe
    have sh2 := sh.trans (same_upd (o := .lst ((List.replicate (21 : Int).toNat [V.int 1]).flatten ++ (List.replicate (3 : Int).toNat [V.int 0]).flatten)) nhe)
    have ehe : upd (upd (upd (upd (upd H6 q1 (.lst [V.int 1])) q2 (.lst (List.replicate (21 : Int).toNat [V.int 1]).flatten)) q3 (.lst [V.int 0])) q4 (.lst (List.replicate (3 : Int).toNat [V.int 0]).flatten)) he (.lst ((List.replicate (21 : Int).toNat [V.int 1]).flatten ++ (List.replicate (3 : Int).toNat [V.int 0]).flatten)) he = some (.lst (V0.ho.map V.int)) := upd_same
    generalize upd (upd (upd (upd (upd H6 q1 (.lst [V.int 1])) q2 (.lst (List.replicate (21 : Int).toNat [V.int 1]).flatten)) q3 (.lst [V.int 0])) q4 (.lst (List.replicate (3 : Int).toNat [V.int 0]).flatten)) he (.lst ((List.replicate (21 : Int).toNat [V.int 1]).flatten ++ (List.replicate (3 : Int).toNat [V.int 0]).flatten)) = Hh at sh2 ehe ⊢
    -- what is kept
    refine ⟨rfl, fun H8 D0 qs0 G8 => ?_⟩
    refine ⟨_, rfl, _, rfl, Nat.zero_le _, fun d0 nd0 => ?_⟩
    have s9 := same_upd (o := .lst []) nd0
    have ed0 : upd H8 d0 (.lst []) d0 = some (.lst []) := upd_same
    generalize upd H8 d0 (.lst []) = H9 at s9 ed0 ⊢
    refine ⟨(by show 5 ≤ sizeLine; decide), fun p0 np0 => ?_⟩
    have s10 := same_upd (o := .lst [V.ref D0, V.ref he, V.ref he, V.ref d0, V.int 1]) np0
    have ep0 : upd H9 p0 (.lst [V.ref D0, V.ref he, V.ref he, V.ref d0, V.int 1]) p0 = some (.lst [V.ref D0, V.ref he, V.ref he, V.ref d0, V.int 1]) := upd_same
    generalize upd H9 p0 (.lst [V.ref D0, V.ref he, V.ref he, V.ref d0, V.int 1]) = H10 at s10 ep0 ⊢
    refine ⟨rfl, fun H11 D1 qs1 G11 => ?_⟩
    refine ⟨_, rfl, _, rfl, Nat.zero_le _, fun d1 nd1 => ?_⟩
    have s12 := same_upd (o := .lst []) nd1
    have ed1 : upd H11 d1 (.lst []) d1 = some (.lst []) := upd_same
    generalize upd H11 d1 (.lst []) = H12 at s12 ed1 ⊢
    refine ⟨(by show 5 ≤ sizeLine; decide), fun p1 np1 => ?_⟩
    have s13 := same_upd (o := .lst [V.ref D1, V.ref he, V.ref he, V.ref d1, V.int 1]) np1
    have ep1 : upd H12 p1 (.lst [V.ref D1, V.ref he, V.ref he, V.ref d1, V.int 1]) p1 = some (.lst [V.ref D1, V.ref he, V.ref he, V.ref d1, V.int 1]) := upd_same
    generalize upd H12 p1 (.lst [V.ref D1, V.ref he, V.ref he, V.ref d1, V.int 1]) = H13 at s13 ep1 ⊢
    refine ⟨(by show 2 ≤ sizeLine; decide), fun c5 nc5 => ?_⟩
    have s14 := same_upd (o := .lst [V.ref p0, V.ref p1]) nc5
    have e5 : upd H13 c5 (.lst [V.ref p0, V.ref p1]) c5 = some (.lst [V.ref p0, V.ref p1]) := upd_same
    generalize upd H13 c5 (.lst [V.ref p0, V.ref p1]) = H14 at s14 e5 ⊢
    refine ⟨Nat.zero_le _, fun l0 nl0 => ?_⟩
    have s15 := same_upd (o := .lst []) nl0
    have el0 : upd H14 l0 (.lst []) l0 = some (.lst []) := upd_same
    generalize upd H14 l0 (.lst []) = H15 at s15 el0 ⊢
    refine ⟨Nat.zero_le _, fun l1 nl1 => ?_⟩
    have s16 := same_upd (o := .lst []) nl1
    have el1 : upd H15 l1 (.lst []) l1 = some (.lst []) := upd_same
    generalize upd H15 l1 (.lst []) = H16 at s16 el1 ⊢
    refine ⟨(by show 2 ≤ sizeLine; decide), fun c6 nc6 => ?_⟩
    have s17 := same_upd (o := .lst [V.ref l0, V.ref l1]) nc6
    have e6 : upd H16 c6 (.lst [V.ref l0, V.ref l1]) c6 = some (.lst [V.ref l0, V.ref l1]) := upd_same
    generalize upd H16 c6 (.lst [V.ref l0, V.ref l1]) = H17 at s17 e6 ⊢
    -- who was there when
    have t17_16 := s17
    have t17_15 := s16.trans s17
    have t17_14 := s15.trans t17_15
    have t17_13 := s14.trans t17_14
    have t17_12 := s13.trans t17_13
    have t17_11 := s12.trans t17_12
    have t17_10 := G11.same.trans t17_11
    have t17_9 := s10.trans t17_10
    have t17_8 := s9.trans t17_9
    have t17_h := G8.same.trans t17_8
    have t17_6 := sh2.trans t17_h
    have t17_5 := s6.trans t17_6
    have t17_4 := S5.trans t17_5
    have t17_3 := S4.trans t17_4
    have t17_2 := S3.trans t17_3
    -- none at H6 : all that is born later
    have f6h := sh2
    have f6_8 := f6h.trans G8.same
    have f6_9 := f6_8.trans s9
    have f6_10 := f6_9.trans s10
    have f6_11 := f6_10.trans G11.same
    have f6_12 := f6_11.trans s12
    have f6_13 := f6_12.trans s13
    have f6_14 := f6_13.trans s14
    have f6_15 := f6_14.trans s15
    have f6_16 := f6_15.trans s16
    let u0 : Us := ⟨im0, A0, V0, ⟨p0, D0, he, he, d0, qs0⟩, l0⟩
    let u1 : Us := ⟨im1, A1, V0, ⟨p1, D1, he, he, d1, qs1⟩, l1⟩
    have kn0 : ∀ x ∈ u0.k.all, H6 x = none := fun x hx => by
      simp only [u0, KA.all, List.mem_cons] at hx
      rcases hx with rfl | rfl | rfl | rfl | rfl | hx
      · exact f6_9.free np0
      · exact f6h.free G8.freshD
      · exact nhe6
      · exact nhe6
      · exact f6_8.free nd0
      · exact f6h.free (G8.fresh _ hx)
    have kn1 : ∀ x ∈ u1.k.all, H6 x = none := fun x hx => by
      simp only [u1, KA.all, List.mem_cons] at hx
      rcases hx with rfl | rfl | rfl | rfl | rfl | hx
      · exact f6_12.free np1
      · exact f6_10.free G11.freshD
      · exact nhe6
      · exact nhe6
      · exact f6_11.free nd1
      · exact f6_10.free (G11.fresh _ hx)
    have ln0 : H6 l0 = none := f6_14.free nl0
    have ln1 : H6 l1 = none := f6_15.free nl1
    have K0 : Kd H17 u0.k V0.M V0.ho V0.st V0.se := ⟨t17_10 _ _ ep0, G8.grid.same t17_8, t17_h _ _ ehe, t17_h _ _ ehe, t17_9 _ _ ed0⟩
    have K1 : Kd H17 u1.k V0.M V0.ho V0.st V0.se := ⟨t17_13 _ _ ep1, G11.grid.same t17_11, t17_h _ _ ehe, t17_h _ _ ehe, t17_12 _ _ ed1⟩
    have I0' := I0.keep t17_3
    have I1' := I1.keep t17_5
    have J0 := I0.keep (S4.trans S5)
    have h5 : ∀ x, x ∈ u0.A.reads u0.im ∨ x ∈ u1.A.reads u1.im → ∃ o, H5 x = some o := fun x hx => hx.elim (fun h => J0.held h) fun h => I1.held h
    have sep : ∀ {Hq : Hp} {x y : Addr}, (∃ o, Hq x = some o) → Hq y = none → x ≠ y := fun {Hq x y} h1 h2 z => by
      obtain ⟨o, e⟩ := h1
      rw [z, h2] at e
      cases e
    have h6 : ∀ x, x ∈ u0.A.reads u0.im ∨ x ∈ u1.A.reads u1.im → ∃ o, H6 x = some o := fun x hx => (h5 x hx).elim fun o e => ⟨o, s6 _ _ e⟩
    have ftr : ∀ (u : Us) x, x ∈ u.ft → x ∈ u.A.reads u.im := fun u x hx => by
      simp only [Us.ft, List.mem_cons] at hx
      simp only [IA.reads, List.mem_cons]
      rcases hx with e | e | e
      · simp [e]
      · simp [e]
      · simp [e]
    have cno : ∀ u : Us, (∀ x ∈ u.k.all, H6 x = none) → H6 u.l = none → (∀ x, x ∈ u.A.reads u.im → ∃ o, H5 x = some o) → (∀ x ∈ u.k.all, ∃ o, H13 x = some o) → H14 u.l = none → (∃ o, H16 u.l = some o) → ∀ x ∈ u.rd, x ≠ c3 ∧ x ≠ c5 ∧ x ≠ c6 := fun u a b c d e f x hx => by
      have f5_13 := s6.trans f6_13
      have f5_16 := s6.trans f6_16
      simp only [Us.rd, List.mem_append, List.mem_singleton] at hx
      rcases hx with (z | z) | z
      · obtain ⟨o, e1⟩ := c x z
        exact ⟨sep ⟨o, e1⟩ nc3, sep ⟨o, f5_13 _ _ e1⟩ nc5, sep ⟨o, f5_16 _ _ e1⟩ nc6⟩
      · obtain ⟨o, e1⟩ := d x z
        exact ⟨(sep ⟨_, e3⟩ (a x z)).symm, sep ⟨o, e1⟩ nc5, sep ⟨o, s16 _ _ (s15 _ _ (s14 _ _ e1))⟩ nc6⟩
      · rw [z]
        exact ⟨(sep ⟨_, e3⟩ b).symm, (sep ⟨_, e5⟩ e).symm, sep f nc6⟩
    have kh0 : ∀ x ∈ u0.k.all, ∃ o, H13 x = some o := fun x hx => by
      have D : Kd H13 u0.k V0.M V0.ho V0.st V0.se := ⟨s13 _ _ (s12 _ _ (G11.same _ _ ep0)), G8.grid.same (((s9.trans s10).trans G11.same).trans (s12.trans s13)), s13 _ _ (s12 _ _ (G11.same _ _ (s10 _ _ (s9 _ _ (G8.same _ _ ehe))))), s13 _ _ (s12 _ _ (G11.same _ _ (s10 _ _ (s9 _ _ (G8.same _ _ ehe))))), s13 _ _ (s12 _ _ (G11.same _ _ (s10 _ _ ed0)))⟩
      exact D.held hx
    have kh1 : ∀ x ∈ u1.k.all, ∃ o, H13 x = some o := fun x hx => by
      have D : Kd H13 u1.k V0.M V0.ho V0.st V0.se := ⟨ep1, G11.grid.same (s12.trans s13), s13 _ _ (s12 _ _ (G11.same _ _ (s10 _ _ (s9 _ _ (G8.same _ _ ehe))))), s13 _ _ (s12 _ _ (G11.same _ _ (s10 _ _ (s9 _ _ (G8.same _ _ ehe))))), s13 _ _ ed1⟩
      exact D.held hx
    have own0 : ∀ x ∈ u0.ft, x ∉ u0.k.all ∧ x ≠ u0.l := fun x hx => ⟨fun z => sep (h6 x (.inl (ftr u0 x hx))) (kn0 x z) rfl, fun z => sep (h6 x (.inl (ftr u0 x hx))) ln0 z⟩
    have own1 : ∀ x ∈ u1.ft, x ∉ u1.k.all ∧ x ≠ u1.l := fun x hx => ⟨fun z => sep (h6 x (.inr (ftr u1 x hx))) (kn1 x z) rfl, fun z => sep (h6 x (.inr (ftr u1 x hx))) ln1 z⟩
    have n1 : ∀ x ∈ u1.A.reads u1.im, H4 x = none ∨ x = px ∨ ∃ xs, H5 x = some (.tup xs) := fun x hx => by
      simp only [IA.reads, List.mem_cons] at hx
      rcases hx with e | e | e | e | e | e | e | e
      · exact .inl (by rw [e]; exact nim1)
      · exact .inr (.inl (by rw [e]; exact eA1))
      · exact .inl (by rw [e]; exact N1.ca)
      · exact .inl (by rw [e]; exact N1.ho)
      · exact .inl (by rw [e]; exact N1.st)
      · exact .inl (by rw [e]; exact N1.hd)
      · exact .inr (.inr (by rw [e]; exact ⟨_, I1.ba⟩))
      · exact .inl (N1.rs _ e)
    have two17 : Two T.C_Image T.C_Plan H17 c3 c5 c6 0 u0 u1 := by
      refine { U := ⟨I0', K0, t17_15 _ _ (by rw [v0_lis]; exact el0), rfl, v0_ho, (by show (1 : Int) ≤ 1; decide), v0_r1, own0⟩, O := ⟨I1', K1, t17_16 _ _ (by rw [v0_lis]; exact el1), rfl, v0_ho, (by show (1 : Int) ≤ 1; decide), v0_r1, own1⟩, h3 := t17_6 _ _ e3, h5 := t17_14 _ _ e5, h6 := e6, auo := fun x hx z => ?_, aou := fun x hx z => ?_, n35 := sep ⟨_, f6_13 _ _ e3⟩ nc5, n36 := sep ⟨_, f6_16 _ _ e3⟩ nc6, n56 := sep ⟨_, s16 _ _ (s15 _ _ e5)⟩ nc6, cu := ?_, co := ?_ }
      · simp only [Us.rd, List.mem_append, List.mem_singleton] at z
        have h4x : ∃ o, H4 x = some o := (I0.keep S4).held (ftr u0 x hx)
        rcases z with (z | z) | z
        · rcases n1 x z with e | e | ⟨xs, e⟩
          · exact sep h4x e rfl
          · refine ft_pl (u := u0) J0 ?_
            rw [show u0.A.pl = px from eA0, ← e]
            exact hx
          · rcases ft_shape (u := u0) J0 hx with ⟨ys, e'⟩ | e'
            · rw [e] at e'; cases e'
            · have ob := J0.ob
              rw [show im0 = x from e'.symm, e] at ob
              cases ob
        · exact sep (h6 x (.inl (ftr u0 x hx))) (kn1 x z) rfl
        · exact sep (h6 x (.inl (ftr u0 x hx))) ln1 z
      · have n1x : H4 x = none := by
          have hx' : x ∈ im1 :: A1.st :: A1.rs := hx
          simp only [List.mem_cons] at hx'
          rcases hx' with e | e | e
          · rw [e]; exact nim1
          · rw [e]; exact N1.st
          · exact N1.rs _ e
        simp only [Us.rd, List.mem_append, List.mem_singleton] at z
        rcases z with (z | z) | z
        · exact sep ((I0.keep S4).held z) n1x rfl
        · exact sep (h6 x (.inr (ftr u1 x hx))) (kn0 x z) rfl
        · exact sep (h6 x (.inr (ftr u1 x hx))) ln0 z
      · exact cno u0 kn0 ln0 (fun x hx => h5 x (.inl hx)) kh0 nl0 ⟨_, s16 _ _ el0⟩
      · exact cno u1 kn1 ln1 (fun x hx => h5 x (.inr hx)) kh1 (s15.free nl1) ⟨_, el1⟩
    -- the feed stands apart
    have fa5 : ∃ o, H5 fa = some o := ⟨_, S5 _ _ (S4 _ _ (S3 _ _ Fp))⟩
    have efa17 : H17 fa = some (.lst (f1.map V.int)) := t17_2 _ _ Fp
    have nofa : ∀ u : Us, (∀ x ∈ u.k.all, H6 x = none) → H6 u.l = none → (∀ x ∈ u.A.reads u.im, H2 x = none ∨ x = px ∨ ∃ xs, H5 x = some (.tup xs)) → fa ∉ u.rd := fun u a b c z => by
      simp only [Us.rd, List.mem_append, List.mem_singleton] at z
      rcases z with (z | z) | z
      · rcases c fa z with e | e | ⟨xs, e⟩
        · rw [Fp] at e; cases e
        · obtain ⟨dxp, hpl⟩ := Pl.ob
          rw [← e, Fp] at hpl
          cases hpl
        · rw [S5 _ _ (S4 _ _ (S3 _ _ Fp))] at e; cases e
      · have := a fa z
        rw [s6 _ _ (S5 _ _ (S4 _ _ (S3 _ _ Fp)))] at this
        cases this
      · rw [← z, s6 _ _ (S5 _ _ (S4 _ _ (S3 _ _ Fp)))] at b
        cases b
    have fu0 : fa ∉ u0.rd := nofa u0 kn0 ln0 fun x hx => by
      simp only [IA.reads, List.mem_cons] at hx
      rcases hx with e | e | e | e | e | e | e | e
      · exact .inl (by rw [e]; exact nim0)
      · exact .inr (.inl (by rw [e]; exact eA0))
      · exact .inl (by rw [e]; exact N0.ca)
      · exact .inl (by rw [e]; exact N0.ho)
      · exact .inl (by rw [e]; exact N0.st)
      · exact .inl (by rw [e]; exact N0.hd)
      · exact .inr (.inr (by rw [e]; exact ⟨_, J0.ba⟩))
      · exact .inl (N0.rs _ e)
    have fu1 : fa ∉ u1.rd := nofa u1 kn1 ln1 fun x hx => (n1 x hx).imp (fun e => S3.free (S4.free e)) id
    have fc3 : c3 ≠ fa := (sep fa5 nc3).symm
    have fc5 : c5 ≠ fa := (sep (fa5.elim fun o e => ⟨o, f6_13 _ _ (s6 _ _ e)⟩) nc5).symm
    have fc6 : c6 ≠ fa := (sep (fa5.elim fun o e => ⟨o, f6_16 _ _ (s6 _ _ e)⟩) nc6).symm
    refine ⟨_, rfl, fa, f1, rfl, efa17, lfs, fun H18 p fs' ts M => ?_⟩
    have kk : ∀ x o, x ≠ fa → H17 x = some o → H18 x = some o := fun x o n e => M.hk x o e (by simp [n])
    have two18 : Two T.C_Image T.C_Plan H18 c3 c5 c6 0 u0 u1 :=
      { two17 with U := two17.U.keep fun x o hx e => kk x o (fun z => fu0 (by rw [← z]; exact hx)) e, O := two17.O.keep fun x o hx e => kk x o (fun z => fu1 (by rw [← z]; exact hx)) e, h3 := kk _ _ fc3 two17.h3, h5 := kk _ _ fc5 two17.h5, h6 := kk _ _ fc6 two17.h6 }
    have mv18 : Mv H18 p c3 c5 c6 ts u0 u1 :=
      { hp := M.hp, ht := M.ht, pu := fun z => sep (two17.U.held z) M.hn rfl, po := fun z => sep (two17.O.held z) M.hn rfl, p3 := (sep ⟨_, two17.h3⟩ M.hn).symm, p5 := (sep ⟨_, two17.h5⟩ M.hn).symm, p6 := (sep ⟨_, two17.h6⟩ M.hn).symm }
    clear_value u0 u1
    clear two17 nofa fu0 fu1 n1 own0 own1 kh0 kh1 cno ftr h6 sep h5 J0 I1' I0' K1 K0 ln1 ln0 kn1 kn0
    refine ⟨p, rfl, ⟨_, .of M.hp⟩, for_list (K := K) (a := p) (xs := ts.map V.ref) (fun i σ H' => ∃ (u o : Us) (v7 v8 v9 v10 v11 v12 v13 v14 : Option V), σ = [some (.ref a), some (.ref fa), some (.ref px), some (.ref c3), some (.ref he), some (.ref c5), some (.ref c6), v7, v8, v9, v10, v11, v12, v13, v14] ∧ Two T.C_Image T.C_Plan H' c3 c5 c6 0 u o ∧ Mv H' p c3 c5 c6 ts u o)
      ⟨u0, u1, _, _, _, _, _, _, _, _, rfl, two18, mv18⟩ (fun i σ H' _ ⟨_, _, _, _, _, _, _, _, _, _, _, _, m⟩ => .of m.hp) ?_ ?_⟩
    · rintro i y σ H' hi ⟨u, o, v7, v8, v9, v10, v11, v12, v13, v14, rfl, Tw, Mw⟩
      rw [List.getElem?_map] at hi
      obtain ⟨tt, htt, rfl⟩ := Option.map_eq_some_iff.mp hi
      obtain ⟨wi, d, m, et, hwi, hd0, hd6, hm1⟩ := Mw.ht tt (List.mem_of_getElem? htt)
      obtain ⟨wn, ewn, hw⟩ : ∃ wn : Nat, wi = (wn : Int) ∧ (wn = 0 ∨ wn = 1) := by
        rcases hwi with e | e
        · exact ⟨0, e, .inl rfl⟩
        · exact ⟨1, e, .inr rfl⟩
      subst ewn
      obtain ⟨u', o', Tw', Mw'⟩ : ∃ u' o', Two T.C_Image T.C_Plan H' c3 c5 c6 wn u' o' ∧ Mv H' p c3 c5 c6 ts u' o' := by
        rcases hw with e | e
        · subst e; exact ⟨u, o, Tw, Mw⟩
        · subst e; exact ⟨o, u, Tw.swap (.inl rfl), Mw.swap⟩
      clear Tw Mw
      have back : ∀ {H2 : Hp} {u2 o2 : Us}, Two T.C_Image T.C_Plan H2 c3 c5 c6 wn u2 o2 → Mv H2 p c3 c5 c6 ts u2 o2 → ∃ u o, Two T.C_Image T.C_Plan H2 c3 c5 c6 0 u o ∧ Mv H2 p c3 c5 c6 ts u o := fun {H2 u2 o2} Tq Mq => by
        rcases hw with e | e
        · subst e; exact ⟨u2, o2, Tq, Mq⟩
        · subst e; exact ⟨o2, u2, Tq.swap (.inr rfl), Mq.swap⟩
      have wl : ∀ a b : V, (wn : Nat) < (ord wn a b).length := fun a b => by rw [ord_len]; omega
      have wl' : ∀ a b : V, (1 - wn : Nat) < (ord wn a b).length := fun a b => by rw [ord_len]; omega
      have ew' : (1 : Int) - (wn : Int) = ((1 - wn : Nat) : Int) := by omega
      refine ⟨tt, _, rfl, .of et, rfl, _, _, rfl, _, _, rfl, _, _, rfl, rfl, ?_⟩
      refine ⟨_, rfl, _, rfl, c3, _, _, _, rfl, rfl, .of Tw'.h3, atI_nat (ord_at hw _ _), ?_⟩
      refine ⟨fun σ2 H2 => ∃ (u o : Us) (v11 v12 v13 v14 : Option V), σ2 = [some (.ref a), some (.ref fa), some (.ref px), some (.ref c3), some (.ref he), some (.ref c5), some (.ref c6), some (.int (wn : Int)), some (.int d), some (.int m), some (.ref u'.im), v11, v12, v13, v14] ∧ Two T.C_Image T.C_Plan H2 c3 c5 c6 0 u o ∧ Mv H2 p c3 c5 c6 ts u o, ?_, ?_⟩
      · refine ⟨_, rfl, rfl, _, rfl, ?_⟩
        rw [dec_iv]
        by_cases h5 : d = 5
        · rw [decide_eq_true h5]
          refine iteT ⟨_, rfl, u'.im, _, _, rfl, Tw'.U.I.ob, rfl, u'.im, u'.A, u'.v, 24, 16, 30, rfl, Tw'.U.I, fun H2 im' A' S2 nim I2 N2 ep eb => ?_⟩
          have h32 := S2 _ _ Tw'.h3
          have h52 := S2 _ _ Tw'.h5
          have h62 := S2 _ _ Tw'.h6
          refine ⟨_, rfl, _, rfl, _, _, rfl, rfl, c3, _, _, 1 - wn, rfl, rfl, h32, ixN_nat ew' (wl' _ _), ?_⟩
          rw [ord_set' hw]
          have h53 : upd H2 c3 (.lst (ord wn (.ref u'.im) (.ref im'))) c5 = some (.lst (ord wn (.ref u'.k.p) (.ref o'.k.p))) := by rw [upd_ne Tw'.n35.symm]; exact h52
          have h63 : upd H2 c3 (.lst (ord wn (.ref u'.im) (.ref im'))) c6 = some (.lst (ord wn (.ref u'.l) (.ref o'.l))) := by rw [upd_ne Tw'.n36.symm]; exact h62
          refine ⟨_, rfl, _, rfl, c5, _, _, _, rfl, rfl, .of h53, atI_nat (ord_at hw _ _), _, rfl, _, rfl, _, _, rfl, rfl, c5, _, _, 1 - wn, rfl, rfl, h53, ixN_nat ew' (wl' _ _), ?_⟩
          rw [ord_set' hw]
          have h64 : upd (upd H2 c3 (.lst (ord wn (.ref u'.im) (.ref im')))) c5 (.lst (ord wn (.ref u'.k.p) (.ref u'.k.p))) c6 = some (.lst (ord wn (.ref u'.l) (.ref o'.l))) := by rw [upd_ne Tw'.n56.symm]; exact h63
          have hl4 : upd (upd H2 c3 (.lst (ord wn (.ref u'.im) (.ref im')))) c5 (.lst (ord wn (.ref u'.k.p) (.ref u'.k.p))) u'.l = some (.lst ((lisL u'.v.M).map V.int)) := by
            obtain ⟨a3, a5, a6⟩ := Tw'.cu u'.l (by simp [Us.rd])
            rw [upd_ne a5, upd_ne a3]
            exact S2 _ _ Tw'.U.L
          refine ⟨_, rfl, _, rfl, c6, _, _, _, rfl, rfl, .of h64, atI_nat (ord_at hw _ _), u'.l, _, rfl, .inl (.of hl4), fun l' nl' => ?_⟩
          have n3 : l' ≠ c3 := (unn' (un nl') ).symm
          have n5 : l' ≠ c5 := (unn' nl').symm
          have nl2 : H2 l' = none := un (un nl')
          have n6 : c6 ≠ l' := ne_of_none h64 nl'
          refine ⟨_, rfl, _, rfl, _, _, rfl, rfl, c6, _, _, 1 - wn, rfl, rfl, by rw [upd_ne n6]; exact h64, ixN_nat ew' (wl' _ _), ?_⟩
          rw [ord_set' hw]
          have Tn := Tw'.twin hw S2 nim I2 N2 ep eb nl2 (same_upd nl') upd_same
          have rdn : ∀ x ∈ (Us.mk im' A' u'.v u'.k l').rd, x ∈ u'.rd ∨ H' x = none ∨ x = l' := rd_twin nim N2 ep eb
          have hp2 := S2 _ _ Mw'.hp
          have pl' : p ≠ l' := ne_of_none hp2 nl2
          have Mn : Mv (upd (upd (upd (upd H2 c3 (.lst (ord wn (.ref u'.im) (.ref im')))) c5 (.lst (ord wn (.ref u'.k.p) (.ref u'.k.p)))) l' (.lst ((lisL u'.v.M).map V.int))) c6 (.lst (ord wn (.ref u'.l) (.ref l')))) p c3 c5 c6 ts u' ⟨im', A', u'.v, u'.k, l'⟩ := by
            refine { hp := by rw [upd_ne Mw'.p6, upd_ne pl', upd_ne Mw'.p5, upd_ne Mw'.p3]; exact hp2, ht := fun t ht => ?_, pu := Mw'.pu, po := fun z => ?_, p3 := Mw'.p3, p5 := Mw'.p5, p6 := Mw'.p6 }
            · have t2 := (Mw'.ht t ht).keep fun _ e => S2 _ _ e
              have t3 := t2.put (ys := ord wn (.ref u'.im) (.ref im')) h32
              have t4 := t3.put (ys := ord wn (.ref u'.k.p) (.ref u'.k.p)) h53
              have t5 := t4.keep (H' := upd (upd (upd H2 c3 (.lst (ord wn (.ref u'.im) (.ref im')))) c5 (.lst (ord wn (.ref u'.k.p) (.ref u'.k.p)))) l' (.lst ((lisL u'.v.M).map V.int))) fun _ e => same_upd nl' _ _ e
              exact t5.put (by rw [upd_ne n6]; exact h64)
            · rcases rdn p z with e | e | e
              · exact Mw'.pu e
              · rw [Mw'.hp] at e; cases e
              · exact pl' e
          obtain ⟨u2, o2, T2, M2⟩ := back Tn Mn
          exact ⟨u2, o2, _, _, _, _, rfl, T2, M2⟩
        · rw [decide_eq_false h5]
          refine iteF ⟨_, rfl, u'.im, _, _, rfl, Tw'.U.I.ob, rfl, u'.im, u'.A, u'.v, 24, 16, 30, rfl, Tw'.U.I, fun H2 imb Ab S2 nimb Ib Nb epb ebb => ?_⟩
          have Tw2 := Tw'.same S2
          have Mw2 := Mw'.same S2
          have a24 := Tw2.U.at24
          have l8 := lis_len Tw2.U.I
          refine ⟨fun σ3 H3 => σ3 = [some (.ref a), some (.ref fa), some (.ref px), some (.ref c3), some (.ref he), some (.ref c5), some (.ref c6), some (.int (wn : Int)), some (.int d), some (.int m), some (.ref u'.im), some (.ref imb), some (.bl (decide (1 < d) && (!decide (m ∈ lisL u'.v.M) && decide ((lisL u'.v.M).length = 8)))), v13, v14] ∧ H3 = H2, ?_, ?_⟩
          · refine ⟨_, rfl, _, _, rfl, rfl, _, rfl, ?_⟩
            by_cases g1 : d > 1
            · rw [decide_eq_true g1]
              refine iteT ⟨_, rfl, _, rfl, _, rfl, c6, _, _, _, rfl, rfl, .of Tw2.h6, atI_nat (ord_at hw _ _), u'.l, _, rfl, .inl (.of Tw2.U.L), rfl, flat_ints _, _, rfl, ?_⟩
              rw [inV_int]
              by_cases g2 : m ∈ lisL u'.v.M
              · rw [decide_eq_true g2]
                exact iteF ⟨rfl, rfl⟩
              · rw [decide_eq_false g2]
                refine iteT ⟨_, rfl, _, rfl, c6, _, _, _, rfl, rfl, .of Tw2.h6, atI_nat (ord_at hw _ _), u'.l, _, rfl, .inl (.of Tw2.U.L), rfl, ?_, rfl⟩
                rw [dec_iv, List.length_map]
                have : decide (((lisL u'.v.M).length : Int) = 8) = decide ((lisL u'.v.M).length = 8) := decide_eq_decide.mpr (by omega)
                rw [this]
                rfl
            · rw [decide_eq_false g1]
              exact iteF ⟨rfl, rfl⟩
          rintro σ3 H3 ⟨rfl, rfl⟩
          -- begin
          refine ⟨_, rfl, u'.im, _, _, rfl, Tw2.U.I.ob, rfl, Nat.zero_le _, fun q nq => ?_⟩
          have sq := same_upd (o := .tup []) nq
          refine ⟨u'.im, u'.A, u'.v, 24, 16, 30, 0, q, [], rfl, Tw2.U.I.keep sq, .inr upd_same, fun H4 t I4 k4 ht => ?_⟩
          have ht3 : H3 t = none := ht.elim (fun e => sq.free e) fun e => by rw [e]; exact nq
          have kim : Kp [u'.im] H3 H4 := (Kp.of sq).trans k4
          have hN := beh_len (N := lisL u'.v.M) (deed := d) (m := m) l8
          have hne := beh_ne (N := lisL u'.v.M) (deed := d) (m := m) lis_ne (by omega)
          have same0 : behV (lisL u'.v.M) d m = lisL u'.v.M → u'.v.M.set 1 (padL (behV (lisL u'.v.M) d m)) = u'.v.M := fun e => by rw [e]; exact set_same Tw2.U.r1
          have kft : ∀ {Ha Hb : Hp}, Kp u'.A.rs Ha Hb → Kp u'.ft Ha Hb := fun {Ha Hb} kq => kq.mono fun x hx => by simp [Us.ft, hx]
          have kim' : Kp u'.ft H3 H4 := kim.mono fun x hx => by
            rw [List.mem_singleton.mp hx]
            simp [Us.ft]
          -- what comes behind the three looks
          obtain ⟨fb, hfb⟩ : ∃ fb : Bool, fb = (decide (1 < d) && (!decide (m ∈ lisL u'.v.M) && decide ((lisL u'.v.M).length = 8))) := ⟨_, rfl⟩
          rw [← hfb]
          let v5 : IV := { ({ u'.v with se := u'.v.se + 1, wi := 0, ba := [] } : IV) with M := u'.v.M.set 1 (padL (behV (lisL u'.v.M) d m)) }
          let Mid : L2.St → Hp → Prop := fun σ3 H5 => ∃ v13 : V, σ3 = [some (.ref a), some (.ref fa), some (.ref px), some (.ref c3), some (.ref he), some (.ref c5), some (.ref c6), some (.int (wn : Int)), some (.int d), some (.int m), some (.ref u'.im), some (.ref imb), some (.bl fb), some v13, v14] ∧
            ImgAt T.C_Image T.C_Plan H5 u'.im { u'.A with ba := t } v5 24 16 30 ∧ Kp u'.ft H3 H5 ∧ (fb = true → v5.M = u'.v.M ∧ ∃ t2 q2, v13 = .ref t2 ∧ H5 q2 = some (.lst [.str "ListFull"]) ∧ H5 t2 = some (.tup [.str "refused", .ref q2])) ∧ (fb = false → v13 = .non)
          have midS : ∀ {σ3 : L2.St} {Ha Hb : Hp}, Mid σ3 Ha → Same Ha Hb → Mid σ3 Hb := fun {σ3 Ha Hb} ⟨v13, h1, h2, h3, h4, h5'⟩ S => ⟨v13, h1, h2.keep S, h3.same S, fun e => (h4 e).imp id fun ⟨t2, q2, e1, e2, e3⟩ => ⟨t2, q2, e1, S _ _ e2, S _ _ e3⟩, h5'⟩
          refine ⟨Mid, ?_, ?_⟩
          · refine ⟨_, rfl, _, rfl, _, rfl, u'.im, { u'.A with ba := t }, { u'.v with se := u'.v.se + 1, wi := 0, ba := [] }, 24, 16, 30, d, m, rfl, I4, fun hd H5 I5 k5 => ?_, fun hd hm H5 S5' => ?_, fun hd hm h8 H5 t2 q2 S5' eq2 et2 => ?_, fun hd hm h8 H5 I5 k5 => ?_⟩
            · have ff : fb = false := by rw [hfb, decide_eq_false (by omega)]; rfl
              have eb : behV (lisL u'.v.M) d m = delL u'.v.M m := by unfold behV; rw [if_pos hd]; rfl
              exact ⟨.non, rfl, (by show ImgAt _ _ _ _ _ { ({ u'.v with se := u'.v.se + 1, wi := 0, ba := [] } : IV) with M := u'.v.M.set 1 (padL (behV (lisL u'.v.M) d m)) } _ _ _; rw [eb]; exact I5), kim'.trans (kft k5), fun e => (by rw [ff] at e; exact nomatch e), fun _ => rfl⟩
            · have ff : fb = false := by rw [hfb, decide_eq_true hm]; simp
              have eb : behV (lisL u'.v.M) d m = lisL u'.v.M := by unfold behV; rw [if_neg hd, if_pos (.inl hm)]
              exact ⟨.non, rfl, (by show ImgAt _ _ _ _ _ { ({ u'.v with se := u'.v.se + 1, wi := 0, ba := [] } : IV) with M := u'.v.M.set 1 (padL (behV (lisL u'.v.M) d m)) } _ _ _; rw [same0 eb]; exact I4.keep S5'), kim'.same S5', fun e => (by rw [ff] at e; exact nomatch e), fun _ => rfl⟩
            · have eb : behV (lisL u'.v.M) d m = lisL u'.v.M := by unfold behV; rw [if_neg hd, if_pos (.inr h8)]
              refine ⟨.ref t2, rfl, (by show ImgAt _ _ _ _ _ { ({ u'.v with se := u'.v.se + 1, wi := 0, ba := [] } : IV) with M := u'.v.M.set 1 (padL (behV (lisL u'.v.M) d m)) } _ _ _; rw [same0 eb]; exact I4.keep S5'), kim'.same S5', fun _ => ⟨same0 eb, t2, q2, rfl, eq2, et2⟩, fun e => ?_⟩
              rw [hfb, decide_eq_true (show 1 < d by omega), decide_eq_false hm, decide_eq_true h8] at e
              cases e
            · have ff : fb = false := by rw [hfb, decide_eq_false h8]; simp
              have eb : behV (lisL u'.v.M) d m = lisL u'.v.M ++ [m] := by unfold behV; rw [if_neg hd, if_neg (fun z => z.elim hm h8)]
              exact ⟨.non, rfl, (by show ImgAt _ _ _ _ _ { ({ u'.v with se := u'.v.se + 1, wi := 0, ba := [] } : IV) with M := u'.v.M.set 1 (padL (behV (lisL u'.v.M) d m)) } _ _ _; rw [eb]; exact I5), kim'.trans (kft k5), fun e => (by rw [ff] at e; exact nomatch e), fun _ => rfl⟩
          rintro σ4 H5 M5
          refine ⟨Mid, ?_, ?_⟩
          · have M5' := M5
            obtain ⟨v13, rfl, I5, k5, hT, hF⟩ := M5
            refine ⟨_, rfl, fb, rfl, ?_⟩
            cases hfb2 : fb with
            | false => exact iteF (by rw [hfb2] at M5'; exact M5')
            | true =>
              obtain ⟨_, t2, q2, rfl, e2, e3⟩ := hT hfb2
              refine iteT ⟨_, rfl, (by show 1 ≤ sizeLine; decide), fun l nl => ⟨(by show 2 ≤ sizeLine; decide), fun q3 nq3 => ?_⟩⟩
              have sl := same_upd (o := .lst [V.str "ListFull"]) nl
              have sl3 := sl.trans (same_upd (o := .tup [V.str "refused", V.ref l]) nq3)
              have el : upd (upd H5 l (.lst [V.str "ListFull"])) q3 (.tup [V.str "refused", V.ref l]) l = some (.lst [V.str "ListFull"]) := same_upd nq3 _ _ upd_same
              refine ⟨.ref t2, .ref q3, rfl, .inr ⟨t2, q3, _, _, rfl, rfl, .inr ⟨sl3 _ _ e3, upd_same⟩, rfl, (by show 2 < 1000; decide), fun i x y f1 f2 => ?_⟩, fun H6 S6 => ⟨_, rfl, iteF ?_⟩⟩
              · match i, f1, f2 with
                | 0, f1, f2 => cases f1; cases f2; exact Sm.flat ⟨rfl, .inr (.inr (.inr ⟨_, rfl⟩))⟩
                | 1, f1, f2 =>
                  cases f1
                  cases f2
                  refine .inr ⟨q2, l, _, _, rfl, rfl, .inl ⟨sl3 _ _ e2, el⟩, rfl, (by show 1 < 1000; decide), fun j x y g1 g2 => ?_⟩
                  match j, g1, g2 with
                  | 0, g1, g2 => cases g1; cases g2; exact Sm.flat ⟨rfl, .inr (.inr (.inr ⟨_, rfl⟩))⟩
                  | j + 1, g1, _ => cases g1
                | i + 2, f1, _ => cases f1
              · rw [hfb2] at M5'
                exact midS M5' (sl3.trans S6)
          rintro σ5 H6 M6
          refine ⟨Mid, ?_, ?_⟩
          · have M6' := M6
            obtain ⟨v13, rfl, I5, k5, hT, hF⟩ := M6
            refine ⟨_, rfl, fb, rfl, ?_⟩
            cases hfb2 : fb with
            | true => exact iteF (by rw [hfb2] at M6'; exact M6')
            | false =>
              obtain rfl := hF hfb2
              exact iteT ⟨_, rfl, rfl, _, rfl, iteF (by rw [hfb2] at M6'; exact M6')⟩
          rintro σ6 H7 M7
          refine ⟨Mid, ?_, ?_⟩
          · have M7' := M7
            obtain ⟨v13, rfl, I5, k5, hT, hF⟩ := M7
            refine ⟨_, rfl, fb, rfl, ?_⟩
            cases hfb2 : fb with
            | false => exact iteF (by rw [hfb2] at M7'; exact M7')
            | true =>
              obtain ⟨eM, _⟩ := hT hfb2
              have hK := Tw2.U.K.keep (H' := H7) fun x o hx e => k5 x o e fun z => (Tw2.U.own x z).1 hx
              have h57 := k5 _ _ Tw2.h5 fun z => (Tw2.cu _ (ft_rd z)).2.1 rfl
              refine iteT ⟨_, rfl, u'.im, _, v5, 24, 16, 30, rfl, I5, Tw2.U.hd, fun H8 kk S8 _ D8 => ⟨_, rfl, kk.p, _, rfl, .of D8.p, fun p1 np1 => ?_⟩⟩
              have s1 := same_upd (o := .lst (cutV [V.ref kk.c, .ref kk.h, .ref kk.s, .ref kk.d, .int v5.se] none (some 4))) np1
              have e1 : upd H8 p1 (.lst (cutV [V.ref kk.c, .ref kk.h, .ref kk.s, .ref kk.d, .int v5.se] none (some 4))) p1 = some (.lst [V.ref kk.c, .ref kk.h, .ref kk.s, .ref kk.d]) := upd_same
              generalize upd H8 p1 (.lst (cutV [V.ref kk.c, .ref kk.h, .ref kk.s, .ref kk.d, .int v5.se] none (some 4))) = H9 at s1 e1 ⊢
              have K9 := (hK.same S8).same s1
              refine ⟨_, rfl, _, rfl, c5, _, _, _, rfl, rfl, .of (s1 _ _ (S8 _ _ h57)), atI_nat (ord_at hw _ _), _, rfl, u'.k.p, _, rfl, .of K9.p, fun p2 np2 => ?_⟩
              have s2 := same_upd (o := .lst (cutV [V.ref u'.k.c, .ref u'.k.h, .ref u'.k.s, .ref u'.k.d, .int u'.v.se] none (some 4))) np2
              have e2 : upd H9 p2 (.lst (cutV [V.ref u'.k.c, .ref u'.k.h, .ref u'.k.s, .ref u'.k.d, .int u'.v.se] none (some 4))) p2 = some (.lst [V.ref u'.k.c, .ref u'.k.h, .ref u'.k.s, .ref u'.k.d]) := upd_same
              generalize upd H9 p2 (.lst (cutV [V.ref u'.k.c, .ref u'.k.h, .ref u'.k.s, .ref u'.k.d, .int u'.v.se] none (some 4))) = H10 at s2 e2 ⊢
              have D10 := (D8.same s1).same s2
              rw [eM] at D10
              refine ⟨_, _, D10.dp4 (s2 _ _ e1), (K9.same s2).dp4 e2, shK4, shK4, _, rfl, ?_⟩
              rw [show PyData.eqv (dK4 u'.v.M v5.ho v5.st) (dK4 u'.v.M u'.v.ho u'.v.st) = true from eqvK4]
              exact iteF (by rw [hfb2] at M7'; exact midS M7' ((S8.trans s1).trans s2))
          rintro σ7 H8 ⟨v13', rfl, I8, k8, -, -⟩
          -- settle
          have rdb : ∀ x ∈ Ab.reads imb, x ∉ u'.ft := fun x hx z => by
            obtain ⟨q', e⟩ := Tw'.U.held (ft_rd z)
            simp only [IA.reads, List.mem_cons] at hx
            rcases hx with f | f | f | f | f | f | f | f
            · rw [f, nimb] at e; cases e
            · rw [f, epb] at z; exact ft_pl Tw'.U.I z
            · rw [f, Nb.ca] at e; cases e
            · rw [f, Nb.ho] at e; cases e
            · rw [f, Nb.st] at e; cases e
            · rw [f, Nb.hd] at e; cases e
            · rw [f, ebb] at z; exact ft_ba Tw'.U.I z
            · rw [Nb.rs _ f] at e; cases e
          have Ib8 : ImgAt T.C_Image T.C_Plan H8 imb Ab u'.v 24 16 30 := Ib.keepF fun x o hx e => k8 x o e (rdb x hx)
          refine ⟨_, rfl, u'.im, _, _, rfl, I8.ob, rfl, _, rfl, u'.im, _, v5, 24, 16, 30, imb, Ab, u'.v, rfl, I8, Ib8, fun z => rdb _ z (by simp [Us.ft]), fun H9 I9 k9 => ?_⟩
          have I9' : ImgAt T.C_Image T.C_Plan H9 u'.im { u'.A with ba := t } (dueV u'.v (behV (lisL u'.v.M) d m)) 24 16 30 := by
            rw [← due_eq a24.1 a24.2.2 Tw2.U.ho Tw2.U.se (b2 := [])]
            exact I9
          have kall : Kp u'.ft H3 H9 := k8.trans (k9.mono fun x hx => by rw [List.mem_singleton.mp hx]; simp [Us.ft])
          have cft : ∀ c o, H3 c = some o → (c = c3 ∨ c = c5 ∨ c = c6) → H9 c = some o := fun c o e hc => kall c o e fun z => by
            obtain ⟨a1, a2, a3⟩ := Tw2.cu c (ft_rd z)
            rcases hc with f | f | f
            · exact a1 f
            · exact a2 f
            · exact a3 f
          have h69 := cft _ _ Tw2.h6 (.inr (.inr rfl))
          have h59 := cft _ _ Tw2.h5 (.inr (.inl rfl))
          have hl9 := kall _ _ Tw2.U.L fun z => (Tw2.U.own _ z).2 rfl
          have hK9 := Tw2.U.K.keep (H' := H9) fun x o hx e => kall x o e fun z => (Tw2.U.own x z).1 hx
          refine ⟨_, rfl, _, rfl, c6, _, _, _, rfl, rfl, .of h69, atI_nat (ord_at hw _ _), _, rfl, _, rfl, u'.l, lisL u'.v.M, d, m, rfl, hl9, l8, fun H10 l' S10 nl' el' => ?_⟩
          have h610 := S10 _ _ h69
          have h510 := S10 _ _ h59
          refine ⟨_, rfl, _, rfl, c6, _, _, wn, rfl, rfl, h610, ixN_nat rfl (wl _ _), ?_⟩
          rw [ord_set hw]
          have h511 : upd H10 c6 (.lst (ord wn (.ref l') (.ref o'.l))) c5 = some (.lst (ord wn (.ref u'.k.p) (.ref o'.k.p))) := by rw [upd_ne Tw2.n56]; exact h510
          have hK11 : Kd (upd H10 c6 (.lst (ord wn (.ref l') (.ref o'.l)))) u'.k u'.v.M u'.v.ho u'.v.st u'.v.se := (hK9.same S10).keep fun x o hx e => by
            rw [upd_ne (Tw2.cu x (by simp [Us.rd, hx])).2.2]
            exact e
          have nl6 : l' ≠ c6 := (ne_of_none h69 nl').symm
          refine ⟨_, rfl, _, rfl, c5, _, _, _, rfl, rfl, .of h511, atI_nat (ord_at hw _ _), _, rfl, _, rfl, c6, _, _, _, rfl, rfl, .of upd_same, atI_nat (ord_at hw _ _), u'.k, u'.v.M, u'.v.ho, u'.v.st, u'.v.se, l', behV (lisL u'.v.M) d m, rfl, hK11, by rw [upd_ne nl6]; exact el', hN, a24.1, by omega, by omega, fun H12 k' S12 nk' K12 => ?_⟩
          refine ⟨_, rfl, _, rfl, c5, _, _, wn, rfl, rfl, S12 _ _ h511, ixN_nat rfl (wl _ _), ?_⟩
          rw [ord_set hw]
          have Tn := Tw2.deed hw ht3 hN hne kall I9' S10 nl' el' S12 nk' K12
          have hp9 := (Mw2.kp Tw2.U.I kall).1
          have ht9 := (Mw2.kp Tw2.U.I kall).2
          have pl' : p ≠ l' := ne_of_none hp9 nl'
          have hp12 : H12 p = some (.lst (ts.map V.ref)) := S12 _ _ (by rw [upd_ne Mw2.p6]; exact S10 _ _ hp9)
          have Mn : Mv (upd H12 c5 (.lst (ord wn (.ref k'.p) (.ref o'.k.p)))) p c3 c5 c6 ts ⟨u'.im, { u'.A with ba := t }, dueV u'.v (behV (lisL u'.v.M) d m), k', l'⟩ o' := by
            refine { hp := by rw [upd_ne Mw2.p5]; exact hp12, ht := fun tq htq => ?_, pu := fun z => ?_, po := Mw2.po, p3 := Mw2.p3, p5 := Mw2.p5, p6 := Mw2.p6 }
            · have t2 := (ht9 tq htq).keep fun _ e => S10 _ _ e
              have t3 := t2.put (ys := ord wn (.ref l') (.ref o'.l)) h610
              have t4 := t3.keep (H' := H12) fun _ e => S12 _ _ e
              exact t4.put (S12 _ _ h511)
            · rcases rd_deed p z with e | e | e | e
              · exact Mw2.pu e
              · have h3 := Mw2.hp
                rw [e, ht3] at h3
                cases h3
              · rcases nk' p e with f | f
                · rw [upd_ne Mw2.p6, S10 _ _ hp9] at f; cases f
                · exact Mw2.pu (by simp [Us.rd, f])
              · exact pl' e
          obtain ⟨u2, o2, T2, M2⟩ := back Tn Mn
          exact ⟨u2, o2, _, _, _, _, rfl, T2, M2⟩
      · rintro σ2 H2 ⟨u2, o2, v11, v12, v13, v14, rfl, T2, M2⟩
        refine ⟨2, rfl, by decide, by decide, for_range (lo := 0) (n := 2) (fun j σ3 H3 => ∃ (v14 : Option V), σ3 = [some (.ref a), some (.ref fa), some (.ref px), some (.ref c3), some (.ref he), some (.ref c5), some (.ref c6), some (.int (wn : Int)), some (.int d), some (.int m), some (.ref u'.im), v11, v12, v13, v14] ∧ Same H2 H3) ⟨_, rfl, Same.refl _⟩ ?_ ?_⟩
        · rintro j σ3 H3 hj ⟨v14, rfl, S3⟩
          obtain ⟨u3, o3, T3⟩ : ∃ u3 o3, Two T.C_Image T.C_Plan H3 c3 c5 c6 j u3 o3 := by
            have Tq := T2.same S3
            match j, hj with
            | 0, _ => exact ⟨u2, o2, Tq⟩
            | 1, _ => exact ⟨o2, u2, Tq.swap (.inl rfl)⟩
          have hj' : j = 0 ∨ j = 1 := by omega
          have ez : (0 : Int) + (j : Int) = (j : Int) := by omega
          have at_ : ∀ a b : V, atI (ord j a b) ((0 : Int) + (j : Int)) = some a := fun a b => by rw [ez]; exact atI_nat (ord_at hj' a b)
          refine ⟨_, rfl, _, rfl, c3, _, _, _, rfl, rfl, .of T3.h3, at_ _ _, u3.im, u3.A, u3.v, 24, 16, 30, rfl, T3.U.I, T3.U.hd, fun H4 k1 S4 _ D1 => ?_⟩
          refine ⟨_, rfl, _, rfl, c5, _, _, _, rfl, rfl, .of (S4 _ _ T3.h5), at_ _ _, _, _, D1.dp, (T3.U.K.same S4).dp, shK, shK, _, rfl, ?_⟩
          rw [eqvK]
          have T4 := T3.same S4
          refine iteF ⟨_, rfl, _, rfl, c3, _, _, _, rfl, rfl, .of T4.h3, at_ _ _, _, rfl, _, rfl, c6, _, _, _, rfl, rfl, .of T4.h6, at_ _ _, u3.im, u3.A, u3.v, 24, 16, 30, u3.l, rfl, T4.U.I, T4.U.L, fun H5 S5 => ⟨_, rfl, iteF ?_⟩⟩
          exact ⟨_, rfl, (S3.trans S4).trans S5⟩
        · rintro σ3 H3 ⟨v14, rfl, S3⟩
          exact ⟨u2, o2, _, _, _, _, _, _, _, _, rfl, T2.same S3, M2.same S3⟩
    · rintro σ H' ⟨u, o, v7, v8, v9, v10, v11, v12, v13, v14, rfl, Tw, Mw⟩
      have a24 := Tw.U.at24
      have b24 := Tw.O.at24
      refine ⟨_, rfl, c3, _, _, _, rfl, rfl, .of Tw.h3, rfl, u.im, u.A, u.v, 24, 16, 30, rfl, Tw.U.I, Tw.U.hd, fun H2' k1 S2 _ D1 => ?_⟩
      refine ⟨_, rfl, c5, _, _, _, rfl, rfl, .of (S2 _ _ Tw.h5), rfl, _, _, rfl, D1.sm (Tw.U.K.same S2) (by omega) (fun m hm => by rw [Tw.U.I.d1 m hm]; decide) (by omega) (by omega), fun H3' S3' => ⟨_, rfl, iteT ?_⟩⟩
      have Tw3 := Tw.same (S2.trans S3')
      refine ⟨_, rfl, c3, _, _, _, rfl, rfl, .of Tw3.h3, rfl, o.im, o.A, o.v, 24, 16, 30, rfl, Tw3.O.I, Tw3.O.hd, fun H4' k2 S4' _ D2 => ?_⟩
      exact ⟨_, rfl, c5, _, _, _, rfl, rfl, .of (S4' _ _ Tw3.h5), rfl, _, _, rfl, D2.sm (Tw3.O.K.same S4') (by omega) (fun m hm => by rw [Tw3.O.I.d1 m hm]; decide) (by omega) (by omega), fun H5' _ => k H5'⟩
end
end K10
namespace K10
open PySem PySem.Spec PyProof.Rows L2 Rg
theorem law_binds {K : PySem.W.Frag} {mg : Str → Option Value} (T : Tx K mg) (s : Shared) (v : Value) : BindsTo s T.fd_law ⟨[v], []⟩ [("_law_script", v)] := by
  obtain ⟨oc, od, kV, doc, pm, an, cdv, ct, osl, e, lk, hcd⟩ := T.F_law.ex
  rw [e]
  exact .of_eq rfl
theorem fin_F {P : Program} {w : World} {K : PySem.W.Frag} {mg : Str → Option Value} {fa : Addr} (z : Nonempty (Tx K mg)) (hmg : mg "law" = some (.ref fa)) :
    ∃ fd : FuncData, (∀ (s : Shared) (u : Value), BindsTo s fd ⟨[u], []⟩ [("_law_script", u)]) ∧ ∀ base : Heap, K.In base → base.Ns mainGlobals mg → FnOk P w K mg base CX0 7 fa fd ["_law_script"] (sp_law K) := by
  obtain ⟨T⟩ := z
  have e : T.f_law = fa := Value.ref.inj (Option.some.inj (T.mg_law.symm.trans hmg))
  subst e
  exact ⟨T.fd_law, fun s v => law_binds T s v, fun base _ _ => ok_law T⟩
theorem all_mk {w : World} {K : PySem.W.Frag} {h : Heap} {mg : Str → Option Value} (X : K.In h) (G : h.Ns mainGlobals mg)
    {a_listed : Addr}
    {od_listed an_listed : Option Addr} {sl_listed : Array (Option Value)} {oc_listed kV_listed dc_listed pm_listed cd_listed ct_listed : Value}
    (l_listed : K.lookup a_listed = some ⟨oc_listed, od_listed, .func (PySem.W.fnOf "listed" "listed" (defArgs s_listed) (defBody s_listed) (defScope s_listed) .none kV_listed dc_listed pm_listed an_listed cd_listed ct_listed), sl_listed⟩)
    (c_listed : PySem.W.codeIn K cd_listed "listed" = true)
    (k_listed : PySem.W.keepIn K (.ref a_listed) = true)
    (g_listed : PySem.W.nsIn K mainGlobals "listed" = some (some (.ref a_listed)))
    {a_put_list : Addr}
    {od_put_list an_put_list : Option Addr} {sl_put_list : Array (Option Value)} {oc_put_list kV_put_list dc_put_list pm_put_list cd_put_list ct_put_list : Value}
    (l_put_list : K.lookup a_put_list = some ⟨oc_put_list, od_put_list, .func (PySem.W.fnOf "_put_list" "_put_list" (defArgs s_put_list) (defBody s_put_list) (defScope s_put_list) .none kV_put_list dc_put_list pm_put_list an_put_list cd_put_list ct_put_list), sl_put_list⟩)
    (c_put_list : PySem.W.codeIn K cd_put_list "_put_list" = true)
    (k_put_list : PySem.W.keepIn K (.ref a_put_list) = true)
    (g_put_list : PySem.W.nsIn K mainGlobals "_put_list" = some (some (.ref a_put_list)))
    {a_enlist : Addr}
    {od_enlist an_enlist : Option Addr} {sl_enlist : Array (Option Value)} {oc_enlist kV_enlist dc_enlist pm_enlist cd_enlist ct_enlist : Value}
    (l_enlist : K.lookup a_enlist = some ⟨oc_enlist, od_enlist, .func (PySem.W.fnOf "enlist" "enlist" (defArgs s_enlist) (defBody s_enlist) (defScope s_enlist) .none kV_enlist dc_enlist pm_enlist an_enlist cd_enlist ct_enlist), sl_enlist⟩)
    (c_enlist : PySem.W.codeIn K cd_enlist "enlist" = true)
    (k_enlist : PySem.W.keepIn K (.ref a_enlist) = true)
    (g_enlist : PySem.W.nsIn K mainGlobals "enlist" = some (some (.ref a_enlist)))
    {a_delist : Addr}
    {od_delist an_delist : Option Addr} {sl_delist : Array (Option Value)} {oc_delist kV_delist dc_delist pm_delist cd_delist ct_delist : Value}
    (l_delist : K.lookup a_delist = some ⟨oc_delist, od_delist, .func (PySem.W.fnOf "delist" "delist" (defArgs s_delist) (defBody s_delist) (defScope s_delist) .none kV_delist dc_delist pm_delist an_delist cd_delist ct_delist), sl_delist⟩)
    (c_delist : PySem.W.codeIn K cd_delist "delist" = true)
    (k_delist : PySem.W.keepIn K (.ref a_delist) = true)
    (g_delist : PySem.W.nsIn K mainGlobals "delist" = some (some (.ref a_delist)))
    {a_Lfeed : Addr}
    {od_Lfeed an_Lfeed : Option Addr} {sl_Lfeed : Array (Option Value)} {oc_Lfeed kV_Lfeed dc_Lfeed pm_Lfeed cd_Lfeed ct_Lfeed : Value}
    (l_Lfeed : K.lookup a_Lfeed = some ⟨oc_Lfeed, od_Lfeed, .func (PySem.W.fnOf "_law_feed" "_law_feed" (defArgs s_Lfeed) (defBody s_Lfeed) (defScope s_Lfeed) .none kV_Lfeed dc_Lfeed pm_Lfeed an_Lfeed cd_Lfeed ct_Lfeed), sl_Lfeed⟩)
    (c_Lfeed : PySem.W.codeIn K cd_Lfeed "_law_feed" = true)
    (k_Lfeed : PySem.W.keepIn K (.ref a_Lfeed) = true)
    (g_Lfeed : PySem.W.nsIn K mainGlobals "_law_feed" = some (some (.ref a_Lfeed)))
    {a_Lpick : Addr}
    {od_Lpick an_Lpick : Option Addr} {sl_Lpick : Array (Option Value)} {oc_Lpick kV_Lpick dc_Lpick pm_Lpick cd_Lpick ct_Lpick : Value}
    (l_Lpick : K.lookup a_Lpick = some ⟨oc_Lpick, od_Lpick, .func (PySem.W.fnOf "_law_pick" "_law_pick" (defArgs s_Lpick) (defBody s_Lpick) (defScope s_Lpick) .none kV_Lpick dc_Lpick pm_Lpick an_Lpick cd_Lpick ct_Lpick), sl_Lpick⟩)
    (c_Lpick : PySem.W.codeIn K cd_Lpick "_law_pick" = true)
    (k_Lpick : PySem.W.keepIn K (.ref a_Lpick) = true)
    (g_Lpick : PySem.W.nsIn K mainGlobals "_law_pick" = some (some (.ref a_Lpick)))
    {a_Lsame : Addr}
    {od_Lsame an_Lsame : Option Addr} {sl_Lsame : Array (Option Value)} {oc_Lsame kV_Lsame dc_Lsame pm_Lsame cd_Lsame ct_Lsame : Value}
    (l_Lsame : K.lookup a_Lsame = some ⟨oc_Lsame, od_Lsame, .func (PySem.W.fnOf "_law_same" "_law_same" (defArgs s_Lsame) (defBody s_Lsame) (defScope s_Lsame) .none kV_Lsame dc_Lsame pm_Lsame an_Lsame cd_Lsame ct_Lsame), sl_Lsame⟩)
    (c_Lsame : PySem.W.codeIn K cd_Lsame "_law_same" = true)
    (k_Lsame : PySem.W.keepIn K (.ref a_Lsame) = true)
    (g_Lsame : PySem.W.nsIn K mainGlobals "_law_same" = some (some (.ref a_Lsame)))
    {a_Lstate : Addr}
    {od_Lstate an_Lstate : Option Addr} {sl_Lstate : Array (Option Value)} {oc_Lstate kV_Lstate dc_Lstate pm_Lstate cd_Lstate ct_Lstate : Value}
    (l_Lstate : K.lookup a_Lstate = some ⟨oc_Lstate, od_Lstate, .func (PySem.W.fnOf "_law_state" "_law_state" (defArgs s_Lstate) (defBody s_Lstate) (defScope s_Lstate) .none kV_Lstate dc_Lstate pm_Lstate an_Lstate cd_Lstate ct_Lstate), sl_Lstate⟩)
    (c_Lstate : PySem.W.codeIn K cd_Lstate "_law_state" = true)
    (k_Lstate : PySem.W.keepIn K (.ref a_Lstate) = true)
    (g_Lstate : PySem.W.nsIn K mainGlobals "_law_state" = some (some (.ref a_Lstate)))
    {a_Lerror : Addr}
    {od_Lerror an_Lerror : Option Addr} {sl_Lerror : Array (Option Value)} {oc_Lerror kV_Lerror dc_Lerror pm_Lerror cd_Lerror ct_Lerror : Value}
    (l_Lerror : K.lookup a_Lerror = some ⟨oc_Lerror, od_Lerror, .func (PySem.W.fnOf "_law_error" "_law_error" (defArgs s_Lerror) (defBody s_Lerror) (defScope s_Lerror) .none kV_Lerror dc_Lerror pm_Lerror an_Lerror cd_Lerror ct_Lerror), sl_Lerror⟩)
    (c_Lerror : PySem.W.codeIn K cd_Lerror "_law_error" = true)
    (k_Lerror : PySem.W.keepIn K (.ref a_Lerror) = true)
    (g_Lerror : PySem.W.nsIn K mainGlobals "_law_error" = some (some (.ref a_Lerror)))
    {a_Ldo : Addr}
    {od_Ldo an_Ldo : Option Addr} {sl_Ldo : Array (Option Value)} {oc_Ldo kV_Ldo dc_Ldo pm_Ldo cd_Ldo ct_Ldo : Value}
    (l_Ldo : K.lookup a_Ldo = some ⟨oc_Ldo, od_Ldo, .func (PySem.W.fnOf "_law_do" "_law_do" (defArgs s_Ldo) (defBody s_Ldo) (defScope s_Ldo) .none kV_Ldo dc_Ldo pm_Ldo an_Ldo cd_Ldo ct_Ldo), sl_Ldo⟩)
    (c_Ldo : PySem.W.codeIn K cd_Ldo "_law_do" = true)
    (k_Ldo : PySem.W.keepIn K (.ref a_Ldo) = true)
    (g_Ldo : PySem.W.nsIn K mainGlobals "_law_do" = some (some (.ref a_Ldo)))
    {a_Lfresh : Addr}
    {od_Lfresh an_Lfresh : Option Addr} {sl_Lfresh : Array (Option Value)} {oc_Lfresh kV_Lfresh dc_Lfresh pm_Lfresh cd_Lfresh ct_Lfresh : Value}
    (l_Lfresh : K.lookup a_Lfresh = some ⟨oc_Lfresh, od_Lfresh, .func (PySem.W.fnOf "_law_fresh" "_law_fresh" (defArgs s_Lfresh) (defBody s_Lfresh) (defScope s_Lfresh) .none kV_Lfresh dc_Lfresh pm_Lfresh an_Lfresh cd_Lfresh ct_Lfresh), sl_Lfresh⟩)
    (c_Lfresh : PySem.W.codeIn K cd_Lfresh "_law_fresh" = true)
    (k_Lfresh : PySem.W.keepIn K (.ref a_Lfresh) = true)
    (g_Lfresh : PySem.W.nsIn K mainGlobals "_law_fresh" = some (some (.ref a_Lfresh)))
    {a_Lmoves : Addr}
    {od_Lmoves an_Lmoves : Option Addr} {sl_Lmoves : Array (Option Value)} {oc_Lmoves kV_Lmoves dc_Lmoves pm_Lmoves cd_Lmoves ct_Lmoves : Value}
    (l_Lmoves : K.lookup a_Lmoves = some ⟨oc_Lmoves, od_Lmoves, .func (PySem.W.fnOf "_law_moves" "_law_moves" (defArgs s_Lmoves) (defBody s_Lmoves) (defScope s_Lmoves) .none kV_Lmoves dc_Lmoves pm_Lmoves an_Lmoves cd_Lmoves ct_Lmoves), sl_Lmoves⟩)
    (c_Lmoves : PySem.W.codeIn K cd_Lmoves "_law_moves" = true)
    (k_Lmoves : PySem.W.keepIn K (.ref a_Lmoves) = true)
    (g_Lmoves : PySem.W.nsIn K mainGlobals "_law_moves" = some (some (.ref a_Lmoves)))
    {a_Lbehind : Addr}
    {od_Lbehind an_Lbehind : Option Addr} {sl_Lbehind : Array (Option Value)} {oc_Lbehind kV_Lbehind dc_Lbehind pm_Lbehind cd_Lbehind ct_Lbehind : Value}
    (l_Lbehind : K.lookup a_Lbehind = some ⟨oc_Lbehind, od_Lbehind, .func (PySem.W.fnOf "_law_behind" "_law_behind" (defArgs s_Lbehind) (defBody s_Lbehind) (defScope s_Lbehind) .none kV_Lbehind dc_Lbehind pm_Lbehind an_Lbehind cd_Lbehind ct_Lbehind), sl_Lbehind⟩)
    (c_Lbehind : PySem.W.codeIn K cd_Lbehind "_law_behind" = true)
    (k_Lbehind : PySem.W.keepIn K (.ref a_Lbehind) = true)
    (g_Lbehind : PySem.W.nsIn K mainGlobals "_law_behind" = some (some (.ref a_Lbehind)))
    {a_Ldue : Addr}
    {od_Ldue an_Ldue : Option Addr} {sl_Ldue : Array (Option Value)} {oc_Ldue kV_Ldue dc_Ldue pm_Ldue cd_Ldue ct_Ldue : Value}
    (l_Ldue : K.lookup a_Ldue = some ⟨oc_Ldue, od_Ldue, .func (PySem.W.fnOf "_law_due" "_law_due" (defArgs s_Ldue) (defBody s_Ldue) (defScope s_Ldue) .none kV_Ldue dc_Ldue pm_Ldue an_Ldue cd_Ldue ct_Ldue), sl_Ldue⟩)
    (c_Ldue : PySem.W.codeIn K cd_Ldue "_law_due" = true)
    (k_Ldue : PySem.W.keepIn K (.ref a_Ldue) = true)
    (g_Ldue : PySem.W.nsIn K mainGlobals "_law_due" = some (some (.ref a_Ldue)))
    {a_Ltold : Addr}
    {od_Ltold an_Ltold : Option Addr} {sl_Ltold : Array (Option Value)} {oc_Ltold kV_Ltold dc_Ltold pm_Ltold cd_Ltold ct_Ltold : Value}
    (l_Ltold : K.lookup a_Ltold = some ⟨oc_Ltold, od_Ltold, .func (PySem.W.fnOf "_law_told" "_law_told" (defArgs s_Ltold) (defBody s_Ltold) (defScope s_Ltold) .none kV_Ltold dc_Ltold pm_Ltold an_Ltold cd_Ltold ct_Ltold), sl_Ltold⟩)
    (c_Ltold : PySem.W.codeIn K cd_Ltold "_law_told" = true)
    (k_Ltold : PySem.W.keepIn K (.ref a_Ltold) = true)
    (g_Ltold : PySem.W.nsIn K mainGlobals "_law_told" = some (some (.ref a_Ltold)))
    {a_law : Addr}
    {od_law an_law : Option Addr} {sl_law : Array (Option Value)} {oc_law kV_law dc_law pm_law cd_law ct_law : Value}
    (l_law : K.lookup a_law = some ⟨oc_law, od_law, .func (PySem.W.fnOf "law" "law" (defArgs s_law) (defBody s_law) (defScope s_law) .none kV_law dc_law pm_law an_law cd_law ct_law), sl_law⟩)
    (c_law : PySem.W.codeIn K cd_law "law" = true)
    (k_law : PySem.W.keepIn K (.ref a_law) = true)
    (g_law : PySem.W.nsIn K mainGlobals "law" = some (some (.ref a_law)))
    {a_Plan___init__ : Addr}
    {od_Plan___init__ an_Plan___init__ : Option Addr} {sl_Plan___init__ : Array (Option Value)} {oc_Plan___init__ kV_Plan___init__ dc_Plan___init__ pm_Plan___init__ cd_Plan___init__ ct_Plan___init__ : Value}
    (l_Plan___init__ : K.lookup a_Plan___init__ = some ⟨oc_Plan___init__, od_Plan___init__, .func (PySem.W.fnOf "__init__" "Plan.__init__" (defArgs s_Plan___init__) (defBody s_Plan___init__) (defScope s_Plan___init__) .none kV_Plan___init__ dc_Plan___init__ pm_Plan___init__ an_Plan___init__ cd_Plan___init__ ct_Plan___init__), sl_Plan___init__⟩)
    (c_Plan___init__ : PySem.W.codeIn K cd_Plan___init__ "Plan.__init__" = true)
    (k_Plan___init__ : PySem.W.keepIn K (.ref a_Plan___init__) = true)
    {a_Plan_map_place : Addr}
    {od_Plan_map_place an_Plan_map_place : Option Addr} {sl_Plan_map_place : Array (Option Value)} {oc_Plan_map_place kV_Plan_map_place dc_Plan_map_place pm_Plan_map_place cd_Plan_map_place ct_Plan_map_place : Value}
    (l_Plan_map_place : K.lookup a_Plan_map_place = some ⟨oc_Plan_map_place, od_Plan_map_place, .func (PySem.W.fnOf "map_place" "Plan.map_place" (defArgs s_Plan_map_place) (defBody s_Plan_map_place) (defScope s_Plan_map_place) .none kV_Plan_map_place dc_Plan_map_place pm_Plan_map_place an_Plan_map_place cd_Plan_map_place ct_Plan_map_place), sl_Plan_map_place⟩)
    (c_Plan_map_place : PySem.W.codeIn K cd_Plan_map_place "Plan.map_place" = true)
    (k_Plan_map_place : PySem.W.keepIn K (.ref a_Plan_map_place) = true)
    {a_Plan_node_block : Addr}
    {od_Plan_node_block an_Plan_node_block : Option Addr} {sl_Plan_node_block : Array (Option Value)} {oc_Plan_node_block kV_Plan_node_block dc_Plan_node_block pm_Plan_node_block cd_Plan_node_block ct_Plan_node_block : Value}
    (l_Plan_node_block : K.lookup a_Plan_node_block = some ⟨oc_Plan_node_block, od_Plan_node_block, .func (PySem.W.fnOf "node_block" "Plan.node_block" (defArgs s_Plan_node_block) (defBody s_Plan_node_block) (defScope s_Plan_node_block) .none kV_Plan_node_block dc_Plan_node_block pm_Plan_node_block an_Plan_node_block cd_Plan_node_block ct_Plan_node_block), sl_Plan_node_block⟩)
    (c_Plan_node_block : PySem.W.codeIn K cd_Plan_node_block "Plan.node_block" = true)
    (k_Plan_node_block : PySem.W.keepIn K (.ref a_Plan_node_block) = true)
    {a_Image___init__ : Addr}
    {od_Image___init__ an_Image___init__ : Option Addr} {sl_Image___init__ : Array (Option Value)} {oc_Image___init__ kV_Image___init__ dc_Image___init__ pm_Image___init__ cd_Image___init__ ct_Image___init__ : Value}
    (l_Image___init__ : K.lookup a_Image___init__ = some ⟨oc_Image___init__, od_Image___init__, .func (PySem.W.fnOf "__init__" "Image.__init__" (defArgs s_Image___init__) (defBody s_Image___init__) (defScope s_Image___init__) .none kV_Image___init__ dc_Image___init__ pm_Image___init__ an_Image___init__ cd_Image___init__ ct_Image___init__), sl_Image___init__⟩)
    (c_Image___init__ : PySem.W.codeIn K cd_Image___init__ "Image.__init__" = true)
    (k_Image___init__ : PySem.W.keepIn K (.ref a_Image___init__) = true)
    {a_Image_begin : Addr}
    {od_Image_begin an_Image_begin : Option Addr} {sl_Image_begin : Array (Option Value)} {oc_Image_begin kV_Image_begin dc_Image_begin pm_Image_begin cd_Image_begin ct_Image_begin : Value}
    (l_Image_begin : K.lookup a_Image_begin = some ⟨oc_Image_begin, od_Image_begin, .func (PySem.W.fnOf "begin" "Image.begin" (defArgs s_Image_begin) (defBody s_Image_begin) (defScope s_Image_begin) .none kV_Image_begin dc_Image_begin pm_Image_begin an_Image_begin cd_Image_begin ct_Image_begin), sl_Image_begin⟩)
    (c_Image_begin : PySem.W.codeIn K cd_Image_begin "Image.begin" = true)
    (k_Image_begin : PySem.W.keepIn K (.ref a_Image_begin) = true)
    {a_Image_settle : Addr}
    {od_Image_settle an_Image_settle : Option Addr} {sl_Image_settle : Array (Option Value)} {oc_Image_settle kV_Image_settle dc_Image_settle pm_Image_settle cd_Image_settle ct_Image_settle : Value}
    (l_Image_settle : K.lookup a_Image_settle = some ⟨oc_Image_settle, od_Image_settle, .func (PySem.W.fnOf "settle" "Image.settle" (defArgs s_Image_settle) (defBody s_Image_settle) (defScope s_Image_settle) .none kV_Image_settle dc_Image_settle pm_Image_settle an_Image_settle cd_Image_settle ct_Image_settle), sl_Image_settle⟩)
    (c_Image_settle : PySem.W.codeIn K cd_Image_settle "Image.settle" = true)
    (k_Image_settle : PySem.W.keepIn K (.ref a_Image_settle) = true)
    {a_Image_twin : Addr}
    {od_Image_twin an_Image_twin : Option Addr} {sl_Image_twin : Array (Option Value)} {oc_Image_twin kV_Image_twin dc_Image_twin pm_Image_twin cd_Image_twin ct_Image_twin : Value}
    (l_Image_twin : K.lookup a_Image_twin = some ⟨oc_Image_twin, od_Image_twin, .func (PySem.W.fnOf "twin" "Image.twin" (defArgs s_Image_twin) (defBody s_Image_twin) (defScope s_Image_twin) .none kV_Image_twin dc_Image_twin pm_Image_twin an_Image_twin cd_Image_twin ct_Image_twin), sl_Image_twin⟩)
    (c_Image_twin : PySem.W.codeIn K cd_Image_twin "Image.twin" = true)
    (k_Image_twin : PySem.W.keepIn K (.ref a_Image_twin) = true)
    {a_Image_kind : Addr}
    {od_Image_kind an_Image_kind : Option Addr} {sl_Image_kind : Array (Option Value)} {oc_Image_kind kV_Image_kind dc_Image_kind pm_Image_kind cd_Image_kind ct_Image_kind : Value}
    (l_Image_kind : K.lookup a_Image_kind = some ⟨oc_Image_kind, od_Image_kind, .func (PySem.W.fnOf "kind" "Image.kind" (defArgs s_Image_kind) (defBody s_Image_kind) (defScope s_Image_kind) .none kV_Image_kind dc_Image_kind pm_Image_kind an_Image_kind cd_Image_kind ct_Image_kind), sl_Image_kind⟩)
    (c_Image_kind : PySem.W.codeIn K cd_Image_kind "Image.kind" = true)
    (k_Image_kind : PySem.W.keepIn K (.ref a_Image_kind) = true)
    {a_Image_fresh : Addr}
    {od_Image_fresh an_Image_fresh : Option Addr} {sl_Image_fresh : Array (Option Value)} {oc_Image_fresh kV_Image_fresh dc_Image_fresh pm_Image_fresh cd_Image_fresh ct_Image_fresh : Value}
    (l_Image_fresh : K.lookup a_Image_fresh = some ⟨oc_Image_fresh, od_Image_fresh, .func (PySem.W.fnOf "fresh" "Image.fresh" (defArgs s_Image_fresh) (defBody s_Image_fresh) (defScope s_Image_fresh) .none kV_Image_fresh dc_Image_fresh pm_Image_fresh an_Image_fresh cd_Image_fresh ct_Image_fresh), sl_Image_fresh⟩)
    (c_Image_fresh : PySem.W.codeIn K cd_Image_fresh "Image.fresh" = true)
    (k_Image_fresh : PySem.W.keepIn K (.ref a_Image_fresh) = true)
    {a_Image_of_cells : Addr}
    {od_Image_of_cells an_Image_of_cells : Option Addr} {sl_Image_of_cells : Array (Option Value)} {oc_Image_of_cells kV_Image_of_cells dc_Image_of_cells pm_Image_of_cells cd_Image_of_cells ct_Image_of_cells : Value}
    (l_Image_of_cells : K.lookup a_Image_of_cells = some ⟨oc_Image_of_cells, od_Image_of_cells, .func (PySem.W.fnOf "of_cells" "Image.of_cells" (defArgs s_Image_of_cells) (defBody s_Image_of_cells) (defScope s_Image_of_cells) .none kV_Image_of_cells dc_Image_of_cells pm_Image_of_cells an_Image_of_cells cd_Image_of_cells ct_Image_of_cells), sl_Image_of_cells⟩)
    (c_Image_of_cells : PySem.W.codeIn K cd_Image_of_cells "Image.of_cells" = true)
    (k_Image_of_cells : PySem.W.keepIn K (.ref a_Image_of_cells) = true)
    {aC_Plan : Addr}
    (g_Plan : PySem.W.nsIn K mainGlobals "Plan" = some (some (.ref aC_Plan)))
    (pg_Plan : PySem.W.plainGet K aC_Plan Str.empty = true)
    (hd_Plan : PySem.W.hasDictIn K aC_Plan = true)
    (po_Plan : PySem.W.plainOver K aC_Plan = true)
    (sa_Plan : PySem.W.findIn K (.ref aC_Plan) "__setattr__" = some (some (.builtin "object.__setattr__")))
    (n_Plan_blocks : PySem.W.findIn K (.ref aC_Plan) "blocks" = some none)
    (n_Plan_nodes : PySem.W.findIn K (.ref aC_Plan) "nodes" = some none)
    (n_Plan_slots : PySem.W.findIn K (.ref aC_Plan) "slots" = some none)
    (n_Plan_maps : PySem.W.findIn K (.ref aC_Plan) "maps" = some none)
    (n_Plan_first_node : PySem.W.findIn K (.ref aC_Plan) "first_node" = some none)
    (n_Plan_first_data : PySem.W.findIn K (.ref aC_Plan) "first_data" = some none)
    (mk1_Plan : PySem.W.makesIn K aC_Plan = true)
    (mk2_Plan : PySem.W.findIn K (.ref aC_Plan) "__init__" = some (some (.ref a_Plan___init__)))
    (mk3_Plan : PySem.W.isFn K (.ref a_Plan___init__) = true)
    (mk4_Plan : PySem.W.keepIn K (.ref aC_Plan) = true)
    {mcv_Plan : Value}
    (tp_Plan : PySem.W.typeIn K (.ref aC_Plan) = some mcv_Plan)
    (rd_Plan : PySem.W.readsIn K aC_Plan mcv_Plan = true)
    (ga_Plan : PySem.W.specialIn K (.ref aC_Plan) "__getattribute__" = some (some (.builtin "type.__getattribute__")))
    {tv_Plan_WIDTH : Tok}
    (v_Plan_WIDTH : PySem.W.findCls K (.ref aC_Plan) mcv_Plan "WIDTH" = some (.val (.int 8 tv_Plan_WIDTH)))
    {tv_Plan_FREE : Tok}
    (v_Plan_FREE : PySem.W.findCls K (.ref aC_Plan) mcv_Plan "FREE" = some (.val (.int 0 tv_Plan_FREE)))
    {tv_Plan_LOGGED : Tok}
    (v_Plan_LOGGED : PySem.W.findCls K (.ref aC_Plan) mcv_Plan "LOGGED" = some (.val (.int 1 tv_Plan_LOGGED)))
    {tv_Plan_PLAIN : Tok}
    (v_Plan_PLAIN : PySem.W.findCls K (.ref aC_Plan) mcv_Plan "PLAIN" = some (.val (.int 2 tv_Plan_PLAIN)))
    {tc_Plan_WIDTH : Tok}
    (o_Plan_WIDTH : PySem.W.findIn K (.ref aC_Plan) "WIDTH" = some (some (.int 8 tc_Plan_WIDTH)))
    (og_Plan_WIDTH : PySem.W.specialIn K (.int 8 tc_Plan_WIDTH) "__get__" = some none)
    {aC_Image : Addr}
    (g_Image : PySem.W.nsIn K mainGlobals "Image" = some (some (.ref aC_Image)))
    (pg_Image : PySem.W.plainGet K aC_Image Str.empty = true)
    (hd_Image : PySem.W.hasDictIn K aC_Image = true)
    (po_Image : PySem.W.plainOver K aC_Image = true)
    (sa_Image : PySem.W.findIn K (.ref aC_Image) "__setattr__" = some (some (.builtin "object.__setattr__")))
    (n_Image_plan : PySem.W.findIn K (.ref aC_Image) "plan" = some none)
    (n_Image_cells : PySem.W.findIn K (.ref aC_Image) "cells" = some none)
    (n_Image_holdings : PySem.W.findIn K (.ref aC_Image) "holdings" = some none)
    (n_Image_stamps : PySem.W.findIn K (.ref aC_Image) "stamps" = some none)
    (n_Image_handles : PySem.W.findIn K (.ref aC_Image) "handles" = some none)
    (n_Image_serial : PySem.W.findIn K (.ref aC_Image) "serial" = some none)
    (n_Image_wish : PySem.W.findIn K (.ref aC_Image) "wish" = some none)
    (n_Image_barred : PySem.W.findIn K (.ref aC_Image) "barred" = some none)
    (mk1_Image : PySem.W.makesIn K aC_Image = true)
    (mk2_Image : PySem.W.findIn K (.ref aC_Image) "__init__" = some (some (.ref a_Image___init__)))
    (mk3_Image : PySem.W.isFn K (.ref a_Image___init__) = true)
    (mk4_Image : PySem.W.keepIn K (.ref aC_Image) = true)
    {mcv_Image : Value}
    (tp_Image : PySem.W.typeIn K (.ref aC_Image) = some mcv_Image)
    (rd_Image : PySem.W.readsIn K aC_Image mcv_Image = true)
    (ga_Image : PySem.W.specialIn K (.ref aC_Image) "__getattribute__" = some (some (.builtin "type.__getattribute__")))
    (m1_Plan_map_place : PySem.W.findIn K (.ref aC_Plan) "map_place" = some (some (.ref a_Plan_map_place)))
    (m2_Plan_map_place : PySem.W.isFn K (.ref a_Plan_map_place) = true)
    (m1_Plan_node_block : PySem.W.findIn K (.ref aC_Plan) "node_block" = some (some (.ref a_Plan_node_block)))
    (m2_Plan_node_block : PySem.W.isFn K (.ref a_Plan_node_block) = true)
    (m1_Image_begin : PySem.W.findIn K (.ref aC_Image) "begin" = some (some (.ref a_Image_begin)))
    (m2_Image_begin : PySem.W.isFn K (.ref a_Image_begin) = true)
    (m1_Image_settle : PySem.W.findIn K (.ref aC_Image) "settle" = some (some (.ref a_Image_settle)))
    (m2_Image_settle : PySem.W.isFn K (.ref a_Image_settle) = true)
    (m1_Image_twin : PySem.W.findIn K (.ref aC_Image) "twin" = some (some (.ref a_Image_twin)))
    (m2_Image_twin : PySem.W.isFn K (.ref a_Image_twin) = true)
    (m1_Image_kind : PySem.W.findIn K (.ref aC_Image) "kind" = some (some (.ref a_Image_kind)))
    (m2_Image_kind : PySem.W.isFn K (.ref a_Image_kind) = true)
    {sp_Image_fresh : Addr} {sr_Image_fresh : List Value}
    (s1_Image_fresh : PySem.W.findCls K (.ref aC_Image) mcv_Image "fresh" = some (.get (.builtin "staticmethod.__get__") (.ref sp_Image_fresh) .none (.ref aC_Image)))
    (s2_Image_fresh : PySem.W.recIn K sp_Image_fresh "staticmethod" = some (.ref a_Image_fresh :: sr_Image_fresh))
    {sp_Image_of_cells : Addr} {sr_Image_of_cells : List Value}
    (s1_Image_of_cells : PySem.W.findCls K (.ref aC_Image) mcv_Image "of_cells" = some (.get (.builtin "staticmethod.__get__") (.ref sp_Image_of_cells) .none (.ref aC_Image)))
    (s2_Image_of_cells : PySem.W.recIn K sp_Image_of_cells "staticmethod" = some (.ref a_Image_of_cells :: sr_Image_of_cells))
    {aC_StoreError : Addr}
    (g_StoreError : PySem.W.nsIn K mainGlobals "StoreError" = some (some (.ref aC_StoreError)))
    (be1_StoreError : PySem.W.subIn K (.ref aC_StoreError) (.type "BaseException") = some true)
    (te1_StoreError : PySem.W.typeIn K (.ref aC_StoreError) = some (.type "type"))
    (ie1_StoreError : PySem.W.isClsIn K aC_StoreError = true)
    {aC_BadText : Addr}
    (g_BadText : PySem.W.nsIn K mainGlobals "BadText" = some (some (.ref aC_BadText)))
    (be1_BadText : PySem.W.subIn K (.ref aC_BadText) (.type "BaseException") = some true)
    (te1_BadText : PySem.W.typeIn K (.ref aC_BadText) = some (.type "type"))
    (ie1_BadText : PySem.W.isClsIn K aC_BadText = true)
    {aC_BadValue : Addr}
    (g_BadValue : PySem.W.nsIn K mainGlobals "BadValue" = some (some (.ref aC_BadValue)))
    (be1_BadValue : PySem.W.subIn K (.ref aC_BadValue) (.type "BaseException") = some true)
    (te1_BadValue : PySem.W.typeIn K (.ref aC_BadValue) = some (.type "type"))
    (ie1_BadValue : PySem.W.isClsIn K aC_BadValue = true)
    {aC_Refused : Addr}
    (g_Refused : PySem.W.nsIn K mainGlobals "Refused" = some (some (.ref aC_Refused)))
    (be1_Refused : PySem.W.subIn K (.ref aC_Refused) (.type "BaseException") = some true)
    (te1_Refused : PySem.W.typeIn K (.ref aC_Refused) = some (.type "type"))
    (ie1_Refused : PySem.W.isClsIn K aC_Refused = true)
    {aC_NotNow : Addr}
    (g_NotNow : PySem.W.nsIn K mainGlobals "NotNow" = some (some (.ref aC_NotNow)))
    (be1_NotNow : PySem.W.subIn K (.ref aC_NotNow) (.type "BaseException") = some true)
    (te1_NotNow : PySem.W.typeIn K (.ref aC_NotNow) = some (.type "type"))
    (ie1_NotNow : PySem.W.isClsIn K aC_NotNow = true)
    {aC_NotLet : Addr}
    (g_NotLet : PySem.W.nsIn K mainGlobals "NotLet" = some (some (.ref aC_NotLet)))
    (be1_NotLet : PySem.W.subIn K (.ref aC_NotLet) (.type "BaseException") = some true)
    (te1_NotLet : PySem.W.typeIn K (.ref aC_NotLet) = some (.type "type"))
    (ie1_NotLet : PySem.W.isClsIn K aC_NotLet = true)
    {aC_FolderFull : Addr}
    (g_FolderFull : PySem.W.nsIn K mainGlobals "FolderFull" = some (some (.ref aC_FolderFull)))
    (be1_FolderFull : PySem.W.subIn K (.ref aC_FolderFull) (.type "BaseException") = some true)
    (te1_FolderFull : PySem.W.typeIn K (.ref aC_FolderFull) = some (.type "type"))
    (ie1_FolderFull : PySem.W.isClsIn K aC_FolderFull = true)
    {aC_NodesFull : Addr}
    (g_NodesFull : PySem.W.nsIn K mainGlobals "NodesFull" = some (some (.ref aC_NodesFull)))
    (be1_NodesFull : PySem.W.subIn K (.ref aC_NodesFull) (.type "BaseException") = some true)
    (te1_NodesFull : PySem.W.typeIn K (.ref aC_NodesFull) = some (.type "type"))
    (ie1_NodesFull : PySem.W.isClsIn K aC_NodesFull = true)
    {aC_BlocksFull : Addr}
    (g_BlocksFull : PySem.W.nsIn K mainGlobals "BlocksFull" = some (some (.ref aC_BlocksFull)))
    (be1_BlocksFull : PySem.W.subIn K (.ref aC_BlocksFull) (.type "BaseException") = some true)
    (te1_BlocksFull : PySem.W.typeIn K (.ref aC_BlocksFull) = some (.type "type"))
    (ie1_BlocksFull : PySem.W.isClsIn K aC_BlocksFull = true)
    {aC_TooLong : Addr}
    (g_TooLong : PySem.W.nsIn K mainGlobals "TooLong" = some (some (.ref aC_TooLong)))
    (be1_TooLong : PySem.W.subIn K (.ref aC_TooLong) (.type "BaseException") = some true)
    (te1_TooLong : PySem.W.typeIn K (.ref aC_TooLong) = some (.type "type"))
    (ie1_TooLong : PySem.W.isClsIn K aC_TooLong = true)
    {aC_Unfinished : Addr}
    (g_Unfinished : PySem.W.nsIn K mainGlobals "Unfinished" = some (some (.ref aC_Unfinished)))
    (be1_Unfinished : PySem.W.subIn K (.ref aC_Unfinished) (.type "BaseException") = some true)
    (te1_Unfinished : PySem.W.typeIn K (.ref aC_Unfinished) = some (.type "type"))
    (ie1_Unfinished : PySem.W.isClsIn K aC_Unfinished = true)
    {aC_ListFull : Addr}
    (g_ListFull : PySem.W.nsIn K mainGlobals "ListFull" = some (some (.ref aC_ListFull)))
    (be1_ListFull : PySem.W.subIn K (.ref aC_ListFull) (.type "BaseException") = some true)
    (te1_ListFull : PySem.W.typeIn K (.ref aC_ListFull) = some (.type "type"))
    (ie1_ListFull : PySem.W.isClsIn K aC_ListFull = true)
    (xe1_ListFull : PySem.W.excIn K aC_ListFull [.type "ValueError", .type "Exception", .type "BaseException", .type "object"] "ValueError.__new__" = true)
    (ke1_ListFull : PySem.W.keepIn K (.ref aC_ListFull) = true)
    (ec1_ListFull : PySem.W.findIn K (.ref aC_ListFull) "__getattribute__" = some (some (.builtin "BaseException.__getattribute__")))
    (ec2_ListFull : PySem.W.findIn K (.ref aC_ListFull) "__getattr__" = some none)
    (ec4_ListFull : PySem.W.hasDictIn K aC_ListFull = true)
    (ec5_ListFull : PySem.W.findIn K (.ref aC_ListFull) "__class__" = some (some (.builtin "object.__class__")))
    (ec6_ListFull : PySem.W.specialIn K (.builtin "object.__class__") "__get__" = some (some (.builtin "getset_descriptor.__get__")))
    (ec7_ListFull : PySem.W.takesIn K (.builtin "object.__class__") = some true)
    (ec8_ListFull : PySem.W.mroIn K aC_ListFull (.type "object") = some true)
    {aC_NotOnList : Addr}
    (g_NotOnList : PySem.W.nsIn K mainGlobals "NotOnList" = some (some (.ref aC_NotOnList)))
    (be1_NotOnList : PySem.W.subIn K (.ref aC_NotOnList) (.type "BaseException") = some true)
    (te1_NotOnList : PySem.W.typeIn K (.ref aC_NotOnList) = some (.type "type"))
    (ie1_NotOnList : PySem.W.isClsIn K aC_NotOnList = true)
    (sb_ListFull_StoreError : PySem.W.subIn K (.ref aC_ListFull) (.ref aC_StoreError) = some true)
    (sb_ListFull_BadText : PySem.W.subIn K (.ref aC_ListFull) (.ref aC_BadText) = some false)
    (sb_ListFull_BadValue : PySem.W.subIn K (.ref aC_ListFull) (.ref aC_BadValue) = some false)
    (sb_ListFull_Refused : PySem.W.subIn K (.ref aC_ListFull) (.ref aC_Refused) = some true)
    (sb_ListFull_NotNow : PySem.W.subIn K (.ref aC_ListFull) (.ref aC_NotNow) = some false)
    (sb_ListFull_NotLet : PySem.W.subIn K (.ref aC_ListFull) (.ref aC_NotLet) = some false)
    (sb_ListFull_FolderFull : PySem.W.subIn K (.ref aC_ListFull) (.ref aC_FolderFull) = some false)
    (sb_ListFull_NodesFull : PySem.W.subIn K (.ref aC_ListFull) (.ref aC_NodesFull) = some false)
    (sb_ListFull_BlocksFull : PySem.W.subIn K (.ref aC_ListFull) (.ref aC_BlocksFull) = some false)
    (sb_ListFull_TooLong : PySem.W.subIn K (.ref aC_ListFull) (.ref aC_TooLong) = some false)
    (sb_ListFull_Unfinished : PySem.W.subIn K (.ref aC_ListFull) (.ref aC_Unfinished) = some false)
    (sb_ListFull_ListFull : PySem.W.subIn K (.ref aC_ListFull) (.ref aC_ListFull) = some true)
    (sb_ListFull_NotOnList : PySem.W.subIn K (.ref aC_ListFull) (.ref aC_NotOnList) = some false)
    (bs_ListFull_ValueError : PySem.W.subIn K (.ref aC_ListFull) (.type "ValueError") = some true)
    {t_LIST_BLOCK : Tok}
    (gc_LIST_BLOCK : PySem.W.nsIn K mainGlobals "LIST_BLOCK" = some (some (.int 1 t_LIST_BLOCK)))
    {t_ROOT : Tok}
    (gc_ROOT : PySem.W.nsIn K mainGlobals "ROOT" = some (some (.int 1 t_ROOT)))
    {t_KIND : Tok}
    (gc_KIND : PySem.W.nsIn K mainGlobals "KIND" = some (some (.int 0 t_KIND)))
    {t_LINKS : Tok}
    (gc_LINKS : PySem.W.nsIn K mainGlobals "LINKS" = some (some (.int 1 t_LINKS)))
    {t_MAKING : Tok}
    (gc_MAKING : PySem.W.nsIn K mainGlobals "MAKING" = some (some (.int 7 t_MAKING)))
    {t_FOLDER : Tok}
    (gc_FOLDER : PySem.W.nsIn K mainGlobals "FOLDER" = some (some (.int 2 t_FOLDER)))
    {t_LEAST_BLOCKS : Tok}
    (gc_LEAST_BLOCKS : PySem.W.nsIn K mainGlobals "LEAST_BLOCKS" = some (some (.int 8 t_LEAST_BLOCKS)))
    {t_MOST_BLOCKS : Tok}
    (gc_MOST_BLOCKS : PySem.W.nsIn K mainGlobals "MOST_BLOCKS" = some (some (.int 64 t_MOST_BLOCKS)))
    {t_LEAST_NODES : Tok}
    (gc_LEAST_NODES : PySem.W.nsIn K mainGlobals "LEAST_NODES" = some (some (.int 2 t_LEAST_NODES)))
    {t_MOST_NODES : Tok}
    (gc_MOST_NODES : PySem.W.nsIn K mainGlobals "MOST_NODES" = some (some (.int 16 t_MOST_NODES)))
    {t_MOST_SLOTS : Tok}
    (gc_MOST_SLOTS : PySem.W.nsIn K mainGlobals "MOST_SLOTS" = some (some (.int 200 t_MOST_SLOTS)))
    {t_LEAST_DATA : Tok}
    (gc_LEAST_DATA : PySem.W.nsIn K mainGlobals "LEAST_DATA" = some (some (.int 2 t_LEAST_DATA)))
    {t_FIRST_MAP : Tok}
    (gc_FIRST_MAP : PySem.W.nsIn K mainGlobals "FIRST_MAP" = some (some (.int 2 t_FIRST_MAP)))
    (nb_ValueError : PySem.W.nsIn K mainGlobals "ValueError" = some none)
    (nb_abs : PySem.W.nsIn K mainGlobals "abs" = some none)
    (nb_bool : PySem.W.nsIn K mainGlobals "bool" = some none)
    (nb_dict : PySem.W.nsIn K mainGlobals "dict" = some none)
    (nb_int : PySem.W.nsIn K mainGlobals "int" = some none)
    (nb_isinstance : PySem.W.nsIn K mainGlobals "isinstance" = some none)
    (nb_len : PySem.W.nsIn K mainGlobals "len" = some none)
    (nb_list : PySem.W.nsIn K mainGlobals "list" = some none)
    (nb_min : PySem.W.nsIn K mainGlobals "min" = some none)
    (nb_range : PySem.W.nsIn K mainGlobals "range" = some none)
    (nb_sorted : PySem.W.nsIn K mainGlobals "sorted" = some none)
    (nb_str : PySem.W.nsIn K mainGlobals "str" = some none)
    (nb_tuple : PySem.W.nsIn K mainGlobals "tuple" = some none)
    : Nonempty (Tx K mg) := ⟨{
      f_listed := a_listed,
      fd_listed := PySem.W.fnOf "listed" "listed" (defArgs s_listed) (defBody s_listed) (defScope s_listed) .none kV_listed dc_listed pm_listed an_listed cd_listed ct_listed,
      F_listed := fun_mk (st := s_listed) l_listed c_listed k_listed,
      mg_listed := PySem.W.mg_of X G g_listed,
      f_put_list := a_put_list,
      fd_put_list := PySem.W.fnOf "_put_list" "_put_list" (defArgs s_put_list) (defBody s_put_list) (defScope s_put_list) .none kV_put_list dc_put_list pm_put_list an_put_list cd_put_list ct_put_list,
      F_put_list := fun_mk (st := s_put_list) l_put_list c_put_list k_put_list,
      mg_put_list := PySem.W.mg_of X G g_put_list,
      f_enlist := a_enlist,
      fd_enlist := PySem.W.fnOf "enlist" "enlist" (defArgs s_enlist) (defBody s_enlist) (defScope s_enlist) .none kV_enlist dc_enlist pm_enlist an_enlist cd_enlist ct_enlist,
      F_enlist := fun_mk (st := s_enlist) l_enlist c_enlist k_enlist,
      mg_enlist := PySem.W.mg_of X G g_enlist,
      f_delist := a_delist,
      fd_delist := PySem.W.fnOf "delist" "delist" (defArgs s_delist) (defBody s_delist) (defScope s_delist) .none kV_delist dc_delist pm_delist an_delist cd_delist ct_delist,
      F_delist := fun_mk (st := s_delist) l_delist c_delist k_delist,
      mg_delist := PySem.W.mg_of X G g_delist,
      f_Lfeed := a_Lfeed,
      fd_Lfeed := PySem.W.fnOf "_law_feed" "_law_feed" (defArgs s_Lfeed) (defBody s_Lfeed) (defScope s_Lfeed) .none kV_Lfeed dc_Lfeed pm_Lfeed an_Lfeed cd_Lfeed ct_Lfeed,
      F_Lfeed := fun_mk (st := s_Lfeed) l_Lfeed c_Lfeed k_Lfeed,
      mg_Lfeed := PySem.W.mg_of X G g_Lfeed,
      f_Lpick := a_Lpick,
      fd_Lpick := PySem.W.fnOf "_law_pick" "_law_pick" (defArgs s_Lpick) (defBody s_Lpick) (defScope s_Lpick) .none kV_Lpick dc_Lpick pm_Lpick an_Lpick cd_Lpick ct_Lpick,
      F_Lpick := fun_mk (st := s_Lpick) l_Lpick c_Lpick k_Lpick,
      mg_Lpick := PySem.W.mg_of X G g_Lpick,
      f_Lsame := a_Lsame,
      fd_Lsame := PySem.W.fnOf "_law_same" "_law_same" (defArgs s_Lsame) (defBody s_Lsame) (defScope s_Lsame) .none kV_Lsame dc_Lsame pm_Lsame an_Lsame cd_Lsame ct_Lsame,
      F_Lsame := fun_mk (st := s_Lsame) l_Lsame c_Lsame k_Lsame,
      mg_Lsame := PySem.W.mg_of X G g_Lsame,
      f_Lstate := a_Lstate,
      fd_Lstate := PySem.W.fnOf "_law_state" "_law_state" (defArgs s_Lstate) (defBody s_Lstate) (defScope s_Lstate) .none kV_Lstate dc_Lstate pm_Lstate an_Lstate cd_Lstate ct_Lstate,
      F_Lstate := fun_mk (st := s_Lstate) l_Lstate c_Lstate k_Lstate,
      mg_Lstate := PySem.W.mg_of X G g_Lstate,
      f_Lerror := a_Lerror,
      fd_Lerror := PySem.W.fnOf "_law_error" "_law_error" (defArgs s_Lerror) (defBody s_Lerror) (defScope s_Lerror) .none kV_Lerror dc_Lerror pm_Lerror an_Lerror cd_Lerror ct_Lerror,
      F_Lerror := fun_mk (st := s_Lerror) l_Lerror c_Lerror k_Lerror,
      mg_Lerror := PySem.W.mg_of X G g_Lerror,
      f_Ldo := a_Ldo,
      fd_Ldo := PySem.W.fnOf "_law_do" "_law_do" (defArgs s_Ldo) (defBody s_Ldo) (defScope s_Ldo) .none kV_Ldo dc_Ldo pm_Ldo an_Ldo cd_Ldo ct_Ldo,
      F_Ldo := fun_mk (st := s_Ldo) l_Ldo c_Ldo k_Ldo,
      mg_Ldo := PySem.W.mg_of X G g_Ldo,
      f_Lfresh := a_Lfresh,
      fd_Lfresh := PySem.W.fnOf "_law_fresh" "_law_fresh" (defArgs s_Lfresh) (defBody s_Lfresh) (defScope s_Lfresh) .none kV_Lfresh dc_Lfresh pm_Lfresh an_Lfresh cd_Lfresh ct_Lfresh,
      F_Lfresh := fun_mk (st := s_Lfresh) l_Lfresh c_Lfresh k_Lfresh,
      mg_Lfresh := PySem.W.mg_of X G g_Lfresh,
      f_Lmoves := a_Lmoves,
      fd_Lmoves := PySem.W.fnOf "_law_moves" "_law_moves" (defArgs s_Lmoves) (defBody s_Lmoves) (defScope s_Lmoves) .none kV_Lmoves dc_Lmoves pm_Lmoves an_Lmoves cd_Lmoves ct_Lmoves,
      F_Lmoves := fun_mk (st := s_Lmoves) l_Lmoves c_Lmoves k_Lmoves,
      mg_Lmoves := PySem.W.mg_of X G g_Lmoves,
      f_Lbehind := a_Lbehind,
      fd_Lbehind := PySem.W.fnOf "_law_behind" "_law_behind" (defArgs s_Lbehind) (defBody s_Lbehind) (defScope s_Lbehind) .none kV_Lbehind dc_Lbehind pm_Lbehind an_Lbehind cd_Lbehind ct_Lbehind,
      F_Lbehind := fun_mk (st := s_Lbehind) l_Lbehind c_Lbehind k_Lbehind,
      mg_Lbehind := PySem.W.mg_of X G g_Lbehind,
      f_Ldue := a_Ldue,
      fd_Ldue := PySem.W.fnOf "_law_due" "_law_due" (defArgs s_Ldue) (defBody s_Ldue) (defScope s_Ldue) .none kV_Ldue dc_Ldue pm_Ldue an_Ldue cd_Ldue ct_Ldue,
      F_Ldue := fun_mk (st := s_Ldue) l_Ldue c_Ldue k_Ldue,
      mg_Ldue := PySem.W.mg_of X G g_Ldue,
      f_Ltold := a_Ltold,
      fd_Ltold := PySem.W.fnOf "_law_told" "_law_told" (defArgs s_Ltold) (defBody s_Ltold) (defScope s_Ltold) .none kV_Ltold dc_Ltold pm_Ltold an_Ltold cd_Ltold ct_Ltold,
      F_Ltold := fun_mk (st := s_Ltold) l_Ltold c_Ltold k_Ltold,
      mg_Ltold := PySem.W.mg_of X G g_Ltold,
      f_law := a_law,
      fd_law := PySem.W.fnOf "law" "law" (defArgs s_law) (defBody s_law) (defScope s_law) .none kV_law dc_law pm_law an_law cd_law ct_law,
      F_law := fun_mk (st := s_law) l_law c_law k_law,
      mg_law := PySem.W.mg_of X G g_law,
      f_Plan___init__ := a_Plan___init__,
      fd_Plan___init__ := PySem.W.fnOf "__init__" "Plan.__init__" (defArgs s_Plan___init__) (defBody s_Plan___init__) (defScope s_Plan___init__) .none kV_Plan___init__ dc_Plan___init__ pm_Plan___init__ an_Plan___init__ cd_Plan___init__ ct_Plan___init__,
      F_Plan___init__ := fun_mk (st := s_Plan___init__) l_Plan___init__ c_Plan___init__ k_Plan___init__,
      f_Plan_map_place := a_Plan_map_place,
      fd_Plan_map_place := PySem.W.fnOf "map_place" "Plan.map_place" (defArgs s_Plan_map_place) (defBody s_Plan_map_place) (defScope s_Plan_map_place) .none kV_Plan_map_place dc_Plan_map_place pm_Plan_map_place an_Plan_map_place cd_Plan_map_place ct_Plan_map_place,
      F_Plan_map_place := fun_mk (st := s_Plan_map_place) l_Plan_map_place c_Plan_map_place k_Plan_map_place,
      f_Plan_node_block := a_Plan_node_block,
      fd_Plan_node_block := PySem.W.fnOf "node_block" "Plan.node_block" (defArgs s_Plan_node_block) (defBody s_Plan_node_block) (defScope s_Plan_node_block) .none kV_Plan_node_block dc_Plan_node_block pm_Plan_node_block an_Plan_node_block cd_Plan_node_block ct_Plan_node_block,
      F_Plan_node_block := fun_mk (st := s_Plan_node_block) l_Plan_node_block c_Plan_node_block k_Plan_node_block,
      f_Image___init__ := a_Image___init__,
      fd_Image___init__ := PySem.W.fnOf "__init__" "Image.__init__" (defArgs s_Image___init__) (defBody s_Image___init__) (defScope s_Image___init__) .none kV_Image___init__ dc_Image___init__ pm_Image___init__ an_Image___init__ cd_Image___init__ ct_Image___init__,
      F_Image___init__ := fun_mk (st := s_Image___init__) l_Image___init__ c_Image___init__ k_Image___init__,
      f_Image_begin := a_Image_begin,
      fd_Image_begin := PySem.W.fnOf "begin" "Image.begin" (defArgs s_Image_begin) (defBody s_Image_begin) (defScope s_Image_begin) .none kV_Image_begin dc_Image_begin pm_Image_begin an_Image_begin cd_Image_begin ct_Image_begin,
      F_Image_begin := fun_mk (st := s_Image_begin) l_Image_begin c_Image_begin k_Image_begin,
      f_Image_settle := a_Image_settle,
      fd_Image_settle := PySem.W.fnOf "settle" "Image.settle" (defArgs s_Image_settle) (defBody s_Image_settle) (defScope s_Image_settle) .none kV_Image_settle dc_Image_settle pm_Image_settle an_Image_settle cd_Image_settle ct_Image_settle,
      F_Image_settle := fun_mk (st := s_Image_settle) l_Image_settle c_Image_settle k_Image_settle,
      f_Image_twin := a_Image_twin,
      fd_Image_twin := PySem.W.fnOf "twin" "Image.twin" (defArgs s_Image_twin) (defBody s_Image_twin) (defScope s_Image_twin) .none kV_Image_twin dc_Image_twin pm_Image_twin an_Image_twin cd_Image_twin ct_Image_twin,
      F_Image_twin := fun_mk (st := s_Image_twin) l_Image_twin c_Image_twin k_Image_twin,
      f_Image_kind := a_Image_kind,
      fd_Image_kind := PySem.W.fnOf "kind" "Image.kind" (defArgs s_Image_kind) (defBody s_Image_kind) (defScope s_Image_kind) .none kV_Image_kind dc_Image_kind pm_Image_kind an_Image_kind cd_Image_kind ct_Image_kind,
      F_Image_kind := fun_mk (st := s_Image_kind) l_Image_kind c_Image_kind k_Image_kind,
      f_Image_fresh := a_Image_fresh,
      fd_Image_fresh := PySem.W.fnOf "fresh" "Image.fresh" (defArgs s_Image_fresh) (defBody s_Image_fresh) (defScope s_Image_fresh) .none kV_Image_fresh dc_Image_fresh pm_Image_fresh an_Image_fresh cd_Image_fresh ct_Image_fresh,
      F_Image_fresh := fun_mk (st := s_Image_fresh) l_Image_fresh c_Image_fresh k_Image_fresh,
      f_Image_of_cells := a_Image_of_cells,
      fd_Image_of_cells := PySem.W.fnOf "of_cells" "Image.of_cells" (defArgs s_Image_of_cells) (defBody s_Image_of_cells) (defScope s_Image_of_cells) .none kV_Image_of_cells dc_Image_of_cells pm_Image_of_cells an_Image_of_cells cd_Image_of_cells ct_Image_of_cells,
      F_Image_of_cells := fun_mk (st := s_Image_of_cells) l_Image_of_cells c_Image_of_cells k_Image_of_cells,
      C_Plan := aC_Plan,
      mg_Plan := PySem.W.mg_of X G g_Plan,
      cl_Plan := ⟨pg_Plan, hd_Plan, po_Plan, sa_Plan⟩,
      na_Plan_blocks := n_Plan_blocks,
      na_Plan_nodes := n_Plan_nodes,
      na_Plan_slots := n_Plan_slots,
      na_Plan_maps := n_Plan_maps,
      na_Plan_first_node := n_Plan_first_node,
      na_Plan_first_data := n_Plan_first_data,
      mk_Plan := ⟨mk1_Plan, mk2_Plan, mk3_Plan, mk4_Plan⟩,
      mc_Plan := mcv_Plan,
      cr_Plan := ⟨rd_Plan, ga_Plan⟩,
      cv_Plan_WIDTH := ⟨_, v_Plan_WIDTH, ⟨_, rfl⟩⟩,
      cv_Plan_FREE := ⟨_, v_Plan_FREE, ⟨_, rfl⟩⟩,
      cv_Plan_LOGGED := ⟨_, v_Plan_LOGGED, ⟨_, rfl⟩⟩,
      cv_Plan_PLAIN := ⟨_, v_Plan_PLAIN, ⟨_, rfl⟩⟩,
      con_Plan_WIDTH := ⟨_, o_Plan_WIDTH, ⟨_, rfl⟩, og_Plan_WIDTH, by decide +kernel⟩,
      C_Image := aC_Image,
      mg_Image := PySem.W.mg_of X G g_Image,
      cl_Image := ⟨pg_Image, hd_Image, po_Image, sa_Image⟩,
      na_Image_plan := n_Image_plan,
      na_Image_cells := n_Image_cells,
      na_Image_holdings := n_Image_holdings,
      na_Image_stamps := n_Image_stamps,
      na_Image_handles := n_Image_handles,
      na_Image_serial := n_Image_serial,
      na_Image_wish := n_Image_wish,
      na_Image_barred := n_Image_barred,
      mk_Image := ⟨mk1_Image, mk2_Image, mk3_Image, mk4_Image⟩,
      mc_Image := mcv_Image,
      cr_Image := ⟨rd_Image, ga_Image⟩,
      m_Plan_map_place := ⟨m1_Plan_map_place, m2_Plan_map_place, k_Plan_map_place⟩,
      m_Plan_node_block := ⟨m1_Plan_node_block, m2_Plan_node_block, k_Plan_node_block⟩,
      m_Image_begin := ⟨m1_Image_begin, m2_Image_begin, k_Image_begin⟩,
      m_Image_settle := ⟨m1_Image_settle, m2_Image_settle, k_Image_settle⟩,
      m_Image_twin := ⟨m1_Image_twin, m2_Image_twin, k_Image_twin⟩,
      m_Image_kind := ⟨m1_Image_kind, m2_Image_kind, k_Image_kind⟩,
      sm_Image_fresh := ⟨_, s1_Image_fresh, ⟨_, s2_Image_fresh⟩, k_Image_fresh⟩,
      sm_Image_of_cells := ⟨_, s1_Image_of_cells, ⟨_, s2_Image_of_cells⟩, k_Image_of_cells⟩,
      C_StoreError := aC_StoreError,
      mg_StoreError := PySem.W.mg_of X G g_StoreError,
      be_StoreError := be1_StoreError,
      te_StoreError := te1_StoreError,
      ie_StoreError := ie1_StoreError,
      C_BadText := aC_BadText,
      mg_BadText := PySem.W.mg_of X G g_BadText,
      be_BadText := be1_BadText,
      te_BadText := te1_BadText,
      ie_BadText := ie1_BadText,
      C_BadValue := aC_BadValue,
      mg_BadValue := PySem.W.mg_of X G g_BadValue,
      be_BadValue := be1_BadValue,
      te_BadValue := te1_BadValue,
      ie_BadValue := ie1_BadValue,
      C_Refused := aC_Refused,
      mg_Refused := PySem.W.mg_of X G g_Refused,
      be_Refused := be1_Refused,
      te_Refused := te1_Refused,
      ie_Refused := ie1_Refused,
      C_NotNow := aC_NotNow,
      mg_NotNow := PySem.W.mg_of X G g_NotNow,
      be_NotNow := be1_NotNow,
      te_NotNow := te1_NotNow,
      ie_NotNow := ie1_NotNow,
      C_NotLet := aC_NotLet,
      mg_NotLet := PySem.W.mg_of X G g_NotLet,
      be_NotLet := be1_NotLet,
      te_NotLet := te1_NotLet,
      ie_NotLet := ie1_NotLet,
      C_FolderFull := aC_FolderFull,
      mg_FolderFull := PySem.W.mg_of X G g_FolderFull,
      be_FolderFull := be1_FolderFull,
      te_FolderFull := te1_FolderFull,
      ie_FolderFull := ie1_FolderFull,
      C_NodesFull := aC_NodesFull,
      mg_NodesFull := PySem.W.mg_of X G g_NodesFull,
      be_NodesFull := be1_NodesFull,
      te_NodesFull := te1_NodesFull,
      ie_NodesFull := ie1_NodesFull,
      C_BlocksFull := aC_BlocksFull,
      mg_BlocksFull := PySem.W.mg_of X G g_BlocksFull,
      be_BlocksFull := be1_BlocksFull,
      te_BlocksFull := te1_BlocksFull,
      ie_BlocksFull := ie1_BlocksFull,
      C_TooLong := aC_TooLong,
      mg_TooLong := PySem.W.mg_of X G g_TooLong,
      be_TooLong := be1_TooLong,
      te_TooLong := te1_TooLong,
      ie_TooLong := ie1_TooLong,
      C_Unfinished := aC_Unfinished,
      mg_Unfinished := PySem.W.mg_of X G g_Unfinished,
      be_Unfinished := be1_Unfinished,
      te_Unfinished := te1_Unfinished,
      ie_Unfinished := ie1_Unfinished,
      C_ListFull := aC_ListFull,
      mg_ListFull := PySem.W.mg_of X G g_ListFull,
      be_ListFull := be1_ListFull,
      te_ListFull := te1_ListFull,
      ie_ListFull := ie1_ListFull,
      xe_ListFull := xe1_ListFull,
      ke_ListFull := ke1_ListFull,
      ec_ListFull := ⟨ec1_ListFull, ec2_ListFull, be1_ListFull, ec4_ListFull, ec5_ListFull, ec6_ListFull, ec7_ListFull, ec8_ListFull⟩,
      C_NotOnList := aC_NotOnList,
      mg_NotOnList := PySem.W.mg_of X G g_NotOnList,
      be_NotOnList := be1_NotOnList,
      te_NotOnList := te1_NotOnList,
      ie_NotOnList := ie1_NotOnList,
      sub_ListFull_StoreError := sb_ListFull_StoreError,
      sub_ListFull_BadText := sb_ListFull_BadText,
      sub_ListFull_BadValue := sb_ListFull_BadValue,
      sub_ListFull_Refused := sb_ListFull_Refused,
      sub_ListFull_NotNow := sb_ListFull_NotNow,
      sub_ListFull_NotLet := sb_ListFull_NotLet,
      sub_ListFull_FolderFull := sb_ListFull_FolderFull,
      sub_ListFull_NodesFull := sb_ListFull_NodesFull,
      sub_ListFull_BlocksFull := sb_ListFull_BlocksFull,
      sub_ListFull_TooLong := sb_ListFull_TooLong,
      sub_ListFull_Unfinished := sb_ListFull_Unfinished,
      sub_ListFull_ListFull := sb_ListFull_ListFull,
      sub_ListFull_NotOnList := sb_ListFull_NotOnList,
      bsub_ListFull_ValueError := bs_ListFull_ValueError,
      c_LIST_BLOCK := ⟨_, PySem.W.mg_of X G gc_LIST_BLOCK⟩,
      c_ROOT := ⟨_, PySem.W.mg_of X G gc_ROOT⟩,
      c_KIND := ⟨_, PySem.W.mg_of X G gc_KIND⟩,
      c_LINKS := ⟨_, PySem.W.mg_of X G gc_LINKS⟩,
      c_MAKING := ⟨_, PySem.W.mg_of X G gc_MAKING⟩,
      c_FOLDER := ⟨_, PySem.W.mg_of X G gc_FOLDER⟩,
      c_LEAST_BLOCKS := ⟨_, PySem.W.mg_of X G gc_LEAST_BLOCKS⟩,
      c_MOST_BLOCKS := ⟨_, PySem.W.mg_of X G gc_MOST_BLOCKS⟩,
      c_LEAST_NODES := ⟨_, PySem.W.mg_of X G gc_LEAST_NODES⟩,
      c_MOST_NODES := ⟨_, PySem.W.mg_of X G gc_MOST_NODES⟩,
      c_MOST_SLOTS := ⟨_, PySem.W.mg_of X G gc_MOST_SLOTS⟩,
      c_LEAST_DATA := ⟨_, PySem.W.mg_of X G gc_LEAST_DATA⟩,
      c_FIRST_MAP := ⟨_, PySem.W.mg_of X G gc_FIRST_MAP⟩,
      b_ValueError := PySem.W.mg_none_of X G nb_ValueError,
      b_abs := PySem.W.mg_none_of X G nb_abs,
      b_bool := PySem.W.mg_none_of X G nb_bool,
      b_dict := PySem.W.mg_none_of X G nb_dict,
      b_int := PySem.W.mg_none_of X G nb_int,
      b_isinstance := PySem.W.mg_none_of X G nb_isinstance,
      b_len := PySem.W.mg_none_of X G nb_len,
      b_list := PySem.W.mg_none_of X G nb_list,
      b_min := PySem.W.mg_none_of X G nb_min,
      b_range := PySem.W.mg_none_of X G nb_range,
      b_sorted := PySem.W.mg_none_of X G nb_sorted,
      b_str := PySem.W.mg_none_of X G nb_str,
      b_tuple := PySem.W.mg_none_of X G nb_tuple
    }⟩
end K10
open PySem PySem.W PyProof.Rows
set_option maxRecDepth 100000 in
set_option maxHeartbeats 0 in
theorem PySem.Challenge.cw_lotsandties_k10_list_of_unfinished_nodes_holds : PySem.Challenge.rw_lotsandties_k10_list_of_unfinished_nodes.Holds := by
  w_on; o_law; k_head; (case hw => w_witness2)
  k_fill
  refine L2.walk_of (l := PySem.Challenge.rw_lotsandties_k10_list_of_unfinished_nodes) (n := 63) (k := 7) (x := "_law_script") (CX := fun _ => L2.CX0) (sp := fun w => K10.sp_law _) rfl (by decide) rfl ⟨rfl, by decide, by decide⟩ (fun w h Y => PySem.W.kIn_of Y) ?F (fun _ _ a ns hl _ hS => ⟨a, ns, rfl, hS, hl, fun _ => rfl⟩) (fun _ _ _ _ _ h => h)
  case F =>
    intro w mg fa h KX G hmg
    refine K10.fin_F ?_ hmg
    refine' K10.all_mk (w := w) KX G ?l_listed ?c_listed ?k_listed ?g_listed ?l_put_list ?c_put_list ?k_put_list ?g_put_list ?l_enlist ?c_enlist ?k_enlist ?g_enlist ?l_delist ?c_delist ?k_delist ?g_delist ?l_Lfeed ?c_Lfeed ?k_Lfeed ?g_Lfeed ?l_Lpick ?c_Lpick ?k_Lpick ?g_Lpick ?l_Lsame ?c_Lsame ?k_Lsame ?g_Lsame ?l_Lstate ?c_Lstate ?k_Lstate ?g_Lstate ?l_Lerror ?c_Lerror ?k_Lerror ?g_Lerror ?l_Ldo ?c_Ldo ?k_Ldo ?g_Ldo ?l_Lfresh ?c_Lfresh ?k_Lfresh ?g_Lfresh ?l_Lmoves ?c_Lmoves ?k_Lmoves ?g_Lmoves ?l_Lbehind ?c_Lbehind ?k_Lbehind ?g_Lbehind ?l_Ldue ?c_Ldue ?k_Ldue ?g_Ldue ?l_Ltold ?c_Ltold ?k_Ltold ?g_Ltold ?l_law ?c_law ?k_law ?g_law ?l_Plan___init__ ?c_Plan___init__ ?k_Plan___init__ ?l_Plan_map_place ?c_Plan_map_place ?k_Plan_map_place ?l_Plan_node_block ?c_Plan_node_block ?k_Plan_node_block ?l_Image___init__ ?c_Image___init__ ?k_Image___init__ ?l_Image_begin ?c_Image_begin ?k_Image_begin ?l_Image_settle ?c_Image_settle ?k_Image_settle ?l_Image_twin ?c_Image_twin ?k_Image_twin ?l_Image_kind ?c_Image_kind ?k_Image_kind ?l_Image_fresh ?c_Image_fresh ?k_Image_fresh ?l_Image_of_cells ?c_Image_of_cells ?k_Image_of_cells ?g_Plan ?pg_Plan ?hd_Plan ?po_Plan ?sa_Plan ?n_Plan_blocks ?n_Plan_nodes ?n_Plan_slots ?n_Plan_maps ?n_Plan_first_node ?n_Plan_first_data ?mk1_Plan ?mk2_Plan ?mk3_Plan ?mk4_Plan ?tp_Plan ?rd_Plan ?ga_Plan ?v_Plan_WIDTH ?v_Plan_FREE ?v_Plan_LOGGED ?v_Plan_PLAIN ?o_Plan_WIDTH ?og_Plan_WIDTH ?g_Image ?pg_Image ?hd_Image ?po_Image ?sa_Image ?n_Image_plan ?n_Image_cells ?n_Image_holdings ?n_Image_stamps ?n_Image_handles ?n_Image_serial ?n_Image_wish ?n_Image_barred ?mk1_Image ?mk2_Image ?mk3_Image ?mk4_Image ?tp_Image ?rd_Image ?ga_Image ?m1_Plan_map_place ?m2_Plan_map_place ?m1_Plan_node_block ?m2_Plan_node_block ?m1_Image_begin ?m2_Image_begin ?m1_Image_settle ?m2_Image_settle ?m1_Image_twin ?m2_Image_twin ?m1_Image_kind ?m2_Image_kind ?s1_Image_fresh ?s2_Image_fresh ?s1_Image_of_cells ?s2_Image_of_cells ?g_StoreError ?be1_StoreError ?te1_StoreError ?ie1_StoreError ?g_BadText ?be1_BadText ?te1_BadText ?ie1_BadText ?g_BadValue ?be1_BadValue ?te1_BadValue ?ie1_BadValue ?g_Refused ?be1_Refused ?te1_Refused ?ie1_Refused ?g_NotNow ?be1_NotNow ?te1_NotNow ?ie1_NotNow ?g_NotLet ?be1_NotLet ?te1_NotLet ?ie1_NotLet ?g_FolderFull ?be1_FolderFull ?te1_FolderFull ?ie1_FolderFull ?g_NodesFull ?be1_NodesFull ?te1_NodesFull ?ie1_NodesFull ?g_BlocksFull ?be1_BlocksFull ?te1_BlocksFull ?ie1_BlocksFull ?g_TooLong ?be1_TooLong ?te1_TooLong ?ie1_TooLong ?g_Unfinished ?be1_Unfinished ?te1_Unfinished ?ie1_Unfinished ?g_ListFull ?be1_ListFull ?te1_ListFull ?ie1_ListFull ?xe1_ListFull ?ke1_ListFull ?ec1_ListFull ?ec2_ListFull ?ec4_ListFull ?ec5_ListFull ?ec6_ListFull ?ec7_ListFull ?ec8_ListFull ?g_NotOnList ?be1_NotOnList ?te1_NotOnList ?ie1_NotOnList ?sb_ListFull_StoreError ?sb_ListFull_BadText ?sb_ListFull_BadValue ?sb_ListFull_Refused ?sb_ListFull_NotNow ?sb_ListFull_NotLet ?sb_ListFull_FolderFull ?sb_ListFull_NodesFull ?sb_ListFull_BlocksFull ?sb_ListFull_TooLong ?sb_ListFull_Unfinished ?sb_ListFull_ListFull ?sb_ListFull_NotOnList ?bs_ListFull_ValueError ?gc_LIST_BLOCK ?gc_ROOT ?gc_KIND ?gc_LINKS ?gc_MAKING ?gc_FOLDER ?gc_LEAST_BLOCKS ?gc_MOST_BLOCKS ?gc_LEAST_NODES ?gc_MOST_NODES ?gc_MOST_SLOTS ?gc_LEAST_DATA ?gc_FIRST_MAP ?nb_ValueError ?nb_abs ?nb_bool ?nb_dict ?nb_int ?nb_isinstance ?nb_len ?nb_list ?nb_min ?nb_range ?nb_sorted ?nb_str ?nb_tuple
    (case g_listed => k_is)
    (case g_put_list => k_is)
    (case g_enlist => k_is)
    (case g_delist => k_is)
    (case g_Lfeed => k_is)
    (case g_Lpick => k_is)
    (case g_Lsame => k_is)
    (case g_Lstate => k_is)
    (case g_Lerror => k_is)
    (case g_Ldo => k_is)
    (case g_Lfresh => k_is)
    (case g_Lmoves => k_is)
    (case g_Lbehind => k_is)
    (case g_Ldue => k_is)
    (case g_Ltold => k_is)
    (case g_law => k_is)
    (case g_Plan => k_is)
    (case g_Image => k_is)
    (case g_StoreError => k_is)
    (case g_BadText => k_is)
    (case g_BadValue => k_is)
    (case g_Refused => k_is)
    (case g_NotNow => k_is)
    (case g_NotLet => k_is)
    (case g_FolderFull => k_is)
    (case g_NodesFull => k_is)
    (case g_BlocksFull => k_is)
    (case g_TooLong => k_is)
    (case g_Unfinished => k_is)
    (case g_ListFull => k_is)
    (case g_NotOnList => k_is)
    (case tp_Plan => k_is)
    (case tp_Image => k_is)
    (case mk2_Plan => k_is)
    (case mk2_Image => k_is)
    (case m1_Plan_map_place => k_is)
    (case m1_Plan_node_block => k_is)
    (case m1_Image_begin => k_is)
    (case m1_Image_settle => k_is)
    (case m1_Image_twin => k_is)
    (case m1_Image_kind => k_is)
    (case s1_Image_fresh => k_is)
    (case s1_Image_of_cells => k_is)
    (case s2_Image_fresh => k_is)
    (case s2_Image_of_cells => k_is)
    (case l_listed => k_is)
    (case c_listed => k_is)
    (case k_listed => k_is)
    (case l_put_list => k_is)
    (case c_put_list => k_is)
    (case k_put_list => k_is)
    (case l_enlist => k_is)
    (case c_enlist => k_is)
    (case k_enlist => k_is)
    (case l_delist => k_is)
    (case c_delist => k_is)
    (case k_delist => k_is)
    (case l_Lfeed => k_is)
    (case c_Lfeed => k_is)
    (case k_Lfeed => k_is)
    (case l_Lpick => k_is)
    (case c_Lpick => k_is)
    (case k_Lpick => k_is)
    (case l_Lsame => k_is)
    (case c_Lsame => k_is)
    (case k_Lsame => k_is)
    (case l_Lstate => k_is)
    (case c_Lstate => k_is)
    (case k_Lstate => k_is)
    (case l_Lerror => k_is)
    (case c_Lerror => k_is)
    (case k_Lerror => k_is)
    (case l_Ldo => k_is)
    (case c_Ldo => k_is)
    (case k_Ldo => k_is)
    (case l_Lfresh => k_is)
    (case c_Lfresh => k_is)
    (case k_Lfresh => k_is)
    (case l_Lmoves => k_is)
    (case c_Lmoves => k_is)
    (case k_Lmoves => k_is)
    (case l_Lbehind => k_is)
    (case c_Lbehind => k_is)
    (case k_Lbehind => k_is)
    (case l_Ldue => k_is)
    (case c_Ldue => k_is)
    (case k_Ldue => k_is)
    (case l_Ltold => k_is)
    (case c_Ltold => k_is)
    (case k_Ltold => k_is)
    (case l_law => k_is)
    (case c_law => k_is)
    (case k_law => k_is)
    (case l_Plan___init__ => k_is)
    (case c_Plan___init__ => k_is)
    (case k_Plan___init__ => k_is)
    (case l_Plan_map_place => k_is)
    (case c_Plan_map_place => k_is)
    (case k_Plan_map_place => k_is)
    (case l_Plan_node_block => k_is)
    (case c_Plan_node_block => k_is)
    (case k_Plan_node_block => k_is)
    (case l_Image___init__ => k_is)
    (case c_Image___init__ => k_is)
    (case k_Image___init__ => k_is)
    (case l_Image_begin => k_is)
    (case c_Image_begin => k_is)
    (case k_Image_begin => k_is)
    (case l_Image_settle => k_is)
    (case c_Image_settle => k_is)
    (case k_Image_settle => k_is)
    (case l_Image_twin => k_is)
    (case c_Image_twin => k_is)
    (case k_Image_twin => k_is)
    (case l_Image_kind => k_is)
    (case c_Image_kind => k_is)
    (case k_Image_kind => k_is)
    (case l_Image_fresh => k_is)
    (case c_Image_fresh => k_is)
    (case k_Image_fresh => k_is)
    (case l_Image_of_cells => k_is)
    (case c_Image_of_cells => k_is)
    (case k_Image_of_cells => k_is)
    (case pg_Plan => k_is)
    (case hd_Plan => k_is)
    (case po_Plan => k_is)
    (case sa_Plan => k_is)
    (case n_Plan_blocks => k_is)
    (case n_Plan_nodes => k_is)
    (case n_Plan_slots => k_is)
    (case n_Plan_maps => k_is)
    (case n_Plan_first_node => k_is)
    (case n_Plan_first_data => k_is)
    (case mk1_Plan => k_is)
    (case mk3_Plan => k_is)
    (case mk4_Plan => k_is)
    (case rd_Plan => k_is)
    (case ga_Plan => k_is)
    (case v_Plan_WIDTH => k_is)
    (case v_Plan_FREE => k_is)
    (case v_Plan_LOGGED => k_is)
    (case v_Plan_PLAIN => k_is)
    (case o_Plan_WIDTH => k_is)
    (case og_Plan_WIDTH => k_is)
    (case pg_Image => k_is)
    (case hd_Image => k_is)
    (case po_Image => k_is)
    (case sa_Image => k_is)
    (case n_Image_plan => k_is)
    (case n_Image_cells => k_is)
    (case n_Image_holdings => k_is)
    (case n_Image_stamps => k_is)
    (case n_Image_handles => k_is)
    (case n_Image_serial => k_is)
    (case n_Image_wish => k_is)
    (case n_Image_barred => k_is)
    (case mk1_Image => k_is)
    (case mk3_Image => k_is)
    (case mk4_Image => k_is)
    (case rd_Image => k_is)
    (case ga_Image => k_is)
    (case m2_Plan_map_place => k_is)
    (case m2_Plan_node_block => k_is)
    (case m2_Image_begin => k_is)
    (case m2_Image_settle => k_is)
    (case m2_Image_twin => k_is)
    (case m2_Image_kind => k_is)
    (case be1_StoreError => k_is)
    (case te1_StoreError => k_is)
    (case ie1_StoreError => k_is)
    (case be1_BadText => k_is)
    (case te1_BadText => k_is)
    (case ie1_BadText => k_is)
    (case be1_BadValue => k_is)
    (case te1_BadValue => k_is)
    (case ie1_BadValue => k_is)
    (case be1_Refused => k_is)
    (case te1_Refused => k_is)
    (case ie1_Refused => k_is)
    (case be1_NotNow => k_is)
    (case te1_NotNow => k_is)
    (case ie1_NotNow => k_is)
    (case be1_NotLet => k_is)
    (case te1_NotLet => k_is)
    (case ie1_NotLet => k_is)
    (case be1_FolderFull => k_is)
    (case te1_FolderFull => k_is)
    (case ie1_FolderFull => k_is)
    (case be1_NodesFull => k_is)
    (case te1_NodesFull => k_is)
    (case ie1_NodesFull => k_is)
    (case be1_BlocksFull => k_is)
    (case te1_BlocksFull => k_is)
    (case ie1_BlocksFull => k_is)
    (case be1_TooLong => k_is)
    (case te1_TooLong => k_is)
    (case ie1_TooLong => k_is)
    (case be1_Unfinished => k_is)
    (case te1_Unfinished => k_is)
    (case ie1_Unfinished => k_is)
    (case be1_ListFull => k_is)
    (case te1_ListFull => k_is)
    (case ie1_ListFull => k_is)
    (case xe1_ListFull => first | k_exc | k_is)
    (case ke1_ListFull => k_is)
    (case ec1_ListFull => k_is)
    (case ec2_ListFull => k_is)
    (case ec4_ListFull => k_is)
    (case ec5_ListFull => k_is)
    (case ec6_ListFull => k_is)
    (case ec7_ListFull => k_is)
    (case ec8_ListFull => k_is)
    (case be1_NotOnList => k_is)
    (case te1_NotOnList => k_is)
    (case ie1_NotOnList => k_is)
    (case sb_ListFull_StoreError => first | rfl | k_is)
    (case sb_ListFull_BadText => first | rfl | k_is)
    (case sb_ListFull_BadValue => first | rfl | k_is)
    (case sb_ListFull_Refused => first | rfl | k_is)
    (case sb_ListFull_NotNow => first | rfl | k_is)
    (case sb_ListFull_NotLet => first | rfl | k_is)
    (case sb_ListFull_FolderFull => first | rfl | k_is)
    (case sb_ListFull_NodesFull => first | rfl | k_is)
    (case sb_ListFull_BlocksFull => first | rfl | k_is)
    (case sb_ListFull_TooLong => first | rfl | k_is)
    (case sb_ListFull_Unfinished => first | rfl | k_is)
    (case sb_ListFull_ListFull => first | rfl | k_is)
    (case sb_ListFull_NotOnList => first | rfl | k_is)
    (case bs_ListFull_ValueError => k_is)
    (case gc_LIST_BLOCK => k_is)
    (case gc_ROOT => k_is)
    (case gc_KIND => k_is)
    (case gc_LINKS => k_is)
    (case gc_MAKING => k_is)
    (case gc_FOLDER => k_is)
    (case gc_LEAST_BLOCKS => k_is)
    (case gc_MOST_BLOCKS => k_is)
    (case gc_LEAST_NODES => k_is)
    (case gc_MOST_NODES => k_is)
    (case gc_MOST_SLOTS => k_is)
    (case gc_LEAST_DATA => k_is)
    (case gc_FIRST_MAP => k_is)
    (case nb_ValueError => k_is)
    (case nb_abs => k_is)
    (case nb_bool => k_is)
    (case nb_dict => k_is)
    (case nb_int => k_is)
    (case nb_isinstance => k_is)
    (case nb_len => k_is)
    (case nb_list => k_is)
    (case nb_min => k_is)
    (case nb_range => k_is)
    (case nb_sorted => k_is)
    (case nb_str => k_is)
    (case nb_tuple => k_is)
