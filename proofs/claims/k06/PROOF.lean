import PyProof.Rows.All
import Wide.All
import OpenK.AllK
import Wide.FinOn
import HandS.ForMost
import HandS.IsInst
import HandS.Evl
import HandS.ClsMeth
import HandS.MakeKwOnly
import HandS.TryOnly
import HandS.ExcOwn
import HandS.ExcIs
import HandS.ExcCtx
import HandS.HotCalls
import HandS.WordsExc
import HandS.Conv
import HandS.FStr
import HandS.RaiseMore
import HandS.Style
import HandS.Small
import HandS.More
import HandS.Star
import KE.GoesMore
import HandS.Walk
import PySem.Challenge.RW_lotsandties_k06_words_of_a_file
set_option Elab.async false
set_option linter.all false
set_option maxRecDepth 100000
set_option maxHeartbeats 4000000
namespace Rg
open PySem PySem.Spec PyProof.Rows L2
/-! ### heaps -/
theorem same_upd {H : Hp} {p : Addr} {o : HO} (h : H p = none) : Same H (upd H p o) := fun b x e => by
  rw [upd_ne (ne_of_none e h)]
  exact e
theorem upd_id {H : Hp} {p : Addr} {o : HO} (h : H p = some o) : upd H p o = H := by
  funext b
  by_cases e : b = p
  · rw [e, upd_same, h]
  · rw [upd_ne e]
theorem yes_ {σ : L2.St} {H : Hp} {A B : Hp → Prop} (h : A H) : tYes σ H fun b H3 => if b = true then A H3 else B H3 := by
  show if true = true then A H else B H
  rw [if_pos rfl]
  exact h
/-- what is free behind a store was free, and is another place -/
theorem un {H : Hp} {a b : Addr} {o : HO} (e : upd H a o b = none) : H b = none := by
  by_cases z : b = a
  · rw [z, upd_same] at e; cases e
  · rw [upd_ne z] at e; exact e
theorem unn {H : Hp} {a b : Addr} {o : HO} (e : upd H a o b = none) : b ≠ a := fun z => by
  rw [z, upd_same] at e; cases e
theorem unn' {H : Hp} {a b : Addr} {o : HO} (e : upd H a o b = none) : a ≠ b := fun z => unn e z.symm
theorem upd_comm {H : Hp} {p q : Addr} {o o' : HO} (h : p ≠ q) : upd (upd H p o) q o' = upd (upd H q o') p o := by
  funext b
  by_cases e : b = p
  · rw [e, upd_same, upd_ne h, upd_same]
  · by_cases e2 : b = q
    · rw [e2, upd_same, upd_ne h.symm, upd_same]
    · rw [upd_ne e2, upd_ne e, upd_ne e, upd_ne e2]
theorem upd_app {H : Hp} {p : Addr} {fs : List Int} {x : Int} : upd (upd H p (.lst (fs.map V.int))) p (.lst (fs.map V.int ++ [V.int x])) = upd H p (.lst ((fs ++ [x]).map V.int)) := by
  rw [upd_upd, List.map_append]
  rfl
/-- kept but for what stands at S -/
def Kp (S : List Addr) (H H' : Hp) : Prop := ∀ x o, H x = some o → x ∉ S → H' x = some o
theorem Kp.refl {S : List Addr} {H : Hp} : Kp S H H := fun _ _ e _ => e
theorem Kp.new {S : List Addr} {H H1 : Hp} {a : Addr} {o : HO} (k : Kp S H H1) (h : H1 a = none) : Kp S H (upd H1 a o) := fun x u e n => by
  rw [upd_ne (ne_of_none (k x u e n) h)]
  exact k x u e n
theorem Kp.own {S : List Addr} {H H1 : Hp} {a : Addr} {o : HO} (k : Kp S H H1) (h : a ∈ S) : Kp S H (upd H1 a o) := fun x u e n => by
  have z : x ≠ a := fun z => by rw [z] at n; exact n h
  rw [upd_ne z]
  exact k x u e n
theorem Kp.own1 {p : Addr} {H H1 : Hp} {o : HO} (k : Kp [p] H H1) : Kp [p] H (upd H1 p o) := k.own (by simp)
theorem Kp.trans {S : List Addr} {H H1 H2 : Hp} (a : Kp S H H1) (b : Kp S H1 H2) : Kp S H H2 := fun x o e n => b x o (a x o e n) n
theorem Kp.same {S : List Addr} {H H1 H2 : Hp} (a : Kp S H H1) (b : Same H1 H2) : Kp S H H2 := fun x o e n => b x o (a x o e n)
theorem Kp.of {S : List Addr} {H H1 : Hp} (b : Same H H1) : Kp S H H1 := fun x o e _ => b x o e
theorem Kp.mono {S S' : List Addr} {H H1 : Hp} (a : Kp S H H1) (h : ∀ x, x ∈ S → x ∈ S') : Kp S' H H1 := fun x o e n => a x o e fun z => n (h x z)
theorem Kp.free {S : List Addr} {H H1 : Hp} {x : Addr} (a : Kp S H H1) (n : x ∉ S) (h : H1 x = none) : H x = none := by
  cases q : H x with
  | none => rfl
  | some o => rw [a x o q n] at h; cases h
theorem Kp.at1 {p x : Addr} {H H' : Hp} {o : HO} (k : Kp [p] H H') (e : H x = some o) (n : x ≠ p) : H' x = some o := k x o e (by simp [n])
theorem Kp.ret {a : Addr} {S : List Addr} {H H' : Hp} {o : HO} (k : Kp (a :: S) H H') (h : H a = none) : Kp S H H' := fun x u e n => k x u e (by
  intro z
  rcases List.mem_cons.mp z with z | z
  · rw [z, h] at e; cases e
  · exact n z)
theorem own_f {H H' : Hp} {p : Addr} {o : HO} (h : upd H p o = H') : H' p = some o ∧ Kp [p] H H' ∧ ∀ x, H' x = none → H x = none ∧ x ≠ p := by
  subst h
  exact ⟨upd_same, Kp.refl.own1, fun x e => ⟨un e, unn e⟩⟩
theorem new_f {H H' : Hp} {a : Addr} {o : HO} (h : upd H a o = H') (n : H a = none) : H' a = some o ∧ Same H H' ∧ ∀ x, H' x = none → H x = none ∧ x ≠ a := by
  subst h
  exact ⟨upd_same, same_upd n, fun x e => ⟨un e, unn e⟩⟩
/-- a whole-number constant of the module -/
theorem pe_gc {X : Cx} {x : Str} {n : Int} {pos : Pos} (hm : ∃ t, X.mg x = some (.int n t)) (hg : Gl X x := by rfl) (hd : (x == ("__debug__" : Str)) = false := by decide) : PE X (.Name x pos) (tC (.int n)) :=
  let ⟨t, h⟩ := hm
  pe_glob hg h ⟨t, rfl⟩ hd
/-- a text constant of the module -/
theorem pe_gs {X : Cx} {x z : Str} {pos : Pos} (hm : ∃ t, X.mg x = some (.str z t)) (hg : Gl X x := by rfl) (hd : (x == ("__debug__" : Str)) = false := by decide) : PE X (.Name x pos) (tC (.str z)) :=
  let ⟨t, h⟩ := hm
  pe_glob hg h ⟨t, rfl⟩ hd
/-- C.f, C a class of the module, f a value of the class -/
theorem pe_cv {X : Cx} {x f : Str} {C : Addr} {mc : Value} {v : V} {p pos : Pos} (hm : X.mg x = some (.ref C)) (r : ClX.CRead X.K C mc) (k : ∃ u, ClX.CVal X.K C mc f v u) (hg : Gl X x := by rfl) (hd : (x == ("__debug__" : Str)) = false := by decide)
    (hb : attributeBase (.Name x p) f X.env (eval (.Name x p) X.env) = eval (.Name x p) X.env := by rfl) : PE X (.Attribute (.Name x p) f pos) (tC v) := by
  obtain ⟨u, k⟩ := k
  have := (ClX.pe_cval (pos := pos) (pe_glob (X := X) (x := x) (v := .ref C) (u := .ref C) (pos := p) hg hm rfl hd) hb)
  exact ⟨fun pins s σ H Q I h => this.run pins s σ H Q I ⟨C, mc, v, u, rfl, r, k, h⟩⟩
/-! ### the same rules with the written part named (inside a comprehension) -/
section
variable {X : Cx} {K : PySem.W.Frag}
def rListOf (K : PySem.W.Frag) : List V → Hp → VK → Prop := fun xs H Q => ∃ p ys, xs = [.ref p] ∧ (SqL K H p ys ∨ SqT K H p ys) ∧ ∀ l, H l = none → Q (.ref l) (upd H l (.lst ys))
theorem pe_listof {e : Expr} {te : TE} {p pos : Pos} (he : PE X e te) (hm : X.mg "list" = none) (hK : X.K = K := by rfl) (hg : Gl X "list" := by rfl) (hs : starEach [e] X.env = (false, eval e X.env) :: starEach [] X.env := by rfl) : PE X (.Call (.Name "list" p) [e] [] pos) (tCB (rListOf K) (tCons te tNil)) := by
  subst hK
  exact pe_callTy call_list_of hg hm (by decide +kernel) (pa_cons he pa_nil hs) (he := hs)
theorem pe_fldK {e : Expr} {f : Str} {pos : Pos} {ta : TE} (he : PE X e ta) (hb : attributeBase e f X.env (eval e X.env) = eval e X.env) (hK : X.K = K := by rfl) : PE X (.Attribute e f pos) (tFld K ta f) := by
  subst hK
  exact pe_fld he hb
theorem pe_ixK {a b : Expr} {pos : Pos} {ta tb : TE} (ha : PE X a ta) (hb : PE X b tb) (hs : PlainIx b) (hK : X.K = K := by rfl) : PE X (.Subscript a b pos) (tOp (rIxL K) ta tb) := by
  subst hK
  exact pe_ix ix_list ha hb hs
theorem pe_lenK {e : Expr} {te : TE} {p pos : Pos} (he : PE X e te) (hm : X.mg "len" = none) (hK : X.K = K := by rfl) (hg : Gl X "len" := by rfl) (hs : starEach [e] X.env = (false, eval e X.env) :: starEach [] X.env := by rfl) : PE X (.Call (.Name "len" p) [e] [] pos) (tCB (fun xs H Q => ∃ p ys, xs = [.ref p] ∧ (SqL K H p ys ∨ SqT K H p ys) ∧ Q (.int ys.length) H) (tCons te tNil)) := by
  subst hK
  exact pe_callB call_len_seq hg hm (by decide +kernel) (pa_cons he pa_nil hs) (he := hs)
end
/-! ### static methods, called off the class -/
structure SMet (K : PySem.W.Frag) (C : Addr) (mc : Value) (m : Str) (g : Addr) : Prop where
  ex : ∃ p, PySem.W.findCls K (.ref C) mc m = some (.get (.builtin "staticmethod.__get__") (.ref p) .none (.ref C)) ∧ (∃ rest, PySem.W.recIn K p "staticmethod" = some (.ref g :: rest)) ∧ PySem.W.keepIn K (.ref g) = true
/-- C.m(e, ..), C the class at C, m a static method -/
def tSMeth (sp : Sp) (dvs : List V) (E : XK) (t : TA) : TE := fun σ H Q => t σ H fun vs H2 => sp (vs ++ dvs) H2 Q E
section
variable {X : Cx} {CX : CXT} {k : Nat} {C g : Addr} {mc : Value} {sp : Sp} {E : XK} {x : Str} {e : Expr} {es : List Expr} {m : Str} {p pos apos : Pos} {t : TA} {pl : Sem Bool} {fd : FuncData} {ps : List Str} {ds : List Value} {dvs : List V}
theorem pe_smeth (hmx : X.mg x = some (.ref C)) (r : ClX.CRead X.K C mc) (c : SMet X.K C mc m g) (F : FnOk X.prog X.w X.K X.mg X.base CX k g fd ps sp) (hr : Room k X.A) (hb : Binds X.K fd ps ds) (hd : Vals dvs ds) (hx : Passes CX X E) (ha : PA X (e :: es) t) (hg : Gl X x := by rfl) (hdb : (x == ("__debug__" : Str)) = false := by decide)
    (hst : starEach (e :: es) X.env = (false, eval e X.env) :: starEach es X.env := by rfl) (hpl : (backTo pos (starEach es X.env)).any (·.1) = false := by rfl)
    (ht : eval (.Call (.Attribute (.Name x p) m apos) (e :: es) [] pos) X.env = (do
      let ov ← eval (.Name x p) X.env
      standAt apos.atName
      let (f, first) ← holding [ov] (getMethod ov m pl)
      callWith pos f first (backTo pos (starEach (e :: es) X.env)) (backToKw pos (keywordEach [] X.env))) := by rfl) :
    PE X (.Call (.Attribute (.Name x p) m apos) (e :: es) [] pos) (tSMeth sp dvs E t) := by
  obtain ⟨q, at_, ⟨rest, hp⟩, hk⟩ := c.ex
  refine ⟨fun pins s σ H Q I h => ?_⟩
  refine PySem.W.methodCall_KW (pl := pl) (ld_glob I hg hmx ?_ hdb) ht
  refine PySem.W.method_cls I.kIn r.ga (PySem.W.cls_bind I.kIn r.rd at_ ?_)
  refine wpAny_call (PySem.W.sm_get (s := { s with toks := s.toks + 1 }) I.kIn hp (PySem.W.handed_on rfl ?_))
  refine PySem.W.callWith_K (f := .ref g) (first := []) (h₀ := X.base) I.ok.mod.kin hk (thn (ha.run pos pins _ σ H _ (I.tok _) h) fun us s1 ⟨vs, H1, I1, r1, q1⟩ => ⟨I1.kIn, ?_⟩) hst hpl
  exact run_fn F hr hb hd hx I1 r1 q1
end
/-! ### errors -/
theorem exm_sub {K : PySem.W.Frag} {D S : Addr} (h1 : PySem.W.subIn K (.ref S) (.type "BaseException") = some true) (h2 : PySem.W.isClsIn K S = true) (h3 : PySem.W.typeIn K (.ref S) = some (.type "type")) (h4 : PySem.W.subIn K (.ref D) (.ref S) = some true) :
    PySem.W.exmOne K (.ref D) (.ref S) = some true := by
  have e1 : (PySem.W.subIn K (.ref S) (.type "BaseException") == some true) = true := by rw [h1] <;> rfl
  have e2 : ((PySem.W.clsIn K S).isSome && PySem.W.typeIn K (.ref S) == some (.type "type")) = true := by
    have h2' : (PySem.W.clsIn K S).isSome = true := h2
    rw [h2', h3] <;> rfl
  show (if (PySem.W.subIn K (.ref S) (.type "BaseException") == some true) = true then (if ((PySem.W.clsIn K S).isSome && PySem.W.typeIn K (.ref S) == some (.type "type")) = true then PySem.W.subIn K (.ref D) (.ref S) else none) else none) = some true
  rw [if_pos e1, if_pos e2]
  exact h4
theorem kit_sub {K : PySem.W.Frag} {D S : Addr} {b : Bool} (hne : D ≠ S) (h2 : PySem.W.isClsIn K S = true) (h3 : PySem.W.typeIn K (.ref S) = some (.type "type")) (h4 : PySem.W.subIn K (.ref D) (.ref S) = some b) :
    PySem.W.kitOne K (.ref D) (.ref S) = some b := by
  have e2 : ((PySem.W.clsIn K S).isSome && PySem.W.typeIn K (.ref S) == some (.type "type")) = true := by
    have h2' : (PySem.W.clsIn K S).isSome = true := h2
    rw [h2', h3] <;> rfl
  unfold PySem.W.kitOne
  rw [if_neg (by intro z; exact hne (Value.ref.inj (beq_iff_eq.mp z)))]
  show (if ((PySem.W.clsIn K S).isSome && PySem.W.typeIn K (.ref S) == some (.type "type")) = true then PySem.W.subIn K (.ref D) (.ref S) else none) = some b
  rw [if_pos e2]
  exact h4
/-- a suite that is come to by an error of the class at D alone (no fields of its own) -/
def tOnly (cls : Value) (d : Option Addr) (D : Addr) (t : TS) : TS := fun E σ H => cls = .ref D ∧ d = none ∧ t E σ H
theorem pss_only {X : Cx} {sts : List Stmt} {t : TS} {cls : Value} {d : Option Addr} {D : Addr} (h : cls = .ref D → d = none → PSs X sts t) : PSs X sts (tOnly cls d D t) :=
  ⟨fun pins s σ H E I hh => (h hh.1 hh.2.1).run pins s σ H E I hh.2.2⟩
theorem kit_self {K : PySem.W.Frag} {D : Addr} : PySem.W.kitOne K (.ref D) (.ref D) = some true := by
  unfold PySem.W.kitOne
  rw [if_pos (beq_self_eq_true _)]
theorem dec_iv (a d : Int) : decide (V.int a = V.int d) = decide (a = d) := by
  by_cases e : a = d
  · subst e; simp
  · rw [decide_eq_false e, decide_eq_false fun q => e (V.int.inj q)]
end Rg
namespace Rg
open PySem PySem.Spec PyProof.Rows L2
/-! ### an error that a suite holds, handed to a def of one's own -/
section
variable {prog : Program} {w : World} {A : Around} {E : Value → Shared → Prop} {s : Shared}
/-- a walk over a list comes to its end while an error is handled -/
theorem list_end_hot {it l x1 : Addr} {i : Nat} {items} {Q : Option Value → Shared → Prop} (hot : HotX.HotAt A x1 s.heap) (hit : s.heap.IsListIter it l i) (hl : s.heap.IsList l items) (hx : items[i]? = none)
    (hQ : ∀ h', Heap.ExtBut it s.heap h' → Q none { s with heap := h' }) : wpAny (model prog w) A (pyNext (.ref it)) Q E s := by
  obtain ⟨hh, o1, vs1, h1, d1, c1⟩ := hot; obtain ⟨o, ho, hc, hd⟩ := id hit
  obtain ⟨ol, hol, _, nl, hdl⟩ := hl; unfold pyNext
  have ni : it ≠ x1 := fun z => by
    rw [← z, ho] at h1
    cases h1
    rw [hd] at d1
    cases d1
    simp at c1
  refine wpAny_bind (wpAny_attempt (wpAny_callSpecial?_slot (name := Str.ofString "__next__") hit.typeIs slot_listiter_next (wpAny_call_entry slot_listiter_next hit.typeIs entry_listiter_next ?_ (args_listiter_next _))))
  refine (show wpAny _ _ (field (.ref it) 0 >>= _) _ _ s from ?_); refine wpAny_bind (wpAny_field ho hd (x := .ref l) rfl ?_)
  refine (show wpAny _ _ (if (Value.ref l == Value.none) = true then _ else _) _ _ s from ?_); rw [if_neg (show ¬ ((Value.ref l == Value.none) = true) from Bool.false_ne_true)]
  refine (show wpAny _ _ (field (.ref it) 1 >>= _) _ _ s from ?_); refine wpAny_bind (wpAny_field ho hd (x := .int i 0) rfl ?_)
  refine (show wpAny _ _ (seqItems? (.ref l) >>= _) _ _ s from ?_); refine wpAny_bind (wpAny_seqItems hol hdl ?_)
  simp only [Int.toNat_natCast, hx]; refine wpAny_bind (wpAny_rule (wpAny_bind (wpAny_setField ho hd (by simp) ?_)))
  refine (show wpAny _ _ (newExc (.type "StopIteration") [] >>= _) _ _ _ from ?_); refine wpAny_bind ?_
  simp only [newExc, newTuple]; refine wpAny_bind (wpAny_newObj_type ?_ (by size_fits))
  refine wpAny_bind (m := firstArgMember _ _) (wpAny_of_eq (a := Value.none) (by first | rfl | (simp only [firstArgMember]; rfl)) ?_); refine wpAny_newObj_type ?_ (by size_fits)
  have g1 : ∀ f : Obj → Obj, (s.heap.update it f).get? x1 = some o1 := fun f => by rw [Heap.get?_update_other _ _ ni]; exact h1
  refine HotX.raiseNew_hot ⟨hh, o1, vs1, Heap.get?_push_of_some _ (Heap.get?_push_of_some _ (g1 _)), d1, c1⟩ (Nat.ne_of_lt (Heap.lt_size (Heap.get?_push_of_some _ (g1 _)))) (Heap.get?_push_size _ rfl) rfl (by first | (simp; done) | (simp; omega) | (simp only [Array.size_append]; simp; omega)) ?_
  refine wpAny_bind (wpAny_isInstance (T := "StopIteration") (b := true) ⟨_, Heap.get?_update_self _ (Heap.get?_push_size _ rfl) rfl, rfl⟩ isSubtype_stop ?_); refine wpAny_pure (hQ _ fun b o' nb e => ?_)
  have e2 : ∀ f oo, ((s.heap.update it f).push oo).get? b = some o' := fun f oo => (Heap.SameBut.update ..).extBut.push _ b o' nb e
  rw [Heap.get?_update_other _ _ (Nat.ne_of_gt (Heap.lt_size (e2 _ _)))]; exact Heap.get?_push_of_some _ (e2 _ _)
end
/-- the turns of a walk over a list while an error is handled -/
theorem turn_listH {P : Program} {w : World} {K : PySem.W.Frag} {tg : Expr} (a it : Addr) : L2H.TurnH P w K tg (Itl K a) [it] it (fun i h => h.IsListIter it a i) where
  mem := by simp
  obj := fun i h st b hb => (turn_list (P := P) (w := w) (K := K) (tg := tg) a it).obj i h st b hb
  keep := fun i h h' st k => (turn_list (P := P) (w := w) (K := K) (tg := tg) a it).keep i h h' st k
  item := by
    intro X hP hw hK hc i pins s σ H E I hf st hg; subst hP hw hK
    obtain ⟨xs, x, hq, hx⟩ := hg; obtain ⟨its, rv, p, hz⟩ := I.list hq
    obtain ⟨u, hu, ru⟩ := rv.get hx; obtain ⟨f0, f1, f2, f3, f4, f5⟩ := hf it (by simp)
    refine wpAny_pyNext_list_item st p.isList (x := u) (by simpa using hu) fun h' st' sb => ?_
    have I1 : Inv X pins σ H { s with heap := h' } := I.turned (t' := s.toks) (fun b o hb e => (sb.2 b hb).trans e) f0 f1 f3 f4 f5
    obtain ⟨o, e, c, d⟩ := id st'
    exact ⟨u, rfl, go_of (s := { s with heap := h' }) e c d (by decide) ⟨x, H, I1, ru, ⟨rfl, fun ys hy => by rw [I.list_inj hy hq]; exact hx⟩, st', fun b hb => (hf b hb).1⟩⟩
  done := by
    intro X hP hw hK hc i pins s σ H E I hf st hg; subst hP hw hK
    obtain ⟨xs, hq, hx⟩ := hg; obtain ⟨its, rv, p, hz⟩ := I.list hq
    obtain ⟨f0, f1, f2, f3, f4, f5⟩ := hf it (by simp); obtain ⟨x1, hot⟩ := hc.at I
    have hl := rv.length
    exact list_end_hot hot st p.isList (by simp; omega) fun h' eb => ⟨rfl, I.turned (t' := s.toks) (fun b o hb e => eb b o hb e) f0 f1 f3 f4 f5⟩
  self := fun _ _ _ _ _ st h => wpAny_pyIter_listiter st h
theorem pi_listH {X : Cx} {tg l : Expr} {tl : TE} (hl : PE X l tl) : L2H.PIH X tg l (iList X.K tl) := by
  refine ⟨fun pins s σ H R I h => thn (hl.run pins s σ H _ I h) fun v s1 ⟨x, H1, I1, r1, q1⟩ => ?_⟩
  obtain ⟨a, e, ⟨xs, hq⟩, q⟩ := q1; subst e; cases r1
  obtain ⟨its, rv, p, hz⟩ := I1.list hq; refine wpAny_pyIter_list p.isList ?_
  refine ⟨s1.heap.objs.size, [s1.heap.objs.size], _, _, H1, rfl, I1.kept (t' := s1.toks) (fun b o e => Heap.get?_push_of_some _ e), turn_listH a _, ⟨_, Heap.get?_push_size _ rfl, rfl, rfl⟩, fun b hb => ?_, q⟩
  have e : b = s1.heap.objs.size := by simpa using hb
  subst e; exact I1.fpOk (Nat.le_refl _) (I1.hok.fresh (Nat.le_refl _))
/-- a def that is called with the error that a suite holds (of the class at D) and lets nothing out -/
structure FnE (P : Program) (w : World) (K : PySem.W.Frag) (mg : Str → Option Value) (base : Heap) (k : Nat) (f : Addr) (fd : FuncData) (ps : List Str) (D : Addr) (sp : Addr → Sp) : Prop where
  len : ∀ a vs H Q E, sp a vs H Q E → vs.length = ps.length
  run : ∀ (A : Around) (outer : List Env) (s : Shared) (H : Hp) (args : Args) (us : List Value) (vs : List V) (Q : VK) (E : XK) (p : Addr × Obj), L2H.RoomH k A → L2H.Hot1 A p → Zc (.ref D) none p.2 → L2H.PinOk outer H s p → Env0 P w K mg base A outer s H →
    BindsTo s fd args (ps.zip us) → Vals vs us → sp p.1 vs H Q E → codeAny (model P w) A (.call (.ref f) args) (CR CX0 outer P w H s Q E) s
section
variable {P : Program} {w : World} {K : PySem.W.Frag} {mg : Str → Option Value} {base : Heap}
theorem _root_.L2.Fun.okE {x qual : Str} {st : Stmt} {f D : Addr} {fd : FuncData} {N ps : List Str} {k : Nat} {sp : Addr → Sp} (F : Fun K x qual st f fd) (S : FnScope N ps (defScope st)) (len : ∀ a vs H Q E, sp a vs H Q E → vs.length = ps.length)
    (hbody : ∀ (cdv : Value) (A : Around) (outer : List Env) (s : Shared) (H : Hp) (vs : List V) (Q : VK) (E : XK) (p : Addr × Obj), L2H.Hot1 A p → Zc (.ref D) none p.2 → L2H.RoomH k (A.deeper (envOfC qual (defScope st) s.heap.objs.size f cdv)) → sp p.1 vs H Q E →
      ∃ t, PSs (L2H.cxH CX0 P w K mg base N qual (defScope st) f cdv A outer s H E p) (defBody st) t ∧ t { nx := fun _ H' => Q .non H', rt := Q } (L2.start N vs) H) : FnE P w K mg base (k + 1) f fd ps D sp := by
  obtain ⟨oc, od, kV, doc, pm, an, cdv, ct, osl, rfl, lk, hcd⟩ := F.ex
  refine ⟨len, fun A outer s H args us vs Q E p hr hot hz hpin e0 hb r hsp => ?_⟩
  have hl := len _ _ _ _ _ hsp; have KX : K.In s.heap := e0.mod.kin.keeps fun b o e => (e0.bs b o e).1
  have lim : s.heap.NoLimit := e0.mod.nolimit.keeps fun b o e => (e0.bs b o e).1; have bb := hb
  have hkind : ∀ y ∈ ps.zip us, (defScope st).names.lookup y.1 = some .local ∨ ((defScope st).names.lookup y.1 = some .cell ∧ ((cellsFrom (s.heap.objs.size + 1) (defScope st).names []).lookup y.1).isSome = true) := fun ⟨n, v⟩ hy =>
    (S.par n (List.of_mem_zip hy).1).elim .inl fun q => .inr ⟨q, PySem.W.cellsFrom_some _ _ _ (.inl q)⟩
  refine codeAny_call_function hr.depth (KX _ _ lk) rfl S.co S.gen rfl (PySem.W.codeRec_of KX hcd) (bb _ _ _ _ (wpAny_newFunctionEnv_cells S.kind hkind fun env he s1 x => ?_))
  subst he; refine ⟨lim.keeps x.toInCall.keep, codeAny_func ?_⟩
  obtain ⟨t, ht, hq⟩ := hbody cdv A outer s H vs Q E p hot hz (hr.deeper _) hsp
  have I := L2H.inv_startH (CX := CX0) (E := E) S hpin e0 hl r x
  refine wpAny_mono (ht.run [] s1 (L2.start N vs) H _ I hq) (fun fl s' hs => ?_) fun _ _ hs => hs
  cases fl with
  | ret u => exact hs.elim fun v ⟨σ', H', J, rv, q⟩ => ⟨v, H', J.os, J.bare, J.base, J.hok, rv, q⟩
  | next => exact hs.elim fun σ' ⟨H', J, q⟩ => ⟨V.non, H', J.os, J.bare, J.base, J.hok, rfl, q⟩
  | brk => exact hs.elim fun _ ⟨_, _, q⟩ => q.elim
  | cont => exact hs.elim fun _ ⟨_, _, q⟩ => q.elim
end
section
variable {X : Cx} {k : Nat} {f D : Addr} {fd : FuncData} {ps : List Str} {sp : Addr → Sp} {x : Str} {q pos : Pos} {e : Expr} {es : List Expr} {t : TA}
/-- f(e, ..), f a def for the error at a -/
def tCallE (sp : Addr → Sp) (a : Addr) (t : TA) : TE := fun σ H Q => t σ H fun vs H1 => sp a vs H1 Q E0
theorem pe_callE (F : FnE X.prog X.w X.K X.mg X.base k f fd ps D sp) (hr : L2H.RoomH k X.A) {p : Addr × Obj} (hot : L2H.Hot1 X.A p) (hz : Zc (.ref D) none p.2) (hp : p ∈ X.pn) (hg : Gl X x) (hm : X.mg x = some (.ref f)) (hk : PySem.W.keepIn X.K (.ref f) = true) (hb : Binds X.K fd ps [])
    (ha : PA X (e :: es) t) (hdb : (x == ("__debug__" : Str)) = false := by decide) (he : starEach (e :: es) X.env = (false, eval e X.env) :: starEach es X.env := by rfl) (hpl : (backTo pos (starEach es X.env)).any (·.1) = false := by rfl) :
    PE X (.Call (.Name x q) (e :: es) [] pos) (tCallE sp p.1 t) := by
  refine ⟨fun pins s σ H Q I h => wpAny_Call_Name_kw (ld_glob I hg hm ?_ hdb)⟩
  refine PySem.W.callWith_K (h₀ := X.base) I.ok.mod.kin hk (thn (ha.run pos pins s σ H _ I h) fun us s1 ⟨vs, H1, I1, r, q⟩ => ⟨I1.kIn, ?_⟩) he hpl
  have hl : us.length = ps.length := by rw [← r.length]; exact F.len _ _ _ _ _ q
  have b := hb s1 us I1.kIn (by rw [List.append_nil]; exact hl)
  rw [List.append_nil] at b
  have P1 := I1.pin p (List.mem_append_left _ hp)
  have hpin : L2H.PinOk X.stack H1 s1 p := ⟨P1.1, P1.2.1, fun hm' => (List.mem_cons.mp (I1.stkSub p.1 hm')).elim P1.2.2.1 P1.2.2.2.1, P1.2.2.2.2⟩
  refine wpAny_call (codeAny_mono (F.run X.A X.stack s1 H1 ⟨us, []⟩ us vs Q E0 p hr hot hz hpin I1.env0 b r q) fun r' s' hq => ?_)
  cases r' with
  | error e => exact False.elim hq
  | ok fl =>
    cases fl with
    | ret u => exact I1.after hq
    | _ => exact False.elim hq
/-- isinstance of the error that is handled, in whatever def it is asked -/
theorem call_isP {a D : Addr} {oe : Obj} (C : ExcC X.K D) (hz : Zc (.ref D) none oe) (hf : ∃ vs, oe.data = .fields vs) (hp : (a, oe) ∈ X.pn) : CallR X (.builtin "isinstance") (rIsE X.K D a) := by
  rintro pins s σ H xs us Q I r ⟨c, cv, b, rfl, hcv, e, q⟩
  obtain ⟨vs, hv⟩ := hf
  cases r with
  | cons rx rr =>
    cases rr with
    | cons rt rr =>
      cases rr; cases rx
      have ec := hcv _ rt
      subst ec
      have hget := (I.pin (a, oe) (List.mem_append_left _ hp)).1
      have J : PySem.W.InstAt s.heap a oe D none := by
        obtain ⟨oc, od, oda, osl⟩ := oe
        obtain ⟨h1, h2⟩ := hz
        subst hv
        cases h1
        cases h2
        exact ⟨hget, rfl, rfl, trivial⟩
      exact PySem.W.kia_one (PySem.W.handS_kitx_exc C.hg C.hk C.hs C.hd C.ha C.hn C.ht C.hm) I.kIn J e (fun z => nomatch z) fun tk => ⟨.bl b, H, I.kept (t' := tk) fun _ _ z => z, rfl, q⟩
end
/-! ### defs that raise: the error's context is told to be None -/
section
variable {P : Program} {w : World} {K : PySem.W.Frag} {mg : Str → Option Value} {base : Heap}
theorem _root_.L2.Fun.okN {x qual : Str} {st : Stmt} {f : Addr} {fd : FuncData} {N ps : List Str} {k : Nat} {sp : Sp} (F : Fun K x qual st f fd) (S : FnScope N ps (defScope st)) (len : ∀ vs H Q E, sp vs H Q E → vs.length = ps.length)
    (hbody : ∀ (cdv : Value) (A : Around) (outer : List Env) (s : Shared) (H : Hp) (vs : List V) (Q : VK) (E : XK), Room k (A.deeper (envOfC qual (defScope st) s.heap.objs.size f cdv)) → sp vs H Q E →
      ∃ t, PSs (cxOf (L2N.CX P w) P w K mg base N qual (defScope st) f cdv A outer s H E) (defBody st) t ∧ t { nx := fun _ H' => Q .non H', rt := Q } (L2.start N vs) H) : FnOk P w K mg base (L2N.CX P w) (k + 1) f fd ps sp := by
  obtain ⟨oc, od, kV, doc, pm, an, cdv, ct, osl, rfl, lk, hcd⟩ := F.ex
  exact fn_of lk hcd S len fun A outer s H vs Q E hr hsp => hbody cdv A outer s H vs Q E hr hsp
theorem takes0N {X : Cx} : L2N.Takes X (fun _ _ _ _ => False) := fun _ _ x => by
  obtain ⟨_, _, _, _, _, _, _, _, _, _, _, _, _, _, _, _, z⟩ := x
  cases z
end
section
variable {X : Cx} {C : Addr} {bmB : List Value} {B newId initId : String}
/-- X(e) -/
theorem pmk_own1N {x : Str} {e : Expr} {ta : TE} {p pos : Pos} (F : ExcBaseFacts B newId initId bmB) (q : PySem.W.excIn X.K C bmB newId = true) (gC : X.mg x = some (.ref C)) (kC : PySem.W.keepIn X.K (.ref C) = true) (r : Raises X (.ref C)) (hg : Gl X x) (he : PE X e ta)
    (hs : starEach [e] X.env = (false, eval e X.env) :: starEach [] X.env := by rfl) (hdb : (x == ("__debug__" : Str)) = false := by decide) : L2N.PMk X (.Call (.Name x p) [e] [] pos) (fun σ H Q => ta σ H fun _ H1 => Q (.ref C) none H1) := by
  intro pins s σ H Q I h; refine wpAny_Call_Name_kw (ld_glob I hg gC ?_ hdb)
  refine PySem.W.callWith_K (h₀ := X.base) I.ok.mod.kin kC ?_ hs (by rfl); rw [hs]
  refine (show wpAny _ _ (spliced ((false, eval e X.env) :: backTo pos (starEach [] X.env))) _ _ s from ?_)
  refine Calls.spliced_cons (thn (he.run pins s σ H _ I h) fun u s1 ⟨v, H1, I1, r1, q1⟩ => Calls.spliced_nil ⟨I1.kIn, ?_⟩)
  refine (show wpAny _ _ (call (.ref C) [u]) _ _ _ from ?_)
  obtain ⟨bm, N, nm, qn, bs, hdct, sn, sub, ab, col, dd, k0, k1, k2, k3, k5, mN, hC, hN, hni, T⟩ := exc_obj I1.kIn q
  exact wpAny_call_exc_subT F T hC hN hni (fun h' e' hm => L2N.mk_of I1 hm r q1 (I1.hok.gone hm.new)) (by show 1 ≤ sizeLine; rw [sizeLine_eq]; omega)
end
/-! ### which class an error is of -/
theorem kit_subT {K : PySem.W.Frag} {D S : Addr} (h2 : PySem.W.isClsIn K S = true) (h3 : PySem.W.typeIn K (.ref S) = some (.type "type")) (h4 : PySem.W.subIn K (.ref D) (.ref S) = some true) : PySem.W.kitOne K (.ref D) (.ref S) = some true := by
  by_cases e : D = S
  · subst e
    exact kit_self
  · exact kit_sub e h2 h3 h4
theorem kit_blt {K : PySem.W.Frag} {D : Addr} {b : String} {r : Bool} (hm : PySem.W.kitMeta b = true) (h : PySem.W.subIn K (.ref D) (.type b) = some r) : PySem.W.kitOne K (.ref D) (.type b) = some r := by
  unfold PySem.W.kitOne
  rw [if_neg (by intro z; exact nomatch (beq_iff_eq.mp z))]
  unfold PySem.W.kitCls
  simpa [hm] using h
theorem takeB {α : Type} {l : List α} {i : Nat} {x : α} (h : l[i]? = some x) : l.take (i + 1) = l.take i ++ [x] := by
  rw [List.take_succ, h]
  rfl
/-! ### unpacking a tuple while an error is handled -/
section
variable {prog : Program} {w : World} {A : Around} {E : Value → Shared → Prop} {s : Shared}
theorem tup_end_hot {it l x1 : Addr} {i : Nat} {items} {Q : Option Value → Shared → Prop} (hot : HotX.HotAt A x1 s.heap) (hit : IsTupIter s.heap it l i) (hl : IsTup s.heap l items) (hx : items[i]? = none)
    (hQ : ∀ h', Heap.ExtBut it s.heap h' → Q none { s with heap := h' }) : wpAny (model prog w) A (pyNext (.ref it)) Q E s := by
  obtain ⟨hh, o1, vs1, h1, d1, c1⟩ := hot; obtain ⟨o, ho, hc, hd⟩ := id hit
  obtain ⟨ol, hol, _, nl, hdl⟩ := hl; unfold pyNext
  have ni : it ≠ x1 := fun z => by
    rw [← z, ho] at h1
    cases h1
    rw [hd] at d1
    cases d1
    simp at c1
  refine wpAny_bind (wpAny_attempt (wpAny_callSpecial?_slot (name := Str.ofString "__next__") hit.typeIs slot_tupleiter_next (wpAny_call_entry slot_tupleiter_next hit.typeIs entry_tupleiter_next ?_ (args_tupleiter_next _))))
  refine (show wpAny _ _ (field (.ref it) 0 >>= _) _ _ s from ?_); refine wpAny_bind (wpAny_field ho hd (x := .ref l) rfl ?_)
  refine (show wpAny _ _ (if (Value.ref l == Value.none) = true then _ else _) _ _ s from ?_); rw [if_neg (show ¬ ((Value.ref l == Value.none) = true) from Bool.false_ne_true)]
  refine (show wpAny _ _ (field (.ref it) 1 >>= _) _ _ s from ?_); refine wpAny_bind (wpAny_field ho hd (x := .int i 0) rfl ?_)
  refine (show wpAny _ _ (seqItems? (.ref l) >>= _) _ _ s from ?_); refine wpAny_bind (wpAny_seqItems hol hdl ?_)
  simp only [Int.toNat_natCast, hx]; refine wpAny_bind (wpAny_rule (wpAny_bind (wpAny_setField ho hd (by simp) ?_)))
  refine (show wpAny _ _ (newExc (.type "StopIteration") [] >>= _) _ _ _ from ?_); refine wpAny_bind ?_
  simp only [newExc, newTuple]; refine wpAny_bind (wpAny_newObj_type ?_ (by size_fits))
  refine wpAny_bind (m := firstArgMember _ _) (wpAny_of_eq (a := Value.none) (by first | rfl | (simp only [firstArgMember]; rfl)) ?_); refine wpAny_newObj_type ?_ (by size_fits)
  have g1 : ∀ f : Obj → Obj, (s.heap.update it f).get? x1 = some o1 := fun f => by rw [Heap.get?_update_other _ _ ni]; exact h1
  refine HotX.raiseNew_hot ⟨hh, o1, vs1, Heap.get?_push_of_some _ (Heap.get?_push_of_some _ (g1 _)), d1, c1⟩ (Nat.ne_of_lt (Heap.lt_size (Heap.get?_push_of_some _ (g1 _)))) (Heap.get?_push_size _ rfl) rfl (by first | (simp; done) | (simp; omega) | (simp only [Array.size_append]; simp; omega)) ?_
  refine wpAny_bind (wpAny_isInstance (T := "StopIteration") (b := true) ⟨_, Heap.get?_update_self _ (Heap.get?_push_size _ rfl) rfl, rfl⟩ isSubtype_stop ?_); refine wpAny_pure (hQ _ fun b o' nb e => ?_)
  have e2 : ∀ f oo, ((s.heap.update it f).push oo).get? b = some o' := fun f oo => (Heap.SameBut.update ..).extBut.push _ b o' nb e
  rw [Heap.get?_update_other _ _ (Nat.ne_of_gt (Heap.lt_size (e2 _ _)))]; exact Heap.get?_push_of_some _ (e2 _ _)
theorem unpack_hot {t x1 : Addr} {items : Array Value} {Q : List Value → Shared → Prop} (hot : HotX.HotAt A x1 s.heap) (ht : IsTup s.heap t items)
    (hQ : ∀ h', Heap.ExtBut s.heap.objs.size s.heap h' → Q items.toList { s with heap := h' }) : wpAny (model prog w) A (unpackItems (.ref t) items.size none) Q E s := by
  have hlt : t ≠ s.heap.objs.size := ht.elim fun o ho => Nat.ne_of_lt (Heap.lt_size ho.1)
  have hx : x1 ≠ s.heap.objs.size := hot.2.elim fun o ho => ho.elim fun _ h => Nat.ne_of_lt (Heap.lt_size h.1)
  unfold unpackItems notIterableAtAll; refine wpAny_bind (wpAny_bind (wpAny_specialOf ht.typeIs slot_tuple_iter.lookup (wpAny_pure ?_)))
  simp only [Bool.false_eq_true, if_false]; refine wpAny_bind (wpAny_holding (iter_tuple ht (wpAny_bind (wpAny_holding (draw_tuple hlt items.size 0 _ _ ⟨_, Heap.get?_push_size _ rfl, rfl, rfl⟩ (ht.push _) (by omega) fun h₁ hit₁ hs₁ => ?_)))))
  have hall : List.take items.size (List.drop 0 items.toList) = items.toList := by rw [List.drop_zero]; exact List.take_of_length_le (by simp)
  rw [hall, if_neg (by simp)]
  have ht₁ := (ht.push { cls := .type "tuple_iterator", data := .fields #[.ref t, .int 0 0] }).extBut hs₁.extBut hlt
  have hot₁ : HotX.HotAt A x1 h₁ := hot.2.elim fun o ho => ho.elim fun vv h => ⟨hot.1, o, vv, hs₁.extBut x1 o hx (Heap.get?_push_of_some _ h.1), h.2.1, h.2.2⟩
  refine wpAny_bind (wpAny_holding (tup_end_hot hot₁ hit₁ ht₁ (by simp) fun h₂ he₂ => ?_))
  simp only [Option.isSome_none, Bool.false_eq_true, if_false]; exact wpAny_pure (hQ h₂ fun b o hb e => he₂ b o hb (hs₁.extBut b o hb (Heap.get?_push_of_some _ e)))
end
/-- (a, b, ..) = a tuple, while an error is handled -/
theorem pg_tupH {X : Cx} {pos : Pos} {es : List Expr} {k : Nat} {t : TGs} {n : Nat} (hc : L2H.HotC X) (h : PGs X es t) (hn : (assignEach es X.env).length = n := by rfl) (hst : (assignEach es X.env).findIdx? (·.1) = none := by rfl) : PG X (.Tuple es k pos) (gTup X.K n t) := by
  refine ⟨fun pins s σ H v u Q I r hw => ?_⟩
  obtain ⟨a, xs, e1, hq, hl, hw⟩ := hw; subst e1; cases r
  obtain ⟨its, rv, ht, hz⟩ := I.tuple hq; obtain ⟨x1, hot⟩ := hc.at I
  rw [assign_Tuple]; refine wpAny_bind (wpAny_standAt ?_); unfold unpack
  rw [show (assignEach es X.env).length = its.toArray.size by simp [hn, ← hl, rv.length], hst]
  refine wpAny_bind (wpAny_holding (unpack_hot hot ht fun h' hx => ?_))
  have I1 : Inv X pins σ H { s with heap := h' } := I.kept (t' := s.toks) fun b o e => hx b o (Nat.ne_of_lt (Heap.lt_size e)) e
  exact h.run pins _ σ H xs _ Q I1 (by simpa using rv) hw
/-- a def that may raise, called where it does not -/
theorem passLN {X : Cx} : Passes (L2N.CX X.prog X.w) X E0 := fun _ _ _ _ _ _ _ h => by
  obtain ⟨_, _, _, _, _, _, _, _, _, _, _, _, z⟩ := h
  exact False.elim z
end Rg
namespace K06
open PySem PySem.Spec PyProof.Rows L2 Rg
def top (i : Nat) : Stmt := PySem.Challenge.pw_lotsandties_k06_words_of_a_file.main.body.getD i (.Pass ⟨0, 0, 0, 0⟩)
abbrev s_node_cell : Stmt := top 40
abbrev s_put_node_cell : Stmt := top 41
abbrev s_is_made : Stmt := top 42
abbrev s_make_node : Stmt := top 43
abbrev s_unmake_node : Stmt := top 44
abbrev s_place_block : Stmt := top 48
abbrev s_put_place : Stmt := top 49
abbrev s_needs_block_of_places : Stmt := top 50
abbrev s_fill_place : Stmt := top 51
abbrev s_take_place : Stmt := top 52
abbrev s_drop_block_of_places : Stmt := top 53
abbrev s_drop_place : Stmt := top 54
abbrev s_held_blocks : Stmt := top 55
abbrev s_taken_behind : Stmt := top 58
abbrev s_unfinished : Stmt := top 59
abbrev s_put_size : Stmt := top 60
abbrev s_set_size : Stmt := top 61
abbrev s_free_piece : Stmt := top 62
abbrev s_read_word : Stmt := top 64
abbrev s_read_words : Stmt := top 65
abbrev s_file_words : Stmt := top 66
abbrev s_take_places : Stmt := top 67
abbrev s_fill_holes : Stmt := top 68
abbrev s_write_words : Stmt := top 69
abbrev s_Lfeed : Stmt := top 73
abbrev s_Lpick : Stmt := top 74
abbrev s_Linteger : Stmt := top 75
abbrev s_Lrow : Stmt := top 76
abbrev s_Lbehind : Stmt := top 77
abbrev s_Lblocks : Stmt := top 78
abbrev s_Lagrees : Stmt := top 79
abbrev s_Lwindow : Stmt := top 80
abbrev s_Lwrite_refused : Stmt := top 81
abbrev s_Lsize_refused : Stmt := top 82
abbrev s_Lwrite : Stmt := top 83
abbrev s_Lsize : Stmt := top 84
abbrev s_Lspoil : Stmt := top 85
abbrev s_Lpiece : Stmt := top 86
abbrev s_law : Stmt := top 87
abbrev s_Plan___init__ : Stmt := inClass (top 38) 6
abbrev s_Plan_map_place : Stmt := inClass (top 38) 9
abbrev s_Plan_node_block : Stmt := inClass (top 38) 10
abbrev s_Plan_data_blocks : Stmt := inClass (top 38) 11
abbrev s_Image___init__ : Stmt := inClass (top 71) 0
abbrev s_Image_begin : Stmt := inClass (top 71) 3
abbrev s_Image_twin : Stmt := inClass (top 71) 5
abbrev s_Image_take : Stmt := inClass (top 71) 6
abbrev s_Image_give : Stmt := inClass (top 71) 7
abbrev s_Image__put_block : Stmt := inClass (top 71) 8
abbrev s_Image_free_blocks : Stmt := inClass (top 71) 9
abbrev s_Image_kind : Stmt := inClass (top 71) 10
abbrev s_Image_fresh : Stmt := inClass (top 71) 1
abbrev s_Image_of_cells : Stmt := inClass (top 71) 2
theorem sc_node_cell : FnScope ["image", "n", "field"] ["image", "n", "field"] (defScope s_node_cell) := ⟨rfl, rfl, rfl, by decide +kernel, rfl, by decide +kernel, by decide +kernel⟩
theorem sc_put_node_cell : FnScope ["image", "n", "field", "value"] ["image", "n", "field", "value"] (defScope s_put_node_cell) := ⟨rfl, rfl, rfl, by decide +kernel, rfl, by decide +kernel, by decide +kernel⟩
theorem sc_is_made : FnScope ["image", "n"] ["image", "n"] (defScope s_is_made) := ⟨rfl, rfl, rfl, by decide +kernel, rfl, by decide +kernel, by decide +kernel⟩
theorem sc_make_node : FnScope ["image", "kind", "owner", "unmade", "n"] ["image", "kind", "owner"] (defScope s_make_node) := ⟨rfl, rfl, rfl, by decide +kernel, rfl, by decide +kernel, by decide +kernel⟩
theorem sc_unmake_node : FnScope ["image", "n", "field"] ["image", "n"] (defScope s_unmake_node) := ⟨rfl, rfl, rfl, by decide +kernel, rfl, by decide +kernel, by decide +kernel⟩
theorem sc_place_block : FnScope ["image", "n", "o", "block"] ["image", "n", "o"] (defScope s_place_block) := ⟨rfl, rfl, rfl, by decide +kernel, rfl, by decide +kernel, by decide +kernel⟩
theorem sc_put_place : FnScope ["image", "n", "o", "x"] ["image", "n", "o", "x"] (defScope s_put_place) := ⟨rfl, rfl, rfl, by decide +kernel, rfl, by decide +kernel, by decide +kernel⟩
theorem sc_needs_block_of_places : FnScope ["image", "n", "o"] ["image", "n", "o"] (defScope s_needs_block_of_places) := ⟨rfl, rfl, rfl, by decide +kernel, rfl, by decide +kernel, by decide +kernel⟩
theorem sc_fill_place : FnScope ["image", "n", "o", "owner", "x"] ["image", "n", "o"] (defScope s_fill_place) := ⟨rfl, rfl, rfl, by decide +kernel, rfl, by decide +kernel, by decide +kernel⟩
theorem sc_take_place : FnScope ["image", "n", "o", "x"] ["image", "n", "o"] (defScope s_take_place) := ⟨rfl, rfl, rfl, by decide +kernel, rfl, by decide +kernel, by decide +kernel⟩
theorem sc_drop_block_of_places : FnScope ["image", "n", "block"] ["image", "n"] (defScope s_drop_block_of_places) := ⟨rfl, rfl, rfl, by decide +kernel, rfl, by decide +kernel, by decide +kernel⟩
theorem sc_drop_place : FnScope ["image", "n", "o", "x"] ["image", "n", "o"] (defScope s_drop_place) := ⟨rfl, rfl, rfl, by decide +kernel, rfl, by decide +kernel, by decide +kernel⟩
theorem sc_held_blocks : FnScope ["image", "nodes", "held", "n", "blocks", "o", "x"] ["image", "nodes"] (defScope s_held_blocks) := ⟨rfl, rfl, rfl, by decide +kernel, rfl, by decide +kernel, by decide +kernel⟩
theorem sc_taken_behind : FnScope ["image", "n", "size", "o"] ["image", "n"] (defScope s_taken_behind) := ⟨rfl, rfl, rfl, by decide +kernel, rfl, by decide +kernel, by decide +kernel⟩
theorem sc_unfinished : FnScope ["image", "n"] ["image", "n"] (defScope s_unfinished) := ⟨rfl, rfl, rfl, by decide +kernel, rfl, by decide +kernel, by decide +kernel⟩
theorem sc_put_size : FnScope ["image", "n", "size", "end", "x", "cell"] ["image", "n", "size"] (defScope s_put_size) := ⟨rfl, rfl, rfl, by decide +kernel, rfl, by decide +kernel, by decide +kernel⟩
theorem sc_set_size : FnScope ["image", "n", "size"] ["image", "n", "size"] (defScope s_set_size) := ⟨rfl, rfl, rfl, by decide +kernel, rfl, by decide +kernel, by decide +kernel⟩
theorem sc_free_piece : FnScope ["image", "n", "dropped", "o"] ["image", "n"] (defScope s_free_piece) := ⟨rfl, rfl, rfl, by decide +kernel, rfl, by decide +kernel, by decide +kernel⟩
theorem sc_read_word : FnScope ["image", "n", "at", "x"] ["image", "n", "at"] (defScope s_read_word) := ⟨rfl, rfl, rfl, by decide +kernel, rfl, by decide +kernel, by decide +kernel⟩
theorem sc_read_words : FnScope ["image", "n", "at", "count", "cell"] ["image", "n", "at", "count"] (defScope s_read_words) := ⟨rfl, rfl, rfl, by decide +kernel, rfl, by decide +kernel, by decide +kernel⟩
theorem sc_file_words : FnScope ["image", "n"] ["image", "n"] (defScope s_file_words) := ⟨rfl, rfl, rfl, by decide +kernel, rfl, by decide +kernel, by decide +kernel⟩
theorem sc_take_places : FnScope ["image", "n", "places", "o"] ["image", "n", "places"] (defScope s_take_places) := ⟨rfl, rfl, rfl, by decide +kernel, rfl, by decide +kernel, by decide +kernel⟩
theorem sc_fill_holes : FnScope ["image", "n", "first", "last", "holes", "o"] ["image", "n", "first", "last"] (defScope s_fill_holes) := ⟨rfl, rfl, rfl, by decide +kernel, rfl, by decide +kernel, by decide +kernel⟩
theorem sc_write_words : FnScope ["image", "n", "at", "words", "end", "k", "word", "cell"] ["image", "n", "at", "words"] (defScope s_write_words) := ⟨rfl, rfl, rfl, by decide +kernel, rfl, by decide +kernel, by decide +kernel⟩
theorem sc_Lfeed : FnScope ["_law_script", "_law_feed_here", "_law_cell", "_law_rest", "_law_k"] ["_law_script"] (defScope s_Lfeed) := ⟨rfl, rfl, rfl, by decide +kernel, rfl, by decide +kernel, by decide +kernel⟩
theorem sc_Lpick : FnScope ["_law_feed_here", "_law_limit"] ["_law_feed_here", "_law_limit"] (defScope s_Lpick) := ⟨rfl, rfl, rfl, by decide +kernel, rfl, by decide +kernel, by decide +kernel⟩
theorem sc_Linteger : FnScope ["_law_actual", "_law_due"] ["_law_actual", "_law_due"] (defScope s_Linteger) := ⟨rfl, rfl, rfl, by decide +kernel, rfl, by decide +kernel, by decide +kernel⟩
theorem sc_Lrow : FnScope ["_law_actual", "_law_due", "_law_k"] ["_law_actual", "_law_due"] (defScope s_Lrow) := ⟨rfl, rfl, rfl, by decide +kernel, rfl, by decide +kernel, by decide +kernel⟩
theorem sc_Lbehind : FnScope ["_law_book", "_law_words", "_law_held", "_law_sizes", "_law_owner", "_law_o"] ["_law_book"] (defScope s_Lbehind) := ⟨rfl, rfl, rfl, by decide +kernel, rfl, by decide +kernel, by decide +kernel⟩
theorem sc_Lblocks : FnScope ["_law_image", "_law_book", "_law_words", "_law_held", "_law_sizes", "_law_owner", "_law_blocks_here", "_law_o", "_law_x", "_law_table"] ["_law_image", "_law_book"] (defScope s_Lblocks) := ⟨rfl, rfl, rfl, by decide +kernel, rfl, by decide +kernel, by decide +kernel⟩
theorem sc_Lagrees : FnScope ["_law_image", "_law_book", "_law_words", "_law_held", "_law_sizes", "_law_owner", "_law_told", "_law_blocks_here", "_law_holds", "_law_free", "_law_x", "_law_sums", "_law_node", "_law_late"] ["_law_image", "_law_book"] (defScope s_Lagrees) := ⟨rfl, rfl, rfl, by decide +kernel, rfl, by decide +kernel, by decide +kernel⟩
theorem sc_Lwindow : FnScope ["_law_image", "_law_book", "_law_feed_here", "_law_at", "_law_count", "_law_row_here", "_law_k", "_law_told"] ["_law_image", "_law_book", "_law_feed_here"] (defScope s_Lwindow) := ⟨rfl, rfl, rfl, by decide +kernel, rfl, by decide +kernel, by decide +kernel⟩
theorem sc_Lwrite_refused : FnScope ["_law_image", "_law_at", "_law_given", "_law_late", "e"] ["_law_image", "_law_at", "_law_given", "_law_late"] (defScope s_Lwrite_refused) := ⟨rfl, rfl, rfl, by decide +kernel, rfl, by decide +kernel, by decide +kernel⟩
theorem sc_Lsize_refused : FnScope ["_law_image", "_law_size_here", "_law_late", "e"] ["_law_image", "_law_size_here", "_law_late"] (defScope s_Lsize_refused) := ⟨rfl, rfl, rfl, by decide +kernel, rfl, by decide +kernel, by decide +kernel⟩
theorem sc_Lwrite : FnScope ["_law_image", "_law_book", "_law_feed_here", "_law_words", "_law_held", "_law_sizes", "_law_owner", "_law_at", "_law_count", "_law_base", "_law_weight", "_law_given", "_law_k", "_law_kept", "_law_late"] ["_law_image", "_law_book", "_law_feed_here"] (defScope s_Lwrite) := ⟨rfl, rfl, rfl, by decide +kernel, rfl, by decide +kernel, by decide +kernel⟩
theorem sc_Lsize : FnScope ["_law_image", "_law_book", "_law_feed_here", "_law_words", "_law_held", "_law_sizes", "_law_owner", "_law_size_here", "_law_late", "_law_cell"] ["_law_image", "_law_book", "_law_feed_here"] (defScope s_Lsize) := ⟨rfl, rfl, rfl, by decide +kernel, rfl, by decide +kernel, by decide +kernel⟩
theorem sc_Lspoil : FnScope ["_law_image", "_law_book", "_law_feed_here", "_law_words", "_law_held", "_law_sizes", "_law_owner", "_law_size_here", "_law_row_here", "_law_k"] ["_law_image", "_law_book", "_law_feed_here"] (defScope s_Lspoil) := ⟨rfl, rfl, rfl, by decide +kernel, rfl, by decide +kernel, by decide +kernel⟩
theorem sc_Lpiece : FnScope ["_law_image", "_law_book", "_law_words", "_law_held", "_law_sizes", "_law_owner", "_law_behind_here", "_law_due", "_law_o"] ["_law_image", "_law_book"] (defScope s_Lpiece) := ⟨rfl, rfl, rfl, by decide +kernel, rfl, by decide +kernel, by decide +kernel⟩
theorem sc_law : FnScope ["_law_script", "_law_feed_here", "_law_image", "_law_owner", "_law_book", "_law_k", "_law_o", "_law_choice", "_law_good"] ["_law_script"] (defScope s_law) := ⟨rfl, rfl, rfl, by decide +kernel, rfl, by decide +kernel, by decide +kernel⟩
theorem sc_Plan___init__ : FnScope ["self", "blocks", "nodes", "slots"] ["self", "blocks", "nodes", "slots"] (defScope s_Plan___init__) := ⟨rfl, rfl, rfl, by decide +kernel, rfl, by decide +kernel, by decide +kernel⟩
theorem sc_Plan_map_place : FnScope ["self", "x"] ["self", "x"] (defScope s_Plan_map_place) := ⟨rfl, rfl, rfl, by decide +kernel, rfl, by decide +kernel, by decide +kernel⟩
theorem sc_Plan_node_block : FnScope ["self", "n"] ["self", "n"] (defScope s_Plan_node_block) := ⟨rfl, rfl, rfl, by decide +kernel, rfl, by decide +kernel, by decide +kernel⟩
theorem sc_Plan_data_blocks : FnScope ["self"] ["self"] (defScope s_Plan_data_blocks) := ⟨rfl, rfl, rfl, by decide +kernel, rfl, by decide +kernel, by decide +kernel⟩
theorem sc_Image___init__ : FnScope ["self", "plan", "_"] ["self", "plan"] (defScope s_Image___init__) := ⟨rfl, rfl, rfl, by decide +kernel, rfl, by decide +kernel, by decide +kernel⟩
theorem sc_Image_begin : FnScope ["self", "wish", "barred"] ["self", "wish", "barred"] (defScope s_Image_begin) := ⟨rfl, rfl, rfl, by decide +kernel, rfl, by decide +kernel, by decide +kernel⟩
theorem sc_Image_twin : FnScope ["self", "other", "row"] ["self"] (defScope s_Image_twin) := ⟨rfl, rfl, rfl, by decide +kernel, rfl, by decide +kernel, by decide +kernel⟩
theorem sc_Image_take : FnScope ["self", "kind", "owner", "sums", "limit", "free", "x", "wished"] ["self", "kind", "owner"] (defScope s_Image_take) := ⟨rfl, rfl, rfl, by decide +kernel, rfl, by decide +kernel, by decide +kernel⟩
theorem sc_Image_give : FnScope ["self", "x", "owner"] ["self", "x", "owner"] (defScope s_Image_give) := ⟨rfl, rfl, rfl, by decide +kernel, rfl, by decide +kernel, by decide +kernel⟩
theorem sc_Image__put_block : FnScope ["self", "x", "kind", "serial", "block", "cell"] ["self", "x", "kind", "serial"] (defScope s_Image__put_block) := ⟨rfl, rfl, rfl, by decide +kernel, rfl, by decide +kernel, by decide +kernel⟩
theorem sc_Image_free_blocks : FnScope ["self", "x"] ["self"] (defScope s_Image_free_blocks) := ⟨rfl, rfl, rfl, by decide +kernel, rfl, by decide +kernel, by decide +kernel⟩
theorem sc_Image_kind : FnScope ["self", "x", "block", "cell", "kind"] ["self", "x"] (defScope s_Image_kind) := ⟨rfl, rfl, rfl, by decide +kernel, rfl, by decide +kernel, by decide +kernel⟩
theorem sc_Image_fresh : FnScope ["plan", "image", "x", "block", "cell", "root"] ["plan"] (defScope s_Image_fresh) := ⟨rfl, rfl, rfl, by decide +kernel, rfl, by decide +kernel, by decide +kernel⟩
theorem sc_Image_of_cells : FnScope ["plan", "rows", "image", "row", "x"] ["plan", "rows"] (defScope s_Image_of_cells) := ⟨rfl, rfl, rfl, by decide +kernel, rfl, by decide +kernel, by decide +kernel⟩

structure Tx (K : PySem.W.Frag) (mg : Str → Option Value) where
  f_node_cell : Addr
  fd_node_cell : FuncData
  F_node_cell : Fun K "node_cell" "node_cell" s_node_cell f_node_cell fd_node_cell
  mg_node_cell : mg "node_cell" = some (.ref f_node_cell)
  f_put_node_cell : Addr
  fd_put_node_cell : FuncData
  F_put_node_cell : Fun K "put_node_cell" "put_node_cell" s_put_node_cell f_put_node_cell fd_put_node_cell
  mg_put_node_cell : mg "put_node_cell" = some (.ref f_put_node_cell)
  f_is_made : Addr
  fd_is_made : FuncData
  F_is_made : Fun K "is_made" "is_made" s_is_made f_is_made fd_is_made
  mg_is_made : mg "is_made" = some (.ref f_is_made)
  f_make_node : Addr
  fd_make_node : FuncData
  F_make_node : Fun K "make_node" "make_node" s_make_node f_make_node fd_make_node
  mg_make_node : mg "make_node" = some (.ref f_make_node)
  f_unmake_node : Addr
  fd_unmake_node : FuncData
  F_unmake_node : Fun K "unmake_node" "unmake_node" s_unmake_node f_unmake_node fd_unmake_node
  mg_unmake_node : mg "unmake_node" = some (.ref f_unmake_node)
  f_place_block : Addr
  fd_place_block : FuncData
  F_place_block : Fun K "place_block" "place_block" s_place_block f_place_block fd_place_block
  mg_place_block : mg "place_block" = some (.ref f_place_block)
  f_put_place : Addr
  fd_put_place : FuncData
  F_put_place : Fun K "put_place" "put_place" s_put_place f_put_place fd_put_place
  mg_put_place : mg "put_place" = some (.ref f_put_place)
  f_needs_block_of_places : Addr
  fd_needs_block_of_places : FuncData
  F_needs_block_of_places : Fun K "_needs_block_of_places" "_needs_block_of_places" s_needs_block_of_places f_needs_block_of_places fd_needs_block_of_places
  mg_needs_block_of_places : mg "_needs_block_of_places" = some (.ref f_needs_block_of_places)
  f_fill_place : Addr
  fd_fill_place : FuncData
  F_fill_place : Fun K "_fill_place" "_fill_place" s_fill_place f_fill_place fd_fill_place
  mg_fill_place : mg "_fill_place" = some (.ref f_fill_place)
  f_take_place : Addr
  fd_take_place : FuncData
  F_take_place : Fun K "take_place" "take_place" s_take_place f_take_place fd_take_place
  mg_take_place : mg "take_place" = some (.ref f_take_place)
  f_drop_block_of_places : Addr
  fd_drop_block_of_places : FuncData
  F_drop_block_of_places : Fun K "_drop_block_of_places" "_drop_block_of_places" s_drop_block_of_places f_drop_block_of_places fd_drop_block_of_places
  mg_drop_block_of_places : mg "_drop_block_of_places" = some (.ref f_drop_block_of_places)
  f_drop_place : Addr
  fd_drop_place : FuncData
  F_drop_place : Fun K "drop_place" "drop_place" s_drop_place f_drop_place fd_drop_place
  mg_drop_place : mg "drop_place" = some (.ref f_drop_place)
  f_held_blocks : Addr
  fd_held_blocks : FuncData
  F_held_blocks : Fun K "held_blocks" "held_blocks" s_held_blocks f_held_blocks fd_held_blocks
  mg_held_blocks : mg "held_blocks" = some (.ref f_held_blocks)
  f_taken_behind : Addr
  fd_taken_behind : FuncData
  F_taken_behind : Fun K "_taken_behind" "_taken_behind" s_taken_behind f_taken_behind fd_taken_behind
  mg_taken_behind : mg "_taken_behind" = some (.ref f_taken_behind)
  f_unfinished : Addr
  fd_unfinished : FuncData
  F_unfinished : Fun K "unfinished" "unfinished" s_unfinished f_unfinished fd_unfinished
  mg_unfinished : mg "unfinished" = some (.ref f_unfinished)
  f_put_size : Addr
  fd_put_size : FuncData
  F_put_size : Fun K "put_size" "put_size" s_put_size f_put_size fd_put_size
  mg_put_size : mg "put_size" = some (.ref f_put_size)
  f_set_size : Addr
  fd_set_size : FuncData
  F_set_size : Fun K "set_size" "set_size" s_set_size f_set_size fd_set_size
  mg_set_size : mg "set_size" = some (.ref f_set_size)
  f_free_piece : Addr
  fd_free_piece : FuncData
  F_free_piece : Fun K "free_piece" "free_piece" s_free_piece f_free_piece fd_free_piece
  mg_free_piece : mg "free_piece" = some (.ref f_free_piece)
  f_read_word : Addr
  fd_read_word : FuncData
  F_read_word : Fun K "_read_word" "_read_word" s_read_word f_read_word fd_read_word
  mg_read_word : mg "_read_word" = some (.ref f_read_word)
  f_read_words : Addr
  fd_read_words : FuncData
  F_read_words : Fun K "read_words" "read_words" s_read_words f_read_words fd_read_words
  mg_read_words : mg "read_words" = some (.ref f_read_words)
  f_file_words : Addr
  fd_file_words : FuncData
  F_file_words : Fun K "file_words" "file_words" s_file_words f_file_words fd_file_words
  mg_file_words : mg "file_words" = some (.ref f_file_words)
  f_take_places : Addr
  fd_take_places : FuncData
  F_take_places : Fun K "_take_places" "_take_places" s_take_places f_take_places fd_take_places
  mg_take_places : mg "_take_places" = some (.ref f_take_places)
  f_fill_holes : Addr
  fd_fill_holes : FuncData
  F_fill_holes : Fun K "_fill_holes" "_fill_holes" s_fill_holes f_fill_holes fd_fill_holes
  mg_fill_holes : mg "_fill_holes" = some (.ref f_fill_holes)
  f_write_words : Addr
  fd_write_words : FuncData
  F_write_words : Fun K "write_words" "write_words" s_write_words f_write_words fd_write_words
  mg_write_words : mg "write_words" = some (.ref f_write_words)
  f_Lfeed : Addr
  fd_Lfeed : FuncData
  F_Lfeed : Fun K "_law_feed" "_law_feed" s_Lfeed f_Lfeed fd_Lfeed
  mg_Lfeed : mg "_law_feed" = some (.ref f_Lfeed)
  f_Lpick : Addr
  fd_Lpick : FuncData
  F_Lpick : Fun K "_law_pick" "_law_pick" s_Lpick f_Lpick fd_Lpick
  mg_Lpick : mg "_law_pick" = some (.ref f_Lpick)
  f_Linteger : Addr
  fd_Linteger : FuncData
  F_Linteger : Fun K "_law_integer" "_law_integer" s_Linteger f_Linteger fd_Linteger
  mg_Linteger : mg "_law_integer" = some (.ref f_Linteger)
  f_Lrow : Addr
  fd_Lrow : FuncData
  F_Lrow : Fun K "_law_row" "_law_row" s_Lrow f_Lrow fd_Lrow
  mg_Lrow : mg "_law_row" = some (.ref f_Lrow)
  f_Lbehind : Addr
  fd_Lbehind : FuncData
  F_Lbehind : Fun K "_law_behind" "_law_behind" s_Lbehind f_Lbehind fd_Lbehind
  mg_Lbehind : mg "_law_behind" = some (.ref f_Lbehind)
  f_Lblocks : Addr
  fd_Lblocks : FuncData
  F_Lblocks : Fun K "_law_blocks" "_law_blocks" s_Lblocks f_Lblocks fd_Lblocks
  mg_Lblocks : mg "_law_blocks" = some (.ref f_Lblocks)
  f_Lagrees : Addr
  fd_Lagrees : FuncData
  F_Lagrees : Fun K "_law_agrees" "_law_agrees" s_Lagrees f_Lagrees fd_Lagrees
  mg_Lagrees : mg "_law_agrees" = some (.ref f_Lagrees)
  f_Lwindow : Addr
  fd_Lwindow : FuncData
  F_Lwindow : Fun K "_law_window" "_law_window" s_Lwindow f_Lwindow fd_Lwindow
  mg_Lwindow : mg "_law_window" = some (.ref f_Lwindow)
  f_Lwrite_refused : Addr
  fd_Lwrite_refused : FuncData
  F_Lwrite_refused : Fun K "_law_write_refused" "_law_write_refused" s_Lwrite_refused f_Lwrite_refused fd_Lwrite_refused
  mg_Lwrite_refused : mg "_law_write_refused" = some (.ref f_Lwrite_refused)
  f_Lsize_refused : Addr
  fd_Lsize_refused : FuncData
  F_Lsize_refused : Fun K "_law_size_refused" "_law_size_refused" s_Lsize_refused f_Lsize_refused fd_Lsize_refused
  mg_Lsize_refused : mg "_law_size_refused" = some (.ref f_Lsize_refused)
  f_Lwrite : Addr
  fd_Lwrite : FuncData
  F_Lwrite : Fun K "_law_write" "_law_write" s_Lwrite f_Lwrite fd_Lwrite
  mg_Lwrite : mg "_law_write" = some (.ref f_Lwrite)
  f_Lsize : Addr
  fd_Lsize : FuncData
  F_Lsize : Fun K "_law_size" "_law_size" s_Lsize f_Lsize fd_Lsize
  mg_Lsize : mg "_law_size" = some (.ref f_Lsize)
  f_Lspoil : Addr
  fd_Lspoil : FuncData
  F_Lspoil : Fun K "_law_spoil" "_law_spoil" s_Lspoil f_Lspoil fd_Lspoil
  mg_Lspoil : mg "_law_spoil" = some (.ref f_Lspoil)
  f_Lpiece : Addr
  fd_Lpiece : FuncData
  F_Lpiece : Fun K "_law_piece" "_law_piece" s_Lpiece f_Lpiece fd_Lpiece
  mg_Lpiece : mg "_law_piece" = some (.ref f_Lpiece)
  f_law : Addr
  fd_law : FuncData
  F_law : Fun K "law" "law" s_law f_law fd_law
  mg_law : mg "law" = some (.ref f_law)
  f_Plan___init__ : Addr
  fd_Plan___init__ : FuncData
  F_Plan___init__ : Fun K "__init__" "Plan.__init__" s_Plan___init__ f_Plan___init__ fd_Plan___init__
  f_Plan_map_place : Addr
  fd_Plan_map_place : FuncData
  F_Plan_map_place : Fun K "map_place" "Plan.map_place" s_Plan_map_place f_Plan_map_place fd_Plan_map_place
  f_Plan_node_block : Addr
  fd_Plan_node_block : FuncData
  F_Plan_node_block : Fun K "node_block" "Plan.node_block" s_Plan_node_block f_Plan_node_block fd_Plan_node_block
  f_Plan_data_blocks : Addr
  fd_Plan_data_blocks : FuncData
  F_Plan_data_blocks : Fun K "data_blocks" "Plan.data_blocks" s_Plan_data_blocks f_Plan_data_blocks fd_Plan_data_blocks
  f_Image___init__ : Addr
  fd_Image___init__ : FuncData
  F_Image___init__ : Fun K "__init__" "Image.__init__" s_Image___init__ f_Image___init__ fd_Image___init__
  f_Image_begin : Addr
  fd_Image_begin : FuncData
  F_Image_begin : Fun K "begin" "Image.begin" s_Image_begin f_Image_begin fd_Image_begin
  f_Image_twin : Addr
  fd_Image_twin : FuncData
  F_Image_twin : Fun K "twin" "Image.twin" s_Image_twin f_Image_twin fd_Image_twin
  f_Image_take : Addr
  fd_Image_take : FuncData
  F_Image_take : Fun K "take" "Image.take" s_Image_take f_Image_take fd_Image_take
  f_Image_give : Addr
  fd_Image_give : FuncData
  F_Image_give : Fun K "give" "Image.give" s_Image_give f_Image_give fd_Image_give
  f_Image__put_block : Addr
  fd_Image__put_block : FuncData
  F_Image__put_block : Fun K "_put_block" "Image._put_block" s_Image__put_block f_Image__put_block fd_Image__put_block
  f_Image_free_blocks : Addr
  fd_Image_free_blocks : FuncData
  F_Image_free_blocks : Fun K "free_blocks" "Image.free_blocks" s_Image_free_blocks f_Image_free_blocks fd_Image_free_blocks
  f_Image_kind : Addr
  fd_Image_kind : FuncData
  F_Image_kind : Fun K "kind" "Image.kind" s_Image_kind f_Image_kind fd_Image_kind
  f_Image_fresh : Addr
  fd_Image_fresh : FuncData
  F_Image_fresh : Fun K "fresh" "Image.fresh" s_Image_fresh f_Image_fresh fd_Image_fresh
  f_Image_of_cells : Addr
  fd_Image_of_cells : FuncData
  F_Image_of_cells : Fun K "of_cells" "Image.of_cells" s_Image_of_cells f_Image_of_cells fd_Image_of_cells
  C_Plan : Addr
  mg_Plan : mg "Plan" = some (.ref C_Plan)
  cl_Plan : Cls K C_Plan
  na_Plan_blocks : NoAttr K C_Plan "blocks"
  na_Plan_nodes : NoAttr K C_Plan "nodes"
  na_Plan_slots : NoAttr K C_Plan "slots"
  na_Plan_maps : NoAttr K C_Plan "maps"
  na_Plan_first_node : NoAttr K C_Plan "first_node"
  na_Plan_first_data : NoAttr K C_Plan "first_data"
  mk_Plan : Mk K C_Plan f_Plan___init__
  mc_Plan : Value
  cr_Plan : ClX.CRead K C_Plan mc_Plan
  cv_Plan_WIDTH : ∃ u, ClX.CVal K C_Plan mc_Plan "WIDTH" (.int 8) u
  cv_Plan_OWNERS : ∃ u, ClX.CVal K C_Plan mc_Plan "OWNERS" (.int 4) u
  cv_Plan_LONGEST : ∃ u, ClX.CVal K C_Plan mc_Plan "LONGEST" (.int 80) u
  cv_Plan_FREE : ∃ u, ClX.CVal K C_Plan mc_Plan "FREE" (.int 0) u
  cv_Plan_LOGGED : ∃ u, ClX.CVal K C_Plan mc_Plan "LOGGED" (.int 1) u
  cv_Plan_PLAIN : ∃ u, ClX.CVal K C_Plan mc_Plan "PLAIN" (.int 2) u
  con_Plan_WIDTH : ∃ u, Con K C_Plan "WIDTH" (.int 8) u
  C_Image : Addr
  mg_Image : mg "Image" = some (.ref C_Image)
  cl_Image : Cls K C_Image
  na_Image_plan : NoAttr K C_Image "plan"
  na_Image_cells : NoAttr K C_Image "cells"
  na_Image_holdings : NoAttr K C_Image "holdings"
  na_Image_stamps : NoAttr K C_Image "stamps"
  na_Image_handles : NoAttr K C_Image "handles"
  na_Image_serial : NoAttr K C_Image "serial"
  na_Image_wish : NoAttr K C_Image "wish"
  na_Image_barred : NoAttr K C_Image "barred"
  mk_Image : Mk K C_Image f_Image___init__
  mc_Image : Value
  cr_Image : ClX.CRead K C_Image mc_Image
  m_Plan_map_place : Meth K C_Plan "map_place" f_Plan_map_place
  m_Plan_node_block : Meth K C_Plan "node_block" f_Plan_node_block
  m_Plan_data_blocks : Meth K C_Plan "data_blocks" f_Plan_data_blocks
  m_Image_begin : Meth K C_Image "begin" f_Image_begin
  m_Image_twin : Meth K C_Image "twin" f_Image_twin
  m_Image_take : Meth K C_Image "take" f_Image_take
  m_Image_give : Meth K C_Image "give" f_Image_give
  m_Image__put_block : Meth K C_Image "_put_block" f_Image__put_block
  m_Image_free_blocks : Meth K C_Image "free_blocks" f_Image_free_blocks
  m_Image_kind : Meth K C_Image "kind" f_Image_kind
  sm_Image_fresh : SMet K C_Image mc_Image "fresh" f_Image_fresh
  sm_Image_of_cells : SMet K C_Image mc_Image "of_cells" f_Image_of_cells
  C_Refused : Addr
  mg_Refused : mg "Refused" = some (.ref C_Refused)
  be_Refused : PySem.W.subIn K (.ref C_Refused) (.type "BaseException") = some true
  te_Refused : PySem.W.typeIn K (.ref C_Refused) = some (.type "type")
  ie_Refused : PySem.W.isClsIn K C_Refused = true
  C_NodesFull : Addr
  mg_NodesFull : mg "NodesFull" = some (.ref C_NodesFull)
  be_NodesFull : PySem.W.subIn K (.ref C_NodesFull) (.type "BaseException") = some true
  te_NodesFull : PySem.W.typeIn K (.ref C_NodesFull) = some (.type "type")
  ie_NodesFull : PySem.W.isClsIn K C_NodesFull = true
  xe_NodesFull : PySem.W.excIn K C_NodesFull [.type "ValueError", .type "Exception", .type "BaseException", .type "object"] "ValueError.__new__" = true
  ke_NodesFull : PySem.W.keepIn K (.ref C_NodesFull) = true
  ec_NodesFull : ExcC K C_NodesFull
  C_BlocksFull : Addr
  mg_BlocksFull : mg "BlocksFull" = some (.ref C_BlocksFull)
  be_BlocksFull : PySem.W.subIn K (.ref C_BlocksFull) (.type "BaseException") = some true
  te_BlocksFull : PySem.W.typeIn K (.ref C_BlocksFull) = some (.type "type")
  ie_BlocksFull : PySem.W.isClsIn K C_BlocksFull = true
  xe_BlocksFull : PySem.W.excIn K C_BlocksFull [.type "ValueError", .type "Exception", .type "BaseException", .type "object"] "ValueError.__new__" = true
  ke_BlocksFull : PySem.W.keepIn K (.ref C_BlocksFull) = true
  ec_BlocksFull : ExcC K C_BlocksFull
  C_OverQuota : Addr
  mg_OverQuota : mg "OverQuota" = some (.ref C_OverQuota)
  be_OverQuota : PySem.W.subIn K (.ref C_OverQuota) (.type "BaseException") = some true
  te_OverQuota : PySem.W.typeIn K (.ref C_OverQuota) = some (.type "type")
  ie_OverQuota : PySem.W.isClsIn K C_OverQuota = true
  xe_OverQuota : PySem.W.excIn K C_OverQuota [.type "ValueError", .type "Exception", .type "BaseException", .type "object"] "ValueError.__new__" = true
  ke_OverQuota : PySem.W.keepIn K (.ref C_OverQuota) = true
  ec_OverQuota : ExcC K C_OverQuota
  C_TooLong : Addr
  mg_TooLong : mg "TooLong" = some (.ref C_TooLong)
  be_TooLong : PySem.W.subIn K (.ref C_TooLong) (.type "BaseException") = some true
  te_TooLong : PySem.W.typeIn K (.ref C_TooLong) = some (.type "type")
  ie_TooLong : PySem.W.isClsIn K C_TooLong = true
  xe_TooLong : PySem.W.excIn K C_TooLong [.type "ValueError", .type "Exception", .type "BaseException", .type "object"] "ValueError.__new__" = true
  ke_TooLong : PySem.W.keepIn K (.ref C_TooLong) = true
  ec_TooLong : ExcC K C_TooLong
  C_Unfinished : Addr
  mg_Unfinished : mg "Unfinished" = some (.ref C_Unfinished)
  be_Unfinished : PySem.W.subIn K (.ref C_Unfinished) (.type "BaseException") = some true
  te_Unfinished : PySem.W.typeIn K (.ref C_Unfinished) = some (.type "type")
  ie_Unfinished : PySem.W.isClsIn K C_Unfinished = true
  xe_Unfinished : PySem.W.excIn K C_Unfinished [.type "ValueError", .type "Exception", .type "BaseException", .type "object"] "ValueError.__new__" = true
  ke_Unfinished : PySem.W.keepIn K (.ref C_Unfinished) = true
  ec_Unfinished : ExcC K C_Unfinished
  sub_NodesFull_Refused : PySem.W.subIn K (.ref C_NodesFull) (.ref C_Refused) = some true
  sub_NodesFull_TooLong : PySem.W.subIn K (.ref C_NodesFull) (.ref C_TooLong) = some false
  sub_NodesFull_Unfinished : PySem.W.subIn K (.ref C_NodesFull) (.ref C_Unfinished) = some false
  sub_BlocksFull_Refused : PySem.W.subIn K (.ref C_BlocksFull) (.ref C_Refused) = some true
  sub_BlocksFull_TooLong : PySem.W.subIn K (.ref C_BlocksFull) (.ref C_TooLong) = some false
  sub_BlocksFull_Unfinished : PySem.W.subIn K (.ref C_BlocksFull) (.ref C_Unfinished) = some false
  sub_OverQuota_Refused : PySem.W.subIn K (.ref C_OverQuota) (.ref C_Refused) = some true
  sub_OverQuota_TooLong : PySem.W.subIn K (.ref C_OverQuota) (.ref C_TooLong) = some false
  sub_OverQuota_Unfinished : PySem.W.subIn K (.ref C_OverQuota) (.ref C_Unfinished) = some false
  sub_TooLong_Refused : PySem.W.subIn K (.ref C_TooLong) (.ref C_Refused) = some true
  sub_TooLong_TooLong : PySem.W.subIn K (.ref C_TooLong) (.ref C_TooLong) = some true
  sub_TooLong_Unfinished : PySem.W.subIn K (.ref C_TooLong) (.ref C_Unfinished) = some false
  sub_Unfinished_Refused : PySem.W.subIn K (.ref C_Unfinished) (.ref C_Refused) = some true
  sub_Unfinished_TooLong : PySem.W.subIn K (.ref C_Unfinished) (.ref C_TooLong) = some false
  sub_Unfinished_Unfinished : PySem.W.subIn K (.ref C_Unfinished) (.ref C_Unfinished) = some true
  c_SUMS_BLOCK : ∃ t, mg "SUMS_BLOCK" = some (.int 0 t)
  c_ROOT : ∃ t, mg "ROOT" = some (.int 1 t)
  c_KIND : ∃ t, mg "KIND" = some (.int 0 t)
  c_LINKS : ∃ t, mg "LINKS" = some (.int 1 t)
  c_SIZE : ∃ t, mg "SIZE" = some (.int 2 t)
  c_OWNER : ∃ t, mg "OWNER" = some (.int 3 t)
  c_FIRST_PLACE : ∃ t, mg "FIRST_PLACE" = some (.int 4 t)
  c_PLACES : ∃ t, mg "PLACES" = some (.int 6 t)
  c_MAKING : ∃ t, mg "MAKING" = some (.int 7 t)
  c_UNMADE : ∃ t, mg "UNMADE" = some (.int 0 t)
  c_FILE : ∃ t, mg "FILE" = some (.int 1 t)
  c_FOLDER : ∃ t, mg "FOLDER" = some (.int 2 t)
  c_LEAST_BLOCKS : ∃ t, mg "LEAST_BLOCKS" = some (.int 8 t)
  c_MOST_BLOCKS : ∃ t, mg "MOST_BLOCKS" = some (.int 64 t)
  c_LEAST_NODES : ∃ t, mg "LEAST_NODES" = some (.int 2 t)
  c_MOST_NODES : ∃ t, mg "MOST_NODES" = some (.int 16 t)
  c_MOST_SLOTS : ∃ t, mg "MOST_SLOTS" = some (.int 200 t)
  c_LEAST_DATA : ∃ t, mg "LEAST_DATA" = some (.int 2 t)
  c_FIRST_MAP : ∃ t, mg "FIRST_MAP" = some (.int 2 t)
  c_PLACE_COUNT : ∃ t, mg "PLACE_COUNT" = some (.int 10 t)
  c_NODE_PLACES : ∃ t, mg "NODE_PLACES" = some (.int 2 t)
  c_MOST_PIECE : ∃ t, mg "MOST_PIECE" = some (.int 2 t)
  b_abs : mg "abs" = none
  b_any : mg "any" = none
  b_bool : mg "bool" = none
  b_dict : mg "dict" = none
  b_enumerate : mg "enumerate" = none
  b_int : mg "int" = none
  b_isinstance : mg "isinstance" = none
  b_len : mg "len" = none
  b_list : mg "list" = none
  b_max : mg "max" = none
  b_min : mg "min" = none
  b_range : mg "range" = none
  b_reversed : mg "reversed" = none
  b_tuple : mg "tuple" = none

section
variable {P : Program} {w : World} {K : PySem.W.Frag} {mg : Str → Option Value} {base : Heap}
theorem b_node_cell (T : Tx K mg) : Binds K T.fd_node_cell ["image", "n", "field"] [] := T.F_node_cell.binds (ps := ["image", "n", "field"]) fun _ _ _ _ _ _ us hl => match us, hl with | [_, _, _], _ => rfl
theorem b_put_node_cell (T : Tx K mg) : Binds K T.fd_put_node_cell ["image", "n", "field", "value"] [] := T.F_put_node_cell.binds (ps := ["image", "n", "field", "value"]) fun _ _ _ _ _ _ us hl => match us, hl with | [_, _, _, _], _ => rfl
theorem b_is_made (T : Tx K mg) : Binds K T.fd_is_made ["image", "n"] [] := T.F_is_made.binds (ps := ["image", "n"]) fun _ _ _ _ _ _ us hl => match us, hl with | [_, _], _ => rfl
theorem b_make_node (T : Tx K mg) : Binds K T.fd_make_node ["image", "kind", "owner"] [] := T.F_make_node.binds (ps := ["image", "kind", "owner"]) fun _ _ _ _ _ _ us hl => match us, hl with | [_, _, _], _ => rfl
theorem b_unmake_node (T : Tx K mg) : Binds K T.fd_unmake_node ["image", "n"] [] := T.F_unmake_node.binds (ps := ["image", "n"]) fun _ _ _ _ _ _ us hl => match us, hl with | [_, _], _ => rfl
theorem b_place_block (T : Tx K mg) : Binds K T.fd_place_block ["image", "n", "o"] [] := T.F_place_block.binds (ps := ["image", "n", "o"]) fun _ _ _ _ _ _ us hl => match us, hl with | [_, _, _], _ => rfl
theorem b_put_place (T : Tx K mg) : Binds K T.fd_put_place ["image", "n", "o", "x"] [] := T.F_put_place.binds (ps := ["image", "n", "o", "x"]) fun _ _ _ _ _ _ us hl => match us, hl with | [_, _, _, _], _ => rfl
theorem b_needs_block_of_places (T : Tx K mg) : Binds K T.fd_needs_block_of_places ["image", "n", "o"] [] := T.F_needs_block_of_places.binds (ps := ["image", "n", "o"]) fun _ _ _ _ _ _ us hl => match us, hl with | [_, _, _], _ => rfl
theorem b_fill_place (T : Tx K mg) : Binds K T.fd_fill_place ["image", "n", "o"] [] := T.F_fill_place.binds (ps := ["image", "n", "o"]) fun _ _ _ _ _ _ us hl => match us, hl with | [_, _, _], _ => rfl
theorem b_take_place (T : Tx K mg) : Binds K T.fd_take_place ["image", "n", "o"] [] := T.F_take_place.binds (ps := ["image", "n", "o"]) fun _ _ _ _ _ _ us hl => match us, hl with | [_, _, _], _ => rfl
theorem b_drop_block_of_places (T : Tx K mg) : Binds K T.fd_drop_block_of_places ["image", "n"] [] := T.F_drop_block_of_places.binds (ps := ["image", "n"]) fun _ _ _ _ _ _ us hl => match us, hl with | [_, _], _ => rfl
theorem b_drop_place (T : Tx K mg) : Binds K T.fd_drop_place ["image", "n", "o"] [] := T.F_drop_place.binds (ps := ["image", "n", "o"]) fun _ _ _ _ _ _ us hl => match us, hl with | [_, _, _], _ => rfl
theorem b_taken_behind (T : Tx K mg) : Binds K T.fd_taken_behind ["image", "n"] [] := T.F_taken_behind.binds (ps := ["image", "n"]) fun _ _ _ _ _ _ us hl => match us, hl with | [_, _], _ => rfl
theorem b_unfinished (T : Tx K mg) : Binds K T.fd_unfinished ["image", "n"] [] := T.F_unfinished.binds (ps := ["image", "n"]) fun _ _ _ _ _ _ us hl => match us, hl with | [_, _], _ => rfl
theorem b_put_size (T : Tx K mg) : Binds K T.fd_put_size ["image", "n", "size"] [] := T.F_put_size.binds (ps := ["image", "n", "size"]) fun _ _ _ _ _ _ us hl => match us, hl with | [_, _, _], _ => rfl
theorem b_set_size (T : Tx K mg) : Binds K T.fd_set_size ["image", "n", "size"] [] := T.F_set_size.binds (ps := ["image", "n", "size"]) fun _ _ _ _ _ _ us hl => match us, hl with | [_, _, _], _ => rfl
theorem b_free_piece (T : Tx K mg) : Binds K T.fd_free_piece ["image", "n"] [] := T.F_free_piece.binds (ps := ["image", "n"]) fun _ _ _ _ _ _ us hl => match us, hl with | [_, _], _ => rfl
theorem b_read_word (T : Tx K mg) : Binds K T.fd_read_word ["image", "n", "at"] [] := T.F_read_word.binds (ps := ["image", "n", "at"]) fun _ _ _ _ _ _ us hl => match us, hl with | [_, _, _], _ => rfl
theorem b_read_words (T : Tx K mg) : Binds K T.fd_read_words ["image", "n", "at", "count"] [] := T.F_read_words.binds (ps := ["image", "n", "at", "count"]) fun _ _ _ _ _ _ us hl => match us, hl with | [_, _, _, _], _ => rfl
theorem b_file_words (T : Tx K mg) : Binds K T.fd_file_words ["image", "n"] [] := T.F_file_words.binds (ps := ["image", "n"]) fun _ _ _ _ _ _ us hl => match us, hl with | [_, _], _ => rfl
theorem b_take_places (T : Tx K mg) : Binds K T.fd_take_places ["image", "n", "places"] [] := T.F_take_places.binds (ps := ["image", "n", "places"]) fun _ _ _ _ _ _ us hl => match us, hl with | [_, _, _], _ => rfl
theorem b_fill_holes (T : Tx K mg) : Binds K T.fd_fill_holes ["image", "n", "first", "last"] [] := T.F_fill_holes.binds (ps := ["image", "n", "first", "last"]) fun _ _ _ _ _ _ us hl => match us, hl with | [_, _, _, _], _ => rfl
theorem b_write_words (T : Tx K mg) : Binds K T.fd_write_words ["image", "n", "at", "words"] [] := T.F_write_words.binds (ps := ["image", "n", "at", "words"]) fun _ _ _ _ _ _ us hl => match us, hl with | [_, _, _, _], _ => rfl
theorem b_Lfeed (T : Tx K mg) : Binds K T.fd_Lfeed ["_law_script"] [] := T.F_Lfeed.binds (ps := ["_law_script"]) fun _ _ _ _ _ _ us hl => match us, hl with | [_], _ => rfl
theorem b_Lpick (T : Tx K mg) : Binds K T.fd_Lpick ["_law_feed_here", "_law_limit"] [] := T.F_Lpick.binds (ps := ["_law_feed_here", "_law_limit"]) fun _ _ _ _ _ _ us hl => match us, hl with | [_, _], _ => rfl
theorem b_Linteger (T : Tx K mg) : Binds K T.fd_Linteger ["_law_actual", "_law_due"] [] := T.F_Linteger.binds (ps := ["_law_actual", "_law_due"]) fun _ _ _ _ _ _ us hl => match us, hl with | [_, _], _ => rfl
theorem b_Lrow (T : Tx K mg) : Binds K T.fd_Lrow ["_law_actual", "_law_due"] [] := T.F_Lrow.binds (ps := ["_law_actual", "_law_due"]) fun _ _ _ _ _ _ us hl => match us, hl with | [_, _], _ => rfl
theorem b_Lbehind (T : Tx K mg) : Binds K T.fd_Lbehind ["_law_book"] [] := T.F_Lbehind.binds (ps := ["_law_book"]) fun _ _ _ _ _ _ us hl => match us, hl with | [_], _ => rfl
theorem b_Lblocks (T : Tx K mg) : Binds K T.fd_Lblocks ["_law_image", "_law_book"] [] := T.F_Lblocks.binds (ps := ["_law_image", "_law_book"]) fun _ _ _ _ _ _ us hl => match us, hl with | [_, _], _ => rfl
theorem b_Lagrees (T : Tx K mg) : Binds K T.fd_Lagrees ["_law_image", "_law_book"] [] := T.F_Lagrees.binds (ps := ["_law_image", "_law_book"]) fun _ _ _ _ _ _ us hl => match us, hl with | [_, _], _ => rfl
theorem b_Lwindow (T : Tx K mg) : Binds K T.fd_Lwindow ["_law_image", "_law_book", "_law_feed_here"] [] := T.F_Lwindow.binds (ps := ["_law_image", "_law_book", "_law_feed_here"]) fun _ _ _ _ _ _ us hl => match us, hl with | [_, _, _], _ => rfl
theorem b_Lwrite_refused (T : Tx K mg) : Binds K T.fd_Lwrite_refused ["_law_image", "_law_at", "_law_given", "_law_late"] [] := T.F_Lwrite_refused.binds (ps := ["_law_image", "_law_at", "_law_given", "_law_late"]) fun _ _ _ _ _ _ us hl => match us, hl with | [_, _, _, _], _ => rfl
theorem b_Lsize_refused (T : Tx K mg) : Binds K T.fd_Lsize_refused ["_law_image", "_law_size_here", "_law_late"] [] := T.F_Lsize_refused.binds (ps := ["_law_image", "_law_size_here", "_law_late"]) fun _ _ _ _ _ _ us hl => match us, hl with | [_, _, _], _ => rfl
theorem b_Lwrite (T : Tx K mg) : Binds K T.fd_Lwrite ["_law_image", "_law_book", "_law_feed_here"] [] := T.F_Lwrite.binds (ps := ["_law_image", "_law_book", "_law_feed_here"]) fun _ _ _ _ _ _ us hl => match us, hl with | [_, _, _], _ => rfl
theorem b_Lsize (T : Tx K mg) : Binds K T.fd_Lsize ["_law_image", "_law_book", "_law_feed_here"] [] := T.F_Lsize.binds (ps := ["_law_image", "_law_book", "_law_feed_here"]) fun _ _ _ _ _ _ us hl => match us, hl with | [_, _, _], _ => rfl
theorem b_Lspoil (T : Tx K mg) : Binds K T.fd_Lspoil ["_law_image", "_law_book", "_law_feed_here"] [] := T.F_Lspoil.binds (ps := ["_law_image", "_law_book", "_law_feed_here"]) fun _ _ _ _ _ _ us hl => match us, hl with | [_, _, _], _ => rfl
theorem b_Lpiece (T : Tx K mg) : Binds K T.fd_Lpiece ["_law_image", "_law_book"] [] := T.F_Lpiece.binds (ps := ["_law_image", "_law_book"]) fun _ _ _ _ _ _ us hl => match us, hl with | [_, _], _ => rfl
theorem b_law (T : Tx K mg) : Binds K T.fd_law ["_law_script"] [] := T.F_law.binds (ps := ["_law_script"]) fun _ _ _ _ _ _ us hl => match us, hl with | [_], _ => rfl
theorem b_Plan_map_place (T : Tx K mg) : Binds K T.fd_Plan_map_place ["self", "x"] [] := T.F_Plan_map_place.binds (ps := ["self", "x"]) fun _ _ _ _ _ _ us hl => match us, hl with | [_, _], _ => rfl
theorem b_Plan_node_block (T : Tx K mg) : Binds K T.fd_Plan_node_block ["self", "n"] [] := T.F_Plan_node_block.binds (ps := ["self", "n"]) fun _ _ _ _ _ _ us hl => match us, hl with | [_, _], _ => rfl
theorem b_Plan_data_blocks (T : Tx K mg) : Binds K T.fd_Plan_data_blocks ["self"] [] := T.F_Plan_data_blocks.binds (ps := ["self"]) fun _ _ _ _ _ _ us hl => match us, hl with | [_], _ => rfl
theorem b_Image___init__ (T : Tx K mg) : Binds K T.fd_Image___init__ ["self", "plan"] [] := T.F_Image___init__.binds (ps := ["self", "plan"]) fun _ _ _ _ _ _ us hl => match us, hl with | [_, _], _ => rfl
theorem b_Image_begin (T : Tx K mg) : Binds K T.fd_Image_begin ["self", "wish", "barred"] [] := T.F_Image_begin.binds (ps := ["self", "wish", "barred"]) fun _ _ _ _ _ _ us hl => match us, hl with | [_, _, _], _ => rfl
theorem b_Image_twin (T : Tx K mg) : Binds K T.fd_Image_twin ["self"] [] := T.F_Image_twin.binds (ps := ["self"]) fun _ _ _ _ _ _ us hl => match us, hl with | [_], _ => rfl
theorem b_Image_take (T : Tx K mg) : Binds K T.fd_Image_take ["self", "kind", "owner"] [] := T.F_Image_take.binds (ps := ["self", "kind", "owner"]) fun _ _ _ _ _ _ us hl => match us, hl with | [_, _, _], _ => rfl
theorem b_Image_give (T : Tx K mg) : Binds K T.fd_Image_give ["self", "x", "owner"] [] := T.F_Image_give.binds (ps := ["self", "x", "owner"]) fun _ _ _ _ _ _ us hl => match us, hl with | [_, _, _], _ => rfl
theorem b_Image__put_block (T : Tx K mg) : Binds K T.fd_Image__put_block ["self", "x", "kind", "serial"] [] := T.F_Image__put_block.binds (ps := ["self", "x", "kind", "serial"]) fun _ _ _ _ _ _ us hl => match us, hl with | [_, _, _, _], _ => rfl
theorem b_Image_free_blocks (T : Tx K mg) : Binds K T.fd_Image_free_blocks ["self"] [] := T.F_Image_free_blocks.binds (ps := ["self"]) fun _ _ _ _ _ _ us hl => match us, hl with | [_], _ => rfl
theorem b_Image_kind (T : Tx K mg) : Binds K T.fd_Image_kind ["self", "x"] [] := T.F_Image_kind.binds (ps := ["self", "x"]) fun _ _ _ _ _ _ us hl => match us, hl with | [_, _], _ => rfl
theorem b_Image_fresh (T : Tx K mg) : Binds K T.fd_Image_fresh ["plan"] [] := T.F_Image_fresh.binds (ps := ["plan"]) fun _ _ _ _ _ _ us hl => match us, hl with | [_], _ => rfl
theorem b_Image_of_cells (T : Tx K mg) : Binds K T.fd_Image_of_cells ["plan", "rows"] [] := T.F_Image_of_cells.binds (ps := ["plan", "rows"]) fun _ _ _ _ _ _ us hl => match us, hl with | [_, _], _ => rfl
end
end K06
namespace K06
open PySem PySem.Spec PyProof.Rows L2 Rg
section
variable {P : Program} {w : World} {K : PySem.W.Frag} {mg : Str → Option Value} {base : Heap}
/-! ### _law_pick -/
def sp_Lpick : Sp := fun vs H Q _ => ∃ (p : Addr) (fs : List Int) (lim : Int), vs = [.ref p, .int lim] ∧ H p = some (.lst (fs.map V.int)) ∧ 0 < lim ∧
  ∀ (r : Int) (fs' : List Int), 0 ≤ r → r < lim → fs'.length ≤ fs.length → Q (.int r) (upd H p (.lst (fs'.map V.int)))
theorem ok_Lpick (T : Tx K mg) : FnOk P w K mg base CX0 1 T.f_Lpick T.fd_Lpick ["_law_feed_here", "_law_limit"] sp_Lpick := by
  refine T.F_Lpick.ok sc_Lpick (fun vs H Q E h => ?_) (fun cdv A outer s H vs Q E hr h => ?_)
  · obtain ⟨p, fs, lim, rfl, _⟩ := h
    rfl
  · obtain ⟨p, fs, lim, rfl, hp, hl, k⟩ := h
    refine ⟨_, (pss_cons (ps_if (pt_cmpR op_eq (pe_callB call_len_seq rfl T.b_len (by decide +kernel) (pa_cons (pv 0) pa_nil)) pe_int (nomark _))
        (pss_one (ps_ret pe_int))
        pss_nil)
      (pss_one (ps_ret (pe_op op_mod (pe_callTy call_int1 rfl T.b_int (by decide +kernel) (pa_cons (pe_bm PySem.F.plainAttrs_list PySem.F.slot_list_pop PySem.F.type_list_pop mt_popAt (pv 0) (pa_cons pe_int pa_nil)) pa_nil)) (pv 1))))), ?_⟩
    refine ⟨_, rfl, p, fs.map V.int, rfl, .inl (.inl (.inl hp)), rfl, _, rfl, ite2 (fun e => ?_) (fun e => ?_)⟩
    · have := k 0 fs (Int.le_refl _) hl (Nat.le_refl _)
      rw [upd_id hp] at this
      exact this
    · cases fs with
      | nil => exact absurd (decide_eq_true rfl) e
      | cons x r =>
        refine ⟨.ref p, rfl, .inl ⟨rfl, _, .inl (.inl hp)⟩, p, _, 0, 0, .int x, rfl, rfl, hp, by decide, by decide, ?_, rfl, .inl ⟨x, rfl, ?_⟩⟩
        · rw [List.length_map]; simp [seqIndex?]
        · refine ⟨.int lim, rfl, _, _, rfl, rfl, hl, ?_⟩
          exact k _ r (Int.emod_nonneg _ (by omega)) (Int.emod_lt_of_pos _ hl) (by simp)

/-! ### _law_integer: of two ints -/
def sp_Linteger : Sp := fun vs H Q _ => ∃ (a d : Int), vs = [.int a, .int d] ∧ Q (.bl (decide (a = d))) H
theorem ok_Linteger (T : Tx K mg) : FnOk P w K mg base CX0 1 T.f_Linteger T.fd_Linteger ["_law_actual", "_law_due"] sp_Linteger := by
  refine T.F_Linteger.ok sc_Linteger (fun vs H Q E h => ?_) (fun cdv A outer s H vs Q E hr h => ?_)
  · obtain ⟨_, _, rfl, _⟩ := h; rfl
  · obtain ⟨a, d, rfl, k⟩ := h
    refine ⟨_, (pss_one (ps_ret (pe_and (pe_callB call_isi rfl T.b_isinstance (by decide +kernel) (pa_cons (pv 0) (pa_cons (pe_bltn (v := .ty "int") rfl T.b_int (by decide +kernel) rfl) pa_nil)))
      (pe_and (pe_not (pe_callB call_isi rfl T.b_isinstance (by decide +kernel) (pa_cons (pv 0) (pa_cons (pe_bltn (v := .ty "bool") rfl T.b_bool (by decide +kernel) rfl) pa_nil))))
      (pe_one (pe_cmpR op_eq (pv 0) (pv 1) (nomark _))))))), ?_⟩
    refine ⟨_, rfl, _, _, _, _, true, rfl, .ty _, .base (.int _), kit_ty (by decide +kernel), _, rfl, iteT ⟨_, rfl, _, _, _, _, false, rfl, .ty _, .base (.int _), kit_ty (by decide +kernel), _, rfl, _, rfl, iteT ⟨_, rfl, _, rfl, rfl, ?_⟩⟩⟩
    have : decide (V.int a = V.int d) = decide (a = d) := by
      by_cases e : a = d
      · subst e; simp
      · rw [decide_eq_false e, decide_eq_false fun q => e (V.int.inj q)]
    rw [this]
    exact k

/-! ### _law_feed -/
def sp_Lfeed (K : PySem.W.Frag) : Sp := fun vs H Q _ => ∃ (a : Addr) (ns : List Int), vs = [.ref a] ∧ SqL K H a (ns.map V.int) ∧ ns.length ≤ 63 ∧
  ∀ (H' : Hp) (p : Addr) (fs : List Int), Same H H' → H p = none → H' p = some (.lst (fs.map V.int)) → fs.length ≤ 5000 → Q (.ref p) H'
theorem ok_Lfeed (T : Tx K mg) : FnOk P w K mg base CX0 1 T.f_Lfeed T.fd_Lfeed ["_law_script"] (sp_Lfeed K) := by
  refine T.F_Lfeed.ok sc_Lfeed (fun vs H Q E h => ?_) (fun cdv A outer s H vs Q E hr h => ?_)
  · obtain ⟨_, _, rfl, _⟩ := h; rfl
  · obtain ⟨a, ns, rfl, hS, hlen, k⟩ := h
    refine ⟨_, (pss_cons (ps_set (i := 1) sc_Lfeed.nd rfl (.inl rfl) (pe_lst pa_nil))
      (pss_cons (ps_for PassesOwn.never rfl (pi_list (pv 0)) (pg_name (i := 2) sc_Lfeed.nd rfl (.inl rfl))
        (pss_cons (ps_set (i := 3) sc_Lfeed.nd rfl (.inl rfl) (pe_callB call_abs rfl T.b_abs (by decide +kernel) (pa_cons (pv 2) pa_nil)))
        (Evl.pss_cut (ps_if (pt_cmpR op_lt (pv 3) (pe_op op_pow pe_int pe_int) (nomark _))
          (pss_cons (ps_set (i := 3) sc_Lfeed.nd rfl (.inl rfl) (pe_op op_mod (pe_callTy call_int1 rfl T.b_int (by decide +kernel) (pa_cons (pe_op op_add (pe_op op_mul (pv 3) pe_int) pe_int) pa_nil)) pe_int))
          (pss_cons (ps_expr (pe_bm PySem.F.plainAttrs_list PySem.F.slot_list_append PySem.F.type_list_append mt_append (pv 1) (pa_cons (pe_op op_mod (pe_callTy call_int1 rfl T.b_int (by decide +kernel) (pa_cons (pe_op op_add (pe_op op_mul (pv 3) pe_int) pe_int) pa_nil)) pe_int) pa_nil)))
          (pss_one (ps_set (i := 3) sc_Lfeed.nd rfl (.inl rfl) pe_int))))
          pss_nil)
        (pss_one (ps_for PassesOwn.never rfl (pi_range1 rfl T.b_range (pa_cons pe_int pa_nil)) (pg_name (i := 4) sc_Lfeed.nd rfl (.inl rfl))
          (pss_one (ps_if (pt_cmpR op_gt (pv 3) pe_int (nomark _))
            (pss_cons (ps_expr (pe_bm PySem.F.plainAttrs_list PySem.F.slot_list_append PySem.F.type_list_append mt_append (pv 1) (pa_cons (pe_op op_mod (pe_callTy call_int1 rfl T.b_int (by decide +kernel) (pa_cons (pv 3) pa_nil)) pe_int) pa_nil)))
            (pss_one (ps_set (i := 3) sc_Lfeed.nd rfl (.inl rfl) (pe_op op_fdiv (pv 3) pe_int))))
            pss_nil)))))))
      (pss_one (ps_ret (pv 1))))), ?_⟩
    refine ⟨Nat.zero_le _, fun p np => ?_⟩
    have s0 : Same H (upd H p (.lst [])) := same_upd np
    have npa : ∀ H2, SqL K H2 a (ns.map V.int) → True := fun _ _ => trivial
    refine ⟨_, rfl, a, rfl, ⟨_, s0.seq hS⟩, for_list (K := K) (a := a) (xs := ns.map V.int) (fun i σ H2 => ∃ (fs : List Int) (v2 v3 v4 : Option V), σ = [some (.ref a), some (.ref p), v2, v3, v4] ∧ H2 = upd H p (.lst (fs.map V.int)) ∧ fs.length ≤ 61 * i)
      ⟨[], none, none, none, rfl, rfl, Nat.zero_le _⟩ (fun i σ H2 _ ⟨_, _, _, _, _, e, _⟩ => by rw [e]; exact (same_upd np).seq hS) ?_ ?_⟩
    · rintro i y σ H2 hi ⟨fs, v2, v3, v4, rfl, rfl, hl⟩
      have hil : i < 63 := by
        have := (List.getElem?_eq_some_iff.mp hi).1
        rw [List.length_map] at this
        omega
      obtain ⟨z, rfl⟩ : ∃ z, y = V.int z := by
        rw [List.getElem?_map] at hi
        cases e : ns[i]? with
        | none => rw [e] at hi; cases hi
        | some z => rw [e] at hi; exact ⟨z, (Option.some.inj hi).symm⟩
      refine ⟨_, rfl, z, rfl, ?_⟩
      refine ⟨fun σ' H' => ∃ (fs : List Int) (R : Int) (v4 : Option V), σ' = [some (.ref a), some (.ref p), some (.int z), some (.int R), v4] ∧ H' = upd H p (.lst (fs.map V.int)) ∧ 0 ≤ R ∧ fs.length ≤ 61 * i + 1, ?_, ?_⟩
      · have hz : 0 ≤ (if z < 0 then -z else z) := by split <;> omega
        refine ⟨_, rfl, _, _, rfl, rfl, ⟨by decide, by decide, by decide⟩, _, _, rfl, rfl, _, rfl, ite2 (fun e => ?_) (fun e => ?_)⟩
        · have e1 : (if z < 0 then -z else z) < 10 ^ 18 := of_decide_eq_true e
          refine ⟨_, rfl, _, _, rfl, rfl, .inl ⟨by omega, by omega⟩, _, _, rfl, rfl, .inl ⟨_, rfl, _, _, rfl, rfl, (by show (0 : Int) < _; decide), ?_⟩⟩
          refine ⟨.ref p, rfl, .inl ⟨rfl, _, .inl (.inl upd_same)⟩, _, rfl, _, _, rfl, rfl, .inr ⟨by decide, by decide⟩, _, _, rfl, rfl, .inl ⟨_, rfl, _, _, rfl, rfl, (by show (0 : Int) < _; decide), p, _, _, rfl, rfl, upd_same, ?_, ?_⟩⟩
          · rw [List.length_map]; exact Nat.lt_of_lt_of_le (Nat.lt_succ_of_le hl) (by unfold sizeLine; omega)
          · exact ⟨fs ++ [_], 0, v4, rfl, upd_app, Int.le_refl _, by rw [List.length_append]; simp; omega⟩
        · exact ⟨fs, _, v4, rfl, rfl, hz, by omega⟩
      · rintro σ' H' ⟨fs, R, v4, rfl, rfl, hR, hl⟩
        refine ⟨60, rfl, by decide, by decide, for_range (lo := 0) (n := 60) (fun j σ' H' => ∃ (fs : List Int) (R : Int) (v4 : Option V), σ' = [some (.ref a), some (.ref p), some (.int z), some (.int R), v4] ∧ H' = upd H p (.lst (fs.map V.int)) ∧ 0 ≤ R ∧ fs.length ≤ 61 * i + 1 + j)
          ⟨fs, R, v4, rfl, rfl, hR, hl⟩ ?_ ?_⟩
        · rintro j σ' H' hj ⟨fs, R, v4, rfl, rfl, hR, hl⟩
          refine ⟨_, rfl, _, _, rfl, rfl, _, rfl, ite2 (fun e => ?_) (fun e => ?_)⟩
          · refine ⟨.ref p, rfl, .inl ⟨rfl, _, .inl (.inl upd_same)⟩, _, rfl, .inl ⟨_, rfl, _, _, rfl, rfl, (by show (0 : Int) < _; decide), p, _, _, rfl, rfl, upd_same, ?_, ?_⟩⟩
            · rw [List.length_map]; exact Nat.lt_of_lt_of_le (Nat.lt_succ_of_le hl) (by unfold sizeLine; omega)
            · refine ⟨_, rfl, _, _, rfl, rfl, ⟨by decide, by decide⟩, fs ++ [_], _, _, rfl, upd_app, Int.ediv_nonneg hR (by decide), by rw [List.length_append]; simp; omega⟩
          · exact ⟨fs, R, _, rfl, rfl, hR, by omega⟩
        · rintro σ' H' ⟨fs, R, v4, rfl, rfl, hR, hl⟩
          exact ⟨fs, _, _, _, rfl, rfl, by omega⟩
    · rintro σ H2 ⟨fs, v2, v3, v4, rfl, rfl, hl⟩
      rw [List.length_map] at hl
      exact ⟨_, rfl, k _ p fs (same_upd np) np upd_same (by omega)⟩
end
end K06
namespace K06
open PySem PySem.Spec PyProof.Rows L2 Rg
section
variable {P : Program} {w : World} {K : PySem.W.Frag} {mg : Str → Option Value} {base : Heap}
/-! ### plans -/
def planF (b n s : Int) : List (Str × V) := [("blocks", .int b), ("nodes", .int n), ("slots", .int s), ("maps", .int ((b + 8 - 1) / 8)), ("first_node", .int (2 + (b + 8 - 1) / 8)), ("first_data", .int (2 + (b + 8 - 1) / 8 + n))]
structure PlanAt (C : Addr) (H : Hp) (p : Addr) (b n s : Int) : Prop where
  ob : ∃ dx, H p = some (.ins C dx (planF b n s))
  b1 : 8 ≤ b
  b2 : b ≤ 64
  n1 : 2 ≤ n
  n2 : n ≤ 16
  s1 : b < s
  s2 : s ≤ 200
  d : 2 ≤ b - (2 + (b + 8 - 1) / 8 + n)
theorem PlanAt.same {C : Addr} {H H' : Hp} {p : Addr} {b n s : Int} (e : Same H H') (h : PlanAt C H p b n s) : PlanAt C H' p b n s :=
  let ⟨dx, z⟩ := h.ob
  ⟨⟨dx, e _ _ z⟩, h.b1, h.b2, h.n1, h.n2, h.s1, h.s2, h.d⟩
theorem PlanAt.of {C : Addr} {H H' : Hp} {p : Addr} {b n s : Int} (h : PlanAt C H p b n s) (e : ∀ o, H p = some o → H' p = some o) : PlanAt C H' p b n s :=
  let ⟨dx, z⟩ := h.ob
  ⟨⟨dx, e _ z⟩, h.b1, h.b2, h.n1, h.n2, h.s1, h.s2, h.d⟩
def sp_Plan_init (C : Addr) : Sp := fun vs H Q _ => ∃ (p dx : Addr) (b n s : Int), vs = [.ref p, .int b, .int n, .int s] ∧ H p = some (.ins C dx []) ∧ 8 ≤ b ∧ b ≤ 64 ∧ 2 ≤ n ∧ n ≤ 16 ∧ b < s ∧ s ≤ 200 ∧ 2 ≤ b - (2 + (b + 8 - 1) / 8 + n) ∧
  Q .non (upd H p (.ins C dx (planF b n s)))
theorem ok_Plan_init (T : Tx K mg) : FnOk P w K mg base CX0 1 T.f_Plan___init__ T.fd_Plan___init__ ["self", "blocks", "nodes", "slots"] (sp_Plan_init T.C_Plan) := by
  refine T.F_Plan___init__.ok sc_Plan___init__ (fun vs H Q E h => ?_) (fun cdv A outer s H vs Q E hr h => ?_)
  · obtain ⟨_, _, _, _, _, rfl, _⟩ := h; rfl
  · obtain ⟨p, dx, b, n, sl, rfl, hp, h1, h2, h3, h4, h5, h6, h7, k⟩ := h
    refine ⟨_, (pss_cons (ps_if (pt_not (pt_chain op_le op_le (pe_gc T.c_LEAST_BLOCKS) (pv 1) (pe_gc T.c_MOST_BLOCKS)))
        (pss_one ps_never)
        pss_nil)
      (pss_cons (ps_if (pt_not (pt_chain op_le op_le (pe_gc T.c_LEAST_NODES) (pv 2) (pe_gc T.c_MOST_NODES)))
        (pss_one ps_never)
        pss_nil)
      (pss_cons (ps_if (pt_not (pt_chain op_lt op_le (pv 1) (pv 3) (pe_gc T.c_MOST_SLOTS)))
        (pss_one ps_never)
        pss_nil)
      (pss_cons (ps_fld (pv 0) (pv 1) rfl)
      (pss_cons (ps_fld (pv 0) (pv 2) rfl)
      (pss_cons (ps_fld (pv 0) (pv 3) rfl)
      (pss_cons (ps_fld (pv 0) (pe_op op_fdiv (pe_op op_sub (pe_op op_add (pv 1) (pe_con (pv 0) rfl)) pe_int) (pe_con (pv 0) rfl)) rfl)
      (pss_cons (ps_fld (pv 0) (pe_op op_add (pe_gc T.c_FIRST_MAP) (pe_fld (pv 0) rfl)) rfl)
      (pss_cons (ps_fld (pv 0) (pe_op op_add (pe_fld (pv 0) rfl) (pv 2)) rfl)
      (pss_one (ps_if (pt_cmpR op_lt (pe_op op_sub (pv 1) (pe_fld (pv 0) rfl)) (pe_gc T.c_LEAST_DATA) (nomark _))
        (pss_one ps_never)
        pss_nil))))))))))), ?_⟩
    obtain ⟨uW, cW⟩ := T.con_Plan_WIDTH
    refine ⟨_, rfl, _, _, rfl, rfl, _, rfl, ?_⟩
    rw [decide_eq_true h1]
    refine iteT ⟨_, _, rfl, rfl, _, rfl, ?_⟩
    rw [decide_eq_true h2]
    refine iteF ⟨_, rfl, _, _, rfl, rfl, _, rfl, ?_⟩
    rw [decide_eq_true h3]
    refine iteT ⟨_, _, rfl, rfl, _, rfl, ?_⟩
    rw [decide_eq_true h4]
    refine iteF ⟨_, rfl, _, rfl, _, _, rfl, rfl, _, rfl, ?_⟩
    rw [decide_eq_true h5]
    refine iteT ⟨_, _, rfl, rfl, _, rfl, ?_⟩
    rw [decide_eq_true h6]
    refine iteF ⟨_, rfl, _, rfl, p, _, dx, _, rfl, hp, T.cl_Plan, T.na_Plan_blocks, (by show 0 < 1000; decide), ?_⟩
    refine ⟨_, rfl, _, rfl, p, _, dx, _, rfl, upd_same, T.cl_Plan, T.na_Plan_nodes, (by show 1 < 1000; decide), ?_⟩
    refine ⟨_, rfl, _, rfl, p, _, dx, _, rfl, upd_same, T.cl_Plan, T.na_Plan_slots, (by show 2 < 1000; decide), ?_⟩
    refine ⟨_, rfl, _, rfl, p, _, dx, _, _, _, rfl, upd_same, T.cl_Plan, cW, rfl, _, _, rfl, rfl, _, _, rfl, rfl, _, rfl, p, _, dx, _, _, _, rfl, upd_same, T.cl_Plan, cW, rfl, _, _, rfl, rfl, ⟨by decide, by decide⟩, ?_⟩
    refine ⟨_, rfl, p, _, dx, _, rfl, upd_same, T.cl_Plan, T.na_Plan_maps, (by show 3 < 1000; decide), ?_⟩
    refine ⟨_, rfl, p, _, dx, _, _, rfl, upd_same, T.cl_Plan, T.na_Plan_maps, rfl, _, _, rfl, rfl, _, rfl, p, _, dx, _, rfl, upd_same, T.cl_Plan, T.na_Plan_first_node, (by show 4 < 1000; decide), ?_⟩
    refine ⟨_, rfl, p, _, dx, _, _, rfl, upd_same, T.cl_Plan, T.na_Plan_first_node, rfl, _, rfl, _, _, rfl, rfl, _, rfl, p, _, dx, _, rfl, upd_same, T.cl_Plan, T.na_Plan_first_data, (by show 5 < 1000; decide), ?_⟩
    refine ⟨_, rfl, _, rfl, p, _, dx, _, _, rfl, upd_same, T.cl_Plan, T.na_Plan_first_data, rfl, _, _, rfl, rfl, _, _, rfl, rfl, _, rfl, ?_⟩
    rw [decide_eq_false (by omega)]
    refine iteF ?_
    rw [upd_upd, upd_upd, upd_upd, upd_upd, upd_upd]
    exact k
/-- the call Plan(b, nodes=n, slots=s) -/
theorem kb_Plan (T : Tx K mg) : KBn K T.fd_Plan___init__ ["self", "blocks", "nodes", "slots"] 2 ["nodes", "slots"] (fun us ws => us ++ ws) (fun us ws => us ++ ws) := by
  obtain ⟨oc, od, kV, doc, pm, an, cdv, ct, osl, e, lk, hcd⟩ := T.F_Plan___init__.ex
  refine ⟨fun s us ws _ l1 l2 => ?_, fun r1 r2 => r1.append r2⟩
  rw [e]
  match us, ws, l1, l2 with
  | [_, _], [_, _], _, _ => exact .of_eq rfl
def sp_map_place (C : Addr) : Sp := fun vs H Q _ => ∃ (p : Addr) (b n s x : Int), vs = [.ref p, .int x] ∧ PlanAt C H p b n s ∧ ∀ t, H t = none → Q (.ref t) (upd H t (.tup [.int (2 + x / 8), .int (x % 8)]))
theorem ok_Plan_map_place (T : Tx K mg) : FnOk P w K mg base CX0 1 T.f_Plan_map_place T.fd_Plan_map_place ["self", "x"] (sp_map_place T.C_Plan) := by
  refine T.F_Plan_map_place.ok sc_Plan_map_place (fun vs H Q E h => ?_) (fun cdv A outer s H vs Q E hr h => ?_)
  · obtain ⟨_, _, _, _, _, rfl, _⟩ := h; rfl
  · obtain ⟨p, b, n, sl, x, rfl, hP, k⟩ := h
    obtain ⟨dx, hp⟩ := hP.ob
    obtain ⟨uW, cW⟩ := T.con_Plan_WIDTH
    refine ⟨_, (pss_one (ps_ret (pe_tup (pa_cons (pe_op op_add (pe_gc T.c_FIRST_MAP) (pe_op op_fdiv (pv 1) (pe_con (pv 0) rfl))) (pa_cons (pe_op op_mod (pv 1) (pe_con (pv 0) rfl)) pa_nil))))), ?_⟩
    refine ⟨_, rfl, _, rfl, p, _, dx, _, _, _, rfl, hp, T.cl_Plan, cW, rfl, _, _, rfl, rfl, ⟨by decide, by decide⟩, _, _, rfl, rfl, _, rfl, _, rfl, p, _, dx, _, _, _, rfl, hp, T.cl_Plan, cW, rfl, _, _, rfl, rfl, (by show (0 : Int) < _; decide), (by show 2 ≤ sizeLine; decide), k⟩
def sp_node_block (C : Addr) : Sp := fun vs H Q _ => ∃ (p : Addr) (b n s x : Int), vs = [.ref p, .int x] ∧ PlanAt C H p b n s ∧ Q (.int (2 + (b + 8 - 1) / 8 + x - 1)) H
theorem ok_Plan_node_block (T : Tx K mg) : FnOk P w K mg base CX0 1 T.f_Plan_node_block T.fd_Plan_node_block ["self", "n"] (sp_node_block T.C_Plan) := by
  refine T.F_Plan_node_block.ok sc_Plan_node_block (fun vs H Q E h => ?_) (fun cdv A outer s H vs Q E hr h => ?_)
  · obtain ⟨_, _, _, _, _, rfl, _⟩ := h; rfl
  · obtain ⟨p, b, n, sl, x, rfl, hP, k⟩ := h
    obtain ⟨dx, hp⟩ := hP.ob
    refine ⟨_, (pss_one (ps_ret (pe_op op_sub (pe_op op_add (pe_fld (pv 0) rfl) (pv 1)) pe_int))), ?_⟩
    exact ⟨_, rfl, p, _, dx, _, _, rfl, hp, T.cl_Plan, T.na_Plan_first_node, rfl, _, rfl, _, _, rfl, rfl, _, _, rfl, rfl, k⟩
end
end K06
namespace K06
open PySem PySem.Spec PyProof.Rows L2 Rg
/-! ### a list of lists of ints -/
structure Grid (H : Hp) (ca : Addr) (rs : List Addr) (M : List (List Int)) : Prop where
  out : H ca = some (.lst (rs.map V.ref))
  len : rs.length = M.length
  row : ∀ (i : Nat) (r : Addr) (m : List Int), rs[i]? = some r → M[i]? = some m → H r = some (.lst (m.map V.int))
  nd : rs.Nodup
  nin : ca ∉ rs
theorem Grid.held {H : Hp} {ca : Addr} {rs : List Addr} {M : List (List Int)} (G : Grid H ca rs M) {r : Addr} (h : r ∈ rs) : ∃ o, H r = some o := by
  obtain ⟨i, hi, e⟩ := List.getElem_of_mem h
  have hm : i < M.length := by rw [← G.len]; exact hi
  exact ⟨_, G.row i r M[i] (by rw [List.getElem?_eq_getElem hi, e]) (List.getElem?_eq_getElem hm)⟩
theorem Grid.same {H H' : Hp} {ca : Addr} {rs : List Addr} {M : List (List Int)} (G : Grid H ca rs M) (s : Same H H') : Grid H' ca rs M :=
  ⟨s _ _ G.out, G.len, fun i r m a b => s _ _ (G.row i r m a b), G.nd, G.nin⟩
/-- kept where it stands -/
theorem Grid.keep {H H' : Hp} {ca : Addr} {rs : List Addr} {M : List (List Int)} (G : Grid H ca rs M) (h : ∀ b o, b = ca ∨ b ∈ rs → H b = some o → H' b = some o) : Grid H' ca rs M :=
  ⟨h _ _ (.inl rfl) G.out, G.len, fun i r m a b => h _ _ (.inr (List.mem_of_getElem? a)) (G.row i r m a b), G.nd, G.nin⟩
theorem Grid.get {H : Hp} {ca : Addr} {rs : List Addr} {M : List (List Int)} (G : Grid H ca rs M) {i : Nat} {m : List Int} (h : M[i]? = some m) : ∃ r, rs[i]? = some r ∧ H r = some (.lst (m.map V.int)) ∧ r ≠ ca := by
  have hi : i < rs.length := by rw [G.len]; exact (List.getElem?_eq_some_iff.mp h).1
  refine ⟨rs[i], List.getElem?_eq_getElem hi, G.row i _ m (List.getElem?_eq_getElem hi) h, fun e => G.nin ?_⟩
  rw [← e]
  exact List.getElem_mem hi
/-- one row stored anew -/
theorem Grid.put {H : Hp} {ca : Addr} {rs : List Addr} {M : List (List Int)} (G : Grid H ca rs M) {i : Nat} {r : Addr} {m : List Int} (hr : rs[i]? = some r) : Grid (upd H r (.lst (m.map V.int))) ca rs (M.set i m) := by
  have hi : i < rs.length := (List.getElem?_eq_some_iff.mp hr).1
  have hir : rs[i] = r := (List.getElem?_eq_some_iff.mp hr).2
  have rin : r ∈ rs := List.mem_of_getElem? hr
  refine ⟨?_, by rw [List.length_set]; exact G.len, fun j q m' hj hm => ?_, G.nd, G.nin⟩
  · rw [upd_ne (fun e => G.nin (by rw [e]; exact rin))]
    exact G.out
  · by_cases e : i = j
    · subst e
      rw [hr] at hj
      cases hj
      rw [List.getElem?_set_self (by rw [← G.len]; exact hi)] at hm
      cases hm
      exact upd_same
    · rw [List.getElem?_set_ne e] at hm
      have hq : q ≠ r := fun z => by
        subst z
        have hjl : j < rs.length := (List.getElem?_eq_some_iff.mp hj).1
        have := (List.getElem?_eq_some_iff.mp hj).2
        exact e ((List.getElem_inj G.nd).mp (hir.trans this.symm))
      rw [upd_ne hq]
      exact G.row j q m' hj hm
theorem map_set {α β : Type} (f : α → β) (l : List α) (i : Nat) (x : α) : (l.map f).set i (f x) = (l.set i x).map f := by
  rw [List.map_set]
/-- a grid that is new -/
structure NewGrid (H0 H : Hp) (D : Addr) (qs : List Addr) (M : List (List Int)) : Prop where
  grid : Grid H D qs M
  fresh : ∀ q ∈ qs, H0 q = none
  freshD : H0 D = none
  same : Same H0 H
theorem NewGrid.start {H0 H : Hp} {D : Addr} (s : Same H0 H) (hD : H0 D = none) (hn : H D = none) : NewGrid H0 (upd H D (.lst [])) D [] [] :=
  ⟨⟨by rw [upd_same]; rfl, rfl, fun i r m a _ => by simp at a, List.nodup_nil, by simp⟩, fun q h => (by cases h), hD, s.trans (same_upd hn)⟩
theorem NewGrid.snoc {H0 H H1 : Hp} {D : Addr} {qs : List Addr} {M : List (List Int)} {p : Addr} {m : List Int} (G : NewGrid H0 H D qs M) (s : Same H H1) (hp : H p = none) (h1 : H1 p = some (.lst (m.map V.int))) :
    NewGrid H0 (upd H1 D (.lst (qs.map V.ref ++ [V.ref p]))) D (qs ++ [p]) (M ++ [m]) := by
  have pD : p ≠ D := fun e => by
    rw [e, G.grid.out] at hp
    cases hp
  have pq : p ∉ qs := fun h => by
    obtain ⟨o, z⟩ := G.grid.held h
    rw [hp] at z
    cases z
  refine ⟨⟨by rw [upd_same, List.map_append]; rfl, by simp [G.grid.len], fun i r m' hi hm => ?_, ?_, ?_⟩, ?_, G.freshD, ?_⟩
  · by_cases e : i < qs.length
    · rw [List.getElem?_append_left e] at hi
      rw [List.getElem?_append_left (by rw [← G.grid.len]; exact e)] at hm
      have hr : r ∈ qs := List.mem_of_getElem? hi
      rw [upd_ne (fun z => G.grid.nin (by rw [← z]; exact hr))]
      exact s _ _ (G.grid.row i r m' hi hm)
    · have hi2 : i = qs.length := by
        have := (List.getElem?_eq_some_iff.mp hi).1
        simp at this
        omega
      subst hi2
      rw [List.getElem?_append_right (Nat.le_refl _)] at hi
      rw [G.grid.len, List.getElem?_append_right (Nat.le_refl _)] at hm
      simp at hi hm
      subst hi hm
      rw [upd_ne pD]
      exact h1
  · exact List.nodup_append.mpr ⟨G.grid.nd, by simp, fun a ha b hb => by simp at hb; subst hb; exact fun e => pq (e ▸ ha)⟩
  · simp
    exact ⟨G.grid.nin, fun e => pD e.symm⟩
  · intro q hq
    rcases List.mem_append.mp hq with h | h
    · exact G.fresh q h
    · simp at h
      subst h
      exact G.same.free hp
  · intro b o e
    rw [upd_ne (ne_of_none e G.freshD)]
    exact s _ _ (G.same _ _ e)
theorem NewGrid.nin0 {H0 H : Hp} {D : Addr} {qs : List Addr} {M : List (List Int)} (G : NewGrid H0 H D qs M) {b : Addr} {o : HO} (h : H0 b = some o) : b ≠ D ∧ b ∉ qs :=
  ⟨ne_of_none h G.freshD, fun z => by rw [G.fresh b z] at h; cases h⟩
end K06
namespace K06
open PySem PySem.Spec PyProof.Rows L2 Rg
/-! ### images -/
structure IA where
  (dx pl ca : Addr) (rs : List Addr) (ho st hd ba : Addr)
structure IV where
  (M : List (List Int)) (ho st : List Int) (hd : List (Int × Int)) (se wi : Int) (ba : List Int)
def imgF (A : IA) (v : IV) : List (Str × V) := [("plan", .ref A.pl), ("cells", .ref A.ca), ("holdings", .ref A.ho), ("stamps", .ref A.st), ("handles", .ref A.hd), ("serial", .int v.se), ("wish", .int v.wi), ("barred", .ref A.ba)]
def hdK (h : List (Int × Int)) : List (Key × V) := h.map fun p => (Sum.inl p.1, V.int p.2)
structure ImgAt (CI CP : Addr) (H : Hp) (im : Addr) (A : IA) (v : IV) (b n s : Int) : Prop where
  ob : H im = some (.ins CI A.dx (imgF A v))
  pl : PlanAt CP H A.pl b n s
  gr : Grid H A.ca A.rs v.M
  ho : H A.ho = some (.lst (v.ho.map V.int))
  st : H A.st = some (.lst (v.st.map V.int))
  hd : H A.hd = some (.dK (hdK v.hd))
  ba : H A.ba = some (.tup (v.ba.map V.int))
  n1 : A.ho ∉ A.rs
  n2 : A.st ∉ A.rs
  n3 : A.ho ≠ A.st
  n4 : A.ca ≠ A.ho
  n5 : A.ca ≠ A.st
  d0 : (v.M.length : Int) = b
  d1 : ∀ m ∈ v.M, m.length = 8
  d2 : (v.ho.length : Int) = b
  d3 : (v.st.length : Int) = b
/-- where an image may be changed -/
def IA.foot (A : IA) (im : Addr) : List Addr := im :: A.ca :: A.ho :: A.st :: A.hd :: A.rs
/-- its parts are new -/
structure IA.New (A : IA) (H0 : Hp) : Prop where
  ca : H0 A.ca = none
  rs : ∀ q ∈ A.rs, H0 q = none
  ho : H0 A.ho = none
  st : H0 A.st = none
  hd : H0 A.hd = none
theorem ImgAt.keep {CI CP : Addr} {H H' : Hp} {im : Addr} {A : IA} {v : IV} {b n s : Int} (I : ImgAt CI CP H im A v b n s) (h : ∀ x o, H x = some o → H' x = some o) : ImgAt CI CP H' im A v b n s :=
  { I with ob := h _ _ I.ob, pl := I.pl.same h, gr := I.gr.same h, ho := h _ _ I.ho, st := h _ _ I.st, hd := h _ _ I.hd, ba := h _ _ I.ba }
theorem rep_flat {α : Type} (n : Nat) (x : α) : (List.replicate n [x]).flatten = List.replicate n x := by
  induction n with
  | zero => rfl
  | succ n ih => rw [List.replicate_succ, List.flatten_cons, ih, List.replicate_succ]; rfl
theorem rep_map (n : Nat) (x : Int) : (List.replicate n (V.int x)) = (List.replicate n x).map V.int := by rw [List.map_replicate]
def zeroV (b : Int) : IV := ⟨List.replicate b.toNat (List.replicate 8 0), List.replicate b.toNat 0, List.replicate b.toNat 0, [], 0, 0, []⟩
section
variable {P : Program} {w : World} {K : PySem.W.Frag} {mg : Str → Option Value} {base : Heap}
def sp_Image_init (CI CP : Addr) : Sp := fun vs H Q _ => ∃ (p dx pl : Addr) (b n s : Int), vs = [.ref p, .ref pl] ∧ H p = some (.ins CI dx []) ∧ PlanAt CP H pl b n s ∧
  ∀ (H' : Hp) (A : IA), (∀ x o, H x = some o → x ≠ p → H' x = some o) → ImgAt CI CP H' p A (zeroV b) b n s → A.New H → A.pl = pl → Q .non H'
theorem ok_Image_init (T : Tx K mg) : FnOk P w K mg base CX0 1 T.f_Image___init__ T.fd_Image___init__ ["self", "plan"] (sp_Image_init T.C_Image T.C_Plan) := by
  refine T.F_Image___init__.ok sc_Image___init__ (fun vs H Q E h => ?_) (fun cdv A outer s H vs Q E hr h => ?_)
  · obtain ⟨_, _, _, _, _, _, rfl, _⟩ := h; rfl
  · obtain ⟨p, dx, pl, b, n, sl, rfl, hp, hP, k⟩ := h
    refine ⟨_, (pss_cons (ps_fld (pv 0) (pv 1) rfl)
      (pss_cons (ps_fld (pv 0) (pe_lc rfl (own := [("_", 2)]) (g := gName 2) (tt := tYes) sc_Image___init__.nd (pi_range1 rfl T.b_range (pa_cons (pe_fld (pv 1) rfl) pa_nil)) (blkOk_by (N := ["self", "plan", "_"]) (sc := defScope s_Image___init__) (by decide +kernel)) (fun _ _ _ _ _ => pg_name (i := 2) sc_Image___init__.nd rfl (Or.inl rfl)) (fun _ _ _ _ _ => pts_nil) (fun _ _ _ _ _ => (pe_op op_rep (pe_lst (pa_cons pe_int pa_nil)) (pe_cv T.mg_Plan T.cr_Plan T.cv_Plan_WIDTH)))) rfl)
      (pss_cons (ps_fld (pv 0) (pe_op op_rep (pe_lst (pa_cons pe_int pa_nil)) (pe_fld (pv 1) rfl)) rfl)
      (pss_cons (ps_fld (pv 0) (pe_op op_rep (pe_lst (pa_cons pe_int pa_nil)) (pe_fld (pv 1) rfl)) rfl)
      (pss_cons (ps_fld (pv 0) pe_dnewK rfl)
      (pss_cons (ps_fld (pv 0) pe_int rfl)
      (pss_cons (ps_fld (pv 0) pe_int rfl)
      (pss_one (ps_fld (pv 0) (pe_tup pa_nil) rfl))))))))), ?_⟩
    obtain ⟨dxp, hpl⟩ := hP.ob
    have hb1 := hP.b1
    have hb2 := hP.b2
    have nppl : pl ≠ p := fun e => by
      rw [e, hp] at hpl
      have := HO.ins.inj (Option.some.inj hpl)
      have := this.2.2
      simp [planF] at this
    -- self.plan = plan
    refine ⟨_, rfl, _, rfl, p, _, dx, _, rfl, hp, T.cl_Image, T.na_Image_plan, (by show 0 < 1000; decide), ?_⟩
    generalize hH1 : upd H p _ = H1
    obtain ⟨e1, k1, n1⟩ := own_f hH1
    have pl1 := k1.at1 hpl nppl
    -- self.cells = [[0] * Plan.WIDTH for _ in range(plan.blocks)]
    refine ⟨_, rfl, pl, _, dxp, _, _, rfl, pl1, T.cl_Plan, T.na_Plan_blocks, rfl, b, rfl, by omega, by omega, fun D hD => ?_⟩
    refine lc_range (lo := 0) (n := b.toNat) (fun i H' => ∃ qs, NewGrid H1 H' D qs (List.replicate i (List.replicate 8 0)))
      ⟨[], NewGrid.start (Same.refl _) hD hD⟩ ?_ ?_
    · rintro i H' hi ⟨qs, G⟩
      refine ⟨rfl, ?_⟩
      refine yes_ ?_
      refine ⟨by show 1 ≤ sizeLine; decide, fun l hl => ?_⟩
      refine ⟨l, 8, _, rfl, rfl, upd_same, by decide, by decide, by show 1 * 8 ≤ sizeLine; decide, fun q hq => ?_⟩
      have hq0 : H' q = none := un hq
      have hlD : H' D = some (.lst (qs.map V.ref)) := G.grid.out
      have hq1 : (upd (upd H' l (.lst [V.int 0])) q (.lst (List.replicate (8 : Int).toNat [V.int 0]).flatten)) q = some (.lst ((List.replicate 8 (0 : Int)).map V.int)) := by rw [upd_same]; rfl
      have sm : Same H' (upd (upd H' l (.lst [V.int 0])) q (.lst (List.replicate (8 : Int).toNat [V.int 0]).flatten)) := (same_upd hl).trans (same_upd hq)
      refine ⟨_, sm _ _ hlD, ?_, qs ++ [q], ?_⟩
      · rw [List.length_map, G.grid.len, List.length_replicate]
        exact small1000 (by omega)
      · rw [List.replicate_succ']
        exact G.snoc sm hq0 hq1
    rintro H2 ⟨qs, G⟩
    have e2 := G.same _ _ e1
    have pl2 := G.same _ _ pl1
    have npD : p ≠ D := ne_of_none e1 G.freshD
    refine ⟨_, rfl, p, _, dx, _, rfl, e2, T.cl_Image, T.na_Image_cells, (by show 1 < 1000; decide), ?_⟩
    generalize hH3 : upd H2 p _ = H3
    obtain ⟨e3, k3, n3⟩ := own_f hH3
    have pl3 := k3.at1 pl2 nppl
    -- self.holdings = [0] * plan.blocks
    refine ⟨by show 1 ≤ sizeLine; decide, fun l hl => ?_⟩
    generalize hH4 : upd H3 l _ = H4
    obtain ⟨e4, s4, n4⟩ := new_f hH4 hl
    have pl4 := s4 _ _ pl3
    refine ⟨_, rfl, pl, _, dxp, _, _, rfl, pl4, T.cl_Plan, T.na_Plan_blocks, rfl, l, b, _, rfl, rfl, e4, by omega, by omega, (by show 1 * b.toNat ≤ sizeLine; exact Nat.le_of_lt (small1000 (by omega))), fun ho hho => ?_⟩
    rw [rep_flat, rep_map]
    generalize hH5 : upd H4 ho _ = H5
    obtain ⟨e5, s5, n5⟩ := new_f hH5 hho
    refine ⟨_, rfl, p, _, dx, _, rfl, s5 _ _ (s4 _ _ e3), T.cl_Image, T.na_Image_holdings, (by show 2 < 1000; decide), ?_⟩
    generalize hH6 : upd H5 p _ = H6
    obtain ⟨e6, k6, n6⟩ := own_f hH6
    have pl6 := k6.at1 (s5 _ _ pl4) nppl
    have nho : ho ≠ p := (ne_of_none (s4 _ _ e3) hho).symm
    have ho6 := k6.at1 e5 nho
    -- self.stamps = [0] * plan.blocks
    refine ⟨by show 1 ≤ sizeLine; decide, fun l2 hl2 => ?_⟩
    generalize hH7 : upd H6 l2 _ = H7
    obtain ⟨e7, s7, n7⟩ := new_f hH7 hl2
    refine ⟨_, rfl, pl, _, dxp, _, _, rfl, s7 _ _ pl6, T.cl_Plan, T.na_Plan_blocks, rfl, l2, b, _, rfl, rfl, e7, by omega, by omega, (by show 1 * b.toNat ≤ sizeLine; exact Nat.le_of_lt (small1000 (by omega))), fun st hst => ?_⟩
    rw [rep_flat, rep_map]
    generalize hH8 : upd H7 st _ = H8
    obtain ⟨e8, s8, n8⟩ := new_f hH8 hst
    refine ⟨_, rfl, p, _, dx, _, rfl, s8 _ _ (s7 _ _ e6), T.cl_Image, T.na_Image_stamps, (by show 3 < 1000; decide), ?_⟩
    generalize hH9 : upd H8 p _ = H9
    obtain ⟨e9, k9, n9⟩ := own_f hH9
    have nst : st ≠ p := (ne_of_none (s7 _ _ e6) hst).symm
    have nsth : st ≠ ho := (ne_of_none (s7 _ _ ho6) hst).symm
    have st9 := k9.at1 e8 nst
    have ho9 := k9.at1 (s8 _ _ (s7 _ _ ho6)) nho
    -- self.handles = {}; serial, wish, barred
    intro hd hhd
    generalize hH10 : upd H9 hd _ = H10
    obtain ⟨e10, s10, n10⟩ := new_f hH10 hhd
    have nhd : hd ≠ p := (ne_of_none e9 hhd).symm
    refine ⟨_, rfl, p, _, dx, _, rfl, s10 _ _ e9, T.cl_Image, T.na_Image_handles, (by show 4 < 1000; decide), ?_⟩
    generalize hH11 : upd H10 p _ = H11
    obtain ⟨e11, k11, n11⟩ := own_f hH11
    refine ⟨_, rfl, p, _, dx, _, rfl, e11, T.cl_Image, T.na_Image_serial, (by show 5 < 1000; decide), ?_⟩
    generalize hH12 : upd H11 p _ = H12
    obtain ⟨e12, k12, n12⟩ := own_f hH12
    refine ⟨_, rfl, p, _, dx, _, rfl, e12, T.cl_Image, T.na_Image_wish, (by show 6 < 1000; decide), ?_⟩
    generalize hH13 : upd H12 p _ = H13
    obtain ⟨e13, k13, n13⟩ := own_f hH13
    refine ⟨by show 0 ≤ sizeLine; decide, fun ba hba => ?_⟩
    generalize hH14 : upd H13 ba _ = H14
    obtain ⟨e14, s14, n14⟩ := new_f hH14 hba
    have nba : ba ≠ p := (ne_of_none e13 hba).symm
    refine ⟨_, rfl, p, _, dx, _, rfl, s14 _ _ e13, T.cl_Image, T.na_Image_barred, (by show 7 < 1000; decide), ?_⟩
    generalize hH15 : upd H14 p _ = H15
    obtain ⟨e15, k15, n15⟩ := own_f hH15
    -- what stands
    have k10 : Kp [p] H10 H15 := (((k11.trans k12).trans k13).same s14).trans k15
    have k2 : Kp [p] H2 H15 := ((((((k3.same s4).same s5).trans k6).same s7).same s8).trans (k9.same s10)).trans k10
    have k0 : Kp [p] H H15 := (k1.same G.same).trans k2
    have f_ho : H2 ho = none := (n3 _ (n4 _ hho).1).1
    have f_st : H2 st = none := (n3 _ (n4 _ (n5 _ (n6 _ (n7 _ hst).1).1).1).1).1
    have f_hd : H2 hd = none := (n3 _ (n4 _ (n5 _ (n6 _ (n7 _ (n8 _ (n9 _ hhd).1).1).1).1).1).1).1
    have fr : ∀ x, H2 x = none → H x = none := fun x e => (n1 _ (G.same.free e)).1
    have qp : ∀ q ∈ qs, q ≠ p := fun q hq e => by
      have := G.fresh q hq
      rw [e, e1] at this
      cases this
    have qn : ∀ x, H2 x = none → x ∉ qs := fun x e hq => by
      obtain ⟨o, z⟩ := G.grid.held hq
      rw [e] at z
      cases z
    refine k _ ⟨dx, pl, D, qs, ho, st, hd, ba⟩ (fun x o e ne => k0.at1 e ne)
      ⟨e15, hP.of fun o e => k0.at1 e nppl, G.grid.keep fun x o hx e => k2.at1 e ?_, k10.at1 (s10 _ _ ho9) nho, k10.at1 (s10 _ _ st9) nst, k10.at1 e10 nhd, k15.at1 e14 nba, qn _ f_ho, qn _ f_st, nsth.symm, ne_of_none G.grid.out f_ho, ne_of_none G.grid.out f_st, ?_, ?_, ?_, ?_⟩
      ⟨(n1 _ G.freshD).1, fun q hq => (n1 _ (G.fresh q hq)).1, fr _ f_ho, fr _ f_st, fr _ f_hd⟩ rfl
    · rcases hx with rfl | hx
      · exact npD.symm
      · exact qp x hx
    · show ((List.replicate b.toNat (List.replicate 8 (0 : Int))).length : Int) = b
      rw [List.length_replicate]
      omega
    · intro m hm
      rw [List.eq_of_mem_replicate hm]
      rfl
    · show ((List.replicate b.toNat (0 : Int)).length : Int) = b
      rw [List.length_replicate]
      omega
    · show ((List.replicate b.toNat (0 : Int)).length : Int) = b
      rw [List.length_replicate]
      omega
end
end K06
namespace K06
open PySem PySem.Spec PyProof.Rows L2 Rg
def cellAt (M : List (List Int)) (i j : Nat) : Int := ((M[i]?.getD [])[j]?).getD 0
theorem cellAt_of {M : List (List Int)} {i j : Nat} {m : List Int} {x : Int} (h : M[i]? = some m) (hj : m[j]? = some x) : cellAt M i j = x := by
  unfold cellAt
  rw [h]
  show (m[j]?).getD 0 = x
  rw [hj]
  rfl
def kindOf (b n : Int) (M : List (List Int)) (x : Int) : Int :=
  if x < 2 + (b + 8 - 1) / 8 + n then 1 else if cellAt M (2 + x / 8).toNat (x % 8).toNat = 1 ∨ cellAt M (2 + x / 8).toNat (x % 8).toNat = 2 then cellAt M (2 + x / 8).toNat (x % 8).toNat else 0
section
variable {P : Program} {w : World} {K : PySem.W.Frag} {mg : Str → Option Value} {base : Heap}
def sp_Image_kind (CI CP : Addr) : Sp := fun vs H Q _ => ∃ (im : Addr) (A : IA) (v : IV) (b n s x : Int), vs = [.ref im, .int x] ∧ ImgAt CI CP H im A v b n s ∧ 0 ≤ x ∧ x < b ∧
  ∀ H', Same H H' → Q (.int (kindOf b n v.M x)) H'
theorem ok_Image_kind (T : Tx K mg) : FnOk P w K mg base CX0 2 T.f_Image_kind T.fd_Image_kind ["self", "x"] (sp_Image_kind T.C_Image T.C_Plan) := by
  refine T.F_Image_kind.ok sc_Image_kind (fun vs H Q E h => ?_) (fun cdv A0 outer s H vs Q E hr h => ?_)
  · obtain ⟨_, _, _, _, _, _, _, rfl, _⟩ := h; rfl
  · obtain ⟨im, A, v, b, n, sl, x, rfl, I, hx0, hxb, k⟩ := h
    refine ⟨_, (pss_cons (ps_if (pt_cmpR op_lt (pv 1) (pe_fld (pe_fld (pv 0) rfl) rfl) (nomark _))
        (pss_one (ps_ret (pe_cv T.mg_Plan T.cr_Plan T.cv_Plan_LOGGED)))
        pss_nil)
      (pss_cons (ps_asg (pe_meth (pe_fld (pv 0) rfl) T.cl_Plan T.m_Plan_map_place (ok_Plan_map_place T) hr (b_Plan_map_place T) .nil pass0 (pa_cons (pv 1) pa_nil)) (pg_tup rfl (pgs_cons (pg_name (i := 2) sc_Image_kind.nd rfl (.inl rfl)) (pgs_cons (pg_name (i := 3) sc_Image_kind.nd rfl (.inl rfl)) pgs_nil))))
      (pss_cons (ps_set (i := 4) sc_Image_kind.nd rfl (.inl rfl) (pe_ix ix_list (pe_ix ix_list (pe_fld (pv 0) rfl) (pv 2) (fun _ _ => rfl)) (pv 3) (fun _ _ => rfl)))
      (pss_one (ps_ret (pe_ifExp (pt_cmpR op_in_seq (pv 4) (pe_tup (pa_cons (pe_cv T.mg_Plan T.cr_Plan T.cv_Plan_LOGGED) (pa_cons (pe_cv T.mg_Plan T.cr_Plan T.cv_Plan_PLAIN) pa_nil))) rfl) (pv 4) (pe_cv T.mg_Plan T.cr_Plan T.cv_Plan_FREE))))))), ?_⟩
    obtain ⟨dxp, hpl⟩ := I.pl.ob
    have b1 := I.pl.b1
    have b2 := I.pl.b2
    have n1 := I.pl.n1
    refine ⟨_, rfl, _, rfl, im, _, _, _, _, rfl, I.ob, T.cl_Image, T.na_Image_plan, rfl, A.pl, _, dxp, _, _, rfl, hpl, T.cl_Plan, T.na_Plan_first_data, rfl, _, _, rfl, rfl, _, rfl, ite2 (fun e => ?_) (fun e => ?_)⟩
    · have e' := of_decide_eq_true e
      have := k H (Same.refl _)
      unfold kindOf at this
      rw [if_pos e'] at this
      exact this
    · have e' : ¬ x < 2 + (b + 8 - 1) / 8 + n := fun z => e (decide_eq_true z)
      -- the cell
      have d0 := I.d0
      have hi : (2 + x / 8).toNat < v.M.length := by omega
      obtain ⟨r, hr1, hr2, _⟩ := I.gr.get (List.getElem?_eq_getElem hi)
      have hj : (x % 8).toNat < (v.M[(2 + x / 8).toNat]).length := by
        rw [I.d1 _ (List.getElem_mem hi)]
        omega
      have hc : cellAt v.M (2 + x / 8).toNat (x % 8).toNat = (v.M[(2 + x / 8).toNat])[(x % 8).toNat] := cellAt_of (List.getElem?_eq_getElem hi) (List.getElem?_eq_getElem hj)
      refine ⟨_, rfl, im, _, _, _, _, rfl, I.ob, T.cl_Image, T.na_Image_plan, rfl, A.pl, dxp, _, rfl, hpl, rfl, _, rfl, A.pl, b, n, sl, x, rfl, I.pl, fun t ht => ?_⟩
      have st := same_upd (o := .tup [.int (2 + x / 8), .int (x % 8)]) ht
      refine ⟨t, _, rfl, .inl (.inl upd_same), rfl, _, _, rfl, _, _, rfl, rfl, ?_⟩
      refine ⟨_, rfl, im, _, _, _, _, rfl, st _ _ I.ob, T.cl_Image, T.na_Image_cells, rfl, _, rfl, A.ca, _, _, .ref r, rfl, rfl, .inl (.inl (st _ _ I.gr.out)), at_of (j := (2 + x / 8).toNat) (by omega) (by rw [List.getElem?_map, hr1]; rfl), _, rfl, r, _, _, _, rfl, rfl, .inl (.inl (st _ _ hr2)), at_of (j := (x % 8).toNat) (by omega) (by rw [List.getElem?_map, List.getElem?_eq_getElem hj]; rfl), ?_⟩
      refine ⟨_, rfl, (by show 2 ≤ sizeLine; decide), fun t2 ht2 => ?_⟩
      have st2 := same_upd (o := .tup [.int 1, .int 2]) ht2
      have kk := k _ (st.trans st2)
      unfold kindOf at kk
      rw [if_neg e', hc] at kk
      generalize (v.M[(2 + x / 8).toNat])[(x % 8).toNat] = c at kk ⊢
      refine ⟨t2, _, rfl, .inr (.inl (.inl upd_same)), rfl, rfl, _, rfl, ite2 (fun q => ?_) (fun q => ?_)⟩
      · have hq : c = 1 ∨ c = 2 := by
          simp [inV, eqV] at q
          omega
        rw [if_pos hq] at kk
        exact ⟨_, rfl, kk⟩
      · have hq : ¬ (c = 1 ∨ c = 2) := fun z => q (by
          simp [inV, eqV]
          omega)
        rw [if_neg hq] at kk
        exact kk
end
end K06
namespace K06
open PySem PySem.Spec PyProof.Rows L2 Rg
theorem mem_set_of {α : Type} {l : List α} {i : Nat} {x y : α} (h : y ∈ l.set i x) : y = x ∨ y ∈ l := by
  rcases List.mem_or_eq_of_mem_set h with h | h
  · exact .inr h
  · exact .inl h
theorem nodup_set {α : Type} : ∀ {l : List α} {i : Nat} {x : α}, l.Nodup → x ∉ l → (l.set i x).Nodup
  | [], _, _, h, _ => by simp
  | y :: l, 0, x, h, n => by
    rw [List.set_cons_zero]
    rw [List.nodup_cons] at h ⊢
    exact ⟨fun z => n (List.mem_cons_of_mem _ z), h.2⟩
  | y :: l, i + 1, x, h, n => by
    rw [List.set_cons_succ]
    rw [List.nodup_cons] at h ⊢
    refine ⟨fun z => ?_, nodup_set h.2 fun z => n (List.mem_cons_of_mem _ z)⟩
    rcases mem_set_of z with e | e
    · exact n (by rw [e]; exact List.mem_cons_self)
    · exact h.1 e
/-- a row replaced by a new one -/
theorem Grid.swap {H H1 : Hp} {ca : Addr} {rs : List Addr} {M : List (List Int)} {i : Nat} {q : Addr} {m : List Int} (G : Grid H ca rs M) (s1 : Same H H1) (hq : H q = none) (h1 : H1 q = some (.lst (m.map V.int))) :
    Grid (upd H1 ca (.lst ((rs.map V.ref).set i (V.ref q)))) ca (rs.set i q) (M.set i m) := by
  have qr : q ∉ rs := fun h => by
    obtain ⟨o, z⟩ := G.held h
    rw [hq] at z
    cases z
  have qc : q ≠ ca := fun e => by
    rw [e, G.out] at hq
    cases hq
  refine ⟨by rw [upd_same, ← List.map_set], by rw [List.length_set, List.length_set]; exact G.len, fun j r m' hj hm => ?_, nodup_set G.nd qr, fun z => ?_⟩
  · by_cases e : i = j
    · subst e
      have hi : i < rs.length := by
        have := (List.getElem?_eq_some_iff.mp hj).1
        rw [List.length_set] at this
        exact this
      rw [List.getElem?_set_self hi] at hj
      rw [List.getElem?_set_self (by rw [← G.len]; exact hi)] at hm
      cases hj
      cases hm
      rw [upd_ne qc]
      exact h1
    · rw [List.getElem?_set_ne e] at hj hm
      rw [upd_ne fun z => G.nin (by rw [← z]; exact List.mem_of_getElem? hj)]
      exact s1 _ _ (G.row j r m' hj hm)
  · rcases mem_set_of z with e | e
    · exact qc e.symm
    · exact G.nin e
section
variable {CI CP : Addr} {H : Hp} {im : Addr} {A : IA} {v : IV} {b n s : Int}
theorem ImgAt.fresh_n (I : ImgAt CI CP H im A v b n s) {q : Addr} (hq : H q = none) : q ≠ im ∧ q ≠ A.ca ∧ q ≠ A.ho ∧ q ≠ A.st ∧ q ≠ A.hd ∧ q ∉ A.rs :=
  ⟨(ne_of_none I.ob hq).symm, (ne_of_none I.gr.out hq).symm, (ne_of_none I.ho hq).symm, (ne_of_none I.st hq).symm, (ne_of_none I.hd hq).symm, fun h => by
    obtain ⟨o, z⟩ := I.gr.held h
    rw [hq] at z
    cases z⟩
/-- image.cells[i] = a new row -/
theorem ImgAt.swap {H1 : Hp} {i : Nat} {q : Addr} {m : List Int} (I : ImgAt CI CP H im A v b n s) (s1 : Same H H1) (hq : H q = none) (h1 : H1 q = some (.lst (m.map V.int))) (hm : m.length = 8) :
    ImgAt CI CP (upd H1 A.ca (.lst ((A.rs.map V.ref).set i (V.ref q)))) im { A with rs := A.rs.set i q } { v with M := v.M.set i m } b n s := by
  obtain ⟨f1, f2, f3, f4, f5, f6⟩ := I.fresh_n hq
  obtain ⟨dxp, hpl⟩ := I.pl.ob
  have oc := I.gr.out
  refine { ob := ?_, pl := I.pl.of fun o e => ?_, gr := I.gr.swap s1 hq h1, ho := ?_, st := ?_, hd := ?_, ba := ?_, n1 := fun z => ?_, n2 := fun z => ?_, n3 := I.n3, n4 := I.n4, n5 := I.n5, d0 := ?_, d1 := fun m' hm' => ?_, d2 := I.d2, d3 := I.d3 }
  · rw [upd_ne (ne_of I.ob oc (by intro z; cases z))]; exact s1 _ _ I.ob
  · rw [upd_ne (ne_of hpl oc (by intro z; cases z))]; exact s1 _ _ e
  · rw [upd_ne I.n4.symm]; exact s1 _ _ I.ho
  · rw [upd_ne I.n5.symm]; exact s1 _ _ I.st
  · rw [upd_ne (ne_of I.hd oc (by intro z; cases z))]; exact s1 _ _ I.hd
  · rw [upd_ne (ne_of I.ba oc (by intro z; cases z))]; exact s1 _ _ I.ba
  · rcases mem_set_of z with e | e
    · exact f3 e.symm
    · exact I.n1 e
  · rcases mem_set_of z with e | e
    · exact f4 e.symm
    · exact I.n2 e
  · show ((v.M.set i m).length : Int) = b
    rw [List.length_set]
    exact I.d0
  · rcases mem_set_of hm' with e | e
    · rw [e]; exact hm
    · exact I.d1 _ e
/-- image.holdings[i] = x -/
theorem ImgAt.putHo {i : Nat} {x : Int} (I : ImgAt CI CP H im A v b n s) : ImgAt CI CP (upd H A.ho (.lst ((v.ho.map V.int).set i (V.int x)))) im A { v with ho := v.ho.set i x } b n s := by
  obtain ⟨dxp, hpl⟩ := I.pl.ob
  have oc := I.ho
  refine { I with ob := ?_, pl := I.pl.of fun o e => ?_, gr := I.gr.keep fun y o hy e => ?_, ho := by rw [upd_same, ← List.map_set], st := ?_, hd := ?_, ba := ?_, d2 := ?_ }
  · rw [upd_ne (ne_of I.ob oc (by intro z; cases z))]; exact I.ob
  · rw [upd_ne (ne_of hpl oc (by intro z; cases z))]; exact e
  · rw [upd_ne]
    · exact e
    · rcases hy with rfl | hy
      · exact I.n4
      · exact fun z => I.n1 (z ▸ hy)
  · rw [upd_ne I.n3.symm]; exact I.st
  · rw [upd_ne (ne_of I.hd oc (by intro z; cases z))]; exact I.hd
  · rw [upd_ne (ne_of I.ba oc (by intro z; cases z))]; exact I.ba
  · show ((v.ho.set i x).length : Int) = b
    rw [List.length_set]
    exact I.d2
/-- image.stamps[i] = x -/
theorem ImgAt.putSt {i : Nat} {x : Int} (I : ImgAt CI CP H im A v b n s) : ImgAt CI CP (upd H A.st (.lst ((v.st.map V.int).set i (V.int x)))) im A { v with st := v.st.set i x } b n s := by
  obtain ⟨dxp, hpl⟩ := I.pl.ob
  have oc := I.st
  refine { I with ob := ?_, pl := I.pl.of fun o e => ?_, gr := I.gr.keep fun y o hy e => ?_, st := by rw [upd_same, ← List.map_set], ho := ?_, hd := ?_, ba := ?_, d3 := ?_ }
  · rw [upd_ne (ne_of I.ob oc (by intro z; cases z))]; exact I.ob
  · rw [upd_ne (ne_of hpl oc (by intro z; cases z))]; exact e
  · rw [upd_ne]
    · exact e
    · rcases hy with rfl | hy
      · exact I.n5
      · exact fun z => I.n2 (z ▸ hy)
  · rw [upd_ne I.n3]; exact I.ho
  · rw [upd_ne (ne_of I.hd oc (by intro z; cases z))]; exact I.hd
  · rw [upd_ne (ne_of I.ba oc (by intro z; cases z))]; exact I.ba
  · show ((v.st.set i x).length : Int) = b
    rw [List.length_set]
    exact I.d3
/-- one row changed: image.cells[i][j] = x and the like -/
theorem ImgAt.putRow {i : Nat} {r : Addr} {m : List Int} (I : ImgAt CI CP H im A v b n s) (hr : A.rs[i]? = some r) (hm : m.length = 8) : ImgAt CI CP (upd H r (.lst (m.map V.int))) im A { v with M := v.M.set i m } b n s := by
  obtain ⟨dxp, hpl⟩ := I.pl.ob
  have rin : r ∈ A.rs := List.mem_of_getElem? hr
  have hi : i < v.M.length := by rw [← I.gr.len]; exact (List.getElem?_eq_some_iff.mp hr).1
  have oc := I.gr.row i r _ hr (List.getElem?_eq_getElem hi)
  refine { I with ob := ?_, pl := I.pl.of fun o e => ?_, gr := I.gr.put hr, st := ?_, ho := ?_, hd := ?_, ba := ?_, d0 := ?_, d1 := fun m' hm' => ?_ }
  · rw [upd_ne (ne_of I.ob oc (by intro z; cases z))]; exact I.ob
  · rw [upd_ne (ne_of hpl oc (by intro z; cases z))]; exact e
  · rw [upd_ne (fun z : A.ho = r => I.n1 (by rw [z]; exact rin))]; exact I.ho
  · rw [upd_ne (fun z : A.st = r => I.n2 (by rw [z]; exact rin))]; exact I.st
  · rw [upd_ne (ne_of I.hd oc (by intro z; cases z))]; exact I.hd
  · rw [upd_ne (ne_of I.ba oc (by intro z; cases z))]; exact I.ba
  · show ((v.M.set i m).length : Int) = b
    rw [List.length_set]
    exact I.d0
  · rcases mem_set_of hm' with e | e
    · rw [e]; exact hm
    · exact I.d1 _ e
end
end K06
namespace K06
open PySem PySem.Spec PyProof.Rows L2 Rg
/-- what of_cells makes of the rows, the blocks before i looked at -/
def ofM (b n : Int) (R : List (List Int)) (i : Nat) : List (List Int) := (List.range b.toNat).map fun x => if x < i ∧ kindOf b n R x = 0 then List.replicate 8 0 else R[x]?.getD []
def ofH (b n : Int) (R : List (List Int)) (i : Nat) : List Int := (List.range b.toNat).map fun x => if x < i ∧ ¬ kindOf b n R x = 0 then 1 else 0
def ofV (b n : Int) (R : List (List Int)) (i : Nat) : IV := ⟨ofM b n R i, ofH b n R i, ofH b n R i, [], 1, 0, []⟩
theorem kindOf_fix {b n : Int} {R : List (List Int)} {x : Int} (h : x < 2 + (b + 8 - 1) / 8 + n) : kindOf b n R x = 1 := by
  unfold kindOf
  rw [if_pos h]
theorem cellAt_congr {M R : List (List Int)} {i j : Nat} (h : M[i]? = R[i]?) : cellAt M i j = cellAt R i j := by
  unfold cellAt
  rw [h]
theorem kindOf_congr {b n : Int} {M R : List (List Int)} {x : Int} (hn : 0 ≤ n) (h0 : 0 ≤ x) (hb : x < b) (h : ∀ y : Nat, (y : Int) < 2 + (b + 8 - 1) / 8 + n → M[y]? = R[y]?) : kindOf b n M x = kindOf b n R x := by
  unfold kindOf
  rw [cellAt_congr (h (2 + x / 8).toNat (by omega))]
theorem ofM_get {b n : Int} {R : List (List Int)} {i x : Nat} (hx : x < b.toNat) : (ofM b n R i)[x]? = some (if x < i ∧ kindOf b n R x = 0 then List.replicate 8 0 else R[x]?.getD []) := by
  unfold ofM
  rw [List.getElem?_map, List.getElem?_range hx]
  rfl
theorem ofM_fix {b n : Int} {R : List (List Int)} {i y : Nat} (hR : (R.length : Int) = b) (hb : 2 + (b + 8 - 1) / 8 + n ≤ b) (hy : (y : Int) < 2 + (b + 8 - 1) / 8 + n) : (ofM b n R i)[y]? = R[y]? := by
  rw [ofM_get (by omega), kindOf_fix hy, if_neg (fun z => by simp at z), List.getElem?_eq_getElem (show y < R.length by omega)]
  rfl
theorem ofM_zero {b n : Int} {R : List (List Int)} (hR : (R.length : Int) = b) : ofM b n R 0 = R := by
  apply List.ext_getElem?
  intro x
  by_cases hx : x < b.toNat
  · rw [ofM_get hx, if_neg (fun z => by simp at z), List.getElem?_eq_getElem (show x < R.length by omega)]
    rfl
  · rw [List.getElem?_eq_none (by unfold ofM; simp; omega), List.getElem?_eq_none (by omega)]
theorem ofM_succ {b n : Int} {R : List (List Int)} {i : Nat} (hi : i < b.toNat) : ofM b n R (i + 1) = if kindOf b n R i = 0 then (ofM b n R i).set i (List.replicate 8 0) else ofM b n R i := by
  apply List.ext_getElem?
  intro x
  by_cases hx : x < b.toNat
  · rw [ofM_get hx]
    by_cases hk : kindOf b n R i = 0
    · rw [if_pos hk]
      by_cases e : i = x
      · subst e
        rw [List.getElem?_set_self (by unfold ofM; simp; omega), if_pos ⟨Nat.lt_succ_self _, hk⟩]
      · rw [List.getElem?_set_ne e, ofM_get hx]
        by_cases h : x < i
        · simp only [show (x < i + 1) ↔ (x < i) by omega]
        · simp only [show (x < i + 1) ↔ (x < i) by omega]
    · rw [if_neg hk, ofM_get hx]
      by_cases e : i = x
      · subst e
        rw [if_neg (fun z => hk z.2), if_neg (fun z => hk z.2)]
      · simp only [show (x < i + 1) ↔ (x < i) by omega]
  · have l1 : (ofM b n R (i + 1)).length = b.toNat := by unfold ofM; simp
    have l2 : (ofM b n R i).length = b.toNat := by unfold ofM; simp
    rw [List.getElem?_eq_none (by omega)]
    split
    · rw [List.getElem?_eq_none (by rw [List.length_set]; omega)]
    · rw [List.getElem?_eq_none (by omega)]
theorem ofH_get {b n : Int} {R : List (List Int)} {i x : Nat} (hx : x < b.toNat) : (ofH b n R i)[x]? = some (if x < i ∧ ¬ kindOf b n R x = 0 then 1 else 0) := by
  unfold ofH
  rw [List.getElem?_map, List.getElem?_range hx]
  rfl
theorem ofH_zero {b n : Int} {R : List (List Int)} : ofH b n R 0 = List.replicate b.toNat 0 := by
  apply List.ext_getElem?
  intro x
  by_cases hx : x < b.toNat
  · rw [ofH_get hx, if_neg (fun z => by simp at z), List.getElem?_replicate, if_pos hx]
  · rw [List.getElem?_eq_none (by unfold ofH; simp; omega), List.getElem?_eq_none (by simp; omega)]
theorem ofH_succ {b n : Int} {R : List (List Int)} {i : Nat} (hi : i < b.toNat) : ofH b n R (i + 1) = if kindOf b n R i = 0 then ofH b n R i else (ofH b n R i).set i 1 := by
  apply List.ext_getElem?
  intro x
  by_cases hx : x < b.toNat
  · rw [ofH_get hx]
    by_cases hk : kindOf b n R i = 0
    · rw [if_pos hk, ofH_get hx]
      by_cases e : i = x
      · subst e
        rw [if_neg (fun z => z.2 hk), if_neg (fun z => z.2 hk)]
      · simp only [show (x < i + 1) ↔ (x < i) by omega]
    · rw [if_neg hk]
      by_cases e : i = x
      · subst e
        rw [List.getElem?_set_self (by unfold ofH; simp; omega), if_pos ⟨Nat.lt_succ_self _, hk⟩]
      · rw [List.getElem?_set_ne e, ofH_get hx]
        simp only [show (x < i + 1) ↔ (x < i) by omega]
  · have l1 : (ofH b n R (i + 1)).length = b.toNat := by unfold ofH; simp
    have l2 : (ofH b n R i).length = b.toNat := by unfold ofH; simp
    rw [List.getElem?_eq_none (by omega)]
    split
    · rw [List.getElem?_eq_none (by omega)]
    · rw [List.getElem?_eq_none (by rw [List.length_set]; omega)]
section
variable {P : Program} {w : World} {K : PySem.W.Frag} {mg : Str → Option Value} {base : Heap}
def sp_of_cells (CI CP : Addr) : Sp := fun vs H Q _ => ∃ (pl ra : Addr) (rr : List Addr) (R : List (List Int)) (b n s : Int), vs = [.ref pl, .ref ra] ∧ PlanAt CP H pl b n s ∧ Grid H ra rr R ∧ (R.length : Int) = b ∧ (∀ m ∈ R, m.length = 8) ∧
  ∀ (H' : Hp) (im : Addr) (A : IA), Same H H' → H im = none → ImgAt CI CP H' im A (ofV b n R b.toNat) b n s → A.New H → A.pl = pl → Q (.ref im) H'
theorem ok_of_cells (T : Tx K mg) : FnOk P w K mg base CX0 3 T.f_Image_of_cells T.fd_Image_of_cells ["plan", "rows"] (sp_of_cells T.C_Image T.C_Plan) := by
  refine T.F_Image_of_cells.ok sc_Image_of_cells (fun vs H Q E h => ?_) (fun cdv A0 outer s H vs Q E hr h => ?_)
  · obtain ⟨_, _, _, _, _, _, _, rfl, _⟩ := h; rfl
  · obtain ⟨pl, ra, rr, R, b, n, sl, rfl, hP, GR, hR, hR8, k⟩ := h
    have hr2 : Room 2 _ := hr.mono (by decide)
    refine ⟨_, (pss_cons (ps_set (i := 2) sc_Image_of_cells.nd rfl (.inl rfl) (pe_make T.mk_Image (ok_Image_init T) hr2 rfl T.mg_Image (b_Image___init__ T) .nil pass0 (pa_cons (pv 0) pa_nil)))
      (pss_cons (ps_fld (pv 2) (pe_lc rfl (own := [("row", 3)]) (g := gName 3) (tt := tYes) sc_Image_of_cells.nd (pi_list (pv 1)) (blkOk_by (N := ["plan", "rows", "image", "row", "x"]) (sc := defScope s_Image_of_cells) (by decide +kernel)) (fun _ _ _ _ _ => pg_name (i := 3) sc_Image_of_cells.nd rfl (Or.inl rfl)) (fun _ _ _ _ _ => pts_nil) (fun _ _ _ _ _ => (pe_listof (K := K) (pv 3) T.b_list))) rfl)
      (pss_cons (ps_fld (pv 2) pe_int rfl)
      (pss_cons (ps_for PassesOwn.never rfl (pi_range1 rfl T.b_range (pa_cons (pe_fld (pv 0) rfl) pa_nil)) (pg_name (i := 4) sc_Image_of_cells.nd rfl (.inl rfl))
        (pss_one (ps_if (pt_cmpR op_eq (pe_meth (pv 2) T.cl_Image T.m_Image_kind (ok_Image_kind T) hr2 (b_Image_kind T) .nil pass0 (pa_cons (pv 4) pa_nil)) (pe_cv T.mg_Plan T.cr_Plan T.cv_Plan_FREE) (nomark _))
          (pss_one (ps_asg (pe_op op_rep (pe_lst (pa_cons pe_int pa_nil)) (pe_cv T.mg_Plan T.cr_Plan T.cv_Plan_WIDTH)) (pg_sub (pe_fld (pv 2) rfl) (pv 4) set_list)))
          (pss_cons (ps_asg pe_int (pg_sub (pe_fld (pv 2) rfl) (pv 4) set_list))
          (pss_one (ps_asg pe_int (pg_sub (pe_fld (pv 2) rfl) (pv 4) set_list)))))))
      (pss_one (ps_ret (pv 2))))))), ?_⟩
    obtain ⟨dxp, hpl⟩ := hP.ob
    have hb1 := hP.b1
    have hb2 := hP.b2
    have hd := hP.d
    have hn1 := hP.n1
    -- image = Image(plan)
    refine ⟨_, rfl, fun x dx nx ndx nex => ?_⟩
    have s1 : Same H (upd (upd H dx (.own x)) x (.ins T.C_Image dx [])) := (same_upd ndx).trans (same_upd (by rw [upd_ne nex.symm]; exact nx))
    refine ⟨x, dx, pl, b, n, sl, rfl, upd_same, hP.same s1, fun H1 A1 k1 I1 N1 eA => ⟨rfl, ?_⟩⟩
    have k1' : ∀ y o, H y = some o → H1 y = some o := fun y o e => k1 y o (s1 _ _ e) (ne_of_none e nx)
    have xs1 : ∀ y, (upd (upd H dx (.own x)) x (.ins T.C_Image dx [])) y = none → H y = none := fun y e => un (un e)
    -- image.cells = [list(row) for row in rows]
    refine ⟨_, rfl, ra, rfl, ⟨_, .of (k1' _ _ GR.out)⟩, fun D hD => ?_⟩
    refine lc_list (K := K) (a := ra) (xs := rr.map V.ref) (fun i H' => ∃ qs, NewGrid H1 H' D qs (R.take i))
      ⟨[], NewGrid.start (Same.refl _) hD hD⟩ (fun i H' _ ⟨qs, G⟩ => .of (G.same _ _ (k1' _ _ GR.out))) ?_ ?_
    · rintro i y H' hi ⟨qs, G⟩
      have hil : i < rr.length := by
        have := (List.getElem?_eq_some_iff.mp hi).1
        rw [List.length_map] at this
        exact this
      rw [List.getElem?_map, List.getElem?_eq_getElem hil] at hi
      have hi : V.ref rr[i] = y := Option.some.inj hi
      subst hi
      have hiR : i < R.length := by rw [← GR.len]; exact hil
      have hrow := G.same _ _ (k1' _ _ (GR.row i rr[i] R[i] (List.getElem?_eq_getElem hil) (List.getElem?_eq_getElem hiR)))
      refine ⟨rfl, ?_⟩
      refine yes_ ?_
      refine ⟨_, rfl, rr[i], _, rfl, .inl (.of hrow), fun q hq => ?_⟩
      refine ⟨_, by rw [upd_ne (ne_of_none G.grid.out hq)]; exact G.grid.out, ?_, qs ++ [q], ?_⟩
      · rw [List.length_map, G.grid.len, List.length_take]
        exact small1000 (by omega)
      · rw [List.take_succ, List.getElem?_eq_getElem hiR]
        exact G.snoc (same_upd hq) hq upd_same
    rintro H2 ⟨qs, G⟩
    rw [List.length_map, GR.len, List.take_length] at G
    have I2 : ImgAt T.C_Image T.C_Plan H2 x A1 (zeroV b) b n sl := I1.keep G.same
    refine ⟨_, rfl, x, _, _, _, rfl, I2.ob, T.cl_Image, T.na_Image_cells, (by show 8 < 1000; decide), ?_⟩
    generalize hH3 : upd H2 x _ = H3
    obtain ⟨e3, k3, n3⟩ := own_f hH3
    refine ⟨_, rfl, x, _, _, _, rfl, e3, T.cl_Image, T.na_Image_serial, (by show 8 < 1000; decide), ?_⟩
    generalize hH4 : upd H3 x _ = H4
    obtain ⟨e4, k4, n4⟩ := own_f hH4
    have k24 : Kp [x] H2 H4 := k3.trans k4
    have kx : ∀ y o, H2 y = some o → y ≠ x → H4 y = some o := fun y o e ne => k24.at1 e ne
    have npl : pl ≠ x := ne_of_none hpl nx
    have pl2 : H2 A1.pl = some (.ins T.C_Plan dxp (planF b n sl)) := by rw [eA]; exact G.same _ _ (k1' _ _ hpl)
    have xD : x ≠ D := ne_of_none I1.ob G.freshD
    have xq : x ∉ qs := (G.nin0 I1.ob).2
    have I4 : ImgAt T.C_Image T.C_Plan H4 x { A1 with ca := D, rs := qs } (ofV b n R 0) b n sl := by
      refine { ob := e4, pl := I2.pl.of fun o e => kx _ _ e (by show A1.pl ≠ x; rw [eA]; exact npl), gr := ?_, ho := ?_, st := ?_, hd := ?_, ba := ?_, n1 := (G.nin0 I1.ho).2, n2 := (G.nin0 I1.st).2, n3 := I1.n3, n4 := (G.nin0 I1.ho).1.symm, n5 := (G.nin0 I1.st).1.symm, d0 := ?_, d1 := ?_, d2 := ?_, d3 := ?_ }
      · show Grid H4 D qs (ofM b n R 0)
        rw [ofM_zero hR]
        refine G.grid.keep fun y o hy e => kx _ _ e ?_
        rcases hy with rfl | hy
        · exact xD.symm
        · exact fun z => xq (by rw [← z]; exact hy)
      · show H4 A1.ho = some (.lst ((ofH b n R 0).map V.int))
        rw [ofH_zero]
        exact kx _ _ I2.ho (ne_of I2.ho I2.ob (by intro z; cases z))
      · show H4 A1.st = some (.lst ((ofH b n R 0).map V.int))
        rw [ofH_zero]
        exact kx _ _ I2.st (ne_of I2.st I2.ob (by intro z; cases z))
      · exact kx _ _ I2.hd (ne_of I2.hd I2.ob (by intro z; cases z))
      · exact kx _ _ I2.ba (ne_of I2.ba I2.ob (by intro z; cases z))
      · show ((ofM b n R 0).length : Int) = b
        rw [ofM_zero hR]
        exact hR
      · show ∀ m ∈ ofM b n R 0, m.length = 8
        rw [ofM_zero hR]
        exact hR8
      · show ((ofH b n R 0).length : Int) = b
        rw [ofH_zero, List.length_replicate]
        omega
      · show ((ofH b n R 0).length : Int) = b
        rw [ofH_zero, List.length_replicate]
        omega
    have N0 : ∀ y, H1 y = none → H y = none := fun y e => by
      cases q : H y with
      | none => rfl
      | some o => rw [k1' y o q] at e; cases e
    have N4 : ({ A1 with ca := D, rs := qs } : IA).New H := ⟨N0 _ G.freshD, fun q hq => N0 _ (G.fresh q hq), xs1 _ N1.ho, xs1 _ N1.st, xs1 _ N1.hd⟩
    have S4 : Same H H4 := fun y o e => kx _ _ (G.same _ _ (k1' _ _ e)) (ne_of_none e nx)
    -- for x in range(plan.blocks)
    have hpl4 : H4 pl = some (.ins T.C_Plan dxp (planF b n sl)) := S4 _ _ hpl
    refine ⟨_, rfl, pl, _, dxp, _, _, rfl, hpl4, T.cl_Plan, T.na_Plan_blocks, rfl, b, rfl, by omega, by omega, for_range (lo := 0) (n := b.toNat) (fun i σ H' => ∃ (A : IA) (u3 u4 : Option V), σ = [some (.ref pl), some (.ref ra), some (.ref x), u3, u4] ∧ ImgAt T.C_Image T.C_Plan H' x A (ofV b n R i) b n sl ∧ Same H H' ∧ A.New H ∧ A.pl = pl)
      ⟨_, _, _, rfl, I4, S4, N4, eA⟩ ?_ ?_⟩
    · rintro i σ H' hi ⟨A, u3, u4, rfl, I, S, N, eA⟩
      have hib : (i : Int) < b := by omega
      refine ⟨_, rfl, x, _, _, rfl, I.ob, rfl, _, rfl, x, A, ofV b n R i, b, n, sl, _, rfl, I, by omega, by omega, fun H5 s5 => ?_⟩
      have ek : kindOf b n (ofV b n R i).M (0 + (i : Int)) = kindOf b n R i := by
        rw [show (0 : Int) + (i : Int) = i by omega]
        exact kindOf_congr (by omega) (by omega) hib fun y hy => ofM_fix hR (by omega) hy
      rw [ek]
      have I5 := I.keep s5
      have S5 := S.trans s5
      refine ⟨rfl, _, rfl, ite2 (fun e => ?_) (fun e => ?_)⟩
      · have hk : kindOf b n R i = 0 := V.int.inj (of_decide_eq_true e)
        refine ⟨by show 1 ≤ sizeLine; decide, fun l hl => ?_⟩
        refine ⟨l, 8, _, rfl, rfl, upd_same, by decide, by decide, by show 1 * 8 ≤ sizeLine; decide, fun q hq => ?_⟩
        have sm : Same H5 (upd (upd H5 l (.lst [V.int 0])) q (.lst (List.replicate (8 : Int).toNat [V.int 0]).flatten)) := (same_upd hl).trans (same_upd hq)
        have hq5 : H5 q = none := un hq
        have hq1 : (upd (upd H5 l (.lst [V.int 0])) q (.lst (List.replicate (8 : Int).toNat [V.int 0]).flatten)) q = some (.lst ((List.replicate 8 (0 : Int)).map V.int)) := by rw [upd_same]; rfl
        generalize hH6 : upd (upd H5 l (.lst [V.int 0])) q (.lst (List.replicate (8 : Int).toNat [V.int 0]).flatten) = H6 at sm hq1 ⊢
        refine ⟨_, rfl, x, _, _, _, _, rfl, sm _ _ I5.ob, T.cl_Image, T.na_Image_cells, rfl, _, rfl, A.ca, _, _, i, rfl, rfl, sm _ _ I5.gr.out, ?_, ?_⟩
        · unfold ixN
          rw [if_pos (by omega), List.length_map, if_pos (by rw [I5.gr.len]; show (0 : Int) + i < (ofM b n R i).length; unfold ofM; simp; omega)]
          congr 1
          omega
        · refine ⟨{ A with rs := A.rs.set i q }, u3, _, rfl, ?_, ?_, ⟨N.ca, fun z hz => ?_, N.ho, N.st, N.hd⟩, eA⟩
          rotate_left
          · exact fun y o e => by
              rw [upd_ne (ne_of_none e N.ca)]
              exact sm _ _ (S5 _ _ e)
          · rcases mem_set_of hz with e | e
            · rw [e]; exact S5.free hq5
            · exact N.rs z e
          · have := I5.swap (i := i) sm hq5 hq1 (by rfl)
            unfold ofV at this ⊢
            dsimp only at this ⊢
            rw [ofM_succ (by omega), if_pos hk, ofH_succ (by omega), if_pos hk]
            exact this
      · have hk : ¬ kindOf b n R i = 0 := fun z => e (by rw [z]; exact decide_eq_true rfl)
        have ix : ∀ (xs : List V), xs.length = b.toNat → ixN xs.length (0 + (i : Int)) = some i := fun xs hx => by
          unfold ixN
          rw [if_pos (by omega), if_pos (by omega)]
          congr 1
          omega
        have lh : ((ofH b n R i).map V.int).length = b.toNat := by unfold ofH; simp
        refine ⟨_, rfl, x, _, _, _, _, rfl, I5.ob, T.cl_Image, T.na_Image_holdings, rfl, _, rfl, A.ho, _, _, i, rfl, rfl, I5.ho, ix _ lh, ?_⟩
        have I6 := I5.putHo (i := i) (x := 1)
        refine ⟨_, rfl, x, _, _, _, _, rfl, I6.ob, T.cl_Image, T.na_Image_stamps, rfl, _, rfl, A.st, _, _, i, rfl, rfl, I6.st, ix _ lh, ?_⟩
        have I7 := I6.putSt (i := i) (x := 1)
        refine ⟨_, u3, _, rfl, ?_, ?_, N, eA⟩
        · unfold ofV at I7 ⊢
          dsimp only at I7 ⊢
          rw [ofM_succ (by omega), if_neg hk, ofH_succ (by omega), if_neg hk]
          exact I7
        · exact fun y o e => by
            rw [upd_ne (ne_of_none e N.st), upd_ne (ne_of_none e N.ho)]
            exact S5 _ _ e
    · rintro σ H' ⟨A, u3, u4, rfl, I, S, N, eA⟩
      exact ⟨_, rfl, k H' x A S nx I N eA⟩
end
end K06
namespace K06
open PySem PySem.Spec PyProof.Rows L2 Rg
def setC (M : List (List Int)) (i j : Nat) (x : Int) : List (List Int) := M.set i ((M[i]?.getD []).set j x)
theorem setC_len {M : List (List Int)} {i j : Nat} {x : Int} : (setC M i j x).length = M.length := by
  unfold setC
  rw [List.length_set]
theorem setC_at {M : List (List Int)} {i j : Nat} {x : Int} {m : List Int} (h : M[i]? = some m) : (setC M i j x)[i]? = some (m.set j x) := by
  have hi := (List.getElem?_eq_some_iff.mp h).1
  unfold setC
  rw [List.getElem?_set_self hi, h]
  rfl
theorem ImgAt.setC {CI CP : Addr} {H : Hp} {im : Addr} {A : IA} {v : IV} {b n s : Int} (I : ImgAt CI CP H im A v b n s) {i j : Nat} {x : Int} {r : Addr} {m : List Int} (hr : A.rs[i]? = some r) (hm : v.M[i]? = some m) :
    ImgAt CI CP (upd H r (.lst ((m.map V.int).set j (V.int x)))) im A { v with M := setC v.M i j x } b n s := by
  have h8 : m.length = 8 := I.d1 m (List.mem_of_getElem? hm)
  have := I.putRow (m := m.set j x) hr (by rw [List.length_set]; exact h8)
  rw [List.map_set] at this
  unfold K06.setC
  rw [hm]
  exact this
/-- the index i of a list of a known length -/
theorem ixN_nat {n : Nat} {z : Int} {i : Nat} (e : z = i) (h : i < n) : ixN n z = some i := by
  subst e
  unfold ixN
  rw [if_pos (by omega), if_pos (by omega)]
  rfl
def zerosM (b : Int) : List (List Int) := List.replicate b.toNat (List.replicate 8 0)
def fmM (b : Int) : Nat → List (List Int)
  | 0 => zerosM b
  | k + 1 => setC (fmM b k) (2 + k / 8) (k % 8) 1
def freshM (b n : Int) : List (List Int) :=
  let r := (2 + (b + 8 - 1) / 8).toNat
  setC (setC (setC (fmM b (r + n.toNat)) r 0 2) r 1 1) r 7 1
section
variable {P : Program} {w : World} {K : PySem.W.Frag} {mg : Str → Option Value} {base : Heap}
def sp_fresh (CI CP : Addr) : Sp := fun vs H Q _ => ∃ (pl : Addr) (b n s : Int), vs = [.ref pl] ∧ PlanAt CP H pl b n s ∧
  ∀ (H' : Hp) (im : Addr) (A : IA), Same H H' → H im = none → ImgAt CI CP H' im A (ofV b n (freshM b n) b.toNat) b n s → A.New H → A.pl = pl → Q (.ref im) H'
theorem ok_fresh (T : Tx K mg) : FnOk P w K mg base CX0 4 T.f_Image_fresh T.fd_Image_fresh ["plan"] (sp_fresh T.C_Image T.C_Plan) := by
  refine T.F_Image_fresh.ok sc_Image_fresh (fun vs H Q E h => ?_) (fun cdv A0 outer s H vs Q E hr h => ?_)
  · obtain ⟨_, _, _, _, rfl, _⟩ := h; rfl
  · obtain ⟨pl, b, n, sl, rfl, hP, k⟩ := h
    have hr1 : Room 1 _ := hr.mono (by decide)
    have hr2 : Room 2 _ := hr.mono (by decide)
    refine ⟨_, (pss_cons (ps_set (i := 1) sc_Image_fresh.nd rfl (.inl rfl) (pe_make T.mk_Image (ok_Image_init T) hr2 rfl T.mg_Image (b_Image___init__ T) .nil pass0 (pa_cons (pv 0) pa_nil)))
      (pss_cons (ps_for PassesOwn.never rfl (pi_range1 rfl T.b_range (pa_cons (pe_fld (pv 0) rfl) pa_nil)) (pg_name (i := 2) sc_Image_fresh.nd rfl (.inl rfl))
        (pss_cons (ps_asg (pe_meth (pv 0) T.cl_Plan T.m_Plan_map_place (ok_Plan_map_place T) hr1 (b_Plan_map_place T) .nil pass0 (pa_cons (pv 2) pa_nil)) (pg_tup rfl (pgs_cons (pg_name (i := 3) sc_Image_fresh.nd rfl (.inl rfl)) (pgs_cons (pg_name (i := 4) sc_Image_fresh.nd rfl (.inl rfl)) pgs_nil))))
        (pss_one (ps_asg (pe_cv T.mg_Plan T.cr_Plan T.cv_Plan_LOGGED) (pg_sub (pe_ix ix_list (pe_fld (pv 1) rfl) (pv 3) (fun _ _ => rfl)) (pv 4) set_list)))))
      (pss_cons (ps_set (i := 5) sc_Image_fresh.nd rfl (.inl rfl) (pe_ix ix_list (pe_fld (pv 1) rfl) (pe_meth (pv 0) T.cl_Plan T.m_Plan_node_block (ok_Plan_node_block T) hr1 (b_Plan_node_block T) .nil pass0 (pa_cons (pe_gc T.c_ROOT) pa_nil)) (fun _ _ => rfl)))
      (pss_cons (ps_asg (pe_gc T.c_FOLDER) (pg_sub (pv 5) (pe_gc T.c_KIND) set_list))
      (pss_cons (ps_asg pe_int (pg_sub (pv 5) (pe_gc T.c_LINKS) set_list))
      (pss_cons (ps_asg pe_int (pg_sub (pv 5) (pe_gc T.c_MAKING) set_list))
      (pss_one (ps_ret (pe_smeth T.mg_Image T.cr_Image T.sm_Image_of_cells (ok_of_cells T) hr (b_Image_of_cells T) .nil pass0 (pa_cons (pv 0) (pa_cons (pe_fld (pv 1) rfl) pa_nil))))))))))), ?_⟩
    obtain ⟨dxp, hpl⟩ := hP.ob
    have hb1 := hP.b1
    have hb2 := hP.b2
    have hd := hP.d
    have hn1 := hP.n1
    -- image = Image(plan)
    refine ⟨_, rfl, fun x dx nx ndx nex => ?_⟩
    have s1 : Same H (upd (upd H dx (.own x)) x (.ins T.C_Image dx [])) := (same_upd ndx).trans (same_upd (by rw [upd_ne nex.symm]; exact nx))
    refine ⟨x, dx, pl, b, n, sl, rfl, upd_same, hP.same s1, fun H1 A k1 I1 N1 eA => ⟨rfl, ?_⟩⟩
    have S1 : Same H H1 := fun y o e => k1 y o (s1 _ _ e) (ne_of_none e nx)
    have Nrs : ∀ q ∈ A.rs, H q = none := fun q hq => un (un (N1.rs q hq))
    have pr : pl ∉ A.rs := fun z => by rw [Nrs _ z] at hpl; cases hpl
    -- the map
    refine ⟨_, rfl, pl, _, dxp, _, _, rfl, S1 _ _ hpl, T.cl_Plan, T.na_Plan_first_data, rfl, _, rfl, by omega, by omega, for_range (lo := 0) (n := (2 + (b + 8 - 1) / 8 + n).toNat) (fun i σ H' => ∃ (u2 u3 u4 : Option V), σ = [some (.ref pl), some (.ref x), u2, u3, u4, none] ∧ ImgAt T.C_Image T.C_Plan H' x A { zeroV b with M := fmM b i } b n sl ∧ Same H H')
      ⟨_, _, _, rfl, I1, S1⟩ ?_ ?_⟩
    · rintro i σ H' hi ⟨u2, u3, u4, rfl, I, S⟩
      refine ⟨_, rfl, pl, dxp, _, rfl, S _ _ hpl, rfl, _, rfl, pl, b, n, sl, _, rfl, hP.same S, fun t ht => ?_⟩
      have st := same_upd (o := .tup [.int (2 + (0 + (i : Int)) / 8), .int ((0 + (i : Int)) % 8)]) ht
      refine ⟨t, _, rfl, .inl (.inl upd_same), rfl, _, _, rfl, _, _, rfl, rfl, ?_⟩
      have It := I.keep st
      have d0 := It.d0
      have hl : 2 + i / 8 < (fmM b i).length := by
        have : ((fmM b i).length : Int) = b := d0
        omega
      obtain ⟨r, hr1, hr2, _⟩ := It.gr.get (List.getElem?_eq_getElem hl)
      have h8 : ((fmM b i)[2 + i / 8]).length = 8 := It.d1 _ (List.getElem_mem hl)
      refine ⟨_, rfl, x, _, _, _, _, rfl, It.ob, T.cl_Image, T.na_Image_cells, rfl, _, rfl, A.ca, _, _, .ref r, rfl, rfl, .of It.gr.out, at_of (j := 2 + i / 8) (by omega) (by rw [List.getElem?_map, hr1]; rfl), _, rfl, r, _, _, i % 8, rfl, rfl, hr2, ixN_nat (by omega) (by rw [List.length_map, h8]; omega), ?_⟩
      refine ⟨_, _, _, rfl, It.setC (j := i % 8) (x := 1) hr1 (List.getElem?_eq_getElem hl), fun y o e => ?_⟩
      rw [upd_ne (ne_of_none e (Nrs r (List.mem_of_getElem? hr1)))]
      exact st _ _ (S _ _ e)
    · rintro σ H' ⟨u2, u3, u4, rfl, I, S⟩
      have d0 := I.d0
      -- root = ..
      have hl : (2 + (b + 8 - 1) / 8).toNat < (fmM b (2 + (b + 8 - 1) / 8 + n).toNat).length := by
        have : ((fmM b (2 + (b + 8 - 1) / 8 + n).toNat).length : Int) = b := d0
        omega
      obtain ⟨r, hr1, hr2, _⟩ := I.gr.get (List.getElem?_eq_getElem hl)
      generalize hm : (fmM b (2 + (b + 8 - 1) / 8 + n).toNat)[(2 + (b + 8 - 1) / 8).toNat] = m at hr2
      have hm' : (fmM b (2 + (b + 8 - 1) / 8 + n).toNat)[(2 + (b + 8 - 1) / 8).toNat]? = some m := by rw [List.getElem?_eq_getElem hl, hm]
      have h8 : m.length = 8 := I.d1 _ (List.mem_of_getElem? hm')
      refine ⟨_, rfl, x, _, _, _, _, rfl, I.ob, T.cl_Image, T.na_Image_cells, rfl, _, rfl, pl, dxp, _, rfl, S _ _ hpl, rfl, pl, b, n, sl, 1, rfl, hP.same S, A.ca, _, _, .ref r, rfl, rfl, .of I.gr.out, at_of (j := (2 + (b + 8 - 1) / 8).toNat) (by omega) (by rw [List.getElem?_map, hr1]; rfl), ?_⟩
      refine ⟨_, rfl, r, _, _, 0, rfl, rfl, hr2, ixN_nat rfl (by rw [List.length_map, h8]; omega), ?_⟩
      have I1 := I.setC (j := 0) (x := 2) hr1 hm'
      refine ⟨_, rfl, r, _, _, 1, rfl, rfl, upd_same, ixN_nat rfl (by simp [h8]), ?_⟩
      have e1 : (m.map V.int).set 0 (V.int 2) = (m.set 0 2).map V.int := List.map_set.symm
      rw [e1] at I1 ⊢
      have I2 := I1.setC (j := 1) (x := 1) hr1 (setC_at hm')
      refine ⟨_, rfl, r, _, _, 7, rfl, rfl, upd_same, ixN_nat rfl (by simp [h8]), ?_⟩
      have e2 : ((m.set 0 2).map V.int).set 1 (V.int 1) = ((m.set 0 2).set 1 1).map V.int := List.map_set.symm
      rw [e2] at I2 ⊢
      have I3 := I2.setC (j := 7) (x := 1) hr1 (setC_at (setC_at hm'))
      rw [upd_upd, upd_upd]
      rw [upd_upd, upd_upd] at I3
      generalize hHf : upd H' r (.lst ((((m.set 0 2).set 1 1).map V.int).set 7 (V.int 1))) = Hf at I3 ⊢
      have Sf : Same H Hf := fun y o e => by
        rw [← hHf, upd_ne (ne_of_none e (Nrs r (List.mem_of_getElem? hr1)))]
        exact S _ _ e
      have eM : freshM b n = setC (setC (setC (fmM b (2 + (b + 8 - 1) / 8 + n).toNat) (2 + (b + 8 - 1) / 8).toNat 0 2) (2 + (b + 8 - 1) / 8).toNat 1 1) (2 + (b + 8 - 1) / 8).toNat 7 1 := by
        unfold freshM
        rw [show (2 + (b + 8 - 1) / 8 + n).toNat = (2 + (b + 8 - 1) / 8).toNat + n.toNat by omega]
      refine ⟨_, rfl, _, rfl, x, _, _, _, _, rfl, I3.ob, T.cl_Image, T.na_Image_cells, rfl, pl, A.ca, A.rs, _, b, n, sl, rfl, hP.same Sf, I3.gr, I3.d0, I3.d1, fun H2 im A2 S2 nim I2 N2 eA2 => ?_⟩
      have fr : ∀ y, Hf y = none → H y = none := fun y e => Sf.free e
      refine k H2 im A2 (Sf.trans S2) (fr _ nim) ?_ ⟨fr _ N2.ca, fun q hq => fr _ (N2.rs q hq), fr _ N2.ho, fr _ N2.st, fr _ N2.hd⟩ eA2
      rw [eM]
      exact I2
end
end K06
namespace K06
open PySem PySem.Spec PyProof.Rows L2 Rg
section
variable {P : Program} {w : World} {K : PySem.W.Frag} {mg : Str → Option Value} {base : Heap}
def sp_twin (CI CP : Addr) : Sp := fun vs H Q _ => ∃ (im : Addr) (A : IA) (v : IV) (b n s : Int), vs = [.ref im] ∧ ImgAt CI CP H im A v b n s ∧
  ∀ (H' : Hp) (im' : Addr) (A' : IA), Same H H' → H im' = none → ImgAt CI CP H' im' A' v b n s → A'.New H → A'.pl = A.pl → A'.ba = A.ba → Q (.ref im') H'
theorem ok_twin (T : Tx K mg) : FnOk P w K mg base CX0 3 T.f_Image_twin T.fd_Image_twin ["self"] (sp_twin T.C_Image T.C_Plan) := by
  refine T.F_Image_twin.ok sc_Image_twin (fun vs H Q E h => ?_) (fun cdv A0 outer s H vs Q E hr h => ?_)
  · obtain ⟨_, _, _, _, _, _, rfl, _⟩ := h; rfl
  · obtain ⟨im, A, v, b, n, sl, rfl, I, k⟩ := h
    refine ⟨_, (pss_cons (ps_set (i := 1) sc_Image_twin.nd rfl (.inl rfl) (pe_make T.mk_Image (ok_Image_init T) hr rfl T.mg_Image (b_Image___init__ T) .nil pass0 (pa_cons (pe_fld (pv 0) rfl) pa_nil)))
      (pss_cons (ps_fld (pv 1) (pe_lc rfl (own := [("row", 2)]) (g := gName 2) (tt := tYes) sc_Image_twin.nd (pi_list (pe_fld (pv 0) rfl)) (blkOk_by (N := ["self", "other", "row"]) (sc := defScope s_Image_twin) (by decide +kernel)) (fun _ _ _ _ _ => pg_name (i := 2) sc_Image_twin.nd rfl (Or.inl rfl)) (fun _ _ _ _ _ => pts_nil) (fun _ _ _ _ _ => (pe_listof (K := K) (pv 2) T.b_list))) rfl)
      (pss_cons (ps_fld (pv 1) (pe_listof (K := K) (pe_fld (pv 0) rfl) T.b_list) rfl)
      (pss_cons (ps_fld (pv 1) (pe_listof (K := K) (pe_fld (pv 0) rfl) T.b_list) rfl)
      (pss_cons (ps_fld (pv 1) (pe_callTy call_dictD rfl T.b_dict (by decide +kernel) (pa_cons (pe_fld (pv 0) rfl) pa_nil)) rfl)
      (pss_cons (ps_fld (pv 1) (pe_fld (pv 0) rfl) rfl)
      (pss_cons (ps_fld (pv 1) (pe_fld (pv 0) rfl) rfl)
      (pss_cons (ps_fld (pv 1) (pe_fld (pv 0) rfl) rfl)
      (pss_one (ps_ret (pv 1))))))))))), ?_⟩
    obtain ⟨dxp, hpl⟩ := I.pl.ob
    have hb1 := I.pl.b1
    have hb2 := I.pl.b2
    -- other = Image(self.plan)
    refine ⟨_, rfl, im, _, _, _, _, rfl, I.ob, T.cl_Image, T.na_Image_plan, rfl, fun x dx nx ndx nex => ?_⟩
    have s1 : Same H (upd (upd H dx (.own x)) x (.ins T.C_Image dx [])) := (same_upd ndx).trans (same_upd (by rw [upd_ne nex.symm]; exact nx))
    refine ⟨x, dx, A.pl, b, n, sl, rfl, upd_same, I.pl.same s1, fun H1 A1 k1 I1 N1 eA => ⟨rfl, ?_⟩⟩
    have S1 : Same H H1 := fun y o e => k1 y o (s1 _ _ e) (ne_of_none e nx)
    have J1 := I.keep S1
    -- other.cells
    refine ⟨_, rfl, im, _, _, _, _, rfl, J1.ob, T.cl_Image, T.na_Image_cells, rfl, A.ca, rfl, ⟨_, .of J1.gr.out⟩, fun D hD => ?_⟩
    refine lc_list (K := K) (a := A.ca) (xs := A.rs.map V.ref) (fun i H' => ∃ qs, NewGrid H1 H' D qs (v.M.take i))
      ⟨[], NewGrid.start (Same.refl _) hD hD⟩ (fun i H' _ ⟨qs, G⟩ => .of (G.same _ _ J1.gr.out)) ?_ ?_
    · rintro i y H' hi ⟨qs, G⟩
      have hil : i < A.rs.length := by
        have := (List.getElem?_eq_some_iff.mp hi).1
        rw [List.length_map] at this
        exact this
      rw [List.getElem?_map, List.getElem?_eq_getElem hil] at hi
      have hi : V.ref A.rs[i] = y := Option.some.inj hi
      subst hi
      have hiR : i < v.M.length := by rw [← J1.gr.len]; exact hil
      have hrow := G.same _ _ (J1.gr.row i A.rs[i] v.M[i] (List.getElem?_eq_getElem hil) (List.getElem?_eq_getElem hiR))
      have d0 := I.d0
      refine ⟨rfl, ?_⟩
      refine yes_ ?_
      refine ⟨_, rfl, A.rs[i], _, rfl, .inl (.of hrow), fun q hq => ?_⟩
      refine ⟨_, by rw [upd_ne (ne_of_none G.grid.out hq)]; exact G.grid.out, ?_, qs ++ [q], ?_⟩
      · rw [List.length_map, G.grid.len, List.length_take]
        exact small1000 (by omega)
      · rw [List.take_succ, List.getElem?_eq_getElem hiR]
        exact G.snoc (same_upd hq) hq upd_same
    rintro H2 ⟨qs, G⟩
    rw [List.length_map, J1.gr.len, List.take_length] at G
    have I2 : ImgAt T.C_Image T.C_Plan H2 x A1 (zeroV b) b n sl := I1.keep G.same
    have J2 := J1.keep G.same
    have nix : im ≠ x := ne_of_none I.ob nx
    refine ⟨_, rfl, x, _, _, _, rfl, I2.ob, T.cl_Image, T.na_Image_cells, (by show 8 < 1000; decide), ?_⟩
    generalize hH3 : upd H2 x _ = H3
    obtain ⟨e3, k3, n3⟩ := own_f hH3
    have o3 := k3.at1 J2.ob nix
    have nxho : A.ho ≠ x := ne_of_none I.ho nx
    have nxst : A.st ≠ x := ne_of_none I.st nx
    have nxhd : A.hd ≠ x := ne_of_none I.hd nx
    -- other.holdings
    refine ⟨_, rfl, im, _, _, _, _, rfl, o3, T.cl_Image, T.na_Image_holdings, rfl, A.ho, _, rfl, .inl (.of (k3.at1 J2.ho nxho)), fun ho hho => ?_⟩
    generalize hH4 : upd H3 ho _ = H4
    obtain ⟨e4, s4, n4⟩ := new_f hH4 hho
    refine ⟨_, rfl, x, _, _, _, rfl, s4 _ _ e3, T.cl_Image, T.na_Image_holdings, (by show 8 < 1000; decide), ?_⟩
    generalize hH5 : upd H4 x _ = H5
    obtain ⟨e5, k5, n5⟩ := own_f hH5
    have o5 := k5.at1 (s4 _ _ o3) nix
    have nhox : ho ≠ x := (ne_of_none e3 hho).symm
    have ho5 := k5.at1 e4 nhox
    -- other.stamps
    refine ⟨_, rfl, im, _, _, _, _, rfl, o5, T.cl_Image, T.na_Image_stamps, rfl, A.st, _, rfl, .inl (.of (k5.at1 (s4 _ _ (k3.at1 J2.st nxst)) nxst)), fun st hst => ?_⟩
    generalize hH6 : upd H5 st _ = H6
    obtain ⟨e6, s6, n6⟩ := new_f hH6 hst
    refine ⟨_, rfl, x, _, _, _, rfl, s6 _ _ e5, T.cl_Image, T.na_Image_stamps, (by show 8 < 1000; decide), ?_⟩
    generalize hH7 : upd H6 x _ = H7
    obtain ⟨e7, k7, n7⟩ := own_f hH7
    have o7 := k7.at1 (s6 _ _ o5) nix
    have nstx : st ≠ x := (ne_of_none e5 hst).symm
    have nstho : st ≠ ho := (ne_of_none ho5 hst).symm
    have st7 := k7.at1 e6 nstx
    have ho7 := k7.at1 (s6 _ _ ho5) nhox
    -- other.handles
    have hd7 := k7.at1 (s6 _ _ (k5.at1 (s4 _ _ (k3.at1 J2.hd nxhd)) nxhd)) nxhd
    refine ⟨_, rfl, im, _, _, _, _, rfl, o7, T.cl_Image, T.na_Image_handles, rfl, A.hd, _, rfl, .inl hd7, fun hd hhd => ?_⟩
    generalize hH8 : upd H7 hd _ = H8
    obtain ⟨e8, s8, n8⟩ := new_f hH8 hhd
    refine ⟨_, rfl, x, _, _, _, rfl, s8 _ _ e7, T.cl_Image, T.na_Image_handles, (by show 8 < 1000; decide), ?_⟩
    generalize hH9 : upd H8 x _ = H9
    obtain ⟨e9, k9, n9⟩ := own_f hH9
    have nhdx : hd ≠ x := (ne_of_none e7 hhd).symm
    have o9 := k9.at1 (s8 _ _ o7) nix
    -- serial, wish, barred
    refine ⟨_, rfl, im, _, _, _, _, rfl, o9, T.cl_Image, T.na_Image_serial, rfl, _, rfl, x, _, _, _, rfl, e9, T.cl_Image, T.na_Image_serial, (by show 8 < 1000; decide), ?_⟩
    generalize hH10 : upd H9 x _ = H10
    obtain ⟨e10, k10, n10⟩ := own_f hH10
    refine ⟨_, rfl, im, _, _, _, _, rfl, k10.at1 o9 nix, T.cl_Image, T.na_Image_wish, rfl, _, rfl, x, _, _, _, rfl, e10, T.cl_Image, T.na_Image_wish, (by show 8 < 1000; decide), ?_⟩
    generalize hH11 : upd H10 x _ = H11
    obtain ⟨e11, k11, n11⟩ := own_f hH11
    refine ⟨_, rfl, im, _, _, _, _, rfl, k11.at1 (k10.at1 o9 nix) nix, T.cl_Image, T.na_Image_barred, rfl, _, rfl, x, _, _, _, rfl, e11, T.cl_Image, T.na_Image_barred, (by show 8 < 1000; decide), ?_⟩
    generalize hH12 : upd H11 x _ = H12
    obtain ⟨e12, k12, n12⟩ := own_f hH12
    have k9' : Kp [x] H9 H12 := (k10.trans k11).trans k12
    have k2' : Kp [x] H2 H12 := (((((k3.same s4).trans k5).same s6).trans k7).same s8).trans (k9.trans k9')
    have S12 : Same H H12 := fun y o e => k2'.at1 (G.same _ _ (S1 _ _ e)) (ne_of_none e nx)
    have N1' : ∀ y, H1 y = none → H y = none := fun y e => S1.free e
    have f_ho : H2 ho = none := (n3 _ hho).1
    have f_st : H2 st = none := (n3 _ (n4 _ (n5 _ hst).1).1).1
    have f_hd : H2 hd = none := (n3 _ (n4 _ (n5 _ (n6 _ (n7 _ hhd).1).1).1).1).1
    have fr : ∀ y, H2 y = none → H y = none := fun y e => N1' _ (G.same.free e)
    have xD : x ≠ D := ne_of_none I1.ob G.freshD
    have xq : x ∉ qs := (G.nin0 I1.ob).2
    have qn : ∀ y, H2 y = none → y ∉ qs := fun y e hq => by
      obtain ⟨o, z⟩ := G.grid.held hq
      rw [e] at z
      cases z
    refine ⟨_, rfl, k H12 x ⟨A1.dx, A1.pl, D, qs, ho, st, hd, A.ba⟩ S12 nx
      { ob := e12, pl := ?_, gr := G.grid.keep fun y o hy e => k2'.at1 e ?_, ho := k9'.at1 (k9.at1 (s8 _ _ ho7) nhox) nhox, st := k9'.at1 (k9.at1 (s8 _ _ st7) nstx) nstx, hd := k9'.at1 (k9.at1 e8 nhdx) nhdx, ba := S12 _ _ I.ba, n1 := qn _ f_ho, n2 := qn _ f_st, n3 := nstho.symm, n4 := ne_of_none G.grid.out f_ho, n5 := ne_of_none G.grid.out f_st, d0 := I.d0, d1 := I.d1, d2 := I.d2, d3 := I.d3 }
      ⟨N1' _ G.freshD, fun q hq => N1' _ (G.fresh q hq), fr _ f_ho, fr _ f_st, fr _ f_hd⟩ eA rfl⟩
    · show PlanAt T.C_Plan H12 A1.pl b n sl
      rw [eA]
      exact I.pl.same S12
    · rcases hy with rfl | hy
      · exact xD.symm
      · exact fun z => xq (by rw [← z]; exact hy)
end
end K06
namespace K06
open PySem PySem.Spec PyProof.Rows L2 Rg
/-- what an image is read from -/
def IA.reads (A : IA) (im : Addr) : List Addr := im :: A.pl :: A.ca :: A.ho :: A.st :: A.hd :: A.ba :: A.rs
section
variable {CI CP : Addr} {H : Hp} {im : Addr} {A : IA} {v : IV} {b n s : Int}
theorem ImgAt.keepF {H' : Hp} (I : ImgAt CI CP H im A v b n s) (h : ∀ x o, x ∈ A.reads im → H x = some o → H' x = some o) : ImgAt CI CP H' im A v b n s :=
  { I with ob := h _ _ (by simp [IA.reads]) I.ob, pl := I.pl.of fun o e => h _ _ (by simp [IA.reads]) e, gr := I.gr.keep fun x o hx e => h _ _ (by rcases hx with rfl | hx <;> simp [IA.reads, *]) e, ho := h _ _ (by simp [IA.reads]) I.ho, st := h _ _ (by simp [IA.reads]) I.st, hd := h _ _ (by simp [IA.reads]) I.hd, ba := h _ _ (by simp [IA.reads]) I.ba }
theorem ImgAt.held (I : ImgAt CI CP H im A v b n s) {x : Addr} (h : x ∈ A.reads im) : ∃ o, H x = some o := by
  obtain ⟨dxp, hpl⟩ := I.pl.ob
  simp only [IA.reads, List.mem_cons] at h
  rcases h with rfl | rfl | rfl | rfl | rfl | rfl | rfl | h
  · exact ⟨_, I.ob⟩
  · exact ⟨_, hpl⟩
  · exact ⟨_, I.gr.out⟩
  · exact ⟨_, I.ho⟩
  · exact ⟨_, I.st⟩
  · exact ⟨_, I.hd⟩
  · exact ⟨_, I.ba⟩
  · exact I.gr.held h
/-- the fields of begin -/
theorem ImgAt.beg {t : Addr} {se wi : Int} {bs : List Int} (I : ImgAt CI CP H im A v b n s) (ht : H t = some (.tup (bs.map V.int))) :
    ImgAt CI CP (upd H im (.ins CI A.dx (imgF { A with ba := t } { v with se := se, wi := wi, ba := bs }))) im { A with ba := t } { v with se := se, wi := wi, ba := bs } b n s := by
  obtain ⟨dxp, hpl⟩ := I.pl.ob
  have oc := I.ob
  refine { I with ob := upd_same, pl := I.pl.of fun o e => ?_, gr := I.gr.keep fun y o hy e => ?_, ho := ?_, st := ?_, hd := ?_, ba := ?_ }
  · rw [upd_ne (fun z : A.pl = im => ?_)]
    · exact e
    · rw [z, oc] at hpl
      have := HO.ins.inj (Option.some.inj hpl)
      have := this.2.2
      simp [planF, imgF] at this
  · rw [upd_ne]
    · exact e
    · rcases hy with rfl | hy
      · exact ne_of I.gr.out oc (by intro z; cases z)
      · rintro rfl
        obtain ⟨i, hi, e2⟩ := List.getElem_of_mem hy
        have hm : i < v.M.length := by rw [← I.gr.len]; exact hi
        have := I.gr.row i y v.M[i] (by rw [List.getElem?_eq_getElem hi, e2]) (List.getElem?_eq_getElem hm)
        rw [oc] at this
        cases this
  · rw [upd_ne (ne_of I.ho oc (by intro z; cases z))]; exact I.ho
  · rw [upd_ne (ne_of I.st oc (by intro z; cases z))]; exact I.st
  · rw [upd_ne (ne_of I.hd oc (by intro z; cases z))]; exact I.hd
  · rw [upd_ne (ne_of ht oc (by intro z; cases z))]; exact ht
end
/-- places that stand apart, each with what it holds -/
structure Fr (L : List (Addr × HO)) (H : Hp) : Prop where
  at_ : ∀ p ∈ L, H p.1 = some p.2
  nd : (L.map (·.1)).Nodup
theorem Fr.get {L : List (Addr × HO)} {H : Hp} (F : Fr L H) (i : Nat) {a : Addr} {o : HO} (h : L[i]? = some (a, o)) : H a = some o := F.at_ _ (List.mem_of_getElem? h)
theorem Fr.keep {L : List (Addr × HO)} {H H' : Hp} (F : Fr L H) (h : ∀ p ∈ L, ∀ o, H p.1 = some o → H' p.1 = some o) : Fr L H' := ⟨fun p hp => h p hp _ (F.at_ p hp), F.nd⟩
theorem Fr.same {L : List (Addr × HO)} {H H' : Hp} (F : Fr L H) (h : Same H H') : Fr L H' := F.keep fun _ _ _ e => h _ _ e
theorem Fr.put {L : List (Addr × HO)} {H : Hp} (F : Fr L H) (i : Nat) {a : Addr} {o o' : HO} (h : L[i]? = some (a, o)) : Fr (L.set i (a, o')) (upd H a o') := by
  have hi : i < L.length := (List.getElem?_eq_some_iff.mp h).1
  have e : (L.set i (a, o')).map (·.1) = L.map (·.1) := by
    apply List.ext_getElem?
    intro j
    rw [List.getElem?_map, List.getElem?_map]
    by_cases q : i = j
    · subst q
      rw [List.getElem?_set_self hi, h]
      rfl
    · rw [List.getElem?_set_ne q]
  refine ⟨fun p hp => ?_, by rw [e]; exact F.nd⟩
  obtain ⟨j, hj, ej⟩ := List.getElem_of_mem hp
  by_cases q : i = j
  · subst q
    rw [List.getElem_set_self] at ej
    rw [← ej]
    exact upd_same
  · rw [List.getElem_set_ne q] at ej
    have hjl : j < L.length := by rw [List.length_set] at hj; exact hj
    have hpL : p ∈ L := by rw [← ej]; exact List.getElem_mem hjl
    rw [upd_ne]
    · exact F.at_ p hpL
    · intro z
      have n1 : (L.map (·.1))[i]? = some a := by rw [List.getElem?_map, h]; rfl
      have n2 : (L.map (·.1))[j]? = some a := by rw [List.getElem?_map, List.getElem?_eq_getElem hjl, ej, ← z]; rfl
      have il : i < (L.map (·.1)).length := by rw [List.length_map]; exact hi
      have jl : j < (L.map (·.1)).length := by rw [List.length_map]; exact hjl
      rw [List.getElem?_eq_getElem il] at n1
      rw [List.getElem?_eq_getElem jl] at n2
      exact q ((List.getElem_inj F.nd).mp ((Option.some.inj n1).trans (Option.some.inj n2).symm))
theorem Fr.held {L : List (Addr × HO)} {H : Hp} (F : Fr L H) {a : Addr} (h : H a = none) : ∀ p ∈ L, p.1 ≠ a := fun p hp z => by
  have := F.at_ p hp
  rw [z, h] at this
  cases this
/-- one more, at a new place -/
theorem Fr.cons {L : List (Addr × HO)} {H : Hp} (F : Fr L H) {a : Addr} {o : HO} (h : H a = none) : Fr ((a, o) :: L) (upd H a o) := by
  refine ⟨fun p hp => ?_, ?_⟩
  · rcases List.mem_cons.mp hp with rfl | hp
    · exact upd_same
    · rw [upd_ne (F.held h p hp)]
      exact F.at_ p hp
  · rw [List.map_cons, List.nodup_cons]
    refine ⟨fun z => ?_, F.nd⟩
    obtain ⟨p, hp, e⟩ := List.mem_map.mp z
    exact F.held h p hp e
theorem Fr.nil {H : Hp} : Fr [] H := ⟨fun _ h => absurd h List.not_mem_nil, List.nodup_nil⟩
/-- an image, and places apart from it -/
structure SI (CI CP : Addr) (H : Hp) (im : Addr) (A : IA) (v : IV) (b n s : Int) (L : List (Addr × HO)) : Prop where
  I : ImgAt CI CP H im A v b n s
  F : Fr L H
  ap : ∀ p ∈ L, p.1 ∉ A.reads im
section
variable {CI CP : Addr} {H : Hp} {im : Addr} {A : IA} {v : IV} {b n s : Int} {L : List (Addr × HO)}
theorem SI.same {H' : Hp} (S : SI CI CP H im A v b n s L) (h : Same H H') : SI CI CP H' im A v b n s L := ⟨S.I.keep h, S.F.same h, S.ap⟩
theorem SI.put (S : SI CI CP H im A v b n s L) (i : Nat) {a : Addr} {o o' : HO} (h : L[i]? = some (a, o)) : SI CI CP (upd H a o') im A v b n s (L.set i (a, o')) := by
  have ha := S.ap _ (List.mem_of_getElem? h)
  refine ⟨S.I.keepF fun x q hx e => ?_, S.F.put i h, fun p hp => ?_⟩
  · rw [upd_ne fun z => ha (by rw [← z]; exact hx)]
    exact e
  · rcases mem_set_of hp with e | e
    · rw [e]; exact ha
    · exact S.ap p e
/-- the image changed, at its own places -/
theorem SI.img {H' : Hp} {A' : IA} {v' : IV} (S : SI CI CP H im A v b n s L) (I' : ImgAt CI CP H' im A' v' b n s) (k : Kp (A.reads im) H H') (hr : ∀ x ∈ A'.reads im, x ∈ A.reads im ∨ H x = none) : SI CI CP H' im A' v' b n s L :=
  ⟨I', S.F.keep fun p hp o e => k _ _ e (S.ap p hp), fun p hp z => by
    rcases hr _ z with e | e
    · exact S.ap p hp e
    · exact S.F.held e p hp rfl⟩
end
section
variable {X : Cx}
def rGetL (K : PySem.W.Frag) : V → V → Hp → VK → Prop := fun x y H Q => ∃ p xs j v, x = .ref p ∧ y = .int ((j : Nat) : Int) ∧ SqL K H p xs ∧ xs[j]? = some v ∧ Q v H
theorem get_list : PGet X (rGetL X.K) := by
  intro pins s σ H o i ov iv Q I ro ri h
  obtain ⟨p, xs, j, v, rfl, rfl, hq, he, q⟩ := h
  cases ro
  obtain ⟨t, rfl⟩ := ri
  obtain ⟨its, r, pl, hz⟩ := I.list hq
  obtain ⟨w, ew, rw'⟩ := r.get he
  have hn := line63
  have hl := r.length
  have hj := (List.getElem?_eq_some_iff.mp he).1
  exact wpAny_getItem_list pl.isList (by omega) (by omega) (by simpa using ew) ⟨v, H, I, rw', q⟩
end
section
variable {P : Program} {w : World} {K : PySem.W.Frag} {mg : Str → Option Value} {base : Heap}
/-! ### begin -/
def sp_begin (CI CP : Addr) : Sp := fun vs H Q _ => ∃ (im : Addr) (A : IA) (v : IV) (b n s wi : Int) (q : Addr) (bs : List Int), vs = [.ref im, .int wi, .ref q] ∧ ImgAt CI CP H im A v b n s ∧ (H q = some (.lst (bs.map V.int)) ∨ H q = some (.tup (bs.map V.int))) ∧
  ∀ (H' : Hp) (t : Addr), ImgAt CI CP H' im { A with ba := t } { v with se := v.se + 1, wi := wi, ba := bs } b n s → Kp [im] H H' → (H t = none ∨ t = q) → Q .non H'
theorem ok_begin (T : Tx K mg) : FnOk P w K mg base CX0 1 T.f_Image_begin T.fd_Image_begin ["self", "wish", "barred"] (sp_begin T.C_Image T.C_Plan) := by
  refine T.F_Image_begin.ok sc_Image_begin (fun vs H Q E h => ?_) (fun cdv A0 outer s H vs Q E hr h => ?_)
  · obtain ⟨_, _, _, _, _, _, _, _, _, rfl, _⟩ := h; rfl
  · obtain ⟨im, A, v, b, n, sl, wi, q, bs, rfl, I, hq, k⟩ := h
    refine ⟨_, (pss_cons (ps_fldaug (pv 0) pe_int in_add)
      (pss_cons (ps_fld (pv 0) (pv 1) rfl)
      (pss_one (ps_fld (pv 0) (pe_callTy call_tuple_of rfl T.b_tuple (by decide +kernel) (pa_cons (pv 2) pa_nil)) rfl)))), ?_⟩
    refine ⟨_, rfl, im, _, _, _, _, rfl, I.ob, T.cl_Image, T.na_Image_serial, rfl, _, _, rfl, rfl, _, _, I.ob, (by show 8 < 1000; decide), ?_⟩
    refine ⟨_, rfl, _, rfl, im, _, _, _, rfl, upd_same, T.cl_Image, T.na_Image_wish, (by show 8 < 1000; decide), ?_⟩
    rw [upd_upd]
    have k0 : ∀ o, Kp [im] H (upd H im o) := fun o => Kp.refl.own1
    have qn : q ≠ im := fun z => by
      rw [z, I.ob] at hq
      rcases hq with e | e <;> cases e
    refine ⟨_, rfl, q, bs.map V.int, rfl, ?_⟩
    rcases hq with hq | hq
    · refine .inl ⟨.of ((k0 _).at1 hq qn), fun t ht => ?_⟩
      refine ⟨_, rfl, im, _, A.dx, _, rfl, (by rw [upd_ne (unn' ht), upd_same]), T.cl_Image, T.na_Image_barred, (by show 8 < 1000; decide), ?_⟩
      have ti := unn' ht
      have t0 := un ht
      have e1 : ∀ o1 o2 o3, upd (upd (upd H im o1) t o2) im o3 = upd (upd H t o2) im o3 := fun o1 o2 o3 => by
        rw [upd_comm ti, upd_upd]
      rw [e1]
      exact k _ t ((I.keep (same_upd t0)).beg upd_same) ((Kp.of (same_upd t0)).own1) (.inl t0)
    · refine .inr ⟨.of ((k0 _).at1 hq qn), ?_⟩
      refine ⟨_, rfl, im, _, A.dx, _, rfl, upd_same, T.cl_Image, T.na_Image_barred, (by show 8 < 1000; decide), ?_⟩
      rw [upd_upd]
      exact k _ q (I.beg hq) (k0 _) (.inr rfl)
/-! ### data_blocks, free_blocks, identity -/
def rng (lo : Int) (n : Nat) : List Int := (List.range n).map fun i => lo + (i : Nat)
theorem rng_succ {lo : Int} {n : Nat} : rng lo (n + 1) = rng lo n ++ [lo + n] := by
  unfold rng
  rw [List.range_succ, List.map_append]
  rfl
theorem rng_len {lo : Int} {n : Nat} : (rng lo n).length = n := by unfold rng; simp
theorem rng_get {lo : Int} {n i : Nat} (h : i < n) : (rng lo n)[i]? = some (lo + i) := by
  unfold rng
  rw [List.getElem?_map, List.getElem?_range h]
  rfl
theorem rng_mem {lo x : Int} {n : Nat} (h : x ∈ rng lo n) : lo ≤ x ∧ x < lo + n := by
  unfold rng at h
  obtain ⟨i, hi, e⟩ := List.mem_map.mp h
  rw [List.mem_range] at hi
  omega
theorem rgV_rng (a b : Int) : rgV a b = (rng a (b - a).toNat).map V.int := by
  unfold rgV rng
  rw [List.map_map]
  rfl
def sp_data_blocks (CP : Addr) : Sp := fun vs H Q _ => ∃ (p : Addr) (b n s : Int), vs = [.ref p] ∧ PlanAt CP H p b n s ∧ ∀ q, H q = none → Q (.ref q) (upd H q (.lst ((rng (2 + (b + 8 - 1) / 8 + n) (b - (2 + (b + 8 - 1) / 8 + n)).toNat).map V.int)))
theorem ok_data_blocks (T : Tx K mg) : FnOk P w K mg base CX0 1 T.f_Plan_data_blocks T.fd_Plan_data_blocks ["self"] (sp_data_blocks T.C_Plan) := by
  refine T.F_Plan_data_blocks.ok sc_Plan_data_blocks (fun vs H Q E h => ?_) (fun cdv A0 outer s H vs Q E hr h => ?_)
  · obtain ⟨_, _, _, _, rfl, _⟩ := h; rfl
  · obtain ⟨p, b, n, sl, rfl, hP, k⟩ := h
    refine ⟨_, (pss_one (ps_ret (pe_listRg rfl rfl T.b_list (prg_2 rfl T.b_range (pe_fld (pv 0) rfl) (pe_fld (pv 0) rfl))))), ?_⟩
    obtain ⟨dxp, hpl⟩ := hP.ob
    have b1 := hP.b1
    have b2 := hP.b2
    have n1 := hP.n1
    have n2 := hP.n2
    refine ⟨_, rfl, p, _, dxp, _, _, rfl, hpl, T.cl_Plan, T.na_Plan_first_data, rfl, _, rfl, p, _, dxp, _, _, rfl, hpl, T.cl_Plan, T.na_Plan_blocks, rfl, _, _, rfl, rfl, ⟨by omega, by omega, by omega, by omega, by omega⟩, fun q hq => ?_⟩
    rw [rgV_rng]
    exact k q hq
def fdOf (b n : Int) : Int := 2 + (b + 8 - 1) / 8 + n
/-- the free data blocks -/
def freeL (b n : Int) (M : List (List Int)) : List Int := (rng (fdOf b n) (b - fdOf b n).toNat).filter fun x => decide (kindOf b n M x = 0)
def sp_free_blocks (CI CP : Addr) : Sp := fun vs H Q _ => ∃ (im : Addr) (A : IA) (v : IV) (b n s : Int), vs = [.ref im] ∧ ImgAt CI CP H im A v b n s ∧ ∀ H' p, Same H H' → H p = none → H' p = some (.lst ((freeL b n v.M).map V.int)) → Q (.ref p) H'
theorem filt_len {l : List Int} {p : Int → Bool} {m : Nat} (h : l.length ≤ m) : (l.filter p).length ≤ m := Nat.le_trans (List.length_filter_le _ _) h
theorem take_get {l : List Int} {i : Nat} {x : Int} (h : l[i]? = some x) : l.take (i + 1) = l.take i ++ [x] := by
  rw [List.take_succ, h]
  rfl
theorem ok_free_blocks (T : Tx K mg) : FnOk P w K mg base CX0 3 T.f_Image_free_blocks T.fd_Image_free_blocks ["self"] (sp_free_blocks T.C_Image T.C_Plan) := by
  refine T.F_Image_free_blocks.ok sc_Image_free_blocks (fun vs H Q E h => ?_) (fun cdv A0 outer s H vs Q E hr h => ?_)
  · obtain ⟨_, _, _, _, _, _, rfl, _⟩ := h; rfl
  · obtain ⟨im, A, v, b, n, sl, rfl, I, k⟩ := h
    have hr1 : Room 1 _ := hr.mono (by decide)
    refine ⟨_, (pss_one (ps_ret (pe_lc rfl (own := [("x", 1)]) (g := gName 1) (tt := _) sc_Image_free_blocks.nd (pi_list (pe_meth0 (pe_fld (pv 0) rfl) T.cl_Plan T.m_Plan_data_blocks (ok_data_blocks T) hr1 (b_Plan_data_blocks T) .nil pass0)) (blkOk_by (N := ["self", "x"]) (sc := defScope s_Image_free_blocks) (by decide +kernel)) (fun _ _ _ _ _ => pg_name (i := 1) sc_Image_free_blocks.nd rfl (Or.inl rfl)) (fun _ _ _ _ _ => pts_one (pt_cmpR op_eq (pe_meth (pv 0) T.cl_Image T.m_Image_kind (ok_Image_kind T) hr (b_Image_kind T) .nil pass0 (pa_cons (pv 1) pa_nil)) (pe_cv T.mg_Plan T.cr_Plan T.cv_Plan_FREE) (nomark _))) (fun _ _ _ _ _ => (pv 1))))), ?_⟩
    obtain ⟨dxp, hpl⟩ := I.pl.ob
    have b1 := I.pl.b1
    have b2 := I.pl.b2
    have n1 := I.pl.n1
    refine ⟨_, rfl, im, _, _, _, _, rfl, I.ob, T.cl_Image, T.na_Image_plan, rfl, A.pl, dxp, _, rfl, hpl, rfl, A.pl, b, n, sl, rfl, I.pl, fun q hq => ?_⟩
    have sq := same_upd (o := .lst ((rng (2 + (b + 8 - 1) / 8 + n) (b - (2 + (b + 8 - 1) / 8 + n)).toNat).map V.int)) hq
    refine ⟨q, rfl, ⟨_, .of upd_same⟩, fun D hD => ?_⟩
    have hD0 := un hD
    have nqD : q ≠ D := unn' hD
    refine lc_list (K := K) (a := q) (xs := (rng (2 + (b + 8 - 1) / 8 + n) (b - (2 + (b + 8 - 1) / 8 + n)).toNat).map V.int) (fun i H' => Same H H' ∧ H' q = some (.lst ((rng (2 + (b + 8 - 1) / 8 + n) (b - (2 + (b + 8 - 1) / 8 + n)).toNat).map V.int)) ∧ H' D = some (.lst ((((rng (2 + (b + 8 - 1) / 8 + n) (b - (2 + (b + 8 - 1) / 8 + n)).toNat).take i).filter fun x => decide (kindOf b n v.M x = 0)).map V.int)))
      ⟨sq.trans (same_upd hD), by rw [upd_ne nqD, upd_same], upd_same⟩ (fun i H' _ ⟨_, e, _⟩ => .of e) ?_ ?_
    · rintro i y H' hi ⟨S, e1, e2⟩
      rw [List.getElem?_map] at hi
      obtain ⟨x, hx, rfl⟩ := Option.map_eq_some_iff.mp hi
      have hm := rng_mem (List.mem_of_getElem? hx)
      refine ⟨rfl, ?_⟩
      refine ⟨_, rfl, im, _, _, rfl, S _ _ I.ob, rfl, _, rfl, im, A, v, b, n, sl, x, rfl, I.keep S, by omega, by omega, fun H2 S2 => ?_⟩
      refine ⟨rfl, _, rfl, ?_⟩
      rw [dec_iv]
      by_cases hk : kindOf b n v.M x = 0
      · rw [decide_eq_true hk]
        refine iteT ⟨_, rfl, _, S2 _ _ e2, ?_, fun a o z => ?_, ?_, ?_⟩
        · rw [List.length_map]
          have := filt_len (p := fun x => decide (kindOf b n v.M x = 0)) (List.length_take_le i (rng (2 + (b + 8 - 1) / 8 + n) (b - (2 + (b + 8 - 1) / 8 + n)).toNat))
          have hl := (List.getElem?_eq_some_iff.mp hx).1
          rw [rng_len] at hl
          exact small1000 (by omega)
        · rw [upd_ne (ne_of_none z hD0)]
          exact S2 _ _ (S _ _ z)
        · rw [upd_ne nqD]
          exact S2 _ _ e1
        · rw [upd_same, take_get hx, List.filter_append, List.map_append]
          rw [List.filter_cons, if_pos (by exact decide_eq_true hk)]
          rfl
      · rw [decide_eq_false hk]
        refine iteF ⟨S.trans S2, S2 _ _ e1, ?_⟩
        rw [take_get hx, List.filter_append, List.filter_cons, if_neg (by simpa using hk)]
        rw [List.filter_nil, List.append_nil]
        exact S2 _ _ e2
    · rintro H' ⟨S, e1, e2⟩
      rw [List.length_map, List.take_length] at e2
      exact k H' D S hD0 e2
end
end K06
namespace K06
open PySem PySem.Spec PyProof.Rows L2 Rg
/-! ### lists of ints and lists of such lists, compared -/
def dI (ns : List Int) : PyData := .list (ns.map PyData.int)
def dG (M : List (List Int)) : PyData := .list (M.map dI)
theorem dpAllI {K : PySem.W.Frag} {H : Hp} : ∀ ns : List Int, DpAll K H (ns.map V.int) (ns.map PyData.int)
  | [] => .nil
  | n :: ns => .cons (.int n) (dpAllI ns)
theorem dpI {K : PySem.W.Frag} {H : Hp} {a : Addr} {ns : List Int} (h : H a = some (.lst (ns.map V.int))) : Dp K H (.ref a) (dI ns) := .lst (.of h) (dpAllI ns)
theorem dpAllG {K : PySem.W.Frag} {H : Hp} : ∀ (rs : List Addr) (M : List (List Int)), rs.length = M.length → (∀ (i : Nat) (r : Addr) (m : List Int), rs[i]? = some r → M[i]? = some m → H r = some (.lst (m.map V.int))) → DpAll K H (rs.map V.ref) (M.map dI)
  | [], [], _, _ => .nil
  | r :: rs, m :: M, hl, h => .cons (dpI (h 0 r m rfl rfl)) (dpAllG rs M (by simpa using hl) fun i q n a b => h (i + 1) q n (by simpa using a) (by simpa using b))
  | [], _ :: _, hl, _ => by simp at hl
  | _ :: _, [], hl, _ => by simp at hl
theorem dpG {K : PySem.W.Frag} {H : Hp} {ca : Addr} {rs : List Addr} {M : List (List Int)} (G : Grid H ca rs M) : Dp K H (.ref ca) (dG M) := .lst (.of G.out) (dpAllG rs M G.len G.row)
theorem canI : ∀ ns : List Int, PyData.canLayAll0 (ns.map PyData.int) = true
  | [] => rfl
  | n :: ns => by
    show (PyData.canLay0 (.int n) && PyData.canLayAll0 (ns.map PyData.int)) = true
    rw [canI ns]
    rfl
theorem canG : ∀ M : List (List Int), PyData.canLayAll0 (M.map dI) = true
  | [] => rfl
  | m :: M => by
    show (PyData.canLayAll0 (m.map PyData.int) && PyData.canLayAll0 (M.map dI)) = true
    rw [canI, canG M]
    rfl
theorem depI : ∀ ns : List Int, PyData.depthAll (ns.map PyData.int) = 0
  | [] => rfl
  | n :: ns => by
    show max (PyData.depth (.int n)) (PyData.depthAll (ns.map PyData.int)) = 0
    rw [depI ns]
    rfl
theorem depG : ∀ M : List (List Int), PyData.depthAll (M.map dI) ≤ 1
  | [] => Nat.zero_le _
  | m :: M => by
    show max (PyData.depthAll (m.map PyData.int) + 1) (PyData.depthAll (M.map dI)) ≤ 1
    rw [depI m]
    have := depG M
    omega
theorem shI (ns : List Int) : SeqAt.shaped (dI ns) = true := by
  unfold SeqAt.shaped dI
  rw [Bool.and_eq_true]
  refine ⟨canI ns, decide_eq_true ?_⟩
  show PyData.depthAll (ns.map PyData.int) + 1 ≤ 64
  rw [depI ns]
  decide
theorem shG (M : List (List Int)) : SeqAt.shaped (dG M) = true := by
  unfold SeqAt.shaped dG
  rw [Bool.and_eq_true]
  refine ⟨canG M, decide_eq_true ?_⟩
  show PyData.depthAll (M.map dI) + 1 ≤ 64
  have := depG M
  omega
theorem eqI (ns : List Int) : PyData.eqv (dI ns) (dI ns) = true := SeqAt.eqv_refl _ (canI ns)
theorem eqvAllI : ∀ a b : List Int, PyData.eqvAll (a.map PyData.int) (b.map PyData.int) = decide (a = b)
  | [], [] => by simp [PyData.eqvAll]
  | [], _ :: _ => by simp [PyData.eqvAll]
  | _ :: _, [] => by simp [PyData.eqvAll]
  | x :: a, y :: b => by
    rw [List.map_cons, List.map_cons, PyData.eqvAll, eqvAllI a b]
    by_cases e : x = y
    · subst e
      by_cases f : a = b
      · subst f; simp [PyData.eqv]
      · simp [PyData.eqv, f]
    · simp [PyData.eqv, e]
theorem eqvI (a b : List Int) : PyData.eqv (dI a) (dI b) = decide (a = b) := by
  unfold dI
  rw [PyData.eqv]
  exact eqvAllI a b
end K06
namespace K06
open PySem PySem.Spec PyProof.Rows L2 Rg
/-! ### _put_block, give, take -/
def putB (v : IV) (x : Nat) (kind serial : Int) : IV := { v with M := (setC v.M (2 + x / 8) (x % 8) kind).set x (List.replicate 8 0), ho := v.ho.set x serial, st := v.st.set x serial }
def giveV (v : IV) (x o : Nat) : IV := { putB v x 0 0 with M := setC (putB v x 0 0).M 0 o (cellAt v.M 0 o - 1) }
def takeV (v : IV) (x : Nat) (kind : Int) (o : Nat) : IV := { putB v x kind v.se with M := setC (putB v x kind v.se).M 0 o (cellAt v.M 0 o + 1) }
def quota (v : IV) (o : Nat) : Prop := cellAt v.M 0 (4 + o) ≠ 0 ∧ cellAt v.M 0 (4 + o) ≤ cellAt v.M 0 o
instance {v : IV} {o : Nat} : Decidable (quota v o) := by unfold quota; infer_instance
def letL (b n : Int) (M : List (List Int)) (kind : Int) (ba : List Int) : List Int := if kind = 2 then (freeL b n M).filter fun x => decide (x ∉ ba) else freeL b n M
def pickL (l : List Int) (wi : Int) : Option Int := (l.filter fun x => decide (wi ≤ x)).head?.or l.head?
theorem setC_row {M : List (List Int)} {i j k : Nat} {x : Int} (h : i ≠ k) : (setC M i j x)[k]? = M[k]? := by
  unfold setC
  rw [List.getElem?_set_ne h]
theorem inV_int (x : Int) (l : List Int) : inV (.int x) (l.map V.int) = decide (x ∈ l) := by
  induction l with
  | nil => simp [inV]
  | cons y l ih =>
    have : inV (.int x) ((y :: l).map V.int) = (eqV (.int y) (.int x) || inV (.int x) (l.map V.int)) := rfl
    rw [this, ih]
    simp only [eqV]
    by_cases e : y = x
    · subst e; simp
    · have e' : x ≠ y := fun z => e z.symm
      simp [e, e']
theorem flat_ints (l : List Int) : (l.map V.int).all flatV = true := by
  rw [List.all_eq_true]
  intro y hy
  obtain ⟨i, _, rfl⟩ := List.mem_map.mp hy
  rfl
theorem foot_mem {A : IA} {im x : Addr} (h : x ∈ A.ca :: A.ho :: A.st :: A.rs) : x ∈ A.reads im := by
  simp only [IA.reads, List.mem_cons] at h ⊢
  rcases h with h | h | h | h <;> simp [h]
section
variable {P : Program} {w : World} {K : PySem.W.Frag} {mg : Str → Option Value} {base : Heap}
def sp_put_block (CI CP : Addr) : Sp := fun vs H Q _ => ∃ (im : Addr) (A : IA) (v : IV) (b n s : Int) (x : Nat) (kind serial : Int), vs = [.ref im, .int x, .int kind, .int serial] ∧ ImgAt CI CP H im A v b n s ∧ fdOf b n ≤ x ∧ (x : Int) < b ∧
  ∀ H' q, H q = none → ImgAt CI CP H' im { A with rs := A.rs.set x q } (putB v x kind serial) b n s → Kp (A.ca :: A.ho :: A.st :: A.rs) H H' → Q .non H'
theorem ok_put_block (T : Tx K mg) : FnOk P w K mg base CX0 2 T.f_Image__put_block T.fd_Image__put_block ["self", "x", "kind", "serial"] (sp_put_block T.C_Image T.C_Plan) := by
  refine T.F_Image__put_block.ok sc_Image__put_block (fun vs H Q E h => ?_) (fun cdv A0 outer s H vs Q E hr h => ?_)
  · obtain ⟨_, _, _, _, _, _, _, _, _, rfl, _⟩ := h; rfl
  · obtain ⟨im, A, v, b, n, sl, x, kind, serial, rfl, I, hx0, hxb, k⟩ := h
    refine ⟨_, (pss_cons (ps_asg (pe_meth (pe_fld (pv 0) rfl) T.cl_Plan T.m_Plan_map_place (ok_Plan_map_place T) hr (b_Plan_map_place T) .nil pass0 (pa_cons (pv 1) pa_nil)) (pg_tup rfl (pgs_cons (pg_name (i := 4) sc_Image__put_block.nd rfl (.inl rfl)) (pgs_cons (pg_name (i := 5) sc_Image__put_block.nd rfl (.inl rfl)) pgs_nil))))
      (pss_cons (ps_asg (pv 2) (pg_sub (pe_ix ix_list (pe_fld (pv 0) rfl) (pv 4) (fun _ _ => rfl)) (pv 5) set_list))
      (pss_cons (ps_asg (pe_op op_rep (pe_lst (pa_cons pe_int pa_nil)) (pe_cv T.mg_Plan T.cr_Plan T.cv_Plan_WIDTH)) (pg_sub (pe_fld (pv 0) rfl) (pv 1) set_list))
      (pss_cons (ps_asg (pv 3) (pg_sub (pe_fld (pv 0) rfl) (pv 1) set_list))
      (pss_one (ps_asg (pv 3) (pg_sub (pe_fld (pv 0) rfl) (pv 1) set_list))))))), ?_⟩
    obtain ⟨dxp, hpl⟩ := I.pl.ob
    have b1 := I.pl.b1
    have n1 := I.pl.n1
    have d0 := I.d0
    have d2 := I.d2
    have d3 := I.d3
    have hx0' : 2 + (b + 8 - 1) / 8 + n ≤ x := hx0
    have hi : 2 + x / 8 < v.M.length := by omega
    have hx : x < v.M.length := by omega
    refine ⟨_, rfl, im, _, _, _, _, rfl, I.ob, T.cl_Image, T.na_Image_plan, rfl, A.pl, dxp, _, rfl, hpl, rfl, _, rfl, A.pl, b, n, sl, x, rfl, I.pl, fun t ht => ?_⟩
    have st := same_upd (o := .tup [.int (2 + (x : Int) / 8), .int ((x : Int) % 8)]) ht
    have I1 := I.keep st
    have k1 : Kp (A.ca :: A.ho :: A.st :: A.rs) H (upd H t (.tup [.int (2 + (x : Int) / 8), .int ((x : Int) % 8)])) := .of st
    have n1' : ∀ y, upd H t (.tup [.int (2 + (x : Int) / 8), .int ((x : Int) % 8)]) y = none → H y = none := fun y e => un e
    refine ⟨t, _, rfl, .inl (.inl upd_same), rfl, _, _, rfl, _, _, rfl, rfl, ?_⟩
    generalize upd H t (.tup [.int (2 + (x : Int) / 8), .int ((x : Int) % 8)]) = H1 at I1 k1 n1' ⊢
    obtain ⟨r, r1, r2, _⟩ := I1.gr.get (List.getElem?_eq_getElem hi)
    have h8 := I1.d1 _ (List.getElem_mem hi)
    refine ⟨_, rfl, _, rfl, im, _, _, _, _, rfl, I1.ob, T.cl_Image, T.na_Image_cells, rfl, _, rfl, A.ca, _, _, .ref r, rfl, rfl, .of I1.gr.out, at_of (j := 2 + x / 8) (by omega) (by rw [List.getElem?_map, r1]; rfl), _, rfl, r, _, _, x % 8, rfl, rfl, r2, ixN_nat (by omega) (by rw [List.length_map]; omega), ?_⟩
    have I2 := I1.setC (j := x % 8) (x := kind) r1 (List.getElem?_eq_getElem hi)
    have k2 : Kp (A.ca :: A.ho :: A.st :: A.rs) H (upd H1 r (.lst ((v.M[2 + x / 8].map V.int).set (x % 8) (V.int kind)))) := k1.own (by simp [List.mem_of_getElem? r1])
    have n2' : ∀ y, upd H1 r (.lst ((v.M[2 + x / 8].map V.int).set (x % 8) (V.int kind))) y = none → H y = none := fun y e => n1' _ (un e)
    generalize upd H1 r (.lst ((v.M[2 + x / 8].map V.int).set (x % 8) (V.int kind))) = H2 at I2 k2 n2' ⊢
    -- self.cells[x] = ..
    refine ⟨by show 1 ≤ sizeLine; decide, fun l hl => ?_⟩
    refine ⟨l, 8, _, rfl, rfl, upd_same, by decide, by decide, by show 1 * 8 ≤ sizeLine; decide, fun q hq => ?_⟩
    have hq0 : H2 q = none := un hq
    have sm : Same H2 (upd (upd H2 l (.lst [V.int 0])) q (.lst (List.replicate (8 : Int).toNat [V.int 0]).flatten)) := (same_upd hl).trans (same_upd hq)
    have eq3 : upd (upd H2 l (.lst [V.int 0])) q (.lst (List.replicate (8 : Int).toNat [V.int 0]).flatten) q = some (.lst ((List.replicate 8 (0 : Int)).map V.int)) := by rw [upd_same]; rfl
    have I3 := I2.swap (i := x) sm hq0 eq3 (by simp)
    have k3 : Kp (A.ca :: A.ho :: A.st :: A.rs) H (upd (upd (upd H2 l (.lst [V.int 0])) q (.lst (List.replicate (8 : Int).toNat [V.int 0]).flatten)) A.ca (.lst ((A.rs.map V.ref).set x (V.ref q)))) := (k2.same sm).own (by simp)
    have o3 := sm _ _ I2.gr.out
    have ob3 := sm _ _ I2.ob
    refine ⟨_, rfl, im, _, _, _, _, rfl, ob3, T.cl_Image, T.na_Image_cells, rfl, _, rfl, A.ca, _, _, x, rfl, rfl, o3, ixN_nat rfl (by rw [List.length_map, I.gr.len]; exact hx), ?_⟩
    change ImgAt T.C_Image T.C_Plan (upd (upd (upd H2 l (.lst [V.int 0])) q (.lst (List.replicate (8 : Int).toNat [V.int 0]).flatten)) A.ca (.lst ((A.rs.map V.ref).set x (V.ref q)))) _ _ _ _ _ _ at I3
    have hqH : H q = none := n2' _ hq0
    generalize upd (upd (upd H2 l (.lst [V.int 0])) q (.lst (List.replicate (8 : Int).toNat [V.int 0]).flatten)) A.ca (.lst ((A.rs.map V.ref).set x (V.ref q))) = H3 at I3 k3 ⊢
    refine ⟨_, rfl, _, rfl, im, _, _, _, _, rfl, I3.ob, T.cl_Image, T.na_Image_holdings, rfl, _, rfl, A.ho, _, _, x, rfl, rfl, I3.ho, ixN_nat rfl (by rw [List.length_map]; show x < v.ho.length; omega), ?_⟩
    have I4 := I3.putHo (i := x) (x := serial)
    have k4 := k3.own (a := A.ho) (o := .lst ((v.ho.map V.int).set x (V.int serial))) (by simp)
    dsimp only at I4 ⊢
    generalize upd H3 A.ho (.lst ((v.ho.map V.int).set x (V.int serial))) = H4 at I4 k4 ⊢
    refine ⟨_, rfl, _, rfl, im, _, _, _, _, rfl, I4.ob, T.cl_Image, T.na_Image_stamps, rfl, _, rfl, A.st, _, _, x, rfl, rfl, I4.st, ixN_nat rfl (by rw [List.length_map]; show x < v.st.length; omega), ?_⟩
    exact k _ q hqH (I4.putSt (i := x) (x := serial)) (k4.own (by simp))
end
end K06
namespace K06
open PySem PySem.Spec PyProof.Rows L2 Rg
section
variable {P : Program} {w : World} {K : PySem.W.Frag} {mg : Str → Option Value} {base : Heap}
/-- the row of the sums behind a put -/
theorem putB_row0 {v : IV} {x : Nat} {kind serial : Int} (hx : x ≠ 0) : (putB v x kind serial).M[0]? = v.M[0]? := by
  show ((setC v.M (2 + x / 8) (x % 8) kind).set x (List.replicate 8 0))[0]? = v.M[0]?
  rw [List.getElem?_set_ne hx, setC_row (by omega)]
theorem ImgAt.row0 {CI CP : Addr} {H : Hp} {im : Addr} {A : IA} {v : IV} {b n s : Int} (I : ImgAt CI CP H im A v b n s) : ∃ r m, A.rs[0]? = some r ∧ v.M[0]? = some m ∧ m.length = 8 ∧ H r = some (.lst (m.map V.int)) := by
  have d0 := I.d0
  have b1 := I.pl.b1
  have hl : 0 < v.M.length := by omega
  obtain ⟨r, r1, r2, _⟩ := I.gr.get (List.getElem?_eq_getElem hl)
  exact ⟨r, _, r1, List.getElem?_eq_getElem hl, I.d1 _ (List.getElem_mem hl), r2⟩
def sp_give (CI CP : Addr) : Sp := fun vs H Q _ => ∃ (im : Addr) (A : IA) (v : IV) (b n s : Int) (x o : Nat), vs = [.ref im, .int x, .int o] ∧ ImgAt CI CP H im A v b n s ∧ fdOf b n ≤ x ∧ (x : Int) < b ∧ o < 4 ∧
  ∀ H' q, H q = none → ImgAt CI CP H' im { A with rs := A.rs.set x q } (giveV v x o) b n s → Kp (A.ca :: A.ho :: A.st :: A.rs) H H' → Q .non H'
theorem ok_give (T : Tx K mg) : FnOk P w K mg base CX0 3 T.f_Image_give T.fd_Image_give ["self", "x", "owner"] (sp_give T.C_Image T.C_Plan) := by
  refine T.F_Image_give.ok sc_Image_give (fun vs H Q E h => ?_) (fun cdv A0 outer s H vs Q E hr h => ?_)
  · obtain ⟨_, _, _, _, _, _, _, _, rfl, _⟩ := h; rfl
  · obtain ⟨im, A, v, b, n, sl, x, o, rfl, I, hx0, hxb, ho, k⟩ := h
    refine ⟨_, (pss_cons (ps_expr (pe_meth (pv 0) T.cl_Image T.m_Image__put_block (ok_put_block T) hr (b_Image__put_block T) .nil pass0 (pa_cons (pv 1) (pa_cons (pe_cv T.mg_Plan T.cr_Plan T.cv_Plan_FREE) (pa_cons pe_int pa_nil)))))
      (pss_one (ps_augS (pe_ix ix_list (pe_fld (pv 0) rfl) (pe_gc T.c_SUMS_BLOCK) (fun _ _ => rfl)) (pv 2) get_list pe_int ip_sub set_list))), ?_⟩
    have b1 := I.pl.b1
    have n1 := I.pl.n1
    have hx0' : 2 + (b + 8 - 1) / 8 + n ≤ x := hx0
    refine ⟨_, rfl, im, _, _, rfl, I.ob, rfl, _, rfl, im, A, v, b, n, sl, x, 0, 0, rfl, I, hx0, hxb, fun H1 q hq I1 k1 => ?_⟩
    obtain ⟨r, m, r1, r2, r3, r4⟩ := I1.row0
    have r2' := r2
    rw [putB_row0 (by omega)] at r2'
    have rA : A.rs[0]? = some r := by
      have : (A.rs.set x q)[0]? = some r := r1
      rw [List.getElem?_set_ne (by omega)] at this
      exact this
    have hol : o < m.length := by omega
    have e0 : cellAt v.M 0 o = m[o] := cellAt_of r2' (List.getElem?_eq_getElem hol)
    refine ⟨_, rfl, im, _, _, _, _, rfl, I1.ob, T.cl_Image, T.na_Image_cells, rfl, A.ca, _, _, .ref r, rfl, rfl, .of I1.gr.out, at_of (j := 0) rfl (by rw [List.getElem?_map, r1]; rfl), _, rfl, r, _, o, _, rfl, rfl, .of r4, by rw [List.getElem?_map, List.getElem?_eq_getElem hol]; rfl, _, _, rfl, rfl, r, _, _, o, rfl, rfl, r4, ixN_nat rfl (by rw [List.length_map]; exact hol), ?_⟩
    have I2 := I1.setC (j := o) (x := m[o] - 1) r1 r2
    refine k _ q hq ?_ (k1.own (by simp [List.mem_of_getElem? rA]))
    unfold giveV
    rw [e0]
    exact I2
def sp_take (CI CP CO CB : Addr) : Sp := fun vs H Q E => ∃ (im : Addr) (A : IA) (v : IV) (b n s kind : Int) (o : Nat), vs = [.ref im, .int kind, .int o] ∧ ImgAt CI CP H im A v b n s ∧ o < 4 ∧ (cellAt v.M 0 o).natAbs.log2 < 1920 ∧
  (quota v o → ∀ H', Same H H' → E (.ref CO) none H') ∧
  (¬ quota v o → letL b n v.M kind v.ba = [] → ∀ H', Same H H' → E (.ref CB) none H') ∧
  (¬ quota v o → ∀ x : Nat, pickL (letL b n v.M kind v.ba) v.wi = some (x : Int) → ∀ H' q, H q = none → ImgAt CI CP H' im { A with rs := A.rs.set x q } (takeV v x kind o) b n s → Kp (A.ca :: A.ho :: A.st :: A.rs) H H' → Q (.int x) H')
theorem freeL_mem {b n x : Int} {M : List (List Int)} (h : x ∈ freeL b n M) : fdOf b n ≤ x ∧ x < fdOf b n + (b - fdOf b n).toNat ∧ kindOf b n M x = 0 := by
  unfold freeL at h
  have h1 := List.mem_filter.mp h
  have h2 := rng_mem h1.1
  exact ⟨h2.1, h2.2, of_decide_eq_true h1.2⟩
theorem letL_mem {b n x kind : Int} {M : List (List Int)} {ba : List Int} (h : x ∈ letL b n M kind ba) : x ∈ freeL b n M := by
  unfold letL at h
  split at h
  · exact (List.mem_filter.mp h).1
  · exact h
theorem pickL_mem {l : List Int} {wi x : Int} (h : pickL l wi = some x) : x ∈ l := by
  unfold pickL at h
  cases e : (l.filter fun x => decide (wi ≤ x)).head? with
  | none =>
    rw [e] at h
    exact List.mem_of_head? h
  | some y =>
    rw [e] at h
    cases h
    exact (List.mem_filter.mp (List.mem_of_head? e)).1
theorem freeL_len {b n : Int} {M : List (List Int)} : (freeL b n M).length ≤ (b - fdOf b n).toNat := by
  unfold freeL
  refine filt_len ?_
  rw [rng_len]
  exact Nat.le_refl _
/-- [x for x in l if ..], l a list that stands at a -/
theorem fstr_len {a c : Int} (ha : a.natAbs.log2 < 1920) (hc : c.natAbs.log2 < 1920) : (((((Str.empty ++ ("owner " : Str)) ++ (toString a : Str)) ++ (" uses " : Str)) ++ (toString c : Str)) ++ (" blocks" : Str)).length ≤ sizeLine := by
  have e1 := PySem.int_text_length_le (k := 1920) (by decide) ha
  have e2 := PySem.int_text_length_le (k := 1920) (by decide) hc
  have l1 : (("owner " : Str)).length = 6 := by decide
  have l2 : ((" uses " : Str)).length = 6 := by decide
  have l3 : ((" blocks" : Str)).length = 7 := by decide
  have l0 : (Str.empty).length = 0 := by decide
  rw [strLen_append, strLen_append, strLen_append, strLen_append, strLen_append, l0, l1, l2, l3, sizeLine_eq]
  have f1 : ((toString a : Str)).length = (toString a).length := PySem.ofString_length _
  have f2 : ((toString c : Str)).length = (toString c).length := PySem.ofString_length _
  rw [f1, f2]
  omega
end
end K06
namespace K06
open PySem PySem.Spec PyProof.Rows L2 Rg
/-- a comprehension that keeps some of l, i looked at -/
def PvF (H0 : Hp) (D : Addr) (l : List Int) (p : Int → Bool) (i : Nat) (H' : Hp) : Prop := Same H0 H' ∧ H' D = some (.lst (((l.take i).filter p).map V.int))
theorem PvF.start {H0 : Hp} {D : Addr} {l : List Int} {p : Int → Bool} (h : H0 D = none) : PvF H0 D l p 0 (upd H0 D (.lst [])) := ⟨same_upd h, upd_same⟩
theorem PvF.yes {H0 H' H2 : Hp} {D : Addr} {l : List Int} {p : Int → Bool} {i : Nat} {x : Int} (h : PvF H0 D l p i H') (hD : H0 D = none) (S : Same H' H2) (hx : l[i]? = some x) (hl : l.length < 1000) (hp : p x = true) :
    ∃ acc, H2 D = some (.lst acc) ∧ acc.length < sizeLine ∧ PvF H0 D l p (i + 1) (upd H2 D (.lst (acc ++ [V.int x]))) := by
  refine ⟨_, S _ _ h.2, ?_, fun a o z => ?_, ?_⟩
  · rw [List.length_map]
    have := filt_len (p := p) (List.length_take_le i l)
    have hi := (List.getElem?_eq_some_iff.mp hx).1
    exact small1000 (by omega)
  · rw [upd_ne (ne_of_none z hD)]
    exact S _ _ (h.1 _ _ z)
  · rw [upd_same, take_get hx, List.filter_append, List.map_append, List.filter_cons, if_pos hp]
    rfl
theorem PvF.no {H0 H' H2 : Hp} {D : Addr} {l : List Int} {p : Int → Bool} {i : Nat} {x : Int} (h : PvF H0 D l p i H') (S : Same H' H2) (hx : l[i]? = some x) (hp : p x = false) : PvF H0 D l p (i + 1) H2 := by
  refine ⟨h.1.trans S, ?_⟩
  rw [take_get hx, List.filter_append, List.filter_cons, if_neg (by rw [hp]; decide), List.filter_nil, List.append_nil]
  exact S _ _ h.2
theorem PvF.all {H0 H' : Hp} {D : Addr} {l : List Int} {p : Int → Bool} {n : Nat} (h : PvF H0 D l p n H') (e : n = l.length) : Same H0 H' ∧ H' D = some (.lst ((l.filter p).map V.int)) := by
  subst e
  have := h.2
  rw [List.take_length] at this
  exact ⟨h.1, this⟩
theorem op_notInK {X : Cx} {K : PySem.W.Frag} (hK : X.K = K := by rfl) : OpR X (compareOp .NotIn) (rIn K true) := by
  subst hK
  exact op_notIn_seq
theorem cell0 {v : IV} {m : List Int} {j : Nat} (h : v.M[0]? = some m) (hj : j < m.length) : cellAt v.M 0 j = m[j] := cellAt_of h (List.getElem?_eq_getElem hj)
section
variable {P : Program} {w : World} {K : PySem.W.Frag} {mg : Str → Option Value} {base : Heap}
theorem ok_take (T : Tx K mg) : FnOk P w K mg base (L2N.CX P w) 4 T.f_Image_take T.fd_Image_take ["self", "kind", "owner"] (sp_take T.C_Image T.C_Plan T.C_OverQuota T.C_BlocksFull) := by
  refine T.F_Image_take.okN sc_Image_take (fun vs H Q E h => ?_) (fun cdv A0 outer s H vs Q E hr h => ?_)
  · obtain ⟨_, _, _, _, _, _, _, _, rfl, _⟩ := h; rfl
  · obtain ⟨im, A, v, b, n, sl, kind, o, rfl, I, ho, hlg, kQ, kB, k⟩ := h
    have hr2 : Room 2 _ := hr.mono (by decide)
    refine ⟨_, (pss_cons (ps_set (i := 3) sc_Image_take.nd rfl (.inl rfl) (pe_ix ix_list (pe_fld (pv 0) rfl) (pe_gc T.c_SUMS_BLOCK) (fun _ _ => rfl)))
      (pss_cons (ps_set (i := 4) sc_Image_take.nd rfl (.inl rfl) (pe_ix ix_list (pv 3) (pe_op op_add (pe_cv T.mg_Plan T.cr_Plan T.cv_Plan_OWNERS) (pv 2)) (fun _ _ => rfl)))
      (Evl.pss_cut (ps_if (PW.pt (pw_and (pt_cmpR op_ne (pv 4) pe_int (nomark _)) (pw_and1 (pt_cmpR op_ge (pe_ix ix_list (pv 3) (pv 2) (fun _ _ => rfl)) (pv 4) (nomark _)))))
        (pss_one (L2N.ps_raise rfl (L2N.takes_of rfl rfl rfl rfl) (pmk_own1N PySem.F.excBase_ValueError T.xe_OverQuota T.mg_OverQuota T.ke_OverQuota (raises_own T.be_OverQuota T.te_OverQuota) rfl (pe_joined (.cons pe_str (.cons (pe_fmt (pv 2)) (.cons pe_str (.cons (pe_fmt (pe_ix ix_list (pv 3) (pv 2) (fun _ _ => rfl))) (.cons pe_str .nil)))))))))
        pss_nil)
      (pss_cons (ps_set (i := 5) sc_Image_take.nd rfl (.inl rfl) (pe_meth0 (pv 0) T.cl_Image T.m_Image_free_blocks (ok_free_blocks T) hr (b_Image_free_blocks T) .nil pass0))
      (Evl.pss_cut (ps_if (pt_cmpR op_eq (pv 1) (pe_cv T.mg_Plan T.cr_Plan T.cv_Plan_PLAIN) (nomark _))
        (pss_one (ps_setLc (i := 5) (own := [("x", 6)]) (g := gName 6) (tt := _) rfl sc_Image_take.nd rfl rfl (sw_true rfl rfl rfl (by decide +kernel)) (pi_list (pv 5)) (blkOk_by (N := ["self", "kind", "owner", "sums", "limit", "free", "x", "wished"]) (sc := defScope s_Image_take) (by decide +kernel)) (fun _ _ _ _ _ => pg_name (i := 6) sc_Image_take.nd rfl (Or.inl rfl)) (fun _ _ _ _ _ => pts_one (pt_cmpR (op_notInK (K := K)) (pv 6) (pe_fldK (K := K) (pv 0) rfl) rfl)) (fun _ _ _ _ _ => (pv 6))))
        pss_nil)
      (pss_cons (ps_if (pt_cmpR op_eq (pe_callB call_len_seq rfl T.b_len (by decide +kernel) (pa_cons (pv 5) pa_nil)) pe_int (nomark _))
        (pss_one (L2N.ps_raise rfl (L2N.takes_of rfl rfl rfl rfl) (L2N.pmk_own PySem.F.excBase_ValueError T.xe_BlocksFull T.mg_BlocksFull T.ke_BlocksFull (raises_own T.be_BlocksFull T.te_BlocksFull) rfl)))
        pss_nil)
      (PSs.nox (pss_cons (ps_setLc (i := 7) (own := [("x", 6)]) (g := gName 6) (tt := _) rfl sc_Image_take.nd rfl rfl (sw_true rfl rfl rfl (by decide +kernel)) (pi_list (pv 5)) (blkOk_by (N := ["self", "kind", "owner", "sums", "limit", "free", "x", "wished"]) (sc := defScope s_Image_take) (by decide +kernel)) (fun _ _ _ _ _ => pg_name (i := 6) sc_Image_take.nd rfl (Or.inl rfl)) (fun _ _ _ _ _ => pts_one (pt_cmpR op_ge (pv 6) (pe_fldK (K := K) (pv 0) rfl) (nomark _))) (fun _ _ _ _ _ => (pv 6)))
      (Evl.pss_cut (ps_set (i := 6) sc_Image_take.nd rfl (.inl rfl) (pe_ifExp (pt_truth (pv 7) (fun _ => rfl)) (pe_ix ix_list (pv 7) pe_int (fun _ _ => rfl)) (pe_ix ix_list (pv 5) pe_int (fun _ _ => rfl))))
      (pss_cons (ps_expr (pe_meth (pv 0) T.cl_Image T.m_Image__put_block (ok_put_block T) hr2 (b_Image__put_block T) .nil pass0 (pa_cons (pv 6) (pa_cons (pv 1) (pa_cons (pe_fld (pv 0) rfl) pa_nil)))))
      (pss_cons (ps_augS (pv 3) (pv 2) get_list pe_int ip_add set_list)
      (pss_one (ps_ret (pv 6)))))))))))))), ?_⟩
    obtain ⟨dxp, hpl⟩ := I.pl.ob
    have b1 := I.pl.b1
    have b2 := I.pl.b2
    have n1 := I.pl.n1
    obtain ⟨r, m, r1, r2, r3, r4⟩ := I.row0
    have h4o : 4 + o < m.length := by omega
    have hol : o < m.length := by omega
    have el := cell0 r2 h4o
    have eo := cell0 r2 hol
    refine ⟨_, rfl, im, _, _, _, _, rfl, I.ob, T.cl_Image, T.na_Image_cells, rfl, A.ca, _, _, .ref r, rfl, rfl, .of I.gr.out, at_of (j := 0) rfl (by rw [List.getElem?_map, r1]; rfl), ?_⟩
    refine ⟨_, rfl, _, rfl, _, _, rfl, rfl, r, _, _, _, rfl, rfl, .of r4, at_of (j := 4 + o) (by omega) (by rw [List.getElem?_map, List.getElem?_eq_getElem h4o]; rfl), ?_⟩
    have hlen : (letL b n v.M kind v.ba).length < 1000 := by
      have h1 := freeL_len (b := b) (n := n) (M := v.M)
      have h2 : (letL b n v.M kind v.ba).length ≤ (freeL b n v.M).length := by
        unfold letL
        split
        · exact List.length_filter_le _ _
        · exact Nat.le_refl _
      have h3 : 0 ≤ fdOf b n := by unfold fdOf; omega
      omega
    have hlenF : (freeL b n v.M).length < 1000 := by
      have h1 := freeL_len (b := b) (n := n) (M := v.M)
      have h3 : 0 ≤ fdOf b n := by unfold fdOf; omega
      omega
    refine ⟨fun σ H' => σ = [some (.ref im), some (.int kind), some (.int o), some (.ref r), some (.int m[4 + o]), none, none, none] ∧ H' = H ∧ ¬ quota v o, ?_, ?_⟩
    · refine ⟨_, rfl, rfl, _, rfl, ?_⟩
      rw [dec_iv]
      by_cases e1 : m[4 + o] = 0
      · rw [decide_eq_true e1]
        exact iteF ⟨rfl, rfl, fun z => z.1 (by rw [el]; exact e1)⟩
      · rw [decide_eq_false e1]
        refine iteT ⟨_, rfl, _, rfl, r, _, _, _, rfl, rfl, .of r4, atI_nat (by rw [List.getElem?_map, List.getElem?_eq_getElem hol]; rfl), _, rfl, _, _, rfl, rfl, _, rfl, ?_⟩
        by_cases e2 : m[o] ≥ m[4 + o]
        · rw [decide_eq_true e2]
          have la : (o : Int).natAbs.log2 < 1920 := by
            have : o = 0 ∨ o = 1 ∨ o = 2 ∨ o = 3 := by omega
            rcases this with rfl | rfl | rfl | rfl <;> decide
          have lc : m[o].natAbs.log2 < 1920 := by rw [← eo]; exact hlg
          have f5 := fstr_len la lc
          have mono : ∀ (x y : Str), (x ++ y).length ≤ sizeLine → x.length ≤ sizeLine := fun x y h => by rw [strLen_append] at h; omega
          have f4 := mono _ _ f5
          have f3 := mono _ _ f4
          have f2 := mono _ _ f3
          have f1 := mono _ _ f2
          refine iteT ⟨_, rfl, f1, _, rfl, .inr ⟨_, rfl, la, _, rfl, f2, _, rfl, f3, _, rfl, _, rfl, r, _, _, _, rfl, rfl, .of r4, atI_nat (by rw [List.getElem?_map, List.getElem?_eq_getElem hol]; rfl), .inr ⟨_, rfl, lc, _, rfl, f4, _, rfl, f5, ?_⟩⟩⟩
          exact kQ ⟨by rw [el]; exact e1, by rw [el, eo]; exact e2⟩ H (Same.refl _)
        · rw [decide_eq_false e2]
          exact iteF ⟨rfl, rfl, fun z => e2 (by have := z.2; rw [el, eo] at this; exact this)⟩
    rintro σ H' ⟨rfl, rfl, nq⟩
    -- the free blocks
    refine ⟨_, rfl, im, _, _, rfl, I.ob, rfl, im, A, v, b, n, sl, rfl, I, fun H1 fa S1 nfa efa => ?_⟩
    refine ⟨fun σ H2 => ∃ fb, σ = [some (.ref im), some (.int kind), some (.int o), some (.ref r), some (.int m[4 + o]), some (.ref fb), none, none] ∧ Same H' H2 ∧ H2 fb = some (.lst ((letL b n v.M kind v.ba).map V.int)), ?_, ?_⟩
    · refine ⟨_, rfl, rfl, _, rfl, ?_⟩
      rw [dec_iv]
      by_cases hk : kind = 2
      · rw [decide_eq_true hk]
        refine iteT ⟨_, rfl, fa, rfl, ⟨_, .of efa⟩, fun D hD => ?_⟩
        refine lc_list (K := K) (a := fa) (xs := (freeL b n v.M).map V.int) (PvF H1 D (freeL b n v.M) (fun x => decide (x ∉ v.ba))) (PvF.start hD) (fun i H2 _ Pv => .of (Pv.1 _ _ efa)) ?_ ?_
        · rintro i y H2 hi Pv
          rw [List.getElem?_map] at hi
          obtain ⟨x, hx, rfl⟩ := Option.map_eq_some_iff.mp hi
          refine ⟨rfl, ?_⟩
          have I2 := I.keep (S1.trans Pv.1)
          refine ⟨_, rfl, _, rfl, im, _, _, _, _, rfl, I2.ob, T.cl_Image, T.na_Image_barred, rfl, A.ba, _, rfl, .inr (.of I2.ba), rfl, flat_ints _, _, rfl, ?_⟩
          rw [inV_int]
          by_cases hb : x ∈ v.ba
          · rw [decide_eq_true hb]
            exact iteF (Pv.no (Same.refl _) hx (by simp [hb]))
          · rw [decide_eq_false hb]
            exact iteT ⟨_, rfl, Pv.yes hD (Same.refl _) hx hlenF (by simp [hb])⟩
        · intro H2 Pv
          obtain ⟨S2, e2⟩ := Pv.all (by rw [List.length_map])
          refine ⟨D, rfl, S1.trans S2, ?_⟩
          unfold letL
          rw [if_pos hk]
          exact e2
      · rw [decide_eq_false hk]
        refine iteF ⟨fa, rfl, S1, ?_⟩
        unfold letL
        rw [if_neg hk]
        exact efa
    rintro σ H2 ⟨fb, rfl, S2, e2⟩
    refine ⟨_, rfl, fb, _, rfl, .inl (.of e2), rfl, _, rfl, ite2 (fun z => ?_) (fun z => ?_)⟩
    · have z' := V.int.inj (of_decide_eq_true z)
      rw [List.length_map] at z'
      exact kB nq (List.length_eq_zero_iff.mp (by omega)) _ S2
    · have hne : letL b n v.M kind v.ba ≠ [] := fun q => z (decide_eq_true (by rw [q]; rfl))
      have I2 := I.keep S2
      refine ⟨_, rfl, fb, rfl, ⟨_, .of e2⟩, fun D hD => ?_⟩
      refine lc_list (K := K) (a := fb) (xs := (letL b n v.M kind v.ba).map V.int) (PvF H2 D (letL b n v.M kind v.ba) (fun x => decide (v.wi ≤ x))) (PvF.start hD) (fun i H3 _ Pv => .of (Pv.1 _ _ e2)) ?_ ?_
      · rintro i y H3 hi Pv
        rw [List.getElem?_map] at hi
        obtain ⟨x, hx, rfl⟩ := Option.map_eq_some_iff.mp hi
        refine ⟨rfl, ?_⟩
        have I3 := I2.keep Pv.1
        refine ⟨_, rfl, _, rfl, im, _, _, _, _, rfl, I3.ob, T.cl_Image, T.na_Image_wish, rfl, _, _, rfl, rfl, _, rfl, ?_⟩
        by_cases hb : x ≥ v.wi
        · rw [decide_eq_true hb]
          exact iteT ⟨_, rfl, Pv.yes hD (Same.refl _) hx hlen (decide_eq_true hb)⟩
        · rw [decide_eq_false hb]
          exact iteF (Pv.no (Same.refl _) hx (decide_eq_false hb))
      · intro H3 Pv
        obtain ⟨S3, e3⟩ := Pv.all (by rw [List.length_map])
        have I3 := I2.keep S3
        have S03 := S2.trans S3
        have e2' := S3 _ _ e2
        refine ⟨fun σ H4 => ∃ x : Nat, σ = [some (.ref im), some (.int kind), some (.int o), some (.ref r), some (.int m[4 + o]), some (.ref fb), some (.int (x : Int)), some (.ref D)] ∧ H4 = H3 ∧ pickL (letL b n v.M kind v.ba) v.wi = some (x : Int), ?_, ?_⟩
        · have nat : ∀ y : Int, pickL (letL b n v.M kind v.ba) v.wi = some y → ∃ x : Nat, y = x := fun y h => by
            have h1 := freeL_mem (letL_mem (pickL_mem h))
            have h3 : 0 ≤ fdOf b n := by unfold fdOf; omega
            exact ⟨y.toNat, by omega⟩
          refine ⟨_, rfl, _, .inl ⟨_, .of e3, rfl⟩, ?_⟩
          cases q : (letL b n v.M kind v.ba).filter (fun x => decide (v.wi ≤ x)) with
          | nil =>
            cases q2 : letL b n v.M kind v.ba with
            | nil => exact absurd q2 hne
            | cons y rest =>
              have hp : pickL (letL b n v.M kind v.ba) v.wi = some y := by unfold pickL; rw [q, q2]; rfl
              obtain ⟨x, rfl⟩ := nat y hp
              rw [q2] at e2' hp
              exact iteF ⟨_, rfl, fb, _, 0, .int (x : Int), rfl, rfl, .of e2', atI_nat (j := 0) rfl, x, rfl, rfl, hp⟩
          | cons y rest =>
            have hp : pickL (letL b n v.M kind v.ba) v.wi = some y := by unfold pickL; rw [q]; rfl
            obtain ⟨x, rfl⟩ := nat y hp
            rw [q] at e3
            exact iteT ⟨_, rfl, D, _, 0, .int (x : Int), rfl, rfl, .of e3, atI_nat (j := 0) rfl, x, rfl, rfl, hp⟩
        rintro σ H4 ⟨x, rfl, rfl, hp⟩
        have hm := freeL_mem (letL_mem (pickL_mem hp))
        have hf : fdOf b n = 2 + (b + 8 - 1) / 8 + n := rfl
        have hxb : (x : Int) < b := by omega
        have hx2 : x ≠ 0 := by omega
        refine ⟨_, rfl, im, _, _, rfl, I3.ob, rfl, _, rfl, _, rfl, _, rfl, im, _, _, _, _, rfl, I3.ob, T.cl_Image, T.na_Image_serial, rfl, im, A, v, b, n, sl, x, kind, v.se, rfl, I3, hm.1, hxb, fun H5 q hq I5 k5 => ?_⟩
        obtain ⟨r', m', r1', r2', r3', r4'⟩ := I5.row0
        have rA : A.rs[0]? = some r' := by
          have : (A.rs.set x q)[0]? = some r' := r1'
          rw [List.getElem?_set_ne hx2] at this
          exact this
        obtain rfl : r = r' := Option.some.inj (r1.symm.trans rA)
        have r2'' := r2'
        rw [putB_row0 hx2, r2] at r2''
        obtain rfl : m = m' := Option.some.inj r2''
        refine ⟨_, rfl, _, rfl, r, _, o, _, rfl, rfl, .of r4', by rw [List.getElem?_map, List.getElem?_eq_getElem hol]; rfl, _, _, rfl, rfl, r, _, _, o, rfl, rfl, r4', ixN_nat rfl (by rw [List.length_map]; exact hol), ?_⟩
        have I6 := I5.setC (j := o) (x := m[o] + 1) r1' r2'
        refine ⟨_, rfl, k nq x hp _ q (S03.free hq) ?_ ((Kp.of S03).trans (k5.own (by simp [List.mem_of_getElem? rA])))⟩
        unfold takeV
        rw [eo]
        exact I6
end
end K06
namespace K06
open PySem PySem.Spec PyProof.Rows L2 Rg
/-- the row of a node's block -/
def nrow (b m : Int) : Nat := (2 + (b + 8 - 1) / 8 + m - 1).toNat
section
variable {P : Program} {w : World} {K : PySem.W.Frag} {mg : Str → Option Value} {base : Heap}
theorem ImgAt.node {CI CP : Addr} {H : Hp} {im : Addr} {A : IA} {v : IV} {b n s m : Int} (I : ImgAt CI CP H im A v b n s) (h1 : 1 ≤ m) (h2 : m ≤ n) : ∃ r row, A.rs[nrow b m]? = some r ∧ v.M[nrow b m]? = some row ∧ row.length = 8 ∧ H r = some (.lst (row.map V.int)) := by
  have d0 := I.d0
  have b1 := I.pl.b1
  have n1 := I.pl.n1
  have d := I.pl.d
  have hl : nrow b m < v.M.length := by
    unfold nrow
    omega
  obtain ⟨r, hr1, hr2, _⟩ := I.gr.get (List.getElem?_eq_getElem hl)
  exact ⟨r, _, hr1, List.getElem?_eq_getElem hl, I.d1 _ (List.getElem_mem hl), hr2⟩
def sp_node_cell (CI CP : Addr) : Sp := fun vs H Q _ => ∃ (im : Addr) (A : IA) (v : IV) (b n s m f : Int), vs = [.ref im, .int m, .int f] ∧ ImgAt CI CP H im A v b n s ∧ 1 ≤ m ∧ m ≤ n ∧ 0 ≤ f ∧ f < 8 ∧ Q (.int (cellAt v.M (nrow b m) f.toNat)) H
theorem ok_node_cell (T : Tx K mg) : FnOk P w K mg base CX0 2 T.f_node_cell T.fd_node_cell ["image", "n", "field"] (sp_node_cell T.C_Image T.C_Plan) := by
  refine T.F_node_cell.ok sc_node_cell (fun vs H Q E h => ?_) (fun cdv A0 outer s H vs Q E hr h => ?_)
  · obtain ⟨_, _, _, _, _, _, _, _, rfl, _⟩ := h; rfl
  · obtain ⟨im, A, v, b, n, sl, m, f, rfl, I, h1, h2, h3, h4, k⟩ := h
    refine ⟨_, (pss_one (ps_ret (pe_ix ix_list (pe_ix ix_list (pe_fld (pv 0) rfl) (pe_meth (pe_fld (pv 0) rfl) T.cl_Plan T.m_Plan_node_block (ok_Plan_node_block T) hr (b_Plan_node_block T) .nil pass0 (pa_cons (pv 1) pa_nil)) (fun _ _ => rfl)) (pv 2) (fun _ _ => rfl)))), ?_⟩
    obtain ⟨dxp, hpl⟩ := I.pl.ob
    obtain ⟨r, row, e1, e2, e3, e4⟩ := I.node h1 h2
    have b1 := I.pl.b1
    have hf : f.toNat < row.length := by omega
    rw [cellAt_of e2 (List.getElem?_eq_getElem hf)] at k
    refine ⟨_, rfl, im, _, _, _, _, rfl, I.ob, T.cl_Image, T.na_Image_cells, rfl, _, rfl, im, _, _, _, _, rfl, I.ob, T.cl_Image, T.na_Image_plan, rfl, A.pl, dxp, _, rfl, hpl, rfl, _, rfl, A.pl, b, n, sl, m, rfl, I.pl, A.ca, _, _, .ref r, rfl, rfl, .of I.gr.out, at_of (j := nrow b m) (by unfold nrow; omega) (by rw [List.getElem?_map, e1]; rfl), _, rfl, r, _, _, _, rfl, rfl, .of e4, at_of (j := f.toNat) (by omega) (by rw [List.getElem?_map, List.getElem?_eq_getElem hf]; rfl), k⟩
def sp_put_node_cell (CI CP : Addr) : Sp := fun vs H Q _ => ∃ (im : Addr) (A : IA) (v : IV) (b n s m f x : Int), vs = [.ref im, .int m, .int f, .int x] ∧ ImgAt CI CP H im A v b n s ∧ 1 ≤ m ∧ m ≤ n ∧ 0 ≤ f ∧ f < 8 ∧
  ∀ H', ImgAt CI CP H' im A { v with M := setC v.M (nrow b m) f.toNat x } b n s → Kp A.rs H H' → Q .non H'
theorem ok_put_node_cell (T : Tx K mg) : FnOk P w K mg base CX0 2 T.f_put_node_cell T.fd_put_node_cell ["image", "n", "field", "value"] (sp_put_node_cell T.C_Image T.C_Plan) := by
  refine T.F_put_node_cell.ok sc_put_node_cell (fun vs H Q E h => ?_) (fun cdv A0 outer s H vs Q E hr h => ?_)
  · obtain ⟨_, _, _, _, _, _, _, _, _, rfl, _⟩ := h; rfl
  · obtain ⟨im, A, v, b, n, sl, m, f, x, rfl, I, h1, h2, h3, h4, k⟩ := h
    refine ⟨_, (pss_one (ps_asg (pv 3) (pg_sub (pe_ix ix_list (pe_fld (pv 0) rfl) (pe_meth (pe_fld (pv 0) rfl) T.cl_Plan T.m_Plan_node_block (ok_Plan_node_block T) hr (b_Plan_node_block T) .nil pass0 (pa_cons (pv 1) pa_nil)) (fun _ _ => rfl)) (pv 2) set_list))), ?_⟩
    obtain ⟨dxp, hpl⟩ := I.pl.ob
    obtain ⟨r, row, e1, e2, e3, e4⟩ := I.node h1 h2
    have b1 := I.pl.b1
    refine ⟨_, rfl, _, rfl, im, _, _, _, _, rfl, I.ob, T.cl_Image, T.na_Image_cells, rfl, _, rfl, im, _, _, _, _, rfl, I.ob, T.cl_Image, T.na_Image_plan, rfl, A.pl, dxp, _, rfl, hpl, rfl, _, rfl, A.pl, b, n, sl, m, rfl, I.pl, A.ca, _, _, .ref r, rfl, rfl, .of I.gr.out, at_of (j := nrow b m) (by unfold nrow; omega) (by rw [List.getElem?_map, e1]; rfl), _, rfl, r, _, _, f.toNat, rfl, rfl, e4, ixN_nat (by omega) (by rw [List.length_map]; omega), ?_⟩
    exact k _ (I.setC e1 e2) (Kp.refl.own (List.mem_of_getElem? e1))
def sp_is_made (CI CP : Addr) : Sp := fun vs H Q _ => ∃ (im : Addr) (A : IA) (v : IV) (b n s m : Int), vs = [.ref im, .int m] ∧ ImgAt CI CP H im A v b n s ∧ 1 ≤ m ∧ m ≤ n ∧ Q (.bl (!decide (cellAt v.M (nrow b m) 0 = 0))) H
theorem ok_is_made (T : Tx K mg) : FnOk P w K mg base CX0 3 T.f_is_made T.fd_is_made ["image", "n"] (sp_is_made T.C_Image T.C_Plan) := by
  refine T.F_is_made.ok sc_is_made (fun vs H Q E h => ?_) (fun cdv A0 outer s H vs Q E hr h => ?_)
  · obtain ⟨_, _, _, _, _, _, _, rfl, _⟩ := h; rfl
  · obtain ⟨im, A, v, b, n, sl, m, rfl, I, h1, h2, k⟩ := h
    refine ⟨_, (pss_one (ps_ret (pe_cmpR op_ne (pe_call (ok_node_cell T) hr rfl T.mg_node_cell T.F_node_cell.kp (b_node_cell T) .nil pass0 (pa_cons (pv 0) (pa_cons (pv 1) (pa_cons (pe_gc T.c_KIND) pa_nil)))) (pe_gc T.c_UNMADE) (nomark _)))), ?_⟩
    refine ⟨_, rfl, _, rfl, im, A, v, b, n, sl, m, 0, rfl, I, h1, h2, by decide, by decide, rfl, ?_⟩
    rw [dec_iv]
    exact k
end
end K06
namespace K06
open PySem PySem.Spec PyProof.Rows L2 Rg
/-- a node's block, its first i cells cleared but for the making -/
def rz (m : List Int) (i : Nat) : List Int := List.replicate (min i 7) 0 ++ m.drop (min i 7)
theorem rz_len {m : List Int} {i : Nat} (h : m.length = 8) : (rz m i).length = 8 := by
  unfold rz
  rw [List.length_append, List.length_replicate, List.length_drop]
  omega
theorem rz_step {m : List Int} {i : Nat} (h : m.length = 8) (hi : i < 7) : (rz m i).set i 0 = rz m (i + 1) := by
  match m, h with
  | [a, b, c, d, e, f, g, x], _ =>
    match i, hi with
    | 0, _ => rfl
    | 1, _ => rfl
    | 2, _ => rfl
    | 3, _ => rfl
    | 4, _ => rfl
    | 5, _ => rfl
    | 6, _ => rfl
theorem rz_zero {m : List Int} : rz m 0 = m := rfl
theorem rz_eight {m : List Int} (h : m.length = 8) : rz m 8 = [0, 0, 0, 0, 0, 0, 0, (m[7]?).getD 0] := by
  match m, h with
  | [a, b, c, d, e, f, g, x], _ => rfl
theorem setC_set {M : List (List Int)} {r j : Nat} {m : List Int} {x : Int} (h : r < M.length) : setC (M.set r m) r j x = M.set r (m.set j x) := by
  unfold setC
  rw [List.getElem?_set_self h, List.set_set]
  rfl
theorem set_self {M : List (List Int)} {r : Nat} {m : List Int} (h : M[r]? = some m) : M.set r m = M := by
  apply List.ext_getElem?
  intro i
  by_cases e : r = i
  · subst e
    rw [List.getElem?_set_self (List.getElem?_eq_some_iff.mp h).1, h]
  · rw [List.getElem?_set_ne e]
section
variable {P : Program} {w : World} {K : PySem.W.Frag} {mg : Str → Option Value} {base : Heap}
def sp_unmake_node (CI CP : Addr) : Sp := fun vs H Q _ => ∃ (im : Addr) (A : IA) (v : IV) (b n s m : Int), vs = [.ref im, .int m] ∧ ImgAt CI CP H im A v b n s ∧ 1 ≤ m ∧ m ≤ n ∧
  ∀ H', ImgAt CI CP H' im A { v with M := v.M.set (nrow b m) [0, 0, 0, 0, 0, 0, 0, cellAt v.M (nrow b m) 7] } b n s → Kp A.rs H H' → Q .non H'
theorem ok_unmake_node (T : Tx K mg) : FnOk P w K mg base CX0 3 T.f_unmake_node T.fd_unmake_node ["image", "n"] (sp_unmake_node T.C_Image T.C_Plan) := by
  refine T.F_unmake_node.ok sc_unmake_node (fun vs H Q E h => ?_) (fun cdv A0 outer s H vs Q E hr h => ?_)
  · obtain ⟨_, _, _, _, _, _, _, rfl, _⟩ := h; rfl
  · obtain ⟨im, A, v, b, n, sl, m, rfl, I, h1, h2, k⟩ := h
    refine ⟨_, (pss_one (ps_for PassesOwn.never rfl (pi_range1 rfl T.b_range (pa_cons (pe_cv T.mg_Plan T.cr_Plan T.cv_Plan_WIDTH) pa_nil)) (pg_name (i := 2) sc_unmake_node.nd rfl (.inl rfl))
        (pss_one (ps_if (pt_cmpR op_ne (pv 2) (pe_gc T.c_MAKING) (nomark _))
          (pss_one (ps_expr (pe_call (ok_put_node_cell T) hr rfl T.mg_put_node_cell T.F_put_node_cell.kp (b_put_node_cell T) .nil pass0 (pa_cons (pv 0) (pa_cons (pv 1) (pa_cons (pv 2) (pa_cons pe_int pa_nil)))))))
          pss_nil)))), ?_⟩
    obtain ⟨r, row, e1, e2, e3, e4⟩ := I.node h1 h2
    have hl := (List.getElem?_eq_some_iff.mp e2).1
    refine ⟨8, rfl, by decide, by decide, for_range (lo := 0) (n := (8 : Int).toNat) (fun i σ H' => ∃ u2, σ = [some (.ref im), some (.int m), u2] ∧ ImgAt T.C_Image T.C_Plan H' im A { v with M := v.M.set (nrow b m) (rz row i) } b n sl ∧ Kp A.rs H H')
      ⟨_, rfl, by rw [rz_zero, set_self e2]; exact I, Kp.refl⟩ ?_ ?_⟩
    · rintro i σ H' hi ⟨u2, rfl, I', k'⟩
      have hi : i < 8 := hi
      refine ⟨_, rfl, rfl, _, rfl, ?_⟩
      rw [dec_iv]
      by_cases e : i = 7
      · subst e
        rw [decide_eq_true (by decide)]
        refine iteF ⟨_, rfl, ?_, k'⟩
        have : rz row (7 + 1) = rz row 7 := by unfold rz; rfl
        rw [this]
        exact I'
      · rw [decide_eq_false (by omega)]
        refine iteT ⟨_, rfl, _, rfl, _, rfl, im, A, _, b, n, sl, m, _, 0, rfl, I', h1, h2, by omega, by omega, fun H2 I2 k2 => ?_⟩
        refine ⟨_, rfl, ?_, k'.trans k2⟩
        have ej : ((0 : Int) + (i : Int)).toNat = i := by omega
        dsimp only at I2
        rw [ej, setC_set hl, rz_step e3 (by omega)] at I2
        exact I2
    · rintro σ H' ⟨u2, rfl, I', k'⟩
      refine k H' ?_ k'
      have : rz row (8 : Int).toNat = [0, 0, 0, 0, 0, 0, 0, cellAt v.M (nrow b m) 7] := by
        show rz row 8 = _
        rw [rz_eight e3]
        unfold cellAt
        rw [e2]
        rfl
      rw [this] at I'
      exact I'
/-- the unmade nodes from 2 on, i looked at -/
def unmadeTo (b : Int) (M : List (List Int)) : Nat → List Int
  | 0 => []
  | i + 1 => unmadeTo b M i ++ (if cellAt M (nrow b (i + 2)) 0 = 0 then [(i : Int) + 2] else [])
theorem unmadeTo_len {b : Int} {M : List (List Int)} : ∀ i, (unmadeTo b M i).length ≤ i
  | 0 => Nat.le_refl _
  | i + 1 => by
    unfold unmadeTo
    rw [List.length_append]
    have := unmadeTo_len (b := b) (M := M) i
    split <;> simp <;> omega
theorem unmadeTo_mem {b : Int} {M : List (List Int)} {m : Int} : ∀ {i : Nat}, m ∈ unmadeTo b M i → 2 ≤ m ∧ m < i + 2 ∧ cellAt M (nrow b m) 0 = 0
  | 0, h => by cases h
  | i + 1, h => by
    unfold unmadeTo at h
    rcases List.mem_append.mp h with h | h
    · have := unmadeTo_mem h
      exact ⟨this.1, by omega, this.2.2⟩
    · split at h
      · rename_i hk
        simp at h
        subst h
        exact ⟨by omega, by omega, hk⟩
      · cases h
def sp_make_node (CI CP CN : Addr) : Sp := fun vs H Q E => ∃ (im : Addr) (A : IA) (v : IV) (b n s kind owner : Int), vs = [.ref im, .int kind, .int owner] ∧ ImgAt CI CP H im A v b n s ∧
  (unmadeTo b v.M (n - 1).toNat = [] → ∀ H', Same H H' → E (.ref CN) none H') ∧
  (∀ m rest, unmadeTo b v.M (n - 1).toNat = m :: rest → ∀ H', ImgAt CI CP H' im A { v with M := v.M.set (nrow b m) [kind, 0, 0, owner, 0, 0, 0, cellAt v.M (nrow b m) 7 + 1] } b n s → Kp A.rs H H' → Q (.int m) H')
theorem ok_make_node (T : Tx K mg) : FnOk P w K mg base (L2N.CX P w) 4 T.f_make_node T.fd_make_node ["image", "kind", "owner"] (sp_make_node T.C_Image T.C_Plan T.C_NodesFull) := by
  refine T.F_make_node.okN sc_make_node (fun vs H Q E h => ?_) (fun cdv A0 outer s H vs Q E hr h => ?_)
  · obtain ⟨_, _, _, _, _, _, _, _, rfl, _⟩ := h; rfl
  · obtain ⟨im, A, v, b, n, sl, kind, owner, rfl, I, kE, k⟩ := h
    have hr2 : Room 2 _ := hr.mono (by decide)
    refine ⟨_, (pss_cons (ps_setLc (i := 3) (own := [("n", 4)]) (g := gName 4) (tt := _) rfl sc_make_node.nd rfl rfl (sw_true rfl rfl rfl (by decide +kernel)) (pi_range2 rfl T.b_range (pa_cons (pe_op op_add (pe_gc T.c_ROOT) pe_int) (pa_cons (pe_op op_add (pe_fld (pe_fld (pv 0) rfl) rfl) pe_int) pa_nil))) (blkOk_by (N := ["image", "kind", "owner", "unmade", "n"]) (sc := defScope s_make_node) (by decide +kernel)) (fun _ _ _ _ _ => pg_name (i := 4) sc_make_node.nd rfl (Or.inl rfl)) (fun _ _ _ _ _ => pts_one (pt_not (pt_val (pe_call (ok_is_made T) hr rfl T.mg_is_made T.F_is_made.kp (b_is_made T) .nil pass0 (pa_cons (pv 0) (pa_cons (pv 4) pa_nil)))))) (fun _ _ _ _ _ => (pv 4)))
      (pss_cons (ps_if (pt_cmpR op_eq (pe_callB call_len_seq rfl T.b_len (by decide +kernel) (pa_cons (pv 3) pa_nil)) pe_int (nomark _))
        (pss_one (L2N.ps_raise rfl (L2N.takes_of rfl rfl rfl rfl) (L2N.pmk_own PySem.F.excBase_ValueError T.xe_NodesFull T.mg_NodesFull T.ke_NodesFull (raises_own T.be_NodesFull T.te_NodesFull) rfl)))
        pss_nil)
      (PSs.nox (pss_cons (ps_set (i := 4) sc_make_node.nd rfl (.inl rfl) (pe_ix ix_list (pv 3) pe_int (fun _ _ => rfl)))
      (pss_cons (ps_expr (pe_call (ok_unmake_node T) hr rfl T.mg_unmake_node T.F_unmake_node.kp (b_unmake_node T) .nil pass0 (pa_cons (pv 0) (pa_cons (pv 4) pa_nil))))
      (pss_cons (ps_expr (pe_call (ok_put_node_cell T) hr2 rfl T.mg_put_node_cell T.F_put_node_cell.kp (b_put_node_cell T) .nil pass0 (pa_cons (pv 0) (pa_cons (pv 4) (pa_cons (pe_gc T.c_KIND) (pa_cons (pv 1) pa_nil))))))
      (pss_cons (ps_expr (pe_call (ok_put_node_cell T) hr2 rfl T.mg_put_node_cell T.F_put_node_cell.kp (b_put_node_cell T) .nil pass0 (pa_cons (pv 0) (pa_cons (pv 4) (pa_cons (pe_gc T.c_OWNER) (pa_cons (pv 2) pa_nil))))))
      (pss_cons (ps_expr (pe_call (ok_put_node_cell T) hr2 rfl T.mg_put_node_cell T.F_put_node_cell.kp (b_put_node_cell T) .nil pass0 (pa_cons (pv 0) (pa_cons (pv 4) (pa_cons (pe_gc T.c_MAKING) (pa_cons (pe_op op_add (pe_call (ok_node_cell T) hr2 rfl T.mg_node_cell T.F_node_cell.kp (b_node_cell T) .nil pass0 (pa_cons (pv 0) (pa_cons (pv 4) (pa_cons (pe_gc T.c_MAKING) pa_nil)))) pe_int) pa_nil))))))
      (pss_one (ps_ret (pv 4))))))))))), ?_⟩
    obtain ⟨dxp, hpl⟩ := I.pl.ob
    have n1 := I.pl.n1
    have n2 := I.pl.n2
    refine ⟨_, _, rfl, rfl, _, rfl, im, _, _, _, _, rfl, I.ob, T.cl_Image, T.na_Image_plan, rfl, A.pl, _, dxp, _, _, rfl, hpl, T.cl_Plan, T.na_Plan_nodes, rfl, _, _, rfl, rfl, 1 + 1, n + 1, rfl, ⟨by omega, by omega, by omega, by omega⟩, fun D hD => ?_⟩
    refine lc_range (lo := 1 + 1) (n := (n + 1 - (1 + 1)).toNat) (fun i H' => Same H H' ∧ H' D = some (.lst ((unmadeTo b v.M i).map V.int))) ⟨same_upd hD, upd_same⟩ ?_ ?_
    · rintro i H' hi ⟨S, e⟩
      refine ⟨rfl, ?_⟩
      refine ⟨_, rfl, _, rfl, im, A, v, b, n, sl, _, rfl, I.keep S, by omega, by omega, _, rfl, ?_⟩
      by_cases hk : cellAt v.M (nrow b (i + 2)) 0 = 0
      · rw [show (1 : Int) + 1 + i = i + 2 by omega, hk]
        refine iteT ⟨_, rfl, _, e, ?_, fun y o z => ?_, ?_⟩
        · rw [List.length_map]
          have := unmadeTo_len (b := b) (M := v.M) i
          exact small1000 (by omega)
        · rw [upd_ne (ne_of_none z hD)]
          exact S _ _ z
        · rw [upd_same]
          show _ = some (HO.lst (((unmadeTo b v.M i) ++ (if cellAt v.M (nrow b (i + 2)) 0 = 0 then [(i : Int) + 2] else [])).map V.int))
          rw [if_pos hk, List.map_append]
          rfl
      · rw [show (1 : Int) + 1 + i = i + 2 by omega, decide_eq_false hk]
        refine iteF ⟨S, ?_⟩
        unfold unmadeTo
        rw [if_neg hk, List.append_nil]
        exact e
    rintro H1 ⟨S, e⟩
    rw [show (n + 1 - (1 + 1)).toNat = (n - 1).toNat by omega] at e
    refine ⟨_, rfl, D, _, rfl, .inl (.of e), rfl, _, rfl, ite2 (fun z => ?_) (fun z => ?_)⟩
    · have z' := V.int.inj (of_decide_eq_true z)
      rw [List.length_map] at z'
      have : unmadeTo b v.M (n - 1).toNat = [] := by
        cases q : unmadeTo b v.M (n - 1).toNat with
        | nil => rfl
        | cons a r => rw [q] at z'; simp at z'; omega
      exact kE this _ S
    · cases q : unmadeTo b v.M (n - 1).toNat with
      | nil =>
        refine absurd (decide_eq_true ?_) z
        rw [q]
        rfl
      | cons m rest =>
        have hm : m ∈ unmadeTo b v.M (n - 1).toNat := by rw [q]; exact List.mem_cons_self
        obtain ⟨h1, h2, h3⟩ := unmadeTo_mem hm
        have I1 := I.keep S
        obtain ⟨r, row, e1, e2, e3, e4⟩ := I1.node (m := m) (by omega) (by omega)
        have hl := (List.getElem?_eq_some_iff.mp e2).1
        refine ⟨_, rfl, D, _, 0, .int m, rfl, rfl, .of e, atI_nat (j := 0) (by rw [q]; rfl), ?_⟩
        refine ⟨_, rfl, _, rfl, im, A, v, b, n, sl, m, rfl, I1, by omega, by omega, fun H2 I2 k2 => ?_⟩
        refine ⟨_, rfl, _, rfl, _, rfl, im, A, _, b, n, sl, m, 0, kind, rfl, I2, by omega, by omega, by decide, by decide, fun H3 I3 k3 => ?_⟩
        refine ⟨_, rfl, _, rfl, _, rfl, im, A, _, b, n, sl, m, 3, owner, rfl, I3, by omega, by omega, by decide, by decide, fun H4 I4 k4 => ?_⟩
        refine ⟨_, rfl, _, rfl, _, rfl, _, rfl, im, A, _, b, n, sl, m, 7, rfl, I4, by omega, by omega, by decide, by decide, _, _, rfl, rfl, im, A, _, b, n, sl, m, 7, _, rfl, I4, by omega, by omega, by decide, by decide, fun H5 I5 k5 => ?_⟩
        refine ⟨_, rfl, k m rest q H5 ?_ (fun y o z ny => k5 _ _ (k4 _ _ (k3 _ _ (k2 _ _ (S _ _ z) ny) ny) ny) ny)⟩
        dsimp only at I5
        have c0 : (0 : Int).toNat = 0 := rfl
        have c3 : (3 : Int).toNat = 3 := rfl
        have c7 : (7 : Int).toNat = 7 := rfl
        rw [c0, c3, c7, setC_set hl, setC_set hl, cellAt_of (List.getElem?_set_self hl) (x := cellAt v.M (nrow b m) 7) rfl, setC_set hl] at I5
        exact I5
end
end K06
namespace K06
open PySem PySem.Spec PyProof.Rows L2 Rg
/-! ### any(xs), xs a list of whole numbers -/
theorem intsT : ∀ {ns : List Int} {us : List Value}, Vals (ns.map V.int) us → ∀ (i : Nat) (v : Value), us[i]? = some v → ∃ n t, ns[i]? = some n ∧ v = Value.int n t
  | [], us, h, i, v, e => by
    rw [List.map_nil] at h
    cases h
    simp at e
  | n :: ns, us, h, i, v, e => by
    rw [List.map_cons] at h
    cases h with
    | cons r t =>
      obtain ⟨k, rfl⟩ := r
      cases i with
      | zero =>
        simp at e
        exact ⟨n, k, rfl, e.symm⟩
      | succ i => exact intsT t i v (by simpa using e)
theorem any_rangeI : ∀ ns : List Int, (List.range ns.length).any (fun i => ns.getD i 0 != 0) = ns.any fun x => x != 0
  | [] => rfl
  | n :: ns => by
    rw [List.length_cons, List.range_succ_eq_map, List.any_cons, List.any_map, List.any_cons, ← any_rangeI ns]
    all_goals rfl
def rAnyI (K : PySem.W.Frag) : List V → Hp → VK → Prop := fun vs H Q => ∃ (a : Addr) (ns : List Int), vs = [V.ref a] ∧ SqL K H a (ns.map V.int) ∧ Q (.bl (ns.any fun x => x != 0)) H
theorem cr_anyI {X : Cx} (hc : X.calm = true) : CallR X (.builtin "any") (rAnyI X.K) := by
  intro pins s σ H vs us Q I r h
  obtain ⟨a, ns, rfl, hs, q⟩ := h
  obtain ⟨its, rv, hl, _⟩ := I.list hs
  rw [Vals.ref1 r]
  have hb := intsT rv
  have hlen := rv.length
  rw [List.length_map] at hlen
  refine call_any_walk (iter_any hl.isList fun s₂ e2 st hne => ?_)
  subst e2
  refine ⟨_, _, _, _, _, _, fun i => ns.getD i 0 != 0, rfl, Walks.list (A := X.A.in1) (I.ok.hd hc) _ a hne its.toArray, st, fun i v s Q E hv hq => ?_, fun h' tk hk => ?_⟩
  · have hv' : its[i]? = some v := by simpa using hv
    obtain ⟨n, t, e, rfl⟩ := hb i v hv'
    have hg : ns.getD i 0 = n := by rw [List.getD_eq_getElem?_getD, e] <;> rfl
    have hq' : Q (ns.getD i 0 != 0) s := hq
    rw [hg] at hq'
    exact PyProof.Rows.truthy_int hq'
  · refine ⟨.bl _, H, I.kept fun b o eo => hk b o (fun hmem => ?_) (Heap.get?_push_of_some _ eo), ?_, q⟩
    · rcases List.mem_cons.mp hmem with e1 | hmem
      · exact absurd (e1 ▸ Heap.lt_size eo) (Nat.lt_irrefl _)
      · cases hmem
    · show Value.bool _ = Value.bool _
      rw [← any_rangeI, List.size_toArray, hlen]
end K06
namespace K06
open PySem PySem.Spec PyProof.Rows L2 Rg
/-! ### places -/
/-- the cell of the table of places in a node -/
def plc (b : Int) (M : List (List Int)) (m : Int) : Int := cellAt M (nrow b m) 6
/-- place o of node m -/
def plV (b : Int) (M : List (List Int)) (m : Int) (o : Nat) : Int :=
  if o < 2 then cellAt M (nrow b m) (4 + o) else if plc b M m = 0 then 0 else cellAt M (plc b M m).toNat (o - 2)
/-- the table of places is a block of the image, or there is none -/
def PlcOk (b n : Int) (M : List (List Int)) (m : Int) : Prop := plc b M m = 0 ∨ (fdOf b n ≤ plc b M m ∧ plc b M m < b)
section
variable {P : Program} {w : World} {K : PySem.W.Frag} {mg : Str → Option Value} {base : Heap}
theorem ImgAt.rowAt {CI CP : Addr} {H : Hp} {im : Addr} {A : IA} {v : IV} {b n s : Int} (I : ImgAt CI CP H im A v b n s) {x : Nat} (hx : (x : Int) < b) : ∃ r m, A.rs[x]? = some r ∧ v.M[x]? = some m ∧ m.length = 8 ∧ H r = some (.lst (m.map V.int)) := by
  have d0 := I.d0
  have hl : x < v.M.length := by omega
  obtain ⟨r, r1, r2, _⟩ := I.gr.get (List.getElem?_eq_getElem hl)
  exact ⟨r, _, r1, List.getElem?_eq_getElem hl, I.d1 _ (List.getElem_mem hl), r2⟩
def sp_place_block (CI CP : Addr) : Sp := fun vs H Q _ => ∃ (im : Addr) (A : IA) (v : IV) (b n s m : Int) (o : Nat), vs = [.ref im, .int m, .int o] ∧ ImgAt CI CP H im A v b n s ∧ 1 ≤ m ∧ m ≤ n ∧ o < 10 ∧ PlcOk b n v.M m ∧ Q (.int (plV b v.M m o)) H
theorem ok_place_block (T : Tx K mg) : FnOk P w K mg base CX0 3 T.f_place_block T.fd_place_block ["image", "n", "o"] (sp_place_block T.C_Image T.C_Plan) := by
  refine T.F_place_block.ok sc_place_block (fun vs H Q E h => ?_) (fun cdv A0 outer s H vs Q E hr h => ?_)
  · obtain ⟨_, _, _, _, _, _, _, _, rfl, _⟩ := h; rfl
  · obtain ⟨im, A, v, b, n, sl, m, o, rfl, I, h1, h2, ho, hp, k⟩ := h
    refine ⟨_, (pss_cons (ps_if (pt_cmpR op_lt (pv 2) (pe_gc T.c_NODE_PLACES) (nomark _))
        (pss_one (ps_ret (pe_call (ok_node_cell T) hr rfl T.mg_node_cell T.F_node_cell.kp (b_node_cell T) .nil pass0 (pa_cons (pv 0) (pa_cons (pv 1) (pa_cons (pe_op op_add (pe_gc T.c_FIRST_PLACE) (pv 2)) pa_nil))))))
        pss_nil)
      (pss_cons (ps_set (i := 3) sc_place_block.nd rfl (.inl rfl) (pe_call (ok_node_cell T) hr rfl T.mg_node_cell T.F_node_cell.kp (b_node_cell T) .nil pass0 (pa_cons (pv 0) (pa_cons (pv 1) (pa_cons (pe_gc T.c_PLACES) pa_nil)))))
      (pss_one (ps_ret (pe_ifExp (pt_truth (pv 3) (fun _ => rfl)) (pe_ix ix_list (pe_ix ix_list (pe_fld (pv 0) rfl) (pv 3) (fun _ _ => rfl)) (pe_op op_sub (pv 2) (pe_gc T.c_NODE_PLACES)) (fun _ _ => rfl)) pe_int))))), ?_⟩
    refine ⟨_, rfl, _, _, rfl, rfl, _, rfl, ?_⟩
    unfold plV at k
    by_cases q : o < 2
    · rw [decide_eq_true (by omega)]
      rw [if_pos q] at k
      refine iteT ⟨_, rfl, _, rfl, _, rfl, _, _, rfl, rfl, im, A, v, b, n, sl, m, 4 + (o : Int), rfl, I, h1, h2, by omega, by omega, ?_⟩
      rw [show (4 + (o : Int)).toNat = 4 + o by omega]
      exact k
    · rw [decide_eq_false (by omega)]
      rw [if_neg q] at k
      refine iteF ⟨_, rfl, _, rfl, im, A, v, b, n, sl, m, 6, rfl, I, h1, h2, by decide, by decide, ?_⟩
      refine ⟨_, rfl, _, rfl, ?_⟩
      have e6 : cellAt v.M (nrow b m) (6 : Int).toNat = plc b v.M m := rfl
      rw [e6]
      by_cases z : plc b v.M m = 0
      · rw [if_pos z] at k
        rw [z]
        exact iteF k
      · rw [if_neg z] at k
        rcases hp with hp | hp
        · exact absurd hp z
        have hf : fdOf b n = 2 + (b + 8 - 1) / 8 + n := rfl
        have b1 := I.pl.b1
        have n1 := I.pl.n1
        obtain ⟨r, row, r1, r2, r3, r4⟩ := I.rowAt (x := (plc b v.M m).toNat) (by omega)
        have hol : o - 2 < row.length := by omega
        rw [cellAt_of r2 (List.getElem?_eq_getElem hol)] at k
        have hne : (plc b v.M m != 0) = true := by simp [z]
        rw [hne]
        refine iteT ⟨_, rfl, im, _, _, _, _, rfl, I.ob, T.cl_Image, T.na_Image_cells, rfl, _, rfl, A.ca, _, _, .ref r, rfl, rfl, .of I.gr.out, at_of (j := (plc b v.M m).toNat) (by omega) (by rw [List.getElem?_map, r1]; rfl), _, rfl, _, _, rfl, rfl, r, _, _, _, rfl, rfl, .of r4, at_of (j := o - 2) (by omega) (by rw [List.getElem?_map, List.getElem?_eq_getElem hol]; rfl), k⟩
/-- place o of node m set to x -/
def putPl (b : Int) (M : List (List Int)) (m : Int) (o : Nat) (x : Int) : List (List Int) := if o < 2 then setC M (nrow b m) (4 + o) x else setC M (plc b M m).toNat (o - 2) x
def sp_put_place (CI CP : Addr) : Sp := fun vs H Q _ => ∃ (im : Addr) (A : IA) (v : IV) (b n s m : Int) (o : Nat) (x : Int), vs = [.ref im, .int m, .int o, .int x] ∧ ImgAt CI CP H im A v b n s ∧ 1 ≤ m ∧ m ≤ n ∧ o < 10 ∧ (2 ≤ o → fdOf b n ≤ plc b v.M m ∧ plc b v.M m < b) ∧
  ∀ H', ImgAt CI CP H' im A { v with M := putPl b v.M m o x } b n s → Kp A.rs H H' → Q .non H'
theorem ok_put_place (T : Tx K mg) : FnOk P w K mg base CX0 3 T.f_put_place T.fd_put_place ["image", "n", "o", "x"] (sp_put_place T.C_Image T.C_Plan) := by
  refine T.F_put_place.ok sc_put_place (fun vs H Q E h => ?_) (fun cdv A0 outer s H vs Q E hr h => ?_)
  · obtain ⟨_, _, _, _, _, _, _, _, _, rfl, _⟩ := h; rfl
  · obtain ⟨im, A, v, b, n, sl, m, o, x, rfl, I, h1, h2, ho, hp, k⟩ := h
    refine ⟨_, (pss_one (ps_if (pt_cmpR op_lt (pv 2) (pe_gc T.c_NODE_PLACES) (nomark _))
        (pss_one (ps_expr (pe_call (ok_put_node_cell T) hr rfl T.mg_put_node_cell T.F_put_node_cell.kp (b_put_node_cell T) .nil pass0 (pa_cons (pv 0) (pa_cons (pv 1) (pa_cons (pe_op op_add (pe_gc T.c_FIRST_PLACE) (pv 2)) (pa_cons (pv 3) pa_nil)))))))
        (pss_one (ps_asg (pv 3) (pg_sub (pe_ix ix_list (pe_fld (pv 0) rfl) (pe_call (ok_node_cell T) hr rfl T.mg_node_cell T.F_node_cell.kp (b_node_cell T) .nil pass0 (pa_cons (pv 0) (pa_cons (pv 1) (pa_cons (pe_gc T.c_PLACES) pa_nil)))) (fun _ _ => rfl)) (pe_op op_sub (pv 2) (pe_gc T.c_NODE_PLACES)) set_list))))), ?_⟩
    refine ⟨_, rfl, _, _, rfl, rfl, _, rfl, ?_⟩
    unfold putPl at k
    by_cases q : o < 2
    · rw [decide_eq_true (by omega)]
      simp only [if_pos q] at k
      refine iteT ⟨_, rfl, _, rfl, _, rfl, _, _, rfl, rfl, _, rfl, im, A, v, b, n, sl, m, 4 + (o : Int), x, rfl, I, h1, h2, by omega, by omega, fun H' I' k' => ?_⟩
      rw [show (4 + (o : Int)).toNat = 4 + o by omega] at I'
      exact k H' I' k'
    · rw [decide_eq_false (by omega)]
      simp only [if_neg q] at k
      have hp := hp (by omega)
      have hf : fdOf b n = 2 + (b + 8 - 1) / 8 + n := rfl
      have b1 := I.pl.b1
      have n1 := I.pl.n1
      obtain ⟨r, row, r1, r2, r3, r4⟩ := I.rowAt (x := (plc b v.M m).toNat) (by omega)
      refine iteF ⟨_, rfl, _, rfl, im, _, _, _, _, rfl, I.ob, T.cl_Image, T.na_Image_cells, rfl, _, rfl, _, rfl, im, A, v, b, n, sl, m, 6, rfl, I, h1, h2, by decide, by decide, A.ca, _, _, .ref r, rfl, rfl, .of I.gr.out, at_of (j := (plc b v.M m).toNat) (by show plc b v.M m = _; omega) (by rw [List.getElem?_map, r1]; rfl), _, rfl, _, _, rfl, rfl, r, _, _, o - 2, rfl, rfl, r4, ixN_nat (by omega) (by rw [List.length_map]; omega), ?_⟩
      exact k _ (I.setC r1 r2) (Kp.refl.own (List.mem_of_getElem? r1))
def sp_needs (CI CP : Addr) : Sp := fun vs H Q _ => ∃ (im : Addr) (A : IA) (v : IV) (b n s m : Int) (o : Nat), vs = [.ref im, .int m, .int o] ∧ ImgAt CI CP H im A v b n s ∧ 1 ≤ m ∧ m ≤ n ∧ Q (.bl (decide (2 ≤ o) && decide (plc b v.M m = 0))) H
theorem ok_needs (T : Tx K mg) : FnOk P w K mg base CX0 3 T.f_needs_block_of_places T.fd_needs_block_of_places ["image", "n", "o"] (sp_needs T.C_Image T.C_Plan) := by
  refine T.F_needs_block_of_places.ok sc_needs_block_of_places (fun vs H Q E h => ?_) (fun cdv A0 outer s H vs Q E hr h => ?_)
  · obtain ⟨_, _, _, _, _, _, _, _, rfl, _⟩ := h; rfl
  · obtain ⟨im, A, v, b, n, sl, m, o, rfl, I, h1, h2, k⟩ := h
    refine ⟨_, (pss_one (ps_ret (pe_and (pe_cmpR op_ge (pv 2) (pe_gc T.c_NODE_PLACES) (nomark _)) (pe_one (pe_cmpR op_eq (pe_call (ok_node_cell T) hr rfl T.mg_node_cell T.F_node_cell.kp (b_node_cell T) .nil pass0 (pa_cons (pv 0) (pa_cons (pv 1) (pa_cons (pe_gc T.c_PLACES) pa_nil)))) pe_int (nomark _)))))), ?_⟩
    refine ⟨_, rfl, _, _, rfl, rfl, _, rfl, ?_⟩
    by_cases q : 2 ≤ o
    · rw [decide_eq_true (show (o : Int) ≥ 2 by omega)]
      rw [decide_eq_true q] at k
      refine iteT ⟨_, rfl, _, rfl, im, A, v, b, n, sl, m, 6, rfl, I, h1, h2, by decide, by decide, rfl, ?_⟩
      rw [dec_iv]
      exact k
    · rw [decide_eq_false (show ¬ (o : Int) ≥ 2 by omega)]
      rw [decide_eq_false q] at k
      exact iteF k
end
end K06
namespace K06
open PySem PySem.Spec PyProof.Rows L2 Rg
/-! ### rows that are the old ones or new -/
def RsOf (H : Hp) (rs rs' : List Addr) : Prop := ∀ r ∈ rs', r ∈ rs ∨ H r = none
theorem RsOf.refl {H : Hp} {rs : List Addr} : RsOf H rs rs := fun _ h => .inl h
theorem RsOf.set {H : Hp} {rs rs' : List Addr} (h : RsOf H rs rs') {i : Nat} {q : Addr} (hq : H q = none) : RsOf H rs (rs'.set i q) := fun r hr => by
  rcases mem_set_of hr with e | e
  · exact .inr (by rw [e]; exact hq)
  · exact h r e
/-- what an image's rows, lists change, behind rows of which some are new -/
theorem Kp.rsOf {H H1 H2 : Hp} {L rs rs' : List Addr} (k1 : Kp (L ++ rs) H H1) (h : RsOf H rs rs') (k2 : Kp (L ++ rs') H1 H2) : Kp (L ++ rs) H H2 := fun x o e n => by
  refine k2 _ _ (k1 x o e n) fun z => ?_
  rcases List.mem_append.mp z with z | z
  · exact n (List.mem_append.mpr (.inl z))
  · rcases h x z with q | q
    · exact n (List.mem_append.mpr (.inr q))
    · rw [q] at e
      cases e
def ft3 (A : IA) : List Addr := [A.ca, A.ho, A.st]
theorem ft3_eq {A : IA} : ft3 A ++ A.rs = A.ca :: A.ho :: A.st :: A.rs := rfl
/-- the block of places freed, if it holds nothing -/
def dropB (b : Int) (v : IV) (m : Int) (o : Nat) : IV :=
  if plc b v.M m = 0 ∨ ((v.M[(plc b v.M m).toNat]?).getD []).any (fun x => x != 0) = true then v
  else { giveV v (plc b v.M m).toNat o with M := setC (giveV v (plc b v.M m).toNat o).M (nrow b m) 6 0 }
section
variable {P : Program} {w : World} {K : PySem.W.Frag} {mg : Str → Option Value} {base : Heap}
def sp_drop_block (CI CP : Addr) : Sp := fun vs H Q _ => ∃ (im : Addr) (A : IA) (v : IV) (b n s m : Int) (o : Nat), vs = [.ref im, .int m] ∧ ImgAt CI CP H im A v b n s ∧ 1 ≤ m ∧ m ≤ n ∧ PlcOk b n v.M m ∧ cellAt v.M (nrow b m) 3 = o ∧ o < 4 ∧
  ∀ H' rs', RsOf H A.rs rs' → ImgAt CI CP H' im { A with rs := rs' } (dropB b v m o) b n s → Kp (ft3 A ++ A.rs) H H' → Q .non H'
theorem ok_drop_block (T : Tx K mg) : FnOk P w K mg base CX0 4 T.f_drop_block_of_places T.fd_drop_block_of_places ["image", "n"] (sp_drop_block T.C_Image T.C_Plan) := by
  refine T.F_drop_block_of_places.ok sc_drop_block_of_places (fun vs H Q E h => ?_) (fun cdv A0 outer s H vs Q E hr h => ?_)
  · obtain ⟨_, _, _, _, _, _, _, _, rfl, _⟩ := h; rfl
  · obtain ⟨im, A, v, b, n, sl, m, o, rfl, I, h1, h2, hp, ho, ho4, k⟩ := h
    have hr2 : Room 2 _ := hr.mono (by decide)
    refine ⟨_, (pss_cons (ps_set (i := 2) sc_drop_block_of_places.nd rfl (.inl rfl) (pe_call (ok_node_cell T) hr2 rfl T.mg_node_cell T.F_node_cell.kp (b_node_cell T) .nil pass0 (pa_cons (pv 0) (pa_cons (pv 1) (pa_cons (pe_gc T.c_PLACES) pa_nil)))))
      (pss_one (ps_if (PW.pt (pw_and (pt_truth (pv 2) (fun _ => rfl)) (pw_and1 (pt_not (pt_val (pe_callB (cr_anyI rfl) rfl T.b_any (by decide +kernel) (pa_cons (pe_ix ix_list (pe_fld (pv 0) rfl) (pv 2) (fun _ _ => rfl)) pa_nil)))))))
        (pss_cons (ps_expr (pe_meth (pv 0) T.cl_Image T.m_Image_give (ok_give T) hr (b_Image_give T) .nil pass0 (pa_cons (pv 2) (pa_cons (pe_call (ok_node_cell T) hr2 rfl T.mg_node_cell T.F_node_cell.kp (b_node_cell T) .nil pass0 (pa_cons (pv 0) (pa_cons (pv 1) (pa_cons (pe_gc T.c_OWNER) pa_nil)))) pa_nil))))
        (pss_one (ps_expr (pe_call (ok_put_node_cell T) hr2 rfl T.mg_put_node_cell T.F_put_node_cell.kp (b_put_node_cell T) .nil pass0 (pa_cons (pv 0) (pa_cons (pv 1) (pa_cons (pe_gc T.c_PLACES) (pa_cons pe_int pa_nil))))))))
        pss_nil))), ?_⟩
    refine ⟨_, rfl, _, rfl, im, A, v, b, n, sl, m, 6, rfl, I, h1, h2, by decide, by decide, ?_⟩
    have e6 : cellAt v.M (nrow b m) (6 : Int).toNat = plc b v.M m := rfl
    rw [e6]
    refine ⟨_, rfl, _, rfl, ?_⟩
    unfold dropB at k
    by_cases z : plc b v.M m = 0
    · simp only [if_pos (Or.inl z : plc b v.M m = 0 ∨ ((v.M[(plc b v.M m).toNat]?).getD []).any (fun x => x != 0) = true)] at k
      have hz : (plc b v.M m != 0) = false := by simp [z]
      rw [hz]
      exact iteF (k H A.rs RsOf.refl I Kp.refl)
    · have hz : (plc b v.M m != 0) = true := by simp [z]
      rw [hz]
      rcases hp with hp | hp
      · exact absurd hp z
      have hf : fdOf b n = 2 + (b + 8 - 1) / 8 + n := rfl
      have b1 := I.pl.b1
      have n1 := I.pl.n1
      obtain ⟨x, ex⟩ : ∃ x : Nat, plc b v.M m = x := ⟨(plc b v.M m).toNat, by omega⟩
      rw [ex] at k hp ⊢
      obtain ⟨r, row, r1, r2, r3, r4⟩ := I.rowAt (x := x) (by omega)
      have ext : ((x : Nat) : Int).toNat = x := by omega
      rw [ext, r2] at k
      refine iteT ⟨_, rfl, im, _, _, _, _, rfl, I.ob, T.cl_Image, T.na_Image_cells, rfl, _, rfl, A.ca, _, _, .ref r, rfl, rfl, .of I.gr.out, atI_nat (by rw [List.getElem?_map, r1]; rfl), r, row, rfl, .of r4, _, rfl, ?_⟩
      by_cases an : row.any (fun x => x != 0) = true
      · have e : ((x : Int) = 0 ∨ ((some row).getD []).any (fun x => x != 0) = true) := .inr an
        simp only [if_pos e] at k
        rw [an]
        exact iteF (k H A.rs RsOf.refl I Kp.refl)
      · have e : ¬ ((x : Int) = 0 ∨ ((some row).getD []).any (fun x => x != 0) = true) := fun y => y.elim (fun q => z (by rw [ex]; exact q)) an
        simp only [if_neg e] at k
        have an' : row.any (fun x => x != 0) = false := by
          cases q : row.any (fun x => x != 0) with
          | false => rfl
          | true => exact absurd q an
        rw [an']
        refine iteT ⟨_, rfl, im, _, _, rfl, I.ob, rfl, _, rfl, _, rfl, _, rfl, im, A, v, b, n, sl, m, 3, rfl, I, h1, h2, by decide, by decide, im, A, v, b, n, sl, x, o, ?_, I, hp.1, hp.2, ho4, fun H1 q nq I1 k1 => ?_⟩
        · rw [show cellAt v.M (nrow b m) (3 : Int).toNat = (o : Int) from ho]
          rfl
        · refine ⟨_, rfl, _, rfl, im, _, _, b, n, sl, m, 6, 0, rfl, I1, h1, h2, by decide, by decide, fun H2 I2 k2 => ?_⟩
          have R1 : RsOf H A.rs (A.rs.set x q) := RsOf.refl.set nq
          refine k H2 _ R1 I2 (Kp.rsOf (L := ft3 A) k1 R1 (k2.mono fun y hy => List.mem_append.mpr (.inr hy)))
end
end K06
namespace K06
open PySem PySem.Spec PyProof.Rows L2 Rg
theorem cellAt_congr' {M R : List (List Int)} {i j : Nat} (h : M[i]? = R[i]?) : cellAt M i j = cellAt R i j := by
  unfold cellAt
  rw [h]
theorem cellAt_setC {M : List (List Int)} {i j k : Nat} {x : Int} (h : k ≠ j) : cellAt (setC M i j x) i k = cellAt M i k := by
  by_cases hi : i < M.length
  · have e := List.getElem?_eq_getElem hi
    unfold cellAt
    rw [setC_at e, e]
    show ((M[i].set j x)[k]?).getD 0 = (M[i][k]?).getD 0
    rw [List.getElem?_set_ne (fun z => h z.symm)]
  · unfold setC
    rw [List.set_eq_of_length_le (by omega)]
theorem cellAt_setC_row {M : List (List Int)} {i i' j k : Nat} {x : Int} (h : i ≠ i') : cellAt (setC M i j x) i' k = cellAt M i' k := cellAt_congr' (setC_row h)
theorem putB_row {v : IV} {x y : Nat} {kind serial : Int} (h1 : y ≠ 2 + x / 8) (h2 : y ≠ x) : (putB v x kind serial).M[y]? = v.M[y]? := by
  show ((setC v.M (2 + x / 8) (x % 8) kind).set x (List.replicate 8 0))[y]? = _
  rw [List.getElem?_set_ne (fun z => h2 z.symm), setC_row (fun z => h1 z.symm)]
theorem giveV_row {v : IV} {x y o : Nat} (h0 : y ≠ 0) (h1 : y ≠ 2 + x / 8) (h2 : y ≠ x) : (giveV v x o).M[y]? = v.M[y]? := by
  show (setC (putB v x 0 0).M 0 o (cellAt v.M 0 o - 1))[y]? = _
  rw [setC_row (fun z => h0 z.symm), putB_row h1 h2]
theorem takeV_row {v : IV} {x y o : Nat} {kind : Int} (h0 : y ≠ 0) (h1 : y ≠ 2 + x / 8) (h2 : y ≠ x) : (takeV v x kind o).M[y]? = v.M[y]? := by
  show (setC (putB v x kind v.se).M 0 o (cellAt v.M 0 o + 1))[y]? = _
  rw [setC_row (fun z => h0 z.symm), putB_row h1 h2]
/-- a node's row is none of those that a take or a give changes -/
theorem node_apart {b n m : Int} {x : Nat} (hb : 8 ≤ b) (hn : 2 ≤ n) (h1 : 1 ≤ m) (h2 : m ≤ n) (hx : fdOf b n ≤ x) (hxb : (x : Int) < b) : nrow b m ≠ 0 ∧ nrow b m ≠ 2 + x / 8 ∧ nrow b m ≠ x ∧ (nrow b m : Int) < fdOf b n := by
  unfold fdOf at hx ⊢
  unfold nrow
  refine ⟨by omega, by omega, by omega, by omega⟩
def dropP (b : Int) (v : IV) (m : Int) (o ow : Nat) : IV :=
  if plV b v.M m o = 0 then v
  else dropB b { giveV v (plV b v.M m o).toNat ow with M := putPl b (giveV v (plV b v.M m o).toNat ow).M m o 0 } m ow
section
variable {P : Program} {w : World} {K : PySem.W.Frag} {mg : Str → Option Value} {base : Heap}
/-- the places of a node are blocks of the image, none of them the table -/
def PlOk (b n : Int) (M : List (List Int)) (m : Int) (o : Nat) : Prop := plV b M m o = 0 ∨ (fdOf b n ≤ plV b M m o ∧ plV b M m o < b)
def sp_drop_place (CI CP : Addr) : Sp := fun vs H Q _ => ∃ (im : Addr) (A : IA) (v : IV) (b n s m : Int) (o ow : Nat), vs = [.ref im, .int m, .int o] ∧ ImgAt CI CP H im A v b n s ∧ 1 ≤ m ∧ m ≤ n ∧ o < 10 ∧ PlcOk b n v.M m ∧ PlOk b n v.M m o ∧ cellAt v.M (nrow b m) 3 = ow ∧ ow < 4 ∧
  ∀ H' rs', RsOf H A.rs rs' → ImgAt CI CP H' im { A with rs := rs' } (dropP b v m o ow) b n s → Kp (ft3 A ++ A.rs) H H' → Q .non H'
theorem ok_drop_place (T : Tx K mg) : FnOk P w K mg base CX0 5 T.f_drop_place T.fd_drop_place ["image", "n", "o"] (sp_drop_place T.C_Image T.C_Plan) := by
  refine T.F_drop_place.ok sc_drop_place (fun vs H Q E h => ?_) (fun cdv A0 outer s H vs Q E hr h => ?_)
  · obtain ⟨_, _, _, _, _, _, _, _, _, rfl, _⟩ := h; rfl
  · obtain ⟨im, A, v, b, n, sl, m, o, ow, rfl, I, h1, h2, ho, hp, hx, how, how4, k⟩ := h
    have hr2 : Room 2 _ := hr.mono (by decide)
    have hr3 : Room 3 _ := hr.mono (by decide)
    refine ⟨_, (pss_cons (ps_set (i := 3) sc_drop_place.nd rfl (.inl rfl) (pe_call (ok_place_block T) hr3 rfl T.mg_place_block T.F_place_block.kp (b_place_block T) .nil pass0 (pa_cons (pv 0) (pa_cons (pv 1) (pa_cons (pv 2) pa_nil)))))
      (pss_one (ps_if (pt_truth (pv 3) (fun _ => rfl))
        (pss_cons (ps_expr (pe_meth (pv 0) T.cl_Image T.m_Image_give (ok_give T) hr3 (b_Image_give T) .nil pass0 (pa_cons (pv 3) (pa_cons (pe_call (ok_node_cell T) hr2 rfl T.mg_node_cell T.F_node_cell.kp (b_node_cell T) .nil pass0 (pa_cons (pv 0) (pa_cons (pv 1) (pa_cons (pe_gc T.c_OWNER) pa_nil)))) pa_nil))))
        (pss_cons (ps_expr (pe_call (ok_put_place T) hr3 rfl T.mg_put_place T.F_put_place.kp (b_put_place T) .nil pass0 (pa_cons (pv 0) (pa_cons (pv 1) (pa_cons (pv 2) (pa_cons pe_int pa_nil))))))
        (pss_one (ps_expr (pe_call (ok_drop_block T) hr rfl T.mg_drop_block_of_places T.F_drop_block_of_places.kp (b_drop_block_of_places T) .nil pass0 (pa_cons (pv 0) (pa_cons (pv 1) pa_nil)))))))
        pss_nil))), ?_⟩
    refine ⟨_, rfl, _, rfl, _, rfl, im, A, v, b, n, sl, m, o, rfl, I, h1, h2, ho, hp, ?_⟩
    refine ⟨_, rfl, _, rfl, ?_⟩
    unfold dropP at k
    by_cases z : plV b v.M m o = 0
    · simp only [if_pos z] at k
      have hz : (plV b v.M m o != 0) = false := by simp [z]
      rw [hz]
      exact iteF (k H A.rs RsOf.refl I Kp.refl)
    · simp only [if_neg z] at k
      have hz : (plV b v.M m o != 0) = true := by simp [z]
      rw [hz]
      rcases hx with hx | hx
      · exact absurd hx z
      have b1 := I.pl.b1
      have n1 := I.pl.n1
      have hfd : (0 : Int) ≤ fdOf b n := by unfold fdOf; omega
      obtain ⟨x, ex⟩ : ∃ x : Nat, plV b v.M m o = x := ⟨(plV b v.M m o).toNat, by omega⟩
      rw [ex] at k hx ⊢
      rw [show ((x : Nat) : Int).toNat = x by omega] at k
      obtain ⟨a1, a2, a3, a4⟩ := node_apart b1 n1 h1 h2 hx.1 hx.2
      refine iteT ⟨_, rfl, im, _, _, rfl, I.ob, rfl, _, rfl, _, rfl, _, rfl, im, A, v, b, n, sl, m, 3, rfl, I, h1, h2, by decide, by decide, im, A, v, b, n, sl, x, ow, ?_, I, hx.1, hx.2, how4, fun H1 q nq I1 k1 => ?_⟩
      · rw [show cellAt v.M (nrow b m) (3 : Int).toNat = (ow : Int) from how]
        rfl
      have cg : ∀ j, cellAt (giveV v x ow).M (nrow b m) j = cellAt v.M (nrow b m) j := fun j => cellAt_congr' (giveV_row a1 a2 a3)
      have pg : plc b (giveV v x ow).M m = plc b v.M m := cg 6
      have tbl : 2 ≤ o → fdOf b n ≤ plc b v.M m ∧ plc b v.M m < b := fun h => by
        rcases hp with hp | hp
        · unfold plV at ex
          rw [if_neg (by omega), if_pos hp] at ex
          omega
        · exact hp
      have R1 : RsOf H A.rs (A.rs.set x q) := RsOf.refl.set nq
      refine ⟨_, rfl, _, rfl, _, rfl, im, _, _, b, n, sl, m, o, 0, rfl, I1, h1, h2, ho, fun h => by rw [pg]; exact tbl h, fun H2 I2 k2 => ?_⟩
      have k12 : Kp (ft3 A ++ A.rs) H H2 := Kp.rsOf (L := ft3 A) k1 R1 (k2.mono fun y hy => List.mem_append.mpr (.inr hy))
      have cp : ∀ j, j ≠ 4 + o → cellAt (putPl b (giveV v x ow).M m o 0) (nrow b m) j = cellAt v.M (nrow b m) j := fun j hj => by
        unfold putPl
        by_cases h : o < 2
        · rw [if_pos h, cellAt_setC hj, cg]
        · rw [if_neg h, pg, cellAt_setC_row, cg]
          have := tbl (by omega)
          omega
      have pp : plc b (putPl b (giveV v x ow).M m o 0) m = plc b v.M m := by
        unfold plc
        by_cases h : o < 2
        · exact cp 6 (by omega)
        · unfold putPl
          rw [if_neg h, pg, cellAt_setC_row, cg]
          · have := tbl (by omega)
            omega
      have c3 : cellAt (putPl b (giveV v x ow).M m o 0) (nrow b m) 3 = ow := by
        rw [cp 3 (by omega)]
        exact how
      refine ⟨_, rfl, _, rfl, im, _, _, b, n, sl, m, ow, rfl, I2, h1, h2, ?_, c3, how4, fun H3 rs' R3 I3 k3 => ?_⟩
      · unfold PlcOk
        show plc b (putPl b (giveV v x ow).M m o 0) m = 0 ∨ _
        rw [pp]
        exact hp
      · refine k H3 rs' (fun r hr => ?_) I3 (Kp.rsOf (L := ft3 A) k12 R1 k3)
        rcases R3 r hr with e | e
        · exact R1 r e
        · by_cases hold : r ∈ A.rs
          · exact .inl hold
          refine .inr ?_
          cases qh : H r with
          | none => rfl
          | some u =>
            by_cases hin : r ∈ ft3 A ++ A.rs
            · exfalso
              rcases List.mem_append.mp hin with y | y
              · simp only [ft3, List.mem_cons, List.not_mem_nil, or_false] at y
                rcases y with rfl | rfl | rfl
                · have := I2.gr.out; rw [e] at this; cases this
                · have := I2.ho; rw [e] at this; cases this
                · have := I2.st; rw [e] at this; cases this
              · exact hold y
            · rw [k12 r u qh hin] at e
              cases e
end
end K06
namespace K06
open PySem PySem.Spec PyProof.Rows L2 Rg
section
variable {X : Cx} {CX : CXT} {k : Nat} {f C : Addr} {fd : FuncData} {ps : List Str} {sp : Sp} {E : L2.St → XK} {m : Str} {p pos apos : Pos} {e o : Expr} {es : List Expr} {ta : TE} {t : TA}
/-- o.m(e, ..), what the body raises told slot by slot -/
def tMethS (C : Addr) (m : Str) (sp : Sp) (E : L2.St → XK) (ta : TE) (t : TA) : TE := fun σ H Q => ta σ H fun x H1 => ∃ a dx fs, x = .ref a ∧ H1 a = some (.ins C dx fs) ∧ fs.lookup m = none ∧ t σ H1 fun vs H2 => sp (.ref a :: vs) H2 Q (E σ)
theorem pe_methT {pl : Sem Bool} (he : PE X o ta) (c : Cls X.K C) (hm : Meth X.K C m f) (F : FnOk X.prog X.w X.K X.mg X.base CX k f fd ps sp) (hr : Room k X.A) (hb : Binds X.K fd ps []) (hx : ∀ σ, PassesAt CX X σ (E σ)) (ha : PA X (e :: es) t)
    (hst : starEach (e :: es) X.env = (false, eval e X.env) :: starEach es X.env := by rfl) (hpl : (backTo pos (starEach es X.env)).any (·.1) = false := by rfl)
    (ht : eval (.Call (.Attribute o m apos) (e :: es) [] pos) X.env = (do
      let ov ← eval o X.env
      standAt apos.atName
      let (f, first) ← holding [ov] (getMethod ov m pl)
      callWith pos f first (backTo pos (starEach (e :: es) X.env)) (backToKw pos (keywordEach [] X.env))) := by rfl) :
    PE X (.Call (.Attribute o m apos) (e :: es) [] pos) (tMethS C m sp E ta t) := by
  refine ⟨fun pins s σ H Q I h => ?_⟩
  refine PySem.W.methodCall_KW (pl := pl) (thn (he.run pins s σ H _ I h) fun u s1 ⟨x, H1, I1, rx, a, dx, fs, ex, ea, l, q⟩ => ?_) ht
  subst ex
  obtain rfl : u = Value.ref a := rx
  refine getmeth_ok I1 ea c hm l ?_
  refine PySem.W.callWith_K (first := [.ref a]) (h₀ := X.base) I.ok.mod.kin hm.kp (thn (ha.run pos pins s1 σ H1 _ I1 q) fun us s2 ⟨vs, H2, I2, r, q2⟩ => ⟨I2.kIn, ?_⟩) hst hpl
  exact run_fnS (us := .ref a :: us) (vs := .ref a :: vs) F hr hb (hx σ) I2 (.cons rfl r) q2
def tEither (t u : TS) : TS := fun E σ H => t E σ H ∨ u E σ H
theorem pss_either {sts : List Stmt} {t u : TS} (h1 : PSs X sts t) (h2 : PSs X sts u) : PSs X sts (tEither t u) := ⟨fun pins s σ H E I hh => hh.elim (h1.run pins s σ H E I) (h2.run pins s σ H E I)⟩
end
/-- a block taken and put at a place -/
def takP (b : Int) (v : IV) (m : Int) (o ow : Nat) (kind : Int) (x : Nat) : IV := { takeV v x kind ow with M := putPl b (takeV v x kind ow).M m o x }
/-- the table taken -/
def takT (b : Int) (v : IV) (m : Int) (ow : Nat) (x : Nat) : IV := { takeV v x 1 ow with M := setC (takeV v x 1 ow).M (nrow b m) 6 x }
theorem RsOf.trans2 {H H1 : Hp} {L rs rs1 rs2 : List Addr} (k : Kp (L ++ rs) H H1) (hL : ∀ x ∈ L, ∃ o, H1 x = some o) (h1 : RsOf H rs rs1) (h2 : RsOf H1 rs1 rs2) : RsOf H rs rs2 := fun r hr => by
  rcases h2 r hr with e | e
  · exact h1 r e
  · by_cases hold : r ∈ rs
    · exact .inl hold
    refine .inr ?_
    cases qh : H r with
    | none => rfl
    | some u =>
      by_cases hin : r ∈ L ++ rs
      · exfalso
        rcases List.mem_append.mp hin with y | y
        · obtain ⟨o, e2⟩ := hL r y
          rw [e] at e2
          cases e2
        · exact hold y
      · rw [k r u qh hin] at e
        cases e
theorem ImgAt.ft3h {CI CP : Addr} {H : Hp} {im : Addr} {A : IA} {v : IV} {b n s : Int} (I : ImgAt CI CP H im A v b n s) : ∀ x ∈ ft3 A, ∃ o, H x = some o := fun x hx => by
  simp only [ft3, List.mem_cons, List.not_mem_nil, or_false] at hx
  rcases hx with rfl | rfl | rfl
  · exact ⟨_, I.gr.out⟩
  · exact ⟨_, I.ho⟩
  · exact ⟨_, I.st⟩
section
variable {P : Program} {w : World} {K : PySem.W.Frag} {mg : Str → Option Value} {base : Heap}
theorem pick_fd {b n kind wi : Int} {M : List (List Int)} {ba : List Int} {x : Nat} (hb : 8 ≤ b) (hn : 2 ≤ n) (h : pickL (letL b n M kind ba) wi = some (x : Int)) : fdOf b n ≤ x ∧ (x : Int) < b := by
  have h1 := freeL_mem (letL_mem (pickL_mem h))
  unfold fdOf at h1 ⊢
  omega
theorem take_node {b n m : Int} {v : IV} {x ow j : Nat} {kind : Int} (hb : 8 ≤ b) (hn : 2 ≤ n) (h1 : 1 ≤ m) (h2 : m ≤ n) (hx : fdOf b n ≤ x) (hxb : (x : Int) < b) : cellAt (takeV v x kind ow).M (nrow b m) j = cellAt v.M (nrow b m) j := by
  obtain ⟨a1, a2, a3, a4⟩ := node_apart hb hn h1 h2 hx hxb
  exact cellAt_congr' (takeV_row a1 a2 a3)
end
end K06
namespace K06
open PySem PySem.Spec PyProof.Rows L2 Rg
/-- what filling place o of node m comes to: an error, or the image behind it -/
def FillE (b n : Int) (v : IV) (ow : Nat) (kind : Int) (oq bf : Prop) : Prop := (quota v ow → oq) ∧ (¬ quota v ow → letL b n v.M kind v.ba = [] → bf)
def needsT (b : Int) (v : IV) (m : Int) (o : Nat) : Bool := decide (2 ≤ o) && decide (plc b v.M m = 0)
section
variable {P : Program} {w : World} {K : PySem.W.Frag} {mg : Str → Option Value} {base : Heap}
def sp_fill (CI CP CO CB : Addr) : Sp := fun vs H Q E => ∃ (im : Addr) (A : IA) (v : IV) (b n s m : Int) (o ow : Nat), vs = [.ref im, .int m, .int o] ∧ ImgAt CI CP H im A v b n s ∧ 1 ≤ m ∧ m ≤ n ∧ o < 10 ∧ PlcOk b n v.M m ∧ cellAt v.M (nrow b m) 3 = ow ∧ ow < 4 ∧ (cellAt v.M 0 ow).natAbs.log2 < 1910 ∧
  (needsT b v m o = false →
    (quota v ow → ∀ H', Same H H' → E (.ref CO) none H') ∧
    (¬ quota v ow → letL b n v.M 2 v.ba = [] → ∀ H', Same H H' → E (.ref CB) none H') ∧
    (¬ quota v ow → ∀ x : Nat, pickL (letL b n v.M 2 v.ba) v.wi = some (x : Int) → ∀ H' rs', RsOf H A.rs rs' → ImgAt CI CP H' im { A with rs := rs' } (takP b v m o ow 2 x) b n s → Kp (ft3 A ++ A.rs) H H' → Q (.int x) H')) ∧
  (needsT b v m o = true →
    (quota v ow → ∀ H', Same H H' → E (.ref CO) none H') ∧
    (¬ quota v ow → letL b n v.M 1 v.ba = [] → ∀ H', Same H H' → E (.ref CB) none H') ∧
    (¬ quota v ow → ∀ t : Nat, pickL (letL b n v.M 1 v.ba) v.wi = some (t : Int) →
      (quota (takT b v m ow t) ow → ∀ H', Kp (ft3 A ++ A.rs) H H' → E (.ref CO) none H') ∧
      (¬ quota (takT b v m ow t) ow → letL b n (takT b v m ow t).M 2 v.ba = [] → ∀ H', Kp (ft3 A ++ A.rs) H H' → E (.ref CB) none H') ∧
      (¬ quota (takT b v m ow t) ow → ∀ x : Nat, pickL (letL b n (takT b v m ow t).M 2 v.ba) v.wi = some (x : Int) → ∀ H' rs', RsOf H A.rs rs' → ImgAt CI CP H' im { A with rs := rs' } (takP b (takT b v m ow t) m o ow 2 x) b n s → Kp (ft3 A ++ A.rs) H H' → Q (.int x) H')))
theorem log_succ {x : Int} (h : x.natAbs.log2 < 1910) : (x + 1).natAbs.log2 < 1920 := by
  by_cases e : (x + 1).natAbs = 0
  · rw [e]; decide
  rw [Nat.log2_lt e]
  have h2 : x.natAbs < 2 ^ 1910 := by
    by_cases e2 : x.natAbs = 0
    · rw [e2]; exact Nat.pow_pos (by decide)
    · exact (Nat.log2_lt e2).mp h
  have h3 : (2 : Nat) ^ (1910 + 10) = 2 ^ 1910 * 2 ^ 10 := Nat.pow_add 2 1910 10
  have h4 : 1 ≤ (2 : Nat) ^ 1910 := Nat.pow_pos (by decide)
  show (x + 1).natAbs < 2 ^ (1910 + 10)
  rw [h3]
  generalize (2 : Nat) ^ 1910 = p at h2 h4 ⊢
  omega
theorem ok_fill (T : Tx K mg) : FnOk P w K mg base (L2N.CX P w) 5 T.f_fill_place T.fd_fill_place ["image", "n", "o"] (sp_fill T.C_Image T.C_Plan T.C_OverQuota T.C_BlocksFull) := by
  refine T.F_fill_place.okN sc_fill_place (fun vs H Q E h => ?_) (fun cdv A0 outer s H vs Q E hr h => ?_)
  · obtain ⟨_, _, _, _, _, _, _, _, _, rfl, _⟩ := h; rfl
  · obtain ⟨im, A, v, b, n, sl, m, o, ow, rfl, I, h1, h2, ho, hp, how, how4, hlg, kN, kT⟩ := h
    have hr2 : Room 2 _ := hr.mono (by decide)
    have hr3 : Room 3 _ := hr.mono (by decide)
    refine ⟨_, (pss_cons (ps_set (i := 3) sc_fill_place.nd rfl (.inl rfl) (pe_call (ok_node_cell T) hr2 rfl T.mg_node_cell T.F_node_cell.kp (b_node_cell T) .nil pass0 (pa_cons (pv 0) (pa_cons (pv 1) (pa_cons (pe_gc T.c_OWNER) pa_nil)))))
      (pss_cons (ps_if (pt_val (pe_call (ok_needs T) hr3 rfl T.mg_needs_block_of_places T.F_needs_block_of_places.kp (b_needs_block_of_places T) .nil pass0 (pa_cons (pv 0) (pa_cons (pv 1) (pa_cons (pv 2) pa_nil)))))
        (pss_one (ps_expr (pe_call (ok_put_node_cell T) hr2 rfl T.mg_put_node_cell T.F_put_node_cell.kp (b_put_node_cell T) .nil pass0 (pa_cons (pv 0) (pa_cons (pv 1) (pa_cons (pe_gc T.c_PLACES) (pa_cons (pe_methT (pv 0) T.cl_Image T.m_Image_take (ok_take T) hr (b_Image_take T) (fun σ => L2N.passAt (L2N.takes_of rfl rfl rfl rfl) σ) (pa_cons (pe_cv T.mg_Plan T.cr_Plan T.cv_Plan_LOGGED) (pa_cons (pv 3) pa_nil))) pa_nil)))))))
        pss_nil)
      (pss_cons (ps_set (i := 4) sc_fill_place.nd rfl (.inl rfl) (pe_methT (pv 0) T.cl_Image T.m_Image_take (ok_take T) hr (b_Image_take T) (fun σ => L2N.passAt (L2N.takes_of rfl rfl rfl rfl) σ) (pa_cons (pe_cv T.mg_Plan T.cr_Plan T.cv_Plan_PLAIN) (pa_cons (pv 3) pa_nil))))
      (pss_cons (ps_expr (pe_call (ok_put_place T) hr3 rfl T.mg_put_place T.F_put_place.kp (b_put_place T) .nil pass0 (pa_cons (pv 0) (pa_cons (pv 1) (pa_cons (pv 2) (pa_cons (pv 4) pa_nil))))))
      (pss_one (ps_ret (pv 4))))))), ?_⟩
    have b1 := I.pl.b1
    have n1 := I.pl.n1
    refine ⟨_, rfl, _, rfl, im, A, v, b, n, sl, m, 3, rfl, I, h1, h2, by decide, by decide, ?_⟩
    rw [show cellAt v.M (nrow b m) (3 : Int).toNat = (ow : Int) from how]
    refine ⟨_, rfl, _, rfl, _, rfl, im, A, v, b, n, sl, m, o, rfl, I, h1, h2, _, rfl, ?_⟩
    change if needsT b v m o = true then _ else _
    cases hn : needsT b v m o with
    | false =>
      obtain ⟨kQ, kB, k⟩ := kN hn
      refine iteF ⟨_, rfl, im, _, _, rfl, I.ob, rfl, _, rfl, im, A, v, b, n, sl, 2, ow, rfl, I, how4, by omega, kQ, kB, fun nq x hx H1 q hq I1 k1 => ?_⟩
      have hxf := pick_fd b1 n1 hx
      have pg : plc b (takeV v x 2 ow).M m = plc b v.M m := take_node b1 n1 h1 h2 hxf.1 hxf.2
      have R1 : RsOf H A.rs (A.rs.set x q) := RsOf.refl.set hq
      refine ⟨_, rfl, _, rfl, _, rfl, _, rfl, im, _, _, b, n, sl, m, o, (x : Int), rfl, I1, h1, h2, ho, fun h => ?_, fun H2 I2 k2 => ?_⟩
      · rw [pg]
        rcases hp with e | e
        · unfold needsT at hn
          rw [decide_eq_true h, decide_eq_true e] at hn
          cases hn
        · exact e
      · exact ⟨_, rfl, k nq x hx H2 _ R1 I2 (Kp.rsOf (L := ft3 A) k1 R1 (k2.mono fun y hy => List.mem_append.mpr (.inr hy)))⟩
    | true =>
      obtain ⟨kQ, kB, k⟩ := kT hn
      refine iteT ⟨_, rfl, _, rfl, _, rfl, im, _, _, rfl, I.ob, rfl, _, rfl, im, A, v, b, n, sl, 1, ow, rfl, I, how4, by omega, kQ, kB, fun nq t ht H1 q hq I1 k1 => ?_⟩
      obtain ⟨kQ2, kB2, k2'⟩ := k nq t ht
      have htf := pick_fd b1 n1 ht
      have R1 : RsOf H A.rs (A.rs.set t q) := RsOf.refl.set hq
      refine ⟨im, _, _, b, n, sl, m, 6, (t : Int), rfl, I1, h1, h2, by decide, by decide, fun H2 I2 k2 => ?_⟩
      have k12 : Kp (ft3 A ++ A.rs) H H2 := Kp.rsOf (L := ft3 A) k1 R1 (k2.mono fun y hy => List.mem_append.mpr (.inr hy))
      have I2' : ImgAt T.C_Image T.C_Plan H2 im { A with rs := A.rs.set t q } (takT b v m ow t) b n sl := I2
      have c0 : cellAt (takT b v m ow t).M 0 ow = cellAt v.M 0 ow + 1 := by
        have hnr := (node_apart b1 n1 h1 h2 htf.1 htf.2).1
        show cellAt (setC (takeV v t 1 ow).M (nrow b m) 6 t) 0 ow = _
        rw [cellAt_setC_row hnr]
        show cellAt (setC (putB v t 1 v.se).M 0 ow (cellAt v.M 0 ow + 1)) 0 ow = _
        obtain ⟨r, row, r1, r2, r3, r4⟩ := I.row0
        have ht0 : t ≠ 0 := by
          have := htf.1
          unfold fdOf at this
          omega
        have e0 : (putB v t 1 v.se).M[0]? = some row := by rw [putB_row0 ht0]; exact r2
        have hol : ow < (row.set ow (cellAt v.M 0 ow + 1)).length := by rw [List.length_set]; omega
        rw [cellAt_of (setC_at e0) (List.getElem?_eq_getElem hol), List.getElem_set_self]
      have ptb : plc b (takT b v m ow t).M m = t := by
        have d0 := I.d0
        show cellAt (setC (takeV v t 1 ow).M (nrow b m) 6 t) (nrow b m) 6 = _
        obtain ⟨r, row, e1, e2, e3, e4⟩ := I1.node h1 h2
        have hl : 6 < (row.set 6 (t : Int)).length := by rw [List.length_set]; omega
        rw [cellAt_of (setC_at e2) (List.getElem?_eq_getElem hl), List.getElem_set_self]
      refine ⟨_, rfl, im, _, _, rfl, I2.ob, rfl, _, rfl, im, _, takT b v m ow t, b, n, sl, 2, ow, rfl, I2', how4, by rw [c0]; exact log_succ hlg, fun q2 H' S => kQ2 q2 H' (k12.same S), fun q2 l2 H' S => kB2 q2 l2 H' (k12.same S), fun nq2 x hx H3 q3 hq3 I3 k3 => ?_⟩
      have hxf := pick_fd b1 n1 hx
      have pg : plc b (takeV (takT b v m ow t) x 2 ow).M m = plc b (takT b v m ow t).M m := take_node b1 n1 h1 h2 hxf.1 hxf.2
      have R3 : RsOf H A.rs ((A.rs.set t q).set x q3) := RsOf.trans2 (L := ft3 A) k12 I2.ft3h R1 (RsOf.refl.set hq3)
      have k13 : Kp (ft3 A ++ A.rs) H H3 := Kp.rsOf (L := ft3 A) k12 R1 k3
      refine ⟨_, rfl, _, rfl, _, rfl, _, rfl, im, _, _, b, n, sl, m, o, (x : Int), rfl, I3, h1, h2, ho, fun h => ?_, fun H4 I4 k4 => ?_⟩
      · rw [pg, ptb]
        exact htf
      · exact ⟨_, rfl, k2' nq2 x hx H4 _ R3 I4 (Kp.rsOf (L := ft3 A) k13 R3 (k4.mono fun y hy => List.mem_append.mpr (.inr hy)))⟩
end
end K06
namespace K06
open PySem PySem.Spec PyProof.Rows L2 Rg
section
variable {P : Program} {w : World} {K : PySem.W.Frag} {mg : Str → Option Value} {base : Heap}
def sp_take_place (CI CP CO CB : Addr) : Sp := fun vs H Q E => ∃ (im : Addr) (A : IA) (v : IV) (b n s m : Int) (o ow : Nat), vs = [.ref im, .int m, .int o] ∧ ImgAt CI CP H im A v b n s ∧ 1 ≤ m ∧ m ≤ n ∧ o < 10 ∧ PlcOk b n v.M m ∧ cellAt v.M (nrow b m) 3 = ow ∧ ow < 4 ∧ (cellAt v.M 0 ow).natAbs.log2 < 1910 ∧
  (plV b v.M m o ≠ 0 → ∀ H', Same H H' → Q (.int (plV b v.M m o)) H') ∧
  (plV b v.M m o = 0 → needsT b v m o = false →
    (quota v ow → ∀ H', Same H H' → E (.ref CO) none H') ∧
    (¬ quota v ow → letL b n v.M 2 v.ba = [] → ∀ H', Same H H' → E (.ref CB) none H') ∧
    (¬ quota v ow → ∀ x : Nat, pickL (letL b n v.M 2 v.ba) v.wi = some (x : Int) → ∀ H' rs', RsOf H A.rs rs' → ImgAt CI CP H' im { A with rs := rs' } (takP b v m o ow 2 x) b n s → Kp (ft3 A ++ A.rs) H H' → Q (.int x) H')) ∧
  (plV b v.M m o = 0 → needsT b v m o = true →
    (quota v ow → ∀ H', Same H H' → E (.ref CO) none H') ∧
    (¬ quota v ow → letL b n v.M 1 v.ba = [] → ∀ H', Same H H' → E (.ref CB) none H') ∧
    (¬ quota v ow → ∀ t : Nat, pickL (letL b n v.M 1 v.ba) v.wi = some (t : Int) →
      (quota (takT b v m ow t) ow → ∀ H', Same H H' → E (.ref CO) none H') ∧
      (¬ quota (takT b v m ow t) ow → letL b n (takT b v m ow t).M 2 v.ba = [] → ∀ H', Same H H' → E (.ref CB) none H') ∧
      (¬ quota (takT b v m ow t) ow → ∀ x : Nat, pickL (letL b n (takT b v m ow t).M 2 v.ba) v.wi = some (x : Int) → ∀ H' rs', RsOf H A.rs rs' → ImgAt CI CP H' im { A with rs := rs' } (takP b (takT b v m ow t) m o ow 2 x) b n s → Kp (ft3 A ++ A.rs) H H' → Q (.int x) H')))
theorem pick_ne {l : List Int} {wi x : Int} (h : pickL l wi = some x) : l ≠ [] := fun e => by
  rw [e] at h
  cases h
theorem ok_take_place (T : Tx K mg) : FnOk P w K mg base (L2N.CX P w) 6 T.f_take_place T.fd_take_place ["image", "n", "o"] (sp_take_place T.C_Image T.C_Plan T.C_OverQuota T.C_BlocksFull) := by
  refine T.F_take_place.okN sc_take_place (fun vs H Q E h => ?_) (fun cdv A0 outer s H vs Q E hr h => ?_)
  · obtain ⟨_, _, _, _, _, _, _, _, _, rfl, _⟩ := h; rfl
  · obtain ⟨im, A, v, b, n, sl, m, o, ow, rfl, I, h1, h2, ho, hp, how, how4, hlg, k0, kN, kT⟩ := h
    have hr3 : Room 3 _ := hr.mono (by decide)
    refine ⟨_, (pss_cons (ps_set (i := 3) sc_take_place.nd rfl (.inl rfl) (pe_call (ok_place_block T) hr3 rfl T.mg_place_block T.F_place_block.kp (b_place_block T) .nil pass0 (pa_cons (pv 0) (pa_cons (pv 1) (pa_cons (pv 2) pa_nil)))))
      (pss_cons (ps_if (pt_truth (pv 3) (fun _ => rfl))
        (pss_one (ps_ret (pv 3)))
        pss_nil)
      (pss_cons (ps_if (pt_val (pe_call (ok_needs T) hr3 rfl T.mg_needs_block_of_places T.F_needs_block_of_places.kp (b_needs_block_of_places T) .nil pass0 (pa_cons (pv 0) (pa_cons (pv 1) (pa_cons (pv 2) pa_nil)))))
        (pss_one (ps_expr (pe_callS (ok_fill T) hr rfl T.mg_fill_place T.F_fill_place.kp (b_fill_place T) (fun σ => L2N.passAt (L2N.takes_of rfl rfl rfl rfl) σ) (pa_cons (pe_meth0 (pv 0) T.cl_Image T.m_Image_twin (ok_twin T) hr3 (b_Image_twin T) .nil pass0) (pa_cons (pv 1) (pa_cons (pv 2) pa_nil))))))
        pss_nil)
      (pss_one (ps_ret (pe_callS (ok_fill T) hr rfl T.mg_fill_place T.F_fill_place.kp (b_fill_place T) (fun σ => L2N.passAt (L2N.takes_of rfl rfl rfl rfl) σ) (pa_cons (pv 0) (pa_cons (pv 1) (pa_cons (pv 2) pa_nil))))))))), ?_⟩
    refine ⟨_, rfl, _, rfl, _, rfl, im, A, v, b, n, sl, m, o, rfl, I, h1, h2, ho, hp, ?_⟩
    refine ⟨_, rfl, _, rfl, ?_⟩
    by_cases z : plV b v.M m o = 0
    · have hz : (plV b v.M m o != 0) = false := by simp [z]
      rw [hz]
      refine iteF ⟨_, rfl, _, rfl, _, rfl, im, A, v, b, n, sl, m, o, rfl, I, h1, h2, _, rfl, ?_⟩
      change if needsT b v m o = true then _ else _
      cases hn : needsT b v m o with
      | false =>
        refine iteF ⟨_, rfl, _, rfl, _, rfl, im, A, v, b, n, sl, m, o, ow, rfl, I, h1, h2, ho, hp, how, how4, hlg, fun _ => kN z hn, fun e => ?_⟩
        rw [hn] at e
        cases e
      | true =>
        obtain ⟨kQ, kB, k⟩ := kT z hn
        refine iteT ⟨_, rfl, im, _, _, rfl, I.ob, rfl, im, A, v, b, n, sl, rfl, I, fun H1 it At S1 nit It Nt ep eb => ?_⟩
        have out : ∀ x ∈ ft3 At ++ At.rs, H x = none := fun x hx => by
          rcases List.mem_append.mp hx with y | y
          · simp only [ft3, List.mem_cons, List.not_mem_nil, or_false] at y
            rcases y with rfl | rfl | rfl
            · exact Nt.ca
            · exact Nt.ho
            · exact Nt.st
          · exact Nt.rs x y
        have sm : ∀ H', Kp (ft3 At ++ At.rs) H1 H' → Same H H' := fun H' kk x u e => kk x u (S1 _ _ e) fun y => by
          rw [out x y] at e
          cases e
        refine ⟨_, rfl, _, rfl, it, At, v, b, n, sl, m, o, ow, rfl, It, h1, h2, ho, hp, how, how4, hlg, fun e => (by rw [hn] at e; cases e), fun _ => ⟨fun q H' S => kQ q H' (S1.trans S), fun q l H' S => kB q l H' (S1.trans S), fun nq t ht => ⟨fun q H' kk => (k nq t ht).1 q H' (sm H' kk), fun q l H' kk => (k nq t ht).2.1 q l H' (sm H' kk), fun nq2 x hx H2 rs2 _ _ k2 => ?_⟩⟩⟩
        have S2 := sm H2 k2
        refine ⟨_, rfl, _, rfl, _, rfl, im, A, v, b, n, sl, m, o, ow, rfl, I.keep S2, h1, h2, ho, hp, how, how4, hlg, fun e => (by rw [hn] at e; cases e), fun _ => ⟨fun q => absurd q nq, fun _ l => absurd l (pick_ne ht), fun _ t' ht' => ?_⟩⟩
        have et : t' = t := by
          rw [ht] at ht'
          have := Option.some.inj ht'
          omega
        subst et
        refine ⟨fun q => absurd q nq2, fun _ l => absurd l (pick_ne hx), fun _ x' hx' H3 rs3 R3 I3 k3 => ?_⟩
        exact (k nq t' ht).2.2 nq2 x' hx' H3 rs3 (fun r hr => (R3 r hr).imp id fun e => S2.free e) I3 ((Kp.of S2).trans k3)
    · have hz : (plV b v.M m o != 0) = true := by simp [z]
      rw [hz]
      exact iteT ⟨_, rfl, k0 z H (Same.refl _)⟩
end
end K06
namespace K06
open PySem PySem.Spec PyProof.Rows L2 Rg
/-! ### held_blocks -/
def plsOf (b : Int) (M : List (List Int)) (m : Int) : List Int := (List.range 10).map (fun o => plV b M m o) ++ [plc b M m]
def heldV (b : Int) (M : List (List Int)) : List Int → List Int
  | [] => []
  | m :: ms => (plsOf b M m).filter (fun x => x != 0) ++ heldV b M ms
theorem heldV_snoc {b : Int} {M : List (List Int)} {ms : List Int} {m : Int} : heldV b M (ms ++ [m]) = heldV b M ms ++ (plsOf b M m).filter (fun x => x != 0) := by
  induction ms with
  | nil => simp [heldV]
  | cons a ms ih => rw [List.cons_append, heldV, ih, heldV, List.append_assoc]
theorem plsOf_len {b : Int} {M : List (List Int)} {m : Int} : (plsOf b M m).length = 11 := by simp [plsOf]
theorem heldV_len {b : Int} {M : List (List Int)} : ∀ ms : List Int, (heldV b M ms).length ≤ 11 * ms.length
  | [] => Nat.zero_le _
  | m :: ms => by
    have h1 := List.length_filter_le (fun x => x != 0) (plsOf b M m)
    have h2 := heldV_len (b := b) (M := M) ms
    rw [plsOf_len] at h1
    rw [heldV, List.length_append, List.length_cons]
    omega
section
variable {P : Program} {w : World} {K : PySem.W.Frag} {mg : Str → Option Value} {base : Heap}
def tTru (K : PySem.W.Frag) (ta : TE) : TT := fun σ H Q => ta σ H fun x H' => ∃ k, TruV K x H' k ∧ Q k H'
theorem pt_truthK {X : Cx} {K : PySem.W.Frag} {a : Expr} {ta : TE} (ha : PE X a ta) (he : ∀ whole, isTrue a X.env whole = (do let v ← whole; standAt a.pos; holding [v] (truthy v))) (hK : X.K = K := by rfl) : PT X a (tTru K ta) := by
  subst hK
  exact pt_truth ha he
def sp_held (CI CP : Addr) : Sp := fun vs H Q _ => ∃ (im : Addr) (A : IA) (v : IV) (b n s : Int) (p : Addr) (ms : List Int), vs = [.ref im, .ref p] ∧ ImgAt CI CP H im A v b n s ∧ H p = some (.tup (ms.map V.int)) ∧ ms.length ≤ 16 ∧ (∀ m ∈ ms, 1 ≤ m ∧ m ≤ n ∧ PlcOk b n v.M m) ∧
  ∀ H' q, Same H H' → H q = none → H' q = some (.lst ((heldV b v.M ms).map V.int)) → Q (.ref q) H'
theorem body_held (T : Tx K mg) (cdv : Value) (A0 : Around) (outer : List Env) (s : Shared) (H : Hp) (vs : List V) (Q : VK) (E : XK) (hr : Room 3 (A0.deeper (envOfC "held_blocks" (defScope s_held_blocks) s.heap.objs.size T.f_held_blocks cdv))) (h : sp_held T.C_Image T.C_Plan vs H Q E) :
    ∃ t, PSs (cxOf CX0 P w K mg base ["image", "nodes", "held", "n", "blocks", "o", "x"] "held_blocks" (defScope s_held_blocks) T.f_held_blocks cdv A0 outer s H E).nox (defBody s_held_blocks) t ∧ t { nx := fun _ H' => Q .non H', rt := Q } (start ["image", "nodes", "held", "n", "blocks", "o", "x"] vs) H := by
  obtain ⟨im, A, v, b, n, sl, p, ms, rfl, I, hp, hl, hms, k⟩ := h
  have hr2 : Room 2 _ := hr.mono (by decide)
  refine ⟨_, (pss_cons (ps_set (i := 2) sc_held_blocks.nd rfl (.inl rfl) (pe_lst pa_nil))
      (pss_cons (ps_for PassesOwn.never rfl (pi_tup (pv 1)) (pg_name (i := 3) sc_held_blocks.nd rfl (.inr rfl))
        (pss_cons (ps_setLc (i := 4) (own := [("o", 5)]) (g := gName 5) (tt := tYes) rfl sc_held_blocks.nd rfl rfl (sw_true rfl rfl rfl (by decide +kernel)) (pi_range1 rfl T.b_range (pa_cons (pe_gc T.c_PLACE_COUNT) pa_nil)) (blkOk_by (N := ["image", "nodes", "held", "n", "blocks", "o", "x"]) (sc := defScope s_held_blocks) (by decide +kernel)) (fun _ _ _ _ _ => pg_name (i := 5) sc_held_blocks.nd rfl (Or.inl rfl)) (fun _ _ _ _ _ => pts_nil) (fun _ _ _ _ _ => (pe_call (ok_place_block T) hr rfl T.mg_place_block T.F_place_block.kp (b_place_block T) .nil pass0 (pa_cons (pv 0) (pa_cons (pv 3) (pa_cons (pv 5) pa_nil))))))
        (pss_cons (ps_expr (pe_bm PySem.F.plainAttrs_list PySem.F.slot_list_append PySem.F.type_list_append mt_append (pv 4) (pa_cons (pe_call (ok_node_cell T) hr2 rfl T.mg_node_cell T.F_node_cell.kp (b_node_cell T) .nil pass0 (pa_cons (pv 0) (pa_cons (pv 3) (pa_cons (pe_gc T.c_PLACES) pa_nil)))) pa_nil)))
        (pss_one (ps_expr (pe_bm PySem.F.plainAttrs_list PySem.F.slot_list_extend PySem.F.type_list_extend mt_extend (pv 2) (pa_cons (pe_lc rfl (own := [("x", 6)]) (g := gName 6) (tt := _) sc_held_blocks.nd (pi_list (pv 4)) (blkOk_by (N := ["image", "nodes", "held", "n", "blocks", "o", "x"]) (sc := defScope s_held_blocks) (by decide +kernel)) (fun _ _ _ _ _ => pg_name (i := 6) sc_held_blocks.nd rfl (Or.inl rfl)) (fun _ _ _ _ _ => pts_one (pt_truthK (K := K) (pv 6) (fun _ => rfl))) (fun _ _ _ _ _ => (pv 6))) pa_nil)))))))
      (pss_one (ps_ret (pv 2))))), ?_⟩
  refine ⟨Nat.zero_le _, fun q nq => ?_⟩
  refine ⟨_, rfl, p, rfl, ⟨_, .of (same_upd nq _ _ hp)⟩, for_tup (K := K) (a := p) (xs := ms.map V.int) (fun i σ H' => ∃ (u3 u4 : Option V), σ = [some (.ref im), some (.ref p), some (.ref q), u3, u4, none, none] ∧ Same H H' ∧ H' q = some (.lst ((heldV b v.M (ms.take i)).map V.int))) ⟨_, _, rfl, same_upd nq, upd_same⟩ (fun i σ H' _ ⟨_, _, _, S, _⟩ => .of (S _ _ hp)) ?_ ?_⟩
  · rintro i y σ H' hi ⟨u3, u4, rfl, S, eq⟩
    rw [List.getElem?_map] at hi
    obtain ⟨m, hm, rfl⟩ := Option.map_eq_some_iff.mp hi
    obtain ⟨m1, m2, m3⟩ := hms m (List.mem_of_getElem? hm)
    have I1 := I.keep S
    -- the places
    refine ⟨10, rfl, by decide, by decide, fun D hD => ?_⟩
    refine lc_range (lo := 0) (n := (10 : Int).toNat) (fun j H2 => Same H' H2 ∧ H2 D = some (.lst (((List.range j).map fun o => plV b v.M m o).map V.int))) ⟨same_upd hD, upd_same⟩ ?_ ?_
    · rintro j H2 hj ⟨S2, e2⟩
      have hj : j < 10 := hj
      refine ⟨rfl, ?_⟩
      refine yes_ ?_
      refine ⟨_, rfl, _, rfl, _, rfl, im, A, v, b, n, sl, m, j, ?_, I1.keep S2, m1, m2, by omega, m3, _, e2, ?_, fun x o e => ?_, ?_⟩
      · rw [show (0 : Int) + (j : Int) = (j : Int) by omega]
        rfl
      · rw [List.length_map, List.length_map, List.length_range]
        exact small1000 (by omega)
      · rw [upd_ne (ne_of_none e hD)]
        exact S2 _ _ e
      · rw [upd_same, List.range_succ, List.map_append, List.map_append]
        rfl
    rintro H2 ⟨S2, e2⟩
    have Dn := hD
    have S02 := S.trans S2
    refine ⟨.ref D, rfl, .inl ⟨rfl, _, .inl (.inl e2)⟩, _, rfl, _, rfl, im, A, v, b, n, sl, m, 6, rfl, I.keep S02, m1, m2, by decide, by decide, D, _, _, rfl, rfl, e2, ?_, ?_⟩
    · rw [List.length_map, List.length_map, List.length_range]
      exact small1000 (by decide)
    have e3 : upd H2 D (.lst (((List.range (10 : Int).toNat).map fun o => plV b v.M m o).map V.int ++ [V.int (cellAt v.M (nrow b m) (6 : Int).toNat)])) D = some (.lst ((plsOf b v.M m).map V.int)) := by
      rw [upd_same]
      unfold plsOf
      rw [List.map_append]
      rfl
    have S3 : Same H' (upd H2 D (.lst (((List.range (10 : Int).toNat).map fun o => plV b v.M m o).map V.int ++ [V.int (cellAt v.M (nrow b m) (6 : Int).toNat)]))) := fun x o e => by
      rw [upd_ne (ne_of_none e Dn)]
      exact S2 _ _ e
    generalize upd H2 D (.lst (((List.range (10 : Int).toNat).map fun o => plV b v.M m o).map V.int ++ [V.int (cellAt v.M (nrow b m) (6 : Int).toNat)])) = H3 at e3 S3 ⊢
    have eq3 := S3 _ _ eq
    refine ⟨.ref q, rfl, .inl ⟨rfl, _, .inl (.inl eq3)⟩, _, rfl, D, rfl, ⟨_, .of e3⟩, fun G hG => ?_⟩
    refine lc_list (K := K) (a := D) (xs := (plsOf b v.M m).map V.int) (PvF H3 G (plsOf b v.M m) (fun x => x != 0)) (PvF.start hG) (fun i H4 _ Pv => .of (Pv.1 _ _ e3)) ?_ ?_
    · rintro i y H4 hi Pv
      rw [List.getElem?_map] at hi
      obtain ⟨x, hx, rfl⟩ := Option.map_eq_some_iff.mp hi
      refine ⟨rfl, ?_⟩
      refine ⟨_, rfl, _, rfl, ?_⟩
      by_cases e : x = 0
      · subst e
        exact iteF (Pv.no (Same.refl _) hx rfl)
      · have e' : (x != 0) = true := by simp [e]
        rw [e']
        exact iteT ⟨_, rfl, Pv.yes hG (Same.refl _) hx (by rw [plsOf_len]; decide) e'⟩
    · intro H4 Pv
      obtain ⟨S4, e4⟩ := Pv.all (by rw [List.length_map])
      have eq4 := S4 _ _ eq3
      refine ⟨q, G, _, _, rfl, rfl, eq4, e4, ?_, _, _, rfl, fun x o e => ?_, ?_⟩
      · have h1 := heldV_len (b := b) (M := v.M) (ms.take i)
        have h2 : (ms.take i).length ≤ ms.length := by rw [List.length_take]; omega
        have h3 := List.length_filter_le (fun x => x != 0) (plsOf b v.M m)
        rw [plsOf_len] at h3
        rw [List.length_map, List.length_map]
        exact Nat.le_of_lt (small1000 (by omega))
      · rw [upd_ne (ne_of_none e nq)]
        exact S4 _ _ (S3 _ _ (S _ _ e))
      · rw [upd_same, take_get hm, heldV_snoc, List.map_append]
  · rintro σ H' ⟨u3, u4, rfl, S, eq⟩
    rw [List.length_map, List.take_length] at eq
    exact ⟨_, rfl, k H' q S nq eq⟩
theorem ok_held (T : Tx K mg) : FnR P w K mg base CX0 4 T.f_held_blocks (fun vs H Q E => ∃ ws rest, vs = ws ++ rest ∧ ws.length = ["image"].length ∧ rest.length ≤ sizeLine ∧ ∀ p, H p = Option.none → sp_held T.C_Image T.C_Plan (ws ++ [V.ref p]) (upd H p (.tup rest)) Q E) := by
  obtain ⟨oc, od, kV, doc, pm, an, cdv, ct, osl, e, lk, hcd⟩ := T.F_held_blocks.ex
  rw [e] at lk
  refine StX.fn_star (ps := ["image"]) (pv := "nodes") lk hcd sc_held_blocks StX.cxUp_none ?_ fun A outer s H vs Q E hr h => ?_
  · exact StX.bind_star1 (B := fun us => bindArgs (PySem.W.fnOf "held_blocks" "held_blocks" (defArgs s_held_blocks) (defBody s_held_blocks) (defScope s_held_blocks) .none kV doc pm an cdv ct) ⟨us, []⟩) (p1 := "image") (pv := "nodes") (fun _ => rfl) (fun _ _ _ => rfl)
  · obtain ⟨t, h1, h2⟩ := body_held T cdv A outer s H vs Q E hr h
    exact ⟨t, h1.nox, h2⟩
end
end K06
namespace K06
open PySem PySem.Spec PyProof.Rows L2 Rg
section
variable {X : Cx} {CX : CXT} {k : Nat} {f : Addr} {sp : Sp} {E : XK} {x : Str} {p pos : Pos} {e : Expr} {es : List Expr} {t : TA}
/-- x(e, ..), x a def with a star parameter -/
theorem pe_callR (F : FnR X.prog X.w X.K X.mg X.base CX k f sp) (hr : Room k X.A) (hk : PySem.W.keepIn X.K (.ref f) = true) (hg : Gl X x) (hm : X.mg x = some (.ref f)) (hx : Passes CX X E) (ha : PA X (e :: es) t) (hd : (x == ("__debug__" : Str)) = false := by decide)
    (he : starEach (e :: es) X.env = (false, eval e X.env) :: starEach es X.env := by rfl) (hpl : (backTo pos (starEach es X.env)).any (·.1) = false := by rfl) :
    PE X (.Call (.Name x p) (e :: es) [] pos) (fun σ H Q => t σ H fun vs H1 => sp vs H1 Q E) := by
  refine ⟨fun pins s σ H Q I h => ?_⟩
  refine wpAny_Call_Name_kw (ld_glob I hg hm ?_ hd)
  refine PySem.W.callWith_K (h₀ := X.base) I.ok.mod.kin hk (thn (ha.run pos pins s σ H _ I h) fun us s1 ⟨vs, H1, I1, r, q⟩ => ⟨I1.kIn, ?_⟩) he hpl
  exact wpAny_call (run_fnR F hr hx I1 r q)
end
end K06
namespace Rg
open PySem PySem.Spec PyProof.Rows L2
/-! ### enumerate(tuple) -/
open Sem (wp)
open AutoSeq1 (wpAny_loadPart')
theorem meets_enumerate_newT (l : Addr) (items : Array Value) (n : Nat) (dct : Option Addr) (sl : Array (Option Value)) :
    Meets (Builtin.«enumerate.__new__» ⟨[.type "enumerate", .ref l], []⟩) (fun _ R s => s.heap.get? l = some { cls := .type "tuple", dict := dct, data := .seq items n, slots := sl } ∧
      R (.ok (.ret (.ref (s.heap.push { cls := .type "tuple_iterator", data := .fields #[.ref l, .int 0 0] }).objs.size)))
        { s with heap := (s.heap.push { cls := .type "tuple_iterator", data := .fields #[.ref l, .int 0 0] }).push { cls := .type "enumerate", data := .fields #[.none, .bool false, .ref s.heap.objs.size, rawInt 0, .none, .none] } }) :=
  .of_wp fun prog w A R s h => by
    obtain ⟨hp, g, d, tk, os⟩ := s; obtain ⟨hl, h⟩ := h
    have hsub := sub_enumerate
    have hL : Heap.IsTuple (Shared.heap ⟨hp, g, d, tk, os⟩) l items := ⟨_, hl, rfl, n, rfl⟩
    wp_walk using wpAny_loadPart' hl
    refine wpAny_stack_any fun st => wpAny_pure ?_
    split
    · rename_i c _ _ _ _ _
      cases (c == Value.type "enumerate")
      · wp_walk using wpAny_loadPart' hl, wpAny_pyIter_tuple hL
        exact ⟨_, rfl, h⟩
      · wp_walk using wpAny_loadPart' hl, wpAny_pyIter_tuple hL
        exact ⟨_, rfl, h⟩
    · wp_walk using wpAny_loadPart' hl, wpAny_pyIter_tuple hL
      exact ⟨_, rfl, h⟩
section
variable {prog : Program} {w : World} {A : Around} {E : Value → Shared → Prop} {s : Shared}
theorem call_enumerate_tuple {l : Addr} {items : Array Value} {Q : Value → Shared → Prop} (hL : s.heap.IsTuple l items)
    (h : ∀ h', IsEnum h' (s.heap.objs.size + 1) s.heap.objs.size 0 .none → h'.IsTupleIter s.heap.objs.size l 0 → h'.objs.size = s.heap.objs.size + 2 →
      (∀ b o, s.heap.get? b = some o → h'.get? b = some o) → Q (.ref (s.heap.objs.size + 1)) { s with heap := h' }) :
    wpAny (model prog w) A (call (.type "enumerate") [.ref l]) Q E s := by
  obtain ⟨⟨c, dct, dt, sl⟩, hl, hc, n, hd⟩ := hL
  replace hc : c = .type "tuple" := hc
  replace hd : dt = .seq items n := hd
  subst hc hd
  refine callType_new F.called_enumerate (by decide) (F.typeCall_enumerate_1 _) (F.newCall_enumerate_1 _) (fun obj => F.args_object_init_2 obj _) F.entry_enumerate_new
    (meets_enumerate_newT l items n dct sl) ⟨hl, ?_⟩
  have hz : (s.heap.push { cls := .type "tuple_iterator", data := .fields #[.ref l, .int 0 0] }).objs.size = s.heap.objs.size + 1 := Heap.size_push ..
  show _ ∧ _
  rw [hz]
  have he : IsEnum ((s.heap.push { cls := .type "tuple_iterator", data := .fields #[.ref l, .int 0 0] }).push
      { cls := .type "enumerate", data := .fields #[.none, .bool false, .ref s.heap.objs.size, rawInt 0, .none, .none] }) (s.heap.objs.size + 1) s.heap.objs.size 0 .none := by
    have := Heap.get?_push_size (s.heap.push { cls := .type "tuple_iterator", data := .fields #[.ref l, .int 0 0] })
      (o := { cls := .type "enumerate", data := .fields #[.none, .bool false, .ref s.heap.objs.size, rawInt 0, .none, .none] }) rfl
    rw [hz] at this; exact this
  refine ⟨⟨_, he, rfl⟩, h _ he ⟨_, Heap.get?_push_of_some _ (Heap.get?_push_size _ rfl), rfl, rfl⟩ (by rw [Heap.size_push, hz]) fun b o x => Heap.get?_push_of_some _ (Heap.get?_push_of_some _ x)⟩
end
/-- the tuple at a as it stands at each turn, each item in a new pair -/
def IteT (K : PySem.W.Frag) (a : Addr) : It :=
  ⟨fun i H => ∃ (xs : List V) (x : V), SqT K H a xs ∧ xs[i]? = some x, fun i H v H' => ∃ T x, v = .ref T ∧ H T = none ∧ H' = upd H T (.tup [.int (i : Nat), x]) ∧ ∀ xs, SqT K H a xs → xs[i]? = some x, fun i H => ∃ xs : List V, SqT K H a xs ∧ xs.length ≤ i⟩
theorem turn_enumT {P : Program} {w : World} {K : PySem.W.Frag} {elts : List Expr} {kk : Nat} {tpos : Pos} (a e it : Addr) :
    Turn P w K (.Tuple elts kk tpos) (IteT K a) [e, it] e (fun i h => (∃ old, IsEnum h e it ((i : Nat) : Int) old) ∧ h.IsTupleIter it a i ∧ e ≠ it) where
  mem := by simp
  obj := fun i h st b hb => by
    obtain ⟨⟨old, he⟩, ⟨o, ho, hc, hd⟩, _⟩ := st
    have e' : b = e ∨ b = it := by simpa using hb
    rcases e' with z | z
    · rw [z]; exact ⟨_, he, fun v q => nomatch q⟩
    · rw [z]; exact ⟨o, ho, fun v q => by rw [hd] at q; cases q⟩
  keep := fun i h h' st k => let ⟨⟨old, he⟩, hi, hne⟩ := st; ⟨⟨old, k e (by simp) _ he⟩, hi.at fun o q => k it (by simp) o q, hne⟩
  item := by
    intro X hP hw hK hc i pins s σ H E I hf st hg
    subst hP hw hK
    obtain ⟨⟨old, he⟩, hit, hne⟩ := st
    obtain ⟨xs, x, hq, hx⟩ := hg
    obtain ⟨its, rv, p, hz⟩ := I.tuple hq
    obtain ⟨u, hu, ru⟩ := rv.get hx
    have hlt : i < its.toArray.size := by
      have := (List.getElem?_eq_some_iff.mp hu).1
      simpa using this
    have hel : e < s.heap.objs.size := Heap.lt_size he
    have hil : it < s.heap.objs.size := by obtain ⟨_, q, _⟩ := hit; exact Heap.lt_size q
    have hae : a ≠ e := fun z => by
      obtain ⟨o, ho, hc', _⟩ := p
      rw [z] at ho
      have := Option.some.inj (ho.symm.trans he)
      rw [this] at hc'
      have hc2 : Value.type "enumerate" = Value.type "tuple" := hc'
      exact absurd hc2 (by decide)
    have hai : a ≠ it := fun z => by
      obtain ⟨o, ho, hc', _⟩ := p
      obtain ⟨o2, ho2, hc2, _⟩ := hit
      rw [z] at ho
      have := Option.some.inj (ho.symm.trans ho2)
      rw [this, hc2] at hc'
      exact absurd hc' (by decide)
    refine wpAny_pyNext_enum_itemD (Draws.tuple (prog := X.prog) (w := X.w) (A := X.A.in1) (I.ok.hd hc) it a hai its.toArray) he ⟨hit, p⟩ hlt hne (by simp [hne, hae.symm]) fun y h' tk hy ho hit' hT hsz hk => ?_
    have ey : y = u := by
      have e1 : its.toArray[i]? = some u := by simpa using hu
      rw [e1] at hy
      exact (Option.some.inj hy).symm
    subst ey
    refine ⟨_, rfl, wpAny_letOwnedTupleGo_enum (s := { s with heap := h', toks := tk + 1 }) ho fun h'' he' sb => ?_⟩
    have hT2 : h''.get? s.heap.objs.size = some { cls := .type "tuple", data := .seq #[.int i tk, y] } := (sb.2 _ (Nat.ne_of_gt hel)).trans hT
    have new : ObjOk X.prog X.w (upd H s.heap.objs.size (.tup [.int (i : Nat), x])) h'' s.heap.objs.size (.tup [.int (i : Nat), x]) :=
      ⟨by show 2 ≤ sizeLine; decide, [.int i tk, y], .cons ⟨_, rfl⟩ (.cons ru .nil), ⟨_, hT2, rfl, _, rfl⟩⟩
    have I1 : Inv X pins σ (upd H s.heap.objs.size (.tup [.int (i : Nat), x])) { s with heap := h'', toks := tk + 1 } :=
      I.turnedNew (t' := tk + 1) (ch := [e, it]) (fun b ob hb q => (sb.2 b (fun z => hb (by simp [z]))).trans (hk b ob (fun z => hb (by simp [z])) (fun z => hb (by simp [z])) q)) hf (Nat.le_refl _) new
    refine ⟨.ref s.heap.objs.size, _, I1, rfl, ⟨_, x, rfl, I.hok.fresh (Nat.le_refl _), rfl, fun ys hy => by rw [I.tuple_inj hy hq]; exact hx⟩, ⟨⟨y, ?_⟩, hit'.1.at fun o q => (sb.2 it (Ne.symm hne)).trans q, hne⟩, fun b hb => ?_⟩
    · have e1 : ((i + 1 : Nat) : Int) = (i : Int) + 1 := by omega
      rw [e1]; exact he'
    · have hb' : b < s.heap.objs.size := by
        have e' : b = e ∨ b = it := by simpa using hb
        rcases e' with z | z
        · rw [z]; exact hel
        · rw [z]; exact hil
      rw [upd_ne (Nat.ne_of_lt hb')]
      exact (hf b hb).1
  done := by
    intro X hP hw hK hc i pins s σ H E I hf st hg
    subst hP hw hK
    obtain ⟨⟨old, he⟩, hit, hne⟩ := st
    obtain ⟨xs, hq, hx⟩ := hg
    obtain ⟨its, rv, p, hz⟩ := I.tuple hq
    obtain ⟨f0, f1, f2, f3, f4, f5⟩ := hf it (by simp)
    have hl := rv.length
    unfold pyNext
    have hT : s.TypeIs (.ref e) "enumerate" := ⟨_, he, rfl⟩
    refine wpAny_bind (wpAny_attempt (wpAny_callSpecial?_slot (name := Str.ofString "__next__") hT F.slot_enumerate_next
      (wpAny_call_entry F.slot_enumerate_next hT F.entry_enumerate_next ?_ (F.args_enumerate_next_1 _))))
    show wpAny _ _ (field (.ref e) 2 >>= _) _ _ _
    refine wpAny_bind (wpAny_field he rfl (x := .ref it) rfl ?_)
    refine wpAny_bind (wpAny_nextOf_tuple_end (I.ok.hd hc) hit p (by simp; omega) fun h' x he' hx' => ?_)
    obtain ⟨o, ho, hc'⟩ := hx'
    refine wpAny_bind (wpAny_isInstance (T := "StopIteration") (b := true) ⟨o, ho, hc'⟩ isSubtype_stop ?_)
    exact wpAny_pure ⟨rfl, I.turned (t' := s.toks) (fun b o hb q => he' b o hb q) f0 f1 f3 f4 f5⟩
  self := fun A i s Q E st h => let ⟨⟨_, he⟩, _⟩ := st; wpAny_pyIter_enum he h
theorem walk_enumT {K : PySem.W.Frag} {a : Addr} {xs : List V} : Walk (IteT K a) xs.length (fun H => SqT K H a xs) (YPair (fun i => some (.int (i : Nat))) (fun i => xs[i]?)) := by
  refine ⟨fun i _ hi q => ⟨xs, xs[i], q, by simp [hi]⟩, fun _ q => ⟨xs, q, Nat.le_refl _⟩, fun i H v H' _ q y => ?_⟩
  obtain ⟨T, x, h1, h2, h3, h4⟩ := y
  exact ⟨T, .int (i : Nat), x, h1, h2, h3, rfl, h4 xs q⟩
/-- over a list or a tuple, which stays as it is -/
def iEnumA (ta : TA) : TI := fun σ H R => ta σ H fun vs H1 => ∃ a xs, vs = [.ref a] ∧ (H1 a = some (.lst xs) ∨ H1 a = some (.tup xs)) ∧ ∀ J, Walk J xs.length (fun H' => H' a = H1 a) (YPair (fun i => some (.int (i : Nat))) (fun i => xs[i]?)) → R J H1
theorem pi_enumA {X : Cx} {e : Expr} {ta : TA} {p pos tpos : Pos} {elts : List Expr} {kk : Nat} (hg : Gl X "enumerate") (hm : X.mg "enumerate" = none) (ha : PA X [e] ta) (hs : starEach [e] X.env = [(false, eval e X.env)] := by rfl) :
    PI X (.Tuple elts kk tpos) (.Call (.Name "enumerate" p) [e] [] pos) (iEnumA ta) := by
  refine ⟨fun pins s σ H R I h => ?_⟩
  refine Call_ (ld_blt I hg hm boot_enumerate (PyProof.Rows.callWith_type1 (thn (ha.run pos pins s σ H _ I h) fun us s1 ⟨vs, H1, I1, r1, q1⟩ => ?_) hs rfl))
  obtain ⟨a, xs, ex, hw, q⟩ := q1
  subst ex
  cases r1 with
  | cons r rr =>
    cases rr
    cases r
    have fp : ∀ b, b = s1.heap.objs.size + 1 ∨ b = s1.heap.objs.size → FpOk X pins H1 b := fun b e' => by
      have hle : s1.heap.objs.size ≤ b := by
        rcases e' with z | z
        · rw [z]; exact Nat.le_add_right _ _
        · rw [z]; exact Nat.le_refl _
      exact I1.fpOk hle (I1.hok.fresh hle)
    rcases hw with hw | hw
    · have hq : SqL X.K H1 a xs := .of hw
      have q := q (Ite X.K a) (walk_enum.mono (fun H' e => .of (e.trans hw)) fun _ _ _ _ _ _ y => y)
      obtain ⟨its, rv, p', hz⟩ := I1.list hq
      refine call_enumerate_list p'.isList fun h' he hit hsz hk => wpAny_pyIter_enum he ?_
      have I2 : Inv X pins σ H1 { s1 with heap := h' } := I1.kept (t' := s1.toks) hk
      refine ⟨s1.heap.objs.size + 1, [s1.heap.objs.size + 1, s1.heap.objs.size], _, _, H1, rfl, I2, turn_enum a (s1.heap.objs.size + 1) s1.heap.objs.size, ⟨⟨.none, he⟩, hit, Nat.succ_ne_self _⟩, fun b hb => fp b (by simpa using hb), q⟩
    · have hq : SqT X.K H1 a xs := .of hw
      have q := q (IteT X.K a) (walk_enumT.mono (fun H' e => .of (e.trans hw)) fun _ _ _ _ _ _ y => y)
      obtain ⟨its, rv, p', hz⟩ := I1.tuple hq
      refine call_enumerate_tuple p' fun h' he hit hsz hk => wpAny_pyIter_enum he ?_
      have I2 : Inv X pins σ H1 { s1 with heap := h' } := I1.kept (t' := s1.toks) hk
      refine ⟨s1.heap.objs.size + 1, [s1.heap.objs.size + 1, s1.heap.objs.size], _, _, H1, rfl, I2, turn_enumT a (s1.heap.objs.size + 1) s1.heap.objs.size, ⟨⟨.none, he⟩, hit, Nat.succ_ne_self _⟩, fun b hb => fp b (by simpa using hb), q⟩
end Rg
namespace K06
open PySem PySem.Spec PyProof.Rows L2 Rg
/-! ### places taken behind the size -/
def tbP (b : Int) (M : List (List Int)) (m : Int) (x : Int) : Bool := decide (8 * x ≥ cellAt M (nrow b m) 2) && (plV b M m x.toNat != 0)
def tbL (b : Int) (M : List (List Int)) (m : Int) : List Int := (rng 0 10).filter (tbP b M m)
section
variable {P : Program} {w : World} {K : PySem.W.Frag} {mg : Str → Option Value} {base : Heap}
def sp_taken_behind (CI CP : Addr) : Sp := fun vs H Q _ => ∃ (im : Addr) (A : IA) (v : IV) (b n s m : Int), vs = [.ref im, .int m] ∧ ImgAt CI CP H im A v b n s ∧ 1 ≤ m ∧ m ≤ n ∧ PlcOk b n v.M m ∧
  ∀ H' p, Same H H' → H p = none → H' p = some (.lst ((tbL b v.M m).map V.int)) → Q (.ref p) H'
theorem ok_taken_behind (T : Tx K mg) : FnOk P w K mg base CX0 4 T.f_taken_behind T.fd_taken_behind ["image", "n"] (sp_taken_behind T.C_Image T.C_Plan) := by
  refine T.F_taken_behind.ok sc_taken_behind (fun vs H Q E h => ?_) (fun cdv A0 outer s H vs Q E hr h => ?_)
  · obtain ⟨_, _, _, _, _, _, _, rfl, _⟩ := h; rfl
  · obtain ⟨im, A, v, b, n, sl, m, rfl, I, h1, h2, hp, k⟩ := h
    have hr2 : Room 2 _ := hr.mono (by decide)
    refine ⟨_, (pss_cons (ps_set (i := 2) sc_taken_behind.nd rfl (.inr rfl) (pe_call (ok_node_cell T) hr2 rfl T.mg_node_cell T.F_node_cell.kp (b_node_cell T) .nil pass0 (pa_cons (pv 0) (pa_cons (pv 1) (pa_cons (pe_gc T.c_SIZE) pa_nil)))))
      (pss_one (ps_ret (pe_lc rfl (own := [("o", 3)]) (g := gName 3) (tt := _) sc_taken_behind.nd (pi_range1 rfl T.b_range (pa_cons (pe_gc T.c_PLACE_COUNT) pa_nil)) (blkOk_by (N := ["image", "n", "size", "o"]) (sc := defScope s_taken_behind) (by decide +kernel)) (fun _ _ _ _ _ => pg_name (i := 3) sc_taken_behind.nd rfl (Or.inl rfl)) (fun _ _ _ _ _ => pts_one (PW.pt (pw_and (pt_cmpR op_ge (pe_op op_mul (pe_cv T.mg_Plan T.cr_Plan T.cv_Plan_WIDTH) (pv 3)) (pv 2) (nomark _)) (pw_and1 (pt_truthK (K := K) (pe_call (ok_place_block T) hr rfl T.mg_place_block T.F_place_block.kp (b_place_block T) .nil pass0 (pa_cons (pv 0) (pa_cons (pv 1) (pa_cons (pv 3) pa_nil)))) (fun _ => rfl)))))) (fun _ _ _ _ _ => (pv 3)))))), ?_⟩
    refine ⟨_, rfl, _, rfl, im, A, v, b, n, sl, m, 2, rfl, I, h1, h2, by decide, by decide, ?_⟩
    refine ⟨10, rfl, by decide, by decide, fun D hD => ?_⟩
    have h10 : (rng 0 10).length < 1000 := by rw [rng_len]; decide
    refine lc_range (lo := 0) (n := (10 : Int).toNat) (PvF H D (rng 0 10) (tbP b v.M m)) (PvF.start hD) ?_ ?_
    · rintro i H' hi Pv
      have hi : i < 10 := hi
      have hx := rng_get (lo := 0) hi
      have I' := I.keep Pv.1
      have ez : (0 : Int) + (i : Int) = (i : Int) := by omega
      have ec : cellAt v.M (nrow b m) (2 : Int).toNat = cellAt v.M (nrow b m) 2 := rfl
      refine ⟨rfl, ?_⟩
      refine ⟨_, rfl, _, _, rfl, rfl, (by show CMul 8 _; exact .inl ⟨by decide, by decide⟩), _, rfl, _, _, rfl, rfl, _, rfl, ?_⟩
      by_cases e1 : (8 : Int) * (0 + (i : Int)) ≥ cellAt v.M (nrow b m) 2
      · rw [ec, decide_eq_true e1]
        refine iteT ⟨_, rfl, _, rfl, _, rfl, im, A, v, b, n, sl, m, i, ?_, I', h1, h2, hi, hp, _, rfl, ?_⟩
        · show [V.ref im, V.int m, V.int (0 + (i : Int))] = _
          rw [ez]
        by_cases e2 : plV b v.M m i = 0
        · have e3 : (plV b v.M m i != 0) = false := by rw [e2]; rfl
          rw [e3]
          exact iteF (Pv.no (Same.refl _) hx (by unfold tbP; rw [show ((0 : Int) + (i : Int)).toNat = i by omega, e3, Bool.and_false]))
        · have e3 : (plV b v.M m i != 0) = true := by simp [e2]
          rw [e3]
          exact iteT ⟨_, rfl, Pv.yes hD (Same.refl _) hx h10 (by unfold tbP; rw [show ((0 : Int) + (i : Int)).toNat = i by omega, e3, decide_eq_true e1]; rfl)⟩
      · rw [ec, decide_eq_false e1]
        exact iteF (Pv.no (Same.refl _) hx (by unfold tbP; rw [decide_eq_false e1]; rfl))
    intro H1 Pv
    obtain ⟨S1, e1⟩ := Pv.all (by rw [rng_len]; rfl)
    exact k H1 D S1 hD e1
def late (b : Int) (M : List (List Int)) (m : Int) : Bool := decide (cellAt M (nrow b m) 0 = 1) && decide (0 < (tbL b M m).length)
def sp_unfinished (CI CP : Addr) : Sp := fun vs H Q _ => ∃ (im : Addr) (A : IA) (v : IV) (b n s m : Int), vs = [.ref im, .int m] ∧ ImgAt CI CP H im A v b n s ∧ 1 ≤ m ∧ m ≤ n ∧ PlcOk b n v.M m ∧
  ∀ H', Same H H' → Q (.bl (late b v.M m)) H'
theorem ok_unfinished (T : Tx K mg) : FnOk P w K mg base CX0 5 T.f_unfinished T.fd_unfinished ["image", "n"] (sp_unfinished T.C_Image T.C_Plan) := by
  refine T.F_unfinished.ok sc_unfinished (fun vs H Q E h => ?_) (fun cdv A0 outer s H vs Q E hr h => ?_)
  · obtain ⟨_, _, _, _, _, _, _, rfl, _⟩ := h; rfl
  · obtain ⟨im, A, v, b, n, sl, m, rfl, I, h1, h2, hp, k⟩ := h
    have hr2 : Room 2 _ := hr.mono (by decide)
    refine ⟨_, (pss_one (ps_ret (pe_and (pe_cmpR op_eq (pe_call (ok_node_cell T) hr2 rfl T.mg_node_cell T.F_node_cell.kp (b_node_cell T) .nil pass0 (pa_cons (pv 0) (pa_cons (pv 1) (pa_cons (pe_gc T.c_KIND) pa_nil)))) (pe_gc T.c_FILE) (nomark _)) (pe_one (pe_cmpR op_gt (pe_callB call_len_seq rfl T.b_len (by decide +kernel) (pa_cons (pe_call (ok_taken_behind T) hr rfl T.mg_taken_behind T.F_taken_behind.kp (b_taken_behind T) .nil pass0 (pa_cons (pv 0) (pa_cons (pv 1) pa_nil))) pa_nil)) pe_int (nomark _)))))), ?_⟩
    refine ⟨_, rfl, _, rfl, im, A, v, b, n, sl, m, 0, rfl, I, h1, h2, by decide, by decide, rfl, _, rfl, ?_⟩
    have ec : cellAt v.M (nrow b m) (0 : Int).toNat = cellAt v.M (nrow b m) 0 := rfl
    unfold late at k
    rw [dec_iv, ec]
    by_cases e : cellAt v.M (nrow b m) 0 = 1
    · rw [decide_eq_true e] at k ⊢
      refine iteT ⟨_, rfl, _, rfl, im, A, v, b, n, sl, m, rfl, I, h1, h2, hp, fun H1 p S1 np e1 => ?_⟩
      refine ⟨p, _, rfl, .inl (.of e1), _, _, rfl, rfl, ?_⟩
      have e2 : decide ((((tbL b v.M m).map V.int).length : Int) > 0) = decide (0 < (tbL b v.M m).length) := by
        rw [List.length_map]
        by_cases z : 0 < (tbL b v.M m).length
        · rw [decide_eq_true z, decide_eq_true (by omega)]
        · rw [decide_eq_false z, decide_eq_false (by omega)]
      change Q (.bl (decide ((((tbL b v.M m).map V.int).length : Int) > 0))) H1
      rw [e2]
      exact k H1 S1
    · rw [decide_eq_false e] at k ⊢
      exact iteF (k H (Same.refl _))
/-! ### words read -/
def rdW (b : Int) (M : List (List Int)) (m : Int) (at_ : Int) : Int := if at_ ≥ cellAt M (nrow b m) 2 then 0 else if plV b M m (at_ / 8).toNat = 0 then 0 else cellAt M (plV b M m (at_ / 8).toNat).toNat (at_ % 8).toNat
def sp_read_word (CI CP : Addr) : Sp := fun vs H Q _ => ∃ (im : Addr) (A : IA) (v : IV) (b n s m at_ : Int), vs = [.ref im, .int m, .int at_] ∧ ImgAt CI CP H im A v b n s ∧ 1 ≤ m ∧ m ≤ n ∧ PlcOk b n v.M m ∧ (∀ o, o < 10 → PlOk b n v.M m o) ∧ cellAt v.M (nrow b m) 2 ≤ 80 ∧ 0 ≤ at_ ∧ Q (.int (rdW b v.M m at_)) H
theorem ok_read_word (T : Tx K mg) : FnOk P w K mg base CX0 4 T.f_read_word T.fd_read_word ["image", "n", "at"] (sp_read_word T.C_Image T.C_Plan) := by
  refine T.F_read_word.ok sc_read_word (fun vs H Q E h => ?_) (fun cdv A0 outer s H vs Q E hr h => ?_)
  · obtain ⟨_, _, _, _, _, _, _, _, rfl, _⟩ := h; rfl
  · obtain ⟨im, A, v, b, n, sl, m, at_, rfl, I, h1, h2, hp, hpl, hsz, hat, k⟩ := h
    have hr2 : Room 2 _ := hr.mono (by decide)
    refine ⟨_, (pss_cons (ps_if (pt_cmpR op_ge (pv 2) (pe_call (ok_node_cell T) hr2 rfl T.mg_node_cell T.F_node_cell.kp (b_node_cell T) .nil pass0 (pa_cons (pv 0) (pa_cons (pv 1) (pa_cons (pe_gc T.c_SIZE) pa_nil)))) (nomark _))
        (pss_one (ps_ret pe_int))
        pss_nil)
      (pss_cons (ps_set (i := 3) sc_read_word.nd rfl (.inl rfl) (pe_call (ok_place_block T) hr rfl T.mg_place_block T.F_place_block.kp (b_place_block T) .nil pass0 (pa_cons (pv 0) (pa_cons (pv 1) (pa_cons (pe_op op_fdiv (pv 2) (pe_cv T.mg_Plan T.cr_Plan T.cv_Plan_WIDTH)) pa_nil)))))
      (pss_one (ps_ret (pe_ifExp (pt_truth (pv 3) (fun _ => rfl)) (pe_ix ix_list (pe_ix ix_list (pe_fld (pv 0) rfl) (pv 3) (fun _ _ => rfl)) (pe_op op_mod (pv 2) (pe_cv T.mg_Plan T.cr_Plan T.cv_Plan_WIDTH)) (fun _ _ => rfl)) pe_int))))), ?_⟩
    have ec : cellAt v.M (nrow b m) (2 : Int).toNat = cellAt v.M (nrow b m) 2 := rfl
    refine ⟨_, rfl, _, rfl, _, rfl, im, A, v, b, n, sl, m, 2, rfl, I, h1, h2, by decide, by decide, _, _, rfl, rfl, _, rfl, ?_⟩
    rw [ec]
    unfold rdW at k
    by_cases e1 : at_ ≥ cellAt v.M (nrow b m) 2
    · rw [if_pos e1] at k
      rw [decide_eq_true e1]
      exact iteT k
    · rw [if_neg e1] at k
      rw [decide_eq_false e1]
      have ho : (at_ / 8).toNat < 10 := by omega
      refine iteF ⟨_, rfl, _, rfl, _, rfl, _, _, rfl, rfl, (by show CDiv _ 8; exact ⟨by decide, by decide⟩), im, A, v, b, n, sl, m, (at_ / 8).toNat, ?_, I, h1, h2, ho, hp, ?_⟩
      · show [V.ref im, V.int m, V.int (at_ / 8)] = _
        rw [show ((at_ / 8).toNat : Int) = at_ / 8 by omega]
      refine ⟨_, rfl, _, rfl, ?_⟩
      by_cases e2 : plV b v.M m (at_ / 8).toNat = 0
      · rw [if_pos e2] at k
        have e3 : (plV b v.M m (at_ / 8).toNat != 0) = false := by rw [e2]; rfl
        rw [e3]
        exact iteF k
      · rw [if_neg e2] at k
        have e3 : (plV b v.M m (at_ / 8).toNat != 0) = true := by simp [e2]
        rw [e3]
        rcases hpl _ ho with z | ⟨z1, z2⟩
        · exact absurd z e2
        have hf : fdOf b n = 2 + (b + 8 - 1) / 8 + n := rfl
        have b1 := I.pl.b1
        have n1 := I.pl.n1
        obtain ⟨r, row, r1, r2, r3, r4⟩ := I.rowAt (x := (plV b v.M m (at_ / 8).toNat).toNat) (by omega)
        have hol : (at_ % 8).toNat < row.length := by omega
        rw [cellAt_of r2 (List.getElem?_eq_getElem hol)] at k
        refine iteT ⟨_, rfl, im, _, _, _, _, rfl, I.ob, T.cl_Image, T.na_Image_cells, rfl, _, rfl, A.ca, _, _, .ref r, rfl, rfl, .of I.gr.out, at_of (j := (plV b v.M m (at_ / 8).toNat).toNat) (by omega) (by rw [List.getElem?_map, r1]; rfl), _, rfl, _, _, rfl, rfl, (by show (0 : Int) < 8; decide), r, _, _, _, rfl, rfl, .of r4, at_of (j := (at_ % 8).toNat) (by omega) (by rw [List.getElem?_map, List.getElem?_eq_getElem hol]; rfl), k⟩
def sp_read_words (CI CP : Addr) : Sp := fun vs H Q _ => ∃ (im : Addr) (A : IA) (v : IV) (b n s m at_ : Int) (c : Nat), vs = [.ref im, .int m, .int at_, .int c] ∧ ImgAt CI CP H im A v b n s ∧ 1 ≤ m ∧ m ≤ n ∧ PlcOk b n v.M m ∧ (∀ o, o < 10 → PlOk b n v.M m o) ∧ cellAt v.M (nrow b m) 2 ≤ 80 ∧ 0 ≤ at_ ∧ at_ ≤ 500 ∧ c ≤ 300 ∧
  ∀ H' p, Same H H' → H p = none → H' p = some (.lst (((rng at_ c).map (rdW b v.M m)).map V.int)) → Q (.ref p) H'
theorem ok_read_words (T : Tx K mg) : FnOk P w K mg base CX0 5 T.f_read_words T.fd_read_words ["image", "n", "at", "count"] (sp_read_words T.C_Image T.C_Plan) := by
  refine T.F_read_words.ok sc_read_words (fun vs H Q E h => ?_) (fun cdv A0 outer s H vs Q E hr h => ?_)
  · obtain ⟨_, _, _, _, _, _, _, _, _, rfl, _⟩ := h; rfl
  · obtain ⟨im, A, v, b, n, sl, m, at_, c, rfl, I, h1, h2, hp, hpl, hsz, hat, hat2, hc, k⟩ := h
    refine ⟨_, (pss_one (ps_ret (pe_lc rfl (own := [("cell", 4)]) (g := gName 4) (tt := tYes) sc_read_words.nd (pi_range2 rfl T.b_range (pa_cons (pv 2) (pa_cons (pe_op op_add (pv 2) (pv 3)) pa_nil))) (blkOk_by (N := ["image", "n", "at", "count", "cell"]) (sc := defScope s_read_words) (by decide +kernel)) (fun _ _ _ _ _ => pg_name (i := 4) sc_read_words.nd rfl (Or.inl rfl)) (fun _ _ _ _ _ => pts_nil) (fun _ _ _ _ _ => (pe_call (ok_read_word T) hr rfl T.mg_read_word T.F_read_word.kp (b_read_word T) .nil pass0 (pa_cons (pv 0) (pa_cons (pv 1) (pa_cons (pv 4) pa_nil)))))))), ?_⟩
    have ecn : (at_ + (c : Int) - at_).toNat = c := by omega
    have hg : ∀ i, i < c → ((rng at_ c).map (rdW b v.M m))[i]? = some (rdW b v.M m (at_ + (i : Int))) := fun i hi => by
      rw [List.getElem?_map, rng_get hi]
      rfl
    have hll : ((rng at_ c).map (rdW b v.M m)).length = c := by rw [List.length_map, rng_len]
    refine ⟨_, rfl, _, rfl, _, rfl, _, _, rfl, rfl, at_, at_ + c, rfl, ⟨by omega, by omega, by omega, by omega⟩, fun D hD => ?_⟩
    refine lc_range (lo := at_) (n := (at_ + (c : Int) - at_).toNat) (fun i H' => H' = upd H D (.lst ((((rng at_ c).map (rdW b v.M m)).take i).map V.int))) rfl ?_ ?_
    · rintro i H' hi rfl
      have hi : i < c := by omega
      have I' := I.keep (same_upd (o := .lst ((((rng at_ c).map (rdW b v.M m)).take i).map V.int)) hD)
      refine ⟨rfl, yes_ ⟨_, rfl, _, rfl, _, rfl, im, A, v, b, n, sl, m, at_ + (i : Int), rfl, I', h1, h2, hp, hpl, hsz, by omega, _, upd_same, ?_, ?_⟩⟩
      · rw [List.length_map]
        exact small1000 (by have := List.length_take_le i ((rng at_ c).map (rdW b v.M m)); omega)
      · rw [upd_upd, take_get (hg i hi), List.map_append]
        rfl
    rintro H' rfl
    refine k _ D (same_upd hD) hD ?_
    rw [upd_same, ecn, List.take_of_length_le (by omega)]
def wordsL (b : Int) (M : List (List Int)) (m : Int) : List Int := (rng 0 (cellAt M (nrow b m) 2).toNat).map (rdW b M m)
def sp_file_words (CI CP : Addr) : Sp := fun vs H Q _ => ∃ (im : Addr) (A : IA) (v : IV) (b n s m : Int), vs = [.ref im, .int m] ∧ ImgAt CI CP H im A v b n s ∧ 1 ≤ m ∧ m ≤ n ∧ PlcOk b n v.M m ∧ (∀ o, o < 10 → PlOk b n v.M m o) ∧ 0 ≤ cellAt v.M (nrow b m) 2 ∧ cellAt v.M (nrow b m) 2 ≤ 80 ∧
  ∀ H' p, Same H H' → H p = none → H' p = some (.tup ((wordsL b v.M m).map V.int)) → Q (.ref p) H'
theorem ok_file_words (T : Tx K mg) : FnOk P w K mg base CX0 6 T.f_file_words T.fd_file_words ["image", "n"] (sp_file_words T.C_Image T.C_Plan) := by
  refine T.F_file_words.ok sc_file_words (fun vs H Q E h => ?_) (fun cdv A0 outer s H vs Q E hr h => ?_)
  · obtain ⟨_, _, _, _, _, _, _, rfl, _⟩ := h; rfl
  · obtain ⟨im, A, v, b, n, sl, m, rfl, I, h1, h2, hp, hpl, hs0, hsz, k⟩ := h
    have hr2 : Room 2 _ := hr.mono (by decide)
    refine ⟨_, (pss_one (ps_ret (pe_callTy call_tuple_of rfl T.b_tuple (by decide +kernel) (pa_cons (pe_call (ok_read_words T) hr rfl T.mg_read_words T.F_read_words.kp (b_read_words T) .nil pass0 (pa_cons (pv 0) (pa_cons (pv 1) (pa_cons pe_int (pa_cons (pe_call (ok_node_cell T) hr2 rfl T.mg_node_cell T.F_node_cell.kp (b_node_cell T) .nil pass0 (pa_cons (pv 0) (pa_cons (pv 1) (pa_cons (pe_gc T.c_SIZE) pa_nil)))) pa_nil))))) pa_nil)))), ?_⟩
    refine ⟨_, rfl, _, rfl, _, rfl, _, rfl, im, A, v, b, n, sl, m, 2, rfl, I, h1, h2, by decide, by decide, im, A, v, b, n, sl, m, 0, (cellAt v.M (nrow b m) 2).toNat, ?_, I, h1, h2, hp, hpl, hsz, by decide, by decide, by omega, fun H1 p S1 np e1 => ?_⟩
    · show [V.ref im, V.int m, V.int 0, V.int (cellAt v.M (nrow b m) 2)] = _
      rw [show (((cellAt v.M (nrow b m) 2).toNat : Nat) : Int) = cellAt v.M (nrow b m) 2 by omega]
    refine ⟨p, _, rfl, .inl ⟨.of e1, fun t nt => ?_⟩⟩
    exact k _ t (S1.trans (same_upd nt)) (S1.free nt) upd_same
end
end K06
namespace K06
open PySem PySem.Spec PyProof.Rows L2 Rg
/-! ### the size put -/
def zeroC (M : List (List Int)) (x j : Nat) : Nat → List (List Int)
  | 0 => M
  | i + 1 => setC (zeroC M x j i) x (j + i) 0
def endV (b : Int) (M : List (List Int)) (m size : Int) : Int := if size < cellAt M (nrow b m) 2 then size else cellAt M (nrow b m) 2
def cutM (b : Int) (M : List (List Int)) (m : Int) (e : Int) : List (List Int) := if e % 8 = 0 ∨ plV b M m (e / 8).toNat = 0 then M else zeroC M (plV b M m (e / 8).toNat).toNat (e % 8).toNat (8 - (e % 8).toNat)
def psM (b : Int) (M : List (List Int)) (m size : Int) : List (List Int) := setC (cutM b M m (endV b M m size)) (nrow b m) 2 size
section
variable {P : Program} {w : World} {K : PySem.W.Frag} {mg : Str → Option Value} {base : Heap}
def sp_put_size (CI CP : Addr) : Sp := fun vs H Q _ => ∃ (im : Addr) (A : IA) (v : IV) (b n s m size : Int), vs = [.ref im, .int m, .int size] ∧ ImgAt CI CP H im A v b n s ∧ 1 ≤ m ∧ m ≤ n ∧ PlcOk b n v.M m ∧ (∀ o, o < 10 → PlOk b n v.M m o) ∧ 0 ≤ cellAt v.M (nrow b m) 2 ∧ cellAt v.M (nrow b m) 2 ≤ 80 ∧ 0 ≤ size ∧
  ∀ H', ImgAt CI CP H' im A { v with M := psM b v.M m size } b n s → Kp A.rs H H' → Q .non H'
theorem ok_put_size (T : Tx K mg) : FnOk P w K mg base CX0 4 T.f_put_size T.fd_put_size ["image", "n", "size"] (sp_put_size T.C_Image T.C_Plan) := by
  refine T.F_put_size.ok sc_put_size (fun vs H Q E h => ?_) (fun cdv A0 outer s H vs Q E hr h => ?_)
  · obtain ⟨_, _, _, _, _, _, _, _, rfl, _⟩ := h; rfl
  · obtain ⟨im, A, v, b, n, sl, m, size, rfl, I, h1, h2, hp, hpl, hs0, hs80, hsz, k⟩ := h
    have hr2 : Room 2 _ := hr.mono (by decide)
    refine ⟨_, (pss_cons (ps_set (i := 3) sc_put_size.nd rfl (.inl rfl) (pe_callB (call_min2 rfl) rfl T.b_min (by decide +kernel) (pa_cons (pe_call (ok_node_cell T) hr2 rfl T.mg_node_cell T.F_node_cell.kp (b_node_cell T) .nil pass0 (pa_cons (pv 0) (pa_cons (pv 1) (pa_cons (pe_gc T.c_SIZE) pa_nil)))) (pa_cons (pv 2) pa_nil))))
      (Evl.pss_cut (ps_if (pt_cmpR op_ne (pe_op op_mod (pv 3) (pe_cv T.mg_Plan T.cr_Plan T.cv_Plan_WIDTH)) pe_int (nomark _))
        (pss_cons (ps_set (i := 4) sc_put_size.nd rfl (.inl rfl) (pe_call (ok_place_block T) hr rfl T.mg_place_block T.F_place_block.kp (b_place_block T) .nil pass0 (pa_cons (pv 0) (pa_cons (pv 1) (pa_cons (pe_op op_fdiv (pv 3) (pe_cv T.mg_Plan T.cr_Plan T.cv_Plan_WIDTH)) pa_nil)))))
        (pss_one (ps_if (pt_truth (pv 4) (fun _ => rfl))
          (pss_one (ps_for PassesOwn.never rfl (pi_range2 rfl T.b_range (pa_cons (pe_op op_mod (pv 3) (pe_cv T.mg_Plan T.cr_Plan T.cv_Plan_WIDTH)) (pa_cons (pe_cv T.mg_Plan T.cr_Plan T.cv_Plan_WIDTH) pa_nil))) (pg_name (i := 5) sc_put_size.nd rfl (.inl rfl))
            (pss_one (ps_asg pe_int (pg_sub (pe_ix ix_list (pe_fld (pv 0) rfl) (pv 4) (fun _ _ => rfl)) (pv 5) set_list)))))
          pss_nil)))
        pss_nil)
      (pss_one (ps_expr (pe_call (ok_put_node_cell T) hr2 rfl T.mg_put_node_cell T.F_put_node_cell.kp (b_put_node_cell T) .nil pass0 (pa_cons (pv 0) (pa_cons (pv 1) (pa_cons (pe_gc T.c_SIZE) (pa_cons (pv 2) pa_nil))))))))), ?_⟩
    have ec : cellAt v.M (nrow b m) (2 : Int).toNat = cellAt v.M (nrow b m) 2 := rfl
    refine ⟨_, rfl, _, rfl, im, A, v, b, n, sl, m, 2, rfl, I, h1, h2, by decide, by decide, _, rfl, _, _, rfl, ?_⟩
    rw [ec]
    obtain ⟨e, he⟩ : ∃ e, (if size < cellAt v.M (nrow b m) 2 then size else cellAt v.M (nrow b m) 2) = e := ⟨_, rfl⟩
    have he2 : endV b v.M m size = e := he
    rw [he]
    have e0 : 0 ≤ e := by rw [← he]; split <;> omega
    have e80 : e ≤ 80 := by rw [← he]; split <;> omega
    unfold psM at k
    rw [he2] at k
    clear he he2
    have hf : fdOf b n = 2 + (b + 8 - 1) / 8 + n := rfl
    have b1 := I.pl.b1
    have n1 := I.pl.n1
    refine ⟨fun σ H' => ∃ u4 u5 : Option V, σ = [some (.ref im), some (.int m), some (.int size), some (.int e), u4, u5] ∧ ImgAt T.C_Image T.C_Plan H' im A { v with M := cutM b v.M m e } b n sl ∧ Kp A.rs H H', ?_, ?_⟩
    · refine ⟨_, rfl, _, _, rfl, rfl, (by show (0 : Int) < 8; decide), rfl, _, rfl, ?_⟩
      rw [dec_iv]
      by_cases z : e % 8 = 0
      · rw [decide_eq_true z]
        refine iteF ⟨_, _, rfl, ?_, Kp.refl⟩
        unfold cutM
        rw [if_pos (.inl z)]
        exact I
      · rw [decide_eq_false z]
        have ho : (e / 8).toNat < 10 := by omega
        refine iteT ⟨_, rfl, _, rfl, _, rfl, _, _, rfl, rfl, (by show CDiv _ 8; exact ⟨by decide, by decide⟩), im, A, v, b, n, sl, m, (e / 8).toNat, ?_, I, h1, h2, ho, hp, ?_⟩
        · show [V.ref im, V.int m, V.int (e / 8)] = _
          rw [show ((e / 8).toNat : Int) = e / 8 by omega]
        refine ⟨_, rfl, _, rfl, ?_⟩
        by_cases z2 : plV b v.M m (e / 8).toNat = 0
        · have z3 : (plV b v.M m (e / 8).toNat != 0) = false := by rw [z2]; rfl
          rw [z3]
          refine iteF ⟨_, _, rfl, ?_, Kp.refl⟩
          unfold cutM
          rw [if_pos (.inr z2)]
          exact I
        have z3 : (plV b v.M m (e / 8).toNat != 0) = true := by simp [z2]
        rw [z3]
        have ecut : cutM b v.M m e = zeroC v.M (plV b v.M m (e / 8).toNat).toNat (e % 8).toNat (8 - (e % 8).toNat) := by
          unfold cutM
          rw [if_neg (by intro h; rcases h with h | h; exact z h; exact z2 h)]
        rw [ecut]
        obtain ⟨x, hx⟩ : ∃ x : Nat, plV b v.M m (e / 8).toNat = x := ⟨(plV b v.M m (e / 8).toNat).toNat, by rcases hpl _ ho with q | q <;> omega⟩
        obtain ⟨j, hj⟩ : ∃ j : Nat, e % 8 = j := ⟨(e % 8).toNat, by omega⟩
        have hxb : (x : Int) < b := by rcases hpl _ ho with q | q <;> omega
        rw [hx, hj]
        rw [show ((x : Int)).toNat = x by omega, show ((j : Int)).toNat = j by omega]
        have hj8 : j < 8 := by omega
        refine iteT ⟨_, rfl, _, _, rfl, rfl, (by show (0 : Int) < 8; decide), j, 8, (by show [V.int (e % 8), V.int 8] = _; rw [hj]), ⟨by omega, by omega, by decide, by decide⟩, for_range (lo := j) (n := ((8 : Int) - j).toNat) (fun i σ H' => ∃ u5 : Option V, σ = [some (.ref im), some (.int m), some (.int size), some (.int e), some (.int x), u5] ∧ ImgAt T.C_Image T.C_Plan H' im A { v with M := zeroC v.M x j i } b n sl ∧ Kp A.rs H H') ⟨_, rfl, I, Kp.refl⟩ ?_ ?_⟩
        · rintro i σ H' hi ⟨u5, rfl, I', k'⟩
          obtain ⟨r, row, r1, r2, r3, r4⟩ := I'.rowAt (x := x) hxb
          refine ⟨_, rfl, im, _, _, _, _, rfl, I'.ob, T.cl_Image, T.na_Image_cells, rfl, _, rfl, A.ca, _, _, .ref r, rfl, rfl, .of I'.gr.out, at_of (j := x) rfl (by rw [List.getElem?_map, r1]; rfl), _, rfl, r, _, _, j + i, rfl, rfl, r4, ixN_nat rfl (by rw [List.length_map, r3]; omega), ?_⟩
          refine ⟨_, rfl, ?_, k'.own (List.mem_of_getElem? r1)⟩
          exact I'.setC (j := j + i) (x := 0) r1 r2
        · rintro σ H' ⟨u5, rfl, I', k'⟩
          refine ⟨_, _, rfl, ?_, k'⟩
          rw [show ((8 : Int) - j).toNat = 8 - j by omega] at I'
          exact I'
    rintro σ H' ⟨u4, u5, rfl, I', k'⟩
    exact ⟨_, rfl, _, rfl, _, rfl, im, A, _, b, n, sl, m, 2, size, rfl, I', h1, h2, by decide, by decide, fun H2 I2 k2 => k H2 I2 (k'.trans k2)⟩
def sp_set_size (CI CP CU CT : Addr) : Sp := fun vs H Q E => ∃ (im : Addr) (A : IA) (v : IV) (b n s m size : Int), vs = [.ref im, .int m, .int size] ∧ ImgAt CI CP H im A v b n s ∧ 1 ≤ m ∧ m ≤ n ∧ PlcOk b n v.M m ∧ (∀ o, o < 10 → PlOk b n v.M m o) ∧ 0 ≤ cellAt v.M (nrow b m) 2 ∧ cellAt v.M (nrow b m) 2 ≤ 80 ∧ 0 ≤ size ∧
  (size > cellAt v.M (nrow b m) 2 → late b v.M m = true → ∀ H', Same H H' → E (.ref CU) none H') ∧
  (¬ (size > cellAt v.M (nrow b m) 2 ∧ late b v.M m = true) → size > 80 → ∀ H', Same H H' → E (.ref CT) none H') ∧
  (¬ (size > cellAt v.M (nrow b m) 2 ∧ late b v.M m = true) → size ≤ 80 → ∀ H', ImgAt CI CP H' im A { v with M := psM b v.M m size } b n s → Kp A.rs H H' → Q .non H')
theorem ok_set_size (T : Tx K mg) : FnOk P w K mg base (L2N.CX P w) 6 T.f_set_size T.fd_set_size ["image", "n", "size"] (sp_set_size T.C_Image T.C_Plan T.C_Unfinished T.C_TooLong) := by
  refine T.F_set_size.okN sc_set_size (fun vs H Q E h => ?_) (fun cdv A0 outer s H vs Q E hr h => ?_)
  · obtain ⟨_, _, _, _, _, _, _, _, rfl, _⟩ := h; rfl
  · obtain ⟨im, A, v, b, n, sl, m, size, rfl, I, h1, h2, hp, hpl, hs0, hs80, hsz, kU, kT, k⟩ := h
    have hr2 : Room 2 _ := hr.mono (by decide)
    have hr4 : Room 4 _ := hr.mono (by decide)
    refine ⟨_, (Evl.pss_cut (ps_if (PW.pt (pw_and (pt_cmpR op_gt (pv 2) (pe_call (ok_node_cell T) hr2 rfl T.mg_node_cell T.F_node_cell.kp (b_node_cell T) .nil pass0 (pa_cons (pv 0) (pa_cons (pv 1) (pa_cons (pe_gc T.c_SIZE) pa_nil)))) (nomark _)) (pw_and1 (pt_val (pe_call (ok_unfinished T) hr rfl T.mg_unfinished T.F_unfinished.kp (b_unfinished T) .nil pass0 (pa_cons (pv 0) (pa_cons (pv 1) pa_nil)))))))
        (pss_one (L2N.ps_raise rfl (L2N.takes_of rfl rfl rfl rfl) (L2N.pmk_own PySem.F.excBase_ValueError T.xe_Unfinished T.mg_Unfinished T.ke_Unfinished (raises_own T.be_Unfinished T.te_Unfinished) rfl)))
        pss_nil)
      (pss_cons (ps_if (pt_cmpR op_gt (pv 2) (pe_cv T.mg_Plan T.cr_Plan T.cv_Plan_LONGEST) (nomark _))
        (pss_one (L2N.ps_raise rfl (L2N.takes_of rfl rfl rfl rfl) (L2N.pmk_own PySem.F.excBase_ValueError T.xe_TooLong T.mg_TooLong T.ke_TooLong (raises_own T.be_TooLong T.te_TooLong) rfl)))
        pss_nil)
      (PSs.nox (pss_one (ps_expr (pe_call (ok_put_size T) hr4 rfl T.mg_put_size T.F_put_size.kp (b_put_size T) .nil pass0 (pa_cons (pv 0) (pa_cons (pv 1) (pa_cons (pv 2) pa_nil))))))))), ?_⟩
    have ec : cellAt v.M (nrow b m) (2 : Int).toNat = cellAt v.M (nrow b m) 2 := rfl
    refine ⟨fun σ H' => ¬ (size > cellAt v.M (nrow b m) 2 ∧ late b v.M m = true) ∧ σ = [some (.ref im), some (.int m), some (.int size)] ∧ Same H H', ?_, ?_⟩
    · refine ⟨_, rfl, _, rfl, _, rfl, im, A, v, b, n, sl, m, 2, rfl, I, h1, h2, by decide, by decide, _, _, rfl, rfl, _, rfl, ?_⟩
      rw [ec]
      by_cases z : size > cellAt v.M (nrow b m) 2
      · rw [decide_eq_true z]
        refine iteT ⟨_, rfl, _, rfl, im, A, v, b, n, sl, m, rfl, I, h1, h2, hp, fun H1 S1 => ⟨_, rfl, ?_⟩⟩
        cases q : late b v.M m with
        | true => exact iteT (kU z q _ S1)
        | false => exact iteF ⟨fun h => absurd h.2 (by decide), rfl, S1⟩
      · rw [decide_eq_false z]
        exact iteF ⟨fun h => z h.1, rfl, Same.refl _⟩
    rintro σ H1 ⟨hn, rfl, S1⟩
    refine ⟨_, rfl, _, _, rfl, rfl, _, rfl, ite2 (fun z => ?_) (fun z => ?_)⟩
    · have z' := of_decide_eq_true z
      exact kT hn z' _ S1
    · have z' : size ≤ 80 := by
        have : ¬ (size > 80) := fun q => z (decide_eq_true q)
        omega
      exact ⟨_, rfl, _, rfl, _, rfl, im, A, v, b, n, sl, m, size, rfl, I.keep S1, h1, h2, hp, hpl, hs0, hs80, hsz, fun H2 I2 k2 => k hn z' H2 I2 (fun x o e n => k2 _ _ (S1 _ _ e) n)⟩
end
end K06
namespace K06
open PySem PySem.Spec PyProof.Rows L2 Rg
/-! ### a piece freed -/
theorem cut2 (xs : List V) : cutV xs (some (-2)) none = xs.drop (xs.length - 2) := by
  have e : HT.sIx xs.length 0 (some (-2)) = xs.length - 2 := by
    show (if (-2 : Int) < 0 then (-2 + (xs.length : Int)).toNat else min (-2 : Int).toNat xs.length) = _
    rw [if_pos (by decide)]
    omega
  unfold cutV
  rw [e]
  exact List.take_of_length_le (by rw [List.length_drop]; exact Nat.le_refl _)
/-- places dropped one after another -/
def dropS (b : Int) (v : IV) (m : Int) (ow : Nat) : List Nat → IV
  | [] => v
  | o :: os => dropS b (dropP b v m o ow) m ow os
def DropOk (b n m : Int) (ow : Nat) : IV → List Nat → Prop
  | _, [] => True
  | v, o :: os => o < 10 ∧ PlcOk b n v.M m ∧ PlOk b n v.M m o ∧ cellAt v.M (nrow b m) 3 = ow ∧ DropOk b n m ow (dropP b v m o ow) os
theorem DropOk.at_ {b n m : Int} {ow : Nat} : ∀ {v : IV} {os : List Nat}, DropOk b n m ow v os → ∀ {i o : Nat}, os[i]? = some o → o < 10 ∧ PlcOk b n (dropS b v m ow (os.take i)).M m ∧ PlOk b n (dropS b v m ow (os.take i)).M m o ∧ cellAt (dropS b v m ow (os.take i)).M (nrow b m) 3 = ow ∧ dropS b v m ow (os.take (i + 1)) = dropP b (dropS b v m ow (os.take i)) m o ow
  | _, [], _, i, o, h => by simp at h
  | v, p :: os, D, 0, o, h => by
    obtain ⟨d1, d2, d3, d4, d5⟩ := D
    have e : p = o := by simpa using h
    subst e
    exact ⟨d1, d2, d3, d4, by simp [dropS]⟩
  | v, p :: os, D, i + 1, o, h => by
    have := DropOk.at_ D.2.2.2.2 (i := i) (o := o) (by simpa using h)
    simpa [dropS] using this
def pieceL (b : Int) (M : List (List Int)) (m : Int) : List Int := (tbL b M m).drop ((tbL b M m).length - 2)
section
variable {P : Program} {w : World} {K : PySem.W.Frag} {mg : Str → Option Value} {base : Heap}
def sp_free_piece (CI CP : Addr) : Sp := fun vs H Q _ => ∃ (im : Addr) (A : IA) (v : IV) (b n s m : Int) (ow : Nat), vs = [.ref im, .int m] ∧ ImgAt CI CP H im A v b n s ∧ 1 ≤ m ∧ m ≤ n ∧ PlcOk b n v.M m ∧ ow < 4 ∧ DropOk b n m ow v ((pieceL b v.M m).reverse.map Int.toNat) ∧
  ∀ H' rs', RsOf H A.rs rs' → ImgAt CI CP H' im { A with rs := rs' } (dropS b v m ow ((pieceL b v.M m).reverse.map Int.toNat)) b n s → Kp (ft3 A ++ A.rs) H H' → Q (.int (pieceL b v.M m).length) H'
theorem ok_free_piece (T : Tx K mg) : FnOk P w K mg base CX0 6 T.f_free_piece T.fd_free_piece ["image", "n"] (sp_free_piece T.C_Image T.C_Plan) := by
  refine T.F_free_piece.ok sc_free_piece (fun vs H Q E h => ?_) (fun cdv A0 outer s H vs Q E hr h => ?_)
  · obtain ⟨_, _, _, _, _, _, _, _, rfl, _⟩ := h; rfl
  · obtain ⟨im, A, v, b, n, sl, m, ow, rfl, I, h1, h2, hp, how, D, k⟩ := h
    have hr4 : Room 4 _ := hr.mono (by decide)
    refine ⟨_, (pss_cons (ps_set (i := 2) sc_free_piece.nd rfl (.inl rfl) (pe_slice sl_list (pe_call (ok_taken_behind T) hr4 rfl T.mg_taken_behind T.F_taken_behind.kp (b_taken_behind T) .nil pass0 (pa_cons (pv 0) (pa_cons (pv 1) pa_nil))) (po_some (pe_un un_neg (pe_gc T.c_MOST_PIECE))) po_none))
      (pss_cons (ps_for PassesOwn.never rfl (pi_reversed (by rfl) T.b_reversed (pa_cons (pv 2) pa_nil)) (pg_name (i := 3) sc_free_piece.nd rfl (.inl rfl))
        (pss_one (ps_expr (pe_call (ok_drop_place T) hr rfl T.mg_drop_place T.F_drop_place.kp (b_drop_place T) .nil pass0 (pa_cons (pv 0) (pa_cons (pv 1) (pa_cons (pv 3) pa_nil)))))))
      (pss_one (ps_ret (pe_callB call_len_seq rfl T.b_len (by decide +kernel) (pa_cons (pv 2) pa_nil)))))), ?_⟩
    refine ⟨_, rfl, _, rfl, im, A, v, b, n, sl, m, rfl, I, h1, h2, hp, fun H1 p S1 np e1 => ?_⟩
    refine ⟨_, rfl, _, rfl, p, _, rfl, .of e1, fun q nq => ?_⟩
    have ecut : cutV ((tbL b v.M m).map V.int) (some (-2)) none = (pieceL b v.M m).map V.int := by
      rw [cut2, List.length_map, ← List.map_drop]
      rfl
    have S2 := S1.trans (same_upd (o := .lst ((pieceL b v.M m).map V.int)) nq)
    have nq0 := S1.free nq
    have eq : upd H1 q (.lst ((pieceL b v.M m).map V.int)) q = some (.lst ((pieceL b v.M m).map V.int)) := upd_same
    rw [← ecut] at S2 eq
    change Same H (upd H1 q (.lst (cutV ((tbL b v.M m).map V.int) (some (-2)) none))) at S2
    generalize upd H1 q (.lst (cutV ((tbL b v.M m).map V.int) (some (-2)) none)) = H2 at S2 eq ⊢
    rw [ecut] at eq
    obtain ⟨os, hos⟩ : ∃ os, (pieceL b v.M m).reverse.map Int.toNat = os := ⟨_, rfl⟩
    rw [hos] at D k
    have lenp : os.length = (pieceL b v.M m).length := by rw [← hos]; simp
    have nqr : q ∉ A.rs := fun z => by
      obtain ⟨o, e⟩ := I.held (x := q) (by simp [IA.reads, z])
      rw [nq0] at e
      cases e
    have nqf : q ∉ ft3 A := fun z => by
      obtain ⟨o, e⟩ := I.ft3h q z
      rw [nq0] at e
      cases e
    refine ⟨_, rfl, q, _, rfl, .of eq, ?_⟩
    refine for_it walk_rev (fun i σ H' => ∃ (u3 : Option V) (rs' : List Addr), σ = [some (.ref im), some (.int m), some (.ref q), u3] ∧ RsOf H A.rs rs' ∧ ImgAt T.C_Image T.C_Plan H' im { A with rs := rs' } (dropS b v m ow (os.take i)) b n sl ∧ Kp (ft3 A ++ A.rs) H H' ∧ H' q = some (.lst ((pieceL b v.M m).map V.int)) ∧ q ∉ rs')
      ⟨_, A.rs, rfl, RsOf.refl, I.keep S2, Kp.of S2, eq, nqr⟩ (fun i σ H' _ ⟨_, _, _, _, _, _, e, _⟩ => .of e) ?_ ?_
    · rintro i x σ H' H'' hi ⟨u3, rs', rfl, R, I', k', e', nr⟩ ⟨rfl, hx⟩
      rw [List.length_map] at hi hx
      rw [List.getElem?_map] at hx
      obtain ⟨y, hy, rfl⟩ := Option.map_eq_some_iff.mp hx
      have hym : y ∈ tbL b v.M m := List.mem_of_mem_drop (List.mem_of_getElem? hy)
      have hy0 := rng_mem (List.mem_filter.mp hym).1
      have ho : os[i]? = some y.toNat := by
        rw [← hos, List.getElem?_map, List.getElem?_reverse hi, hy]
        rfl
      obtain ⟨d1, d2, d3, d4, d5⟩ := D.at_ ho
      refine ⟨_, rfl, _, rfl, _, rfl, im, _, _, b, n, sl, m, y.toNat, ow, ?_, I', h1, h2, d1, d2, d3, d4, how, fun H3 rs3 R3 I3 k3 => ?_⟩
      · show [V.ref im, V.int m, V.int y] = _
        rw [show ((y.toNat : Nat) : Int) = y by omega]
      rw [← d5] at I3
      have k13 : Kp (ft3 A ++ A.rs) H H3 := Kp.rsOf (L := ft3 A) k' R k3
      refine ⟨_, rs3, rfl, RsOf.trans2 (L := ft3 A) k' (fun x hx => I'.ft3h x hx) R R3, I3, k13, k3 _ _ e' (fun z => ?_), fun z => ?_⟩
      · rcases List.mem_append.mp z with z | z
        · exact nqf z
        · exact nr z
      · rcases R3 q z with z | z
        · exact nr z
        · rw [e'] at z
          cases z
    · rintro σ H' ⟨u3, rs', rfl, R, I', k', e', nr⟩
      rw [List.length_map, ← lenp, List.take_length] at I'
      refine ⟨_, rfl, q, _, rfl, .inl (.of e'), ?_⟩
      show Q (.int (((pieceL b v.M m).map V.int).length : Int)) H'
      rw [List.length_map]
      exact k H' rs' R I' k'
end
end K06
namespace K06
open PySem PySem.Spec PyProof.Rows L2 Rg
/-! ### places taken one after another -/
inductive TR where
  | ok (v : IV)
  | oq
  | bf
def fillR (b n : Int) (v : IV) (m : Int) (o ow : Nat) : TR := if quota v ow then .oq else match pickL (letL b n v.M 2 v.ba) v.wi with
  | none => .bf
  | some x => .ok (takP b v m o ow 2 x.toNat)
def takeR (b n : Int) (v : IV) (m : Int) (o ow : Nat) : TR := if plV b v.M m o ≠ 0 then .ok v else if needsT b v m o = false then fillR b n v m o ow else if quota v ow then .oq else match pickL (letL b n v.M 1 v.ba) v.wi with
  | none => .bf
  | some t => fillR b n (takT b v m ow t.toNat) m o ow
def takeRs (b n m : Int) (ow : Nat) : IV → List Nat → TR
  | v, [] => .ok v
  | v, o :: os => match takeR b n v m o ow with
    | .ok v' => takeRs b n m ow v' os
    | .oq => .oq
    | .bf => .bf
def TkOk (b n m : Int) (ow : Nat) : IV → List Nat → Prop
  | _, [] => True
  | v, o :: os => o < 10 ∧ PlcOk b n v.M m ∧ cellAt v.M (nrow b m) 3 = ow ∧ (cellAt v.M 0 ow).natAbs.log2 < 1910 ∧ ∀ v', takeR b n v m o ow = .ok v' → TkOk b n m ow v' os
theorem pick_some {l : List Int} {wi : Int} (h : l ≠ []) : ∃ x, pickL l wi = some x := by
  cases l with
  | nil => exact absurd rfl h
  | cons a l =>
    unfold pickL
    cases ((a :: l).filter fun x => decide (wi ≤ x)).head? with
    | some z => exact ⟨z, rfl⟩
    | none => exact ⟨a, rfl⟩
theorem take_place_R {CI CP CO CB : Addr} {H : Hp} {im : Addr} {A : IA} {v : IV} {b n s m : Int} {o ow : Nat} {Q : VK} {E : XK} (I : ImgAt CI CP H im A v b n s) (h1 : 1 ≤ m) (h2 : m ≤ n) (ho : o < 10) (hp : PlcOk b n v.M m) (how : cellAt v.M (nrow b m) 3 = ow) (how4 : ow < 4) (hlg : (cellAt v.M 0 ow).natAbs.log2 < 1910)
    (k : ∀ v', takeR b n v m o ow = .ok v' → ∀ H' rs', RsOf H A.rs rs' → ImgAt CI CP H' im { A with rs := rs' } v' b n s → Kp (ft3 A ++ A.rs) H H' → ∀ y, Q (.int y) H')
    (kQ : takeR b n v m o ow = .oq → ∀ H', Same H H' → E (.ref CO) none H') (kB : takeR b n v m o ow = .bf → ∀ H', Same H H' → E (.ref CB) none H') :
    sp_take_place CI CP CO CB [.ref im, .int m, .int o] H Q E := by
  have b1 := I.pl.b1
  have n1 := I.pl.n1
  have hx : ∀ {kind wi : Int} {M : List (List Int)} {ba : List Int} {x : Nat}, pickL (letL b n M kind ba) wi = some (x : Int) → letL b n M kind ba ≠ [] := fun h => pick_ne h
  refine ⟨im, A, v, b, n, s, m, o, ow, rfl, I, h1, h2, ho, hp, how, how4, hlg, fun z H' S => ?_, fun z hn => ⟨fun q H' S => ?_, fun q l H' S => ?_, fun q x ex H' rs' R I' k' => ?_⟩, fun z hn => ⟨fun q H' S => ?_, fun q l H' S => ?_, fun q t et => ⟨fun q2 H' S => ?_, fun q2 l H' S => ?_, fun q2 x ex H' rs' R I' k' => ?_⟩⟩⟩
  · exact k v (by unfold takeR; rw [if_pos z]) H' A.rs RsOf.refl (I.keep S) (Kp.of S) _
  · exact kQ (by unfold takeR fillR; rw [if_neg (by simp [z]), if_pos hn, if_pos q]) H' S
  · exact kB (by unfold takeR fillR; rw [if_neg (by simp [z]), if_pos hn, if_neg q, l]; rfl) H' S
  · exact k _ (by unfold takeR fillR; rw [if_neg (by simp [z]), if_pos hn, if_neg q, ex]; rfl) H' rs' R I' k' _
  · exact kQ (by unfold takeR; rw [if_neg (by simp [z]), if_neg (by simp [hn]), if_pos q]) H' S
  · exact kB (by unfold takeR; rw [if_neg (by simp [z]), if_neg (by simp [hn]), if_neg q, l]; rfl) H' S
  · exact kQ (by unfold takeR fillR; rw [if_neg (by simp [z]), if_neg (by simp [hn]), if_neg q, et]; exact if_pos q2) H' S
  · refine kB ?_ H' S
    unfold takeR fillR
    rw [if_neg (by simp [z]), if_neg (by simp [hn]), if_neg q, et]
    show (if quota (takT b v m ow t) ow then TR.oq else match pickL (letL b n (takT b v m ow t).M 2 v.ba) v.wi with | none => TR.bf | some x => TR.ok (takP b (takT b v m ow t) m o ow 2 x.toNat)) = _
    rw [if_neg q2, l]
    rfl
  · refine k _ ?_ H' rs' R I' k' _
    unfold takeR fillR
    rw [if_neg (by simp [z]), if_neg (by simp [hn]), if_neg q, et]
    show (if quota (takT b v m ow t) ow then TR.oq else match pickL (letL b n (takT b v m ow t).M 2 v.ba) v.wi with | none => TR.bf | some x => TR.ok (takP b (takT b v m ow t) m o ow 2 x.toNat)) = _
    rw [if_neg q2, ex]
    rfl
section
variable {P : Program} {w : World} {K : PySem.W.Frag} {mg : Str → Option Value} {base : Heap}
def natV (o : Nat) : V := .int (o : Int)
def sp_take_places (CI CP CO CB : Addr) : Sp := fun vs H Q E => ∃ (im : Addr) (A : IA) (v : IV) (b n s m : Int) (ow : Nat) (q : Addr) (os : List Nat), vs = [.ref im, .int m, .ref q] ∧ ImgAt CI CP H im A v b n s ∧ 1 ≤ m ∧ m ≤ n ∧ ow < 4 ∧ H q = some (.lst (os.map natV)) ∧ q ∉ ft3 A ++ A.rs ∧ TkOk b n m ow v os ∧
  (∀ v', takeRs b n m ow v os = .ok v' → ∀ H' rs', RsOf H A.rs rs' → ImgAt CI CP H' im { A with rs := rs' } v' b n s → Kp (ft3 A ++ A.rs) H H' → Q .non H') ∧
  (takeRs b n m ow v os = .oq → ∀ H', Kp (ft3 A ++ A.rs) H H' → (os.length ≤ 1 → Same H H') → E (.ref CO) none H') ∧
  (takeRs b n m ow v os = .bf → ∀ H', Kp (ft3 A ++ A.rs) H H' → (os.length ≤ 1 → Same H H') → E (.ref CB) none H')
theorem ok_take_places (T : Tx K mg) : FnOk P w K mg base (L2N.CX P w) 7 T.f_take_places T.fd_take_places ["image", "n", "places"] (sp_take_places T.C_Image T.C_Plan T.C_OverQuota T.C_BlocksFull) := by
  refine T.F_take_places.okN sc_take_places (fun vs H Q E h => ?_) (fun cdv A0 outer s H vs Q E hr h => ?_)
  · obtain ⟨_, _, _, _, _, _, _, _, _, _, rfl, _⟩ := h; rfl
  · obtain ⟨im, A, v, b, n, sl, m, ow, q, os, rfl, I, h1, h2, how4, hq, nq, D, k, kQ, kB⟩ := h
    refine ⟨_, (pss_one (ps_for (passes_of rfl) rfl (pi_list (pv 2)) (pg_name (i := 3) sc_take_places.nd rfl (.inl rfl))
        (pss_one (ps_expr (pe_callS (ok_take_place T) hr rfl T.mg_take_place T.F_take_place.kp (b_take_place T) (fun σ => L2N.passAt (L2N.takes_of rfl rfl rfl rfl) σ) (pa_cons (pv 0) (pa_cons (pv 1) (pa_cons (pv 3) pa_nil)))))))), ?_⟩
    refine ⟨_, rfl, q, rfl, ⟨_, .of hq⟩, ?_⟩
    refine for_list (K := K) (a := q) (xs := os.map natV) (fun i σ H' => ∃ (u3 : Option V) (rs' : List Addr) (v' : IV), σ = [some (.ref im), some (.int m), some (.ref q), u3] ∧ RsOf H A.rs rs' ∧ ImgAt T.C_Image T.C_Plan H' im { A with rs := rs' } v' b n sl ∧ Kp (ft3 A ++ A.rs) H H' ∧ H' q = some (.lst (os.map natV)) ∧ q ∉ ft3 A ++ rs' ∧ TkOk b n m ow v' (os.drop i) ∧ takeRs b n m ow v os = takeRs b n m ow v' (os.drop i) ∧ (i = 0 → Same H H'))
      ⟨_, A.rs, v, rfl, RsOf.refl, I, Kp.refl, hq, nq, D, rfl, fun _ => Same.refl _⟩ (fun i σ H' _ ⟨_, _, _, _, _, _, _, e, _⟩ => .of e) ?_ ?_
    · rintro i x σ H' hi ⟨u3, rs', v', rfl, R, I', k', e', nr, D', er, sm⟩
      rw [List.getElem?_map] at hi
      obtain ⟨o, ho, rfl⟩ := Option.map_eq_some_iff.mp hi
      have hil := (List.getElem?_eq_some_iff.mp ho).1
      have ed : os.drop i = o :: os.drop (i + 1) := by
        rw [List.drop_eq_getElem_cons hil]
        rw [List.getElem?_eq_getElem hil] at ho
        rw [Option.some.inj ho]
      rw [ed] at D' er
      obtain ⟨d1, d2, d3, d4, d5⟩ := D'
      have one : os.length ≤ 1 → i = 0 := fun z => by omega
      refine ⟨_, rfl, _, rfl, _, rfl, ?_⟩
      dsimp only [tNil, List.nil_append, List.cons_append]
      refine take_place_R (CO := T.C_OverQuota) (CB := T.C_BlocksFull) (o := o) I' h1 h2 d1 d2 d3 how4 d4 (fun v2 e2 H3 rs3 R3 I3 k3 y => ?_) (fun e2 H3 S3 => ?_) (fun e2 H3 S3 => ?_)
      · have k13 : Kp (ft3 A ++ A.rs) H H3 := Kp.rsOf (L := ft3 A) k' R k3
        refine ⟨_, rs3, v2, rfl, RsOf.trans2 (L := ft3 A) k' (fun x hx => I'.ft3h x hx) R R3, I3, k13, k3 _ _ e' nr, fun z => ?_, d5 _ e2, ?_, fun z => by omega⟩
        · rcases List.mem_append.mp z with z | z
          · exact nr (List.mem_append.mpr (.inl z))
          · rcases R3 q z with z | z
            · exact nr (List.mem_append.mpr (.inr z))
            · rw [e'] at z
              cases z
        · rw [er]
          show (match takeR b n v' m o ow with | .ok v' => takeRs b n m ow v' (os.drop (i + 1)) | .oq => .oq | .bf => .bf) = _
          rw [e2]
      · refine kQ ?_ H3 (k'.same S3) (fun z => (sm (one z)).trans S3)
        rw [er]
        show (match takeR b n v' m o ow with | .ok v' => takeRs b n m ow v' (os.drop (i + 1)) | .oq => .oq | .bf => .bf) = _
        rw [e2]
      · refine kB ?_ H3 (k'.same S3) (fun z => (sm (one z)).trans S3)
        rw [er]
        show (match takeR b n v' m o ow with | .ok v' => takeRs b n m ow v' (os.drop (i + 1)) | .oq => .oq | .bf => .bf) = _
        rw [e2]
    · rintro σ H' ⟨u3, rs', v', rfl, R, I', k', e', nr, D', er, sm⟩
      rw [List.length_map, List.drop_length] at er
      exact k v' er H' rs' R I' k'
end
end K06
namespace K06
open PySem PySem.Spec PyProof.Rows L2 Rg
/-! ### holes filled -/
def holesL (b : Int) (M : List (List Int)) (m first last : Int) : List Int := (rng first (last + 1 - first).toNat).filter fun x => decide (plV b M m x.toNat = 0)
def holesN (b : Int) (M : List (List Int)) (m first last : Int) : List Nat := (holesL b M m first last).map Int.toNat
theorem out_of {H1 : Hp} {At : IA} (Nt : At.New H1) : ∀ x ∈ ft3 At ++ At.rs, H1 x = none := fun x hx => by
  rcases List.mem_append.mp hx with y | y
  · simp only [ft3, List.mem_cons, List.not_mem_nil, or_false] at y
    rcases y with rfl | rfl | rfl
    · exact Nt.ca
    · exact Nt.ho
    · exact Nt.st
  · exact Nt.rs x y
section
variable {P : Program} {w : World} {K : PySem.W.Frag} {mg : Str → Option Value} {base : Heap}
def sp_fill_holes (CI CP CO CB : Addr) : Sp := fun vs H Q E => ∃ (im : Addr) (A : IA) (v : IV) (b n s m first last : Int) (ow : Nat), vs = [.ref im, .int m, .int first, .int last] ∧ ImgAt CI CP H im A v b n s ∧ 1 ≤ m ∧ m ≤ n ∧ PlcOk b n v.M m ∧ 0 ≤ first ∧ first ≤ last + 1 ∧ last ≤ 9 ∧ ow < 4 ∧ TkOk b n m ow v (holesN b v.M m first last) ∧
  (∀ v', takeRs b n m ow v (holesN b v.M m first last) = .ok v' → ∀ H' rs', RsOf H A.rs rs' → ImgAt CI CP H' im { A with rs := rs' } v' b n s → Kp (ft3 A ++ A.rs) H H' → Q .non H') ∧
  (takeRs b n m ow v (holesN b v.M m first last) = .oq → ∀ H', Same H H' → E (.ref CO) none H') ∧
  (takeRs b n m ow v (holesN b v.M m first last) = .bf → ∀ H', Same H H' → E (.ref CB) none H')
theorem ok_fill_holes (T : Tx K mg) : FnOk P w K mg base (L2N.CX P w) 8 T.f_fill_holes T.fd_fill_holes ["image", "n", "first", "last"] (sp_fill_holes T.C_Image T.C_Plan T.C_OverQuota T.C_BlocksFull) := by
  refine T.F_fill_holes.okN sc_fill_holes (fun vs H Q E h => ?_) (fun cdv A0 outer s H vs Q E hr h => ?_)
  · obtain ⟨_, _, _, _, _, _, _, _, _, _, rfl, _⟩ := h; rfl
  · obtain ⟨im, A, v, b, n, sl, m, first, last, ow, rfl, I, h1, h2, hp, hf0, hfl, hl9, how, D, k, kQ, kB⟩ := h
    have hr3 : Room 3 _ := hr.mono (by decide)
    refine ⟨_, (pss_cons (ps_setLc (i := 4) (own := [("o", 5)]) (g := gName 5) (tt := _) rfl sc_fill_holes.nd rfl rfl (sw_true rfl rfl rfl (by decide +kernel)) (pi_range2 rfl T.b_range (pa_cons (pv 2) (pa_cons (pe_op op_add (pv 3) pe_int) pa_nil))) (blkOk_by (N := ["image", "n", "first", "last", "holes", "o"]) (sc := defScope s_fill_holes) (by decide +kernel)) (fun _ _ _ _ _ => pg_name (i := 5) sc_fill_holes.nd rfl (Or.inl rfl)) (fun _ _ _ _ _ => pts_one (pt_cmpR op_eq (pe_call (ok_place_block T) hr3 rfl T.mg_place_block T.F_place_block.kp (b_place_block T) .nil pass0 (pa_cons (pv 0) (pa_cons (pv 1) (pa_cons (pv 5) pa_nil)))) pe_int (nomark _))) (fun _ _ _ _ _ => (pv 5)))
      (Evl.pss_cut (ps_if (pt_cmpR op_gt (pe_callB call_len_seq rfl T.b_len (by decide +kernel) (pa_cons (pv 4) pa_nil)) pe_int (nomark _))
        (pss_one (ps_expr (pe_callS (ok_take_places T) hr rfl T.mg_take_places T.F_take_places.kp (b_take_places T) (fun σ => L2N.passAt (L2N.takes_of rfl rfl rfl rfl) σ) (pa_cons (pe_meth0 (pv 0) T.cl_Image T.m_Image_twin (ok_twin T) hr3 (b_Image_twin T) .nil pass0) (pa_cons (pv 1) (pa_cons (pv 4) pa_nil))))))
        pss_nil)
      (pss_one (ps_expr (pe_callS (ok_take_places T) hr rfl T.mg_take_places T.F_take_places.kp (b_take_places T) (fun σ => L2N.passAt (L2N.takes_of rfl rfl rfl rfl) σ) (pa_cons (pv 0) (pa_cons (pv 1) (pa_cons (pv 4) pa_nil)))))))), ?_⟩
    refine ⟨_, rfl, _, rfl, _, _, rfl, rfl, first, last + 1, rfl, ⟨by omega, by omega, by omega, by omega⟩, fun q hq => ?_⟩
    have hll : (rng first (last + 1 - first).toNat).length < 1000 := by rw [rng_len]; omega
    refine lc_range (lo := first) (n := (last + 1 - first).toNat) (PvF H q (rng first (last + 1 - first).toNat) (fun x => decide (plV b v.M m x.toNat = 0))) (PvF.start hq) ?_ ?_
    · rintro i H' hi Pv
      have hx := rng_get (lo := first) hi
      have I' := I.keep Pv.1
      refine ⟨rfl, ?_⟩
      refine ⟨_, rfl, _, rfl, _, rfl, im, A, v, b, n, sl, m, (first + (i : Int)).toNat, ?_, I', h1, h2, by omega, hp, rfl, _, rfl, ?_⟩
      · show [V.ref im, V.int m, V.int (first + (i : Int))] = _
        rw [show (((first + (i : Int)).toNat : Nat) : Int) = first + (i : Int) by omega]
      rw [dec_iv]
      by_cases e1 : plV b v.M m (first + (i : Int)).toNat = 0
      · rw [decide_eq_true e1]
        exact iteT ⟨_, rfl, Pv.yes hq (Same.refl _) hx hll (decide_eq_true e1)⟩
      · rw [decide_eq_false e1]
        exact iteF (Pv.no (Same.refl _) hx (decide_eq_false e1))
    intro H1 Pv
    obtain ⟨S1, e1⟩ := Pv.all (by rw [rng_len])
    obtain ⟨os, hos⟩ : ∃ os, holesN b v.M m first last = os := ⟨_, rfl⟩
    have em : (holesL b v.M m first last).map V.int = os.map natV := by
      rw [← hos]
      unfold holesN
      rw [List.map_map]
      refine List.map_congr_left fun x hx => ?_
      have := rng_mem (List.mem_filter.mp hx).1
      show V.int x = V.int ((x.toNat : Nat) : Int)
      rw [show ((x.toNat : Nat) : Int) = x by omega]
    change H1 q = some (.lst ((holesL b v.M m first last).map V.int)) at e1
    rw [em] at e1
    rw [hos] at D k kQ kB
    have nqA : q ∉ ft3 A ++ A.rs := fun z => by
      have : ∃ o, H q = some o := by
        rcases List.mem_append.mp z with z | z
        · exact I.ft3h q z
        · exact I.held (by simp [IA.reads, z])
      obtain ⟨o, e⟩ := this
      rw [hq] at e
      cases e
    refine ⟨fun σ H' => σ = [some (.ref im), some (.int m), some (.int first), some (.int last), some (.ref q), none] ∧ Same H H' ∧ H' q = some (.lst (os.map natV)) ∧ (os.length ≤ 1 ∨ ∃ v', takeRs b n m ow v os = .ok v'), ?_, ?_⟩
    · refine ⟨_, rfl, q, _, rfl, .inl (.of e1), _, _, rfl, rfl, _, rfl, ite2 (fun z => ?_) (fun z => ?_)⟩
      · have I1 := I.keep S1
        refine ⟨_, rfl, im, _, _, rfl, I1.ob, rfl, im, A, v, b, n, sl, rfl, I1, fun H2 it At S2 nit It Nt ep eb => ?_⟩
        have out := out_of Nt
        have sm : ∀ H', Kp (ft3 At ++ At.rs) H2 H' → Same H1 H' := fun H' kk x u e => kk x u (S2 _ _ e) fun y => by
          rw [out x y] at e
          cases e
        refine ⟨_, rfl, _, rfl, it, At, v, b, n, sl, m, ow, q, os, rfl, It, h1, h2, how, S2 _ _ e1, (fun z => by rw [out q z] at e1; cases e1), D, fun v' ev H3 rs3 R3 I3 k3 => ?_, fun ev H3 k3 _ => ?_, fun ev H3 k3 _ => ?_⟩
        · have s3 := sm H3 k3
          exact ⟨rfl, S1.trans s3, s3 _ _ e1, .inr ⟨v', ev⟩⟩
        · exact kQ ev H3 (S1.trans (sm H3 k3))
        · exact kB ev H3 (S1.trans (sm H3 k3))
      · refine ⟨rfl, S1, e1, .inl ?_⟩
        have z' : ¬ (((os.map natV).length : Int) > 1) := fun y => z (decide_eq_true y)
        rw [List.length_map] at z'
        omega
    rintro σ H2 ⟨rfl, S2, e2, hd⟩
    refine ⟨_, rfl, _, rfl, _, rfl, im, A, v, b, n, sl, m, ow, q, os, rfl, I.keep S2, h1, h2, how, e2, nqA, D, fun v' ev H3 rs3 R3 I3 k3 => ?_, fun ev H3 k3 s3 => ?_, fun ev H3 k3 s3 => ?_⟩
    · exact k v' ev H3 rs3 (fun r hr => (R3 r hr).imp id fun e => S2.free e) I3 ((Kp.of S2).trans k3)
    · rcases hd with hd | ⟨v', hd⟩
      · exact kQ ev H3 (S2.trans (s3 hd))
      · rw [ev] at hd
        cases hd
    · rcases hd with hd | ⟨v', hd⟩
      · exact kB ev H3 (S2.trans (s3 hd))
      · rw [ev] at hd
        cases hd
/-! ### words written -/
def wrM (b m at_ : Int) : List (List Int) → List Int → Nat → List (List Int)
  | M, [], _ => M
  | M, x :: xs, k => wrM b m at_ (setC M (plV b M m ((at_ + (k : Int)) / 8).toNat).toNat ((at_ + (k : Int)) % 8).toNat x) xs (k + 1)
def WrOk (b n m at_ : Int) : List (List Int) → List Int → Nat → Prop
  | _, [], _ => True
  | M, x :: xs, k => PlcOk b n M m ∧ fdOf b n ≤ plV b M m ((at_ + (k : Int)) / 8).toNat ∧ plV b M m ((at_ + (k : Int)) / 8).toNat < b ∧ WrOk b n m at_ (setC M (plV b M m ((at_ + (k : Int)) / 8).toNat).toNat ((at_ + (k : Int)) % 8).toNat x) xs (k + 1)
def szM (b : Int) (M : List (List Int)) (m e : Int) : List (List Int) := if e > cellAt M (nrow b m) 2 then psM b M m e else M
def sp_write_words (CI CP CO CB CU CT : Addr) : Sp := fun vs H Q E => ∃ (im : Addr) (A : IA) (v : IV) (b n s m at_ : Int) (ow : Nat) (wa : Addr) (ws : List Int), vs = [.ref im, .int m, .int at_, .ref wa] ∧ ImgAt CI CP H im A v b n s ∧ 1 ≤ m ∧ m ≤ n ∧ PlcOk b n v.M m ∧ 0 ≤ at_ ∧ 1 ≤ ws.length ∧ ws.length ≤ 900 ∧ ow < 4 ∧ (H wa = some (.lst (ws.map V.int)) ∨ H wa = some (.tup (ws.map V.int))) ∧ wa ∉ ft3 A ++ A.rs ∧
  (late b v.M m = true → ∀ H', Same H H' → E (.ref CU) none H') ∧
  (late b v.M m = false → at_ + ws.length > 80 → ∀ H', Same H H' → E (.ref CT) none H') ∧
  (late b v.M m = false → at_ + ws.length ≤ 80 → TkOk b n m ow v (holesN b v.M m (at_ / 8) ((at_ + ws.length - 1) / 8)) ∧
    (takeRs b n m ow v (holesN b v.M m (at_ / 8) ((at_ + ws.length - 1) / 8)) = .oq → ∀ H', Same H H' → E (.ref CO) none H') ∧
    (takeRs b n m ow v (holesN b v.M m (at_ / 8) ((at_ + ws.length - 1) / 8)) = .bf → ∀ H', Same H H' → E (.ref CB) none H') ∧
    ∀ v', takeRs b n m ow v (holesN b v.M m (at_ / 8) ((at_ + ws.length - 1) / 8)) = .ok v' → PlcOk b n v'.M m ∧ (∀ o, o < 10 → PlOk b n v'.M m o) ∧ 0 ≤ cellAt v'.M (nrow b m) 2 ∧ cellAt v'.M (nrow b m) 2 ≤ 80 ∧ WrOk b n m at_ (szM b v'.M m (at_ + ws.length)) ws 0 ∧
      ∀ H' rs', RsOf H A.rs rs' → ImgAt CI CP H' im { A with rs := rs' } { v' with M := wrM b m at_ (szM b v'.M m (at_ + ws.length)) ws 0 } b n s → Kp (ft3 A ++ A.rs) H H' → Q .non H')
theorem WrOk.at_ {b n m at_ : Int} : ∀ {M : List (List Int)} {ws : List Int} {k : Nat}, WrOk b n m at_ M ws k → ∀ {i : Nat} {x : Int}, ws[i]? = some x → ∃ M', WrOk b n m at_ M' (ws.drop i) (k + i) ∧ wrM b m at_ M ws k = wrM b m at_ M' (ws.drop i) (k + i) := fun {M ws k} W {i x} h => by
  induction i generalizing M ws k with
  | zero => exact ⟨M, W, rfl⟩
  | succ i ih =>
    cases ws with
    | nil => simp at h
    | cons y ys =>
      obtain ⟨M', w1, w2⟩ := ih W.2.2.2 (k := k + 1) (by simpa using h)
      refine ⟨M', ?_, ?_⟩
      · rw [show k + (i + 1) = k + 1 + i by omega]; exact w1
      · rw [show k + (i + 1) = k + 1 + i by omega]; exact w2
end
end K06
namespace K06
open PySem PySem.Spec PyProof.Rows L2 Rg
section
variable {P : Program} {w : World} {K : PySem.W.Frag} {mg : Str → Option Value} {base : Heap}
theorem ok_write_words (T : Tx K mg) : FnOk P w K mg base (L2N.CX P w) 9 T.f_write_words T.fd_write_words ["image", "n", "at", "words"] (sp_write_words T.C_Image T.C_Plan T.C_OverQuota T.C_BlocksFull T.C_Unfinished T.C_TooLong) := by
  refine T.F_write_words.okN sc_write_words (fun vs H Q E h => ?_) (fun cdv A0 outer s H vs Q E hr h => ?_)
  · obtain ⟨_, _, _, _, _, _, _, _, _, _, _, rfl, _⟩ := h; rfl
  · obtain ⟨im, A, v, b, n, sl, m, at_, ow, wa, ws, rfl, I, h1, h2, hp, hat, hw1, hw9, how, hwa, nwa, kU, kT, kk⟩ := h
    have hr2 : Room 2 _ := hr.mono (by decide)
    have hr3 : Room 3 _ := hr.mono (by decide)
    have hr4 : Room 4 _ := hr.mono (by decide)
    have hr5 : Room 5 _ := hr.mono (by decide)
    refine ⟨_, (pss_cons (ps_if (pt_val (pe_call (ok_unfinished T) hr5 rfl T.mg_unfinished T.F_unfinished.kp (b_unfinished T) .nil pass0 (pa_cons (pv 0) (pa_cons (pv 1) pa_nil))))
        (pss_one (L2N.ps_raise rfl (L2N.takes_of rfl rfl rfl rfl) (L2N.pmk_own PySem.F.excBase_ValueError T.xe_Unfinished T.mg_Unfinished T.ke_Unfinished (raises_own T.be_Unfinished T.te_Unfinished) rfl)))
        pss_nil)
      (pss_cons (ps_set (i := 4) sc_write_words.nd rfl (.inl rfl) (pe_op op_add (pv 2) (pe_callB call_len_seq rfl T.b_len (by decide +kernel) (pa_cons (pv 3) pa_nil))))
      (pss_cons (ps_if (pt_cmpR op_gt (pv 4) (pe_cv T.mg_Plan T.cr_Plan T.cv_Plan_LONGEST) (nomark _))
        (pss_one (L2N.ps_raise rfl (L2N.takes_of rfl rfl rfl rfl) (L2N.pmk_own PySem.F.excBase_ValueError T.xe_TooLong T.mg_TooLong T.ke_TooLong (raises_own T.be_TooLong T.te_TooLong) rfl)))
        pss_nil)
      (pss_cons (ps_expr (pe_callS (ok_fill_holes T) hr rfl T.mg_fill_holes T.F_fill_holes.kp (b_fill_holes T) (fun σ => L2N.passAt (L2N.takes_of rfl rfl rfl rfl) σ) (pa_cons (pv 0) (pa_cons (pv 1) (pa_cons (pe_op op_fdiv (pv 2) (pe_cv T.mg_Plan T.cr_Plan T.cv_Plan_WIDTH)) (pa_cons (pe_op op_fdiv (pe_op op_sub (pv 4) pe_int) (pe_cv T.mg_Plan T.cr_Plan T.cv_Plan_WIDTH)) pa_nil))))))
      (PSs.nox (Evl.pss_cut (ps_if (pt_cmpR op_gt (pv 4) (pe_call (ok_node_cell T) hr2 rfl T.mg_node_cell T.F_node_cell.kp (b_node_cell T) .nil pass0 (pa_cons (pv 0) (pa_cons (pv 1) (pa_cons (pe_gc T.c_SIZE) pa_nil)))) (nomark _))
        (pss_one (ps_expr (pe_call (ok_put_size T) hr4 rfl T.mg_put_size T.F_put_size.kp (b_put_size T) .nil pass0 (pa_cons (pv 0) (pa_cons (pv 1) (pa_cons (pv 4) pa_nil))))))
        pss_nil)
      (pss_one (ps_for PassesOwn.never rfl (pi_enumA (by rfl) T.b_enumerate (pa_cons (pv 3) pa_nil)) (pg_tup rfl (pgs_cons (pg_name (i := 5) sc_write_words.nd rfl (.inl rfl)) (pgs_cons (pg_name (i := 6) sc_write_words.nd rfl (.inl rfl)) pgs_nil)))
        (pss_cons (ps_set (i := 7) sc_write_words.nd rfl (.inl rfl) (pe_op op_add (pv 2) (pv 5)))
        (pss_one (ps_asg (pv 6) (pg_sub (pe_ix ix_list (pe_fld (pv 0) rfl) (pe_call (ok_place_block T) hr3 rfl T.mg_place_block T.F_place_block.kp (b_place_block T) .nil pass0 (pa_cons (pv 0) (pa_cons (pv 1) (pa_cons (pe_op op_fdiv (pv 7) (pe_cv T.mg_Plan T.cr_Plan T.cv_Plan_WIDTH)) pa_nil)))) (fun _ _ => rfl)) (pe_op op_mod (pv 7) (pe_cv T.mg_Plan T.cr_Plan T.cv_Plan_WIDTH)) set_list)))))))))))), ?_⟩
    refine ⟨_, rfl, _, rfl, im, A, v, b, n, sl, m, rfl, I, h1, h2, hp, fun H1 S1 => ⟨_, rfl, ?_⟩⟩
    cases q : late b v.M m with
    | true => exact iteT (kU q _ S1)
    | false =>
    have I1 := I.keep S1
    have hwa1 : H1 wa = some (.lst (ws.map V.int)) ∨ H1 wa = some (.tup (ws.map V.int)) := hwa.imp (fun e => S1 _ _ e) fun e => S1 _ _ e
    refine iteF ⟨_, rfl, _, rfl, wa, ws.map V.int, rfl, hwa1.elim (fun e => .inl (.of e)) (fun e => .inr (.of e)), _, _, rfl, rfl, ?_⟩
    rw [List.length_map]
    obtain ⟨e, he⟩ : ∃ e, at_ + (ws.length : Int) = e := ⟨_, rfl⟩
    change gName 4 (V.int (at_ + (ws.length : Int))) _ _ _
    rw [he] at kT kk ⊢
    refine ⟨_, rfl, _, _, rfl, rfl, _, rfl, ite2 (fun z => ?_) (fun z => ?_)⟩
    · exact kT q (of_decide_eq_true z) _ S1
    have h80 : e ≤ 80 := by
      have : ¬ (e > 80) := fun y => z (decide_eq_true y)
      omega
    obtain ⟨D, kQ, kB, k⟩ := kk q h80
    refine ⟨_, rfl, _, rfl, _, rfl, _, _, rfl, rfl, (by show CDiv _ 8; exact ⟨by decide, by decide⟩), _, rfl, _, _, rfl, rfl, _, _, rfl, rfl, (by show CDiv _ 8; exact ⟨by decide, by decide⟩), im, A, v, b, n, sl, m, at_ / 8, (e - 1) / 8, ow, rfl, I1, h1, h2, hp, by omega, by omega, by omega, how, D, fun v' ev H2 rs' R2 I2 k2 => ?_, fun ev H2 S2 => kQ ev H2 (S1.trans S2), fun ev H2 S2 => kB ev H2 (S1.trans S2)⟩
    obtain ⟨hp', hpl', hs0', hs80', W, k⟩ := k v' ev
    have R2' : RsOf H A.rs rs' := fun r hr => (R2 r hr).imp id fun e => S1.free e
    have k02 : Kp (ft3 A ++ A.rs) H H2 := (Kp.of S1).trans k2
    have wn0 : H wa ≠ none := fun z => by rcases hwa with y | y <;> (rw [z] at y; cases y)
    have wn1 : wa ∉ rs' := fun z => by
      rcases R2' wa z with y | y
      · exact nwa (List.mem_append.mpr (.inr y))
      · exact wn0 y
    have wn3 : wa ∉ ft3 A := fun z => nwa (List.mem_append.mpr (.inl z))
    have hwa2 : H2 wa = some (.lst (ws.map V.int)) ∨ H2 wa = some (.tup (ws.map V.int)) := hwa1.imp (fun e => k2 _ _ e nwa) fun e => k2 _ _ e nwa
    have ec : cellAt v'.M (nrow b m) (2 : Int).toNat = cellAt v'.M (nrow b m) 2 := rfl
    refine ⟨fun σ H' => σ = [some (.ref im), some (.int m), some (.int at_), some (.ref wa), some (.int e), none, none, none] ∧ ImgAt T.C_Image T.C_Plan H' im { A with rs := rs' } { v' with M := szM b v'.M m e } b n sl ∧ Kp rs' H2 H', ?_, ?_⟩
    · refine ⟨_, rfl, _, rfl, _, rfl, im, _, v', b, n, sl, m, 2, rfl, I2, h1, h2, by decide, by decide, _, _, rfl, rfl, _, rfl, ?_⟩
      rw [ec]
      unfold szM
      by_cases z : e > cellAt v'.M (nrow b m) 2
      · rw [decide_eq_true z]
        refine iteT ⟨_, rfl, _, rfl, _, rfl, im, _, v', b, n, sl, m, e, rfl, I2, h1, h2, hp', hpl', hs0', hs80', by omega, fun H3 I3 k3 => ⟨rfl, ?_, k3⟩⟩
        rw [if_pos z]
        exact I3
      · rw [decide_eq_false z]
        refine iteF ⟨rfl, ?_, Kp.refl⟩
        rw [if_neg z]
        exact I2
    rintro σ H3 ⟨rfl, I3, k3⟩
    have hwa3 : H3 wa = some (.lst (ws.map V.int)) ∨ H3 wa = some (.tup (ws.map V.int)) := hwa2.imp (fun e => k3 _ _ e wn1) fun e => k3 _ _ e wn1
    obtain ⟨M0, hM0⟩ : ∃ M0, szM b v'.M m e = M0 := ⟨_, rfl⟩
    rw [hM0] at I3 W k
    refine ⟨_, rfl, wa, ws.map V.int, rfl, hwa3, fun J hJ => ?_⟩
    have b1 := I.pl.b1
    have n1 := I.pl.n1
    have hf : fdOf b n = 2 + (b + 8 - 1) / 8 + n := rfl
    refine for_it hJ (fun i σ H' => ∃ (u5 u6 u7 : Option V) (M' : List (List Int)), σ = [some (.ref im), some (.int m), some (.int at_), some (.ref wa), some (.int e), u5, u6, u7] ∧ ImgAt T.C_Image T.C_Plan H' im { A with rs := rs' } { v' with M := M' } b n sl ∧ Kp rs' H3 H' ∧ WrOk b n m at_ M' (ws.drop i) i ∧ wrM b m at_ M0 ws 0 = wrM b m at_ M' (ws.drop i) i)
      ⟨_, _, _, M0, rfl, I3, Kp.refl, W, rfl⟩ (fun i σ H' _ ⟨_, _, _, _, _, _, k4, _⟩ => ?_) ?_ ?_
    · rcases hwa3 with y | y
      · rw [k4 _ _ y wn1, y]
      · rw [k4 _ _ y wn1, y]
    · rintro i x σ H4 H5 hi ⟨u5, u6, u7, M', rfl, I4, k4, W4, e4⟩ ⟨t, x1, x2, rfl, ht, rfl, hx1, hx2⟩
      change (ws.map V.int)[i]? = some x2 at hx2
      rw [List.getElem?_map] at hx2
      obtain ⟨y, hy, rfl⟩ := Option.map_eq_some_iff.mp hx2
      have hx1' : V.int (i : Int) = x1 := Option.some.inj hx1
      subst hx1'
      have hil := (List.getElem?_eq_some_iff.mp hy).1
      have ed : ws.drop i = y :: ws.drop (i + 1) := by
        rw [List.drop_eq_getElem_cons hil]
        rw [List.getElem?_eq_getElem hil] at hy
        rw [Option.some.inj hy]
      rw [ed] at W4 e4
      obtain ⟨p1, p2, p3, p4⟩ := W4
      have st := same_upd (o := .tup [.int (i : Int), .int y]) ht
      have I5 := I4.keep st
      have k5 : Kp rs' H3 (upd H4 t (.tup [.int (i : Int), .int y])) := k4.same st
      refine ⟨t, _, rfl, .of upd_same, rfl, _, _, rfl, _, _, rfl, rfl, ?_⟩
      generalize upd H4 t (.tup [.int (i : Int), .int y]) = H5 at I5 k5 ⊢
      obtain ⟨x, hx⟩ : ∃ x : Nat, plV b M' m ((at_ + (i : Int)) / 8).toNat = x := ⟨(plV b M' m ((at_ + (i : Int)) / 8).toNat).toNat, by omega⟩
      obtain ⟨r, row, r1, r2, r3, r4⟩ := I5.rowAt (x := x) (by omega)
      have ho : ((at_ + (i : Int)) / 8).toNat < 10 := by omega
      obtain ⟨j, hj⟩ : ∃ j : Nat, (at_ + (i : Int)) % 8 = j := ⟨((at_ + (i : Int)) % 8).toNat, by omega⟩
      rw [hx, hj, show ((x : Int)).toNat = x by omega, show ((j : Int)).toNat = j by omega] at p4
      refine ⟨_, rfl, _, rfl, _, _, rfl, rfl, ?_⟩
      refine ⟨_, rfl, _, rfl, im, _, _, _, _, rfl, I5.ob, T.cl_Image, T.na_Image_cells, rfl, _, rfl, _, rfl, _, rfl, _, _, rfl, rfl, (by show CDiv _ 8; exact ⟨by decide, by decide⟩), im, { A with rs := rs' }, { v' with M := M' }, b, n, sl, m, ((at_ + (i : Int)) / 8).toNat, ?_, I5, h1, h2, ho, p1, A.ca, _, plV b M' m ((at_ + (i : Int)) / 8).toNat, .ref r, rfl, rfl, .of I5.gr.out, at_of (j := x) hx (by rw [List.getElem?_map, r1]; rfl), _, rfl, _, _, rfl, rfl, (by show (0 : Int) < 8; decide), r, row.map V.int, (at_ + (i : Int)) % 8, j, rfl, rfl, r4, ?_, ?_⟩
      · show [V.ref im, V.int m, V.int ((at_ + (i : Int)) / 8)] = _
        rw [show ((((at_ + (i : Int)) / 8).toNat : Nat) : Int) = (at_ + (i : Int)) / 8 by omega]
      · rw [hj]
        exact ixN_nat rfl (by rw [List.length_map, r3]; omega)
      refine ⟨_, _, _, setC M' x j y, rfl, I5.setC (j := j) (x := y) r1 r2, k5.own (List.mem_of_getElem? r1), p4, ?_⟩
      rw [e4]
      show wrM b m at_ (setC M' (plV b M' m ((at_ + (i : Int)) / 8).toNat).toNat ((at_ + (i : Int)) % 8).toNat y) (ws.drop (i + 1)) (i + 1) = _
      rw [hx, hj, show ((x : Int)).toNat = x by omega, show ((j : Int)).toNat = j by omega]
    · rintro σ H' ⟨u5, u6, u7, M', rfl, I4, k4, W4, e4⟩
      rw [List.length_map, List.drop_length] at e4
      refine k H' rs' R2' ?_ ?_
      · rw [e4]
        exact I4
      · exact (Kp.rsOf (L := ft3 A) k02 R2' ((k3.trans k4).mono fun x hx => List.mem_append.mpr (.inr hx)))
end
end K06
namespace K06
open PySem PySem.Spec PyProof.Rows L2 Rg
/-! ### cells behind a take or a give -/
def tkM (M : List (List Int)) (x : Nat) (k : Int) (o : Nat) (d : Int) : List (List Int) := setC ((setC M (2 + x / 8) (x % 8) k).set x (List.replicate 8 0)) 0 o (cellAt M 0 o + d)
theorem takeV_tk {v : IV} {x o : Nat} {k : Int} : (takeV v x k o).M = tkM v.M x k o 1 := rfl
theorem giveV_tk {v : IV} {x o : Nat} : (giveV v x o).M = tkM v.M x 0 o (-1) := rfl
section
variable {M : List (List Int)} {x o : Nat} {k d : Int} {m : List Int}
theorem tk0 (h : M[0]? = some m) (hx : 10 ≤ x) : (tkM M x k o d)[0]? = some (m.set o (cellAt M 0 o + d)) := by
  unfold tkM
  refine setC_at ?_
  rw [List.getElem?_set_ne (by omega), setC_row (by omega)]
  exact h
theorem tkm (h : M[2 + x / 8]? = some m) (hx : 10 ≤ x) (hx2 : x < 24) : (tkM M x k o d)[2 + x / 8]? = some (m.set (x % 8) k) := by
  unfold tkM
  rw [setC_row (by omega), List.getElem?_set_ne (by omega)]
  exact setC_at h
theorem tkx (hx : 10 ≤ x) (hl : x < M.length) : (tkM M x k o d)[x]? = some (List.replicate 8 0) := by
  unfold tkM
  rw [setC_row (by omega), List.getElem?_set_self (by rw [setC_len]; exact hl)]
theorem tko {y : Nat} (h0 : y ≠ 0) (h1 : y ≠ 2 + x / 8) (h2 : y ≠ x) : (tkM M x k o d)[y]? = M[y]? := by
  unfold tkM
  rw [setC_row (fun z => h0 z.symm), List.getElem?_set_ne (fun z => h2 z.symm), setC_row (fun z => h1 z.symm)]
theorem tkh {y : Nat} (h5 : 5 ≤ y) (hx2 : x < 24) (h2 : y ≠ x) : (tkM M x k o d)[y]? = M[y]? := tko (by omega) (by omega) h2
theorem tk1 (hx : 10 ≤ x) (hx2 : x < 24) : (tkM M x k o d)[1]? = M[1]? := tko (by decide) (by omega) (by omega)
end
/-! ### kinds and sums -/
structure Kds (M : List (List Int)) (kd us li : List Int) (i : Nat) : Prop where
  ml : M.length = 24
  m8 : ∀ m ∈ M, m.length = 8
  kl : kd.length = 24
  kf : ∀ x : Nat, x < 10 → kd[x]? = some 1
  k3 : ∀ (x : Nat) (k : Int), kd[x]? = some k → k = 0 ∨ k = 1 ∨ k = 2
  mp : ∀ x : Nat, x < 24 → cellAt M (2 + x / 8) (x % 8) = (kd[x]?).getD 0
  u4 : us.length = 4
  l4 : li.length = 4
  r0 : M[0]? = some (us ++ li)
  ul : ∀ u ∈ us, u.natAbs ≤ i
theorem Kds.kind {M : List (List Int)} {kd us li : List Int} {i : Nat} (A : Kds M kd us li i) {x : Nat} (hx : x < 24) : kindOf 24 5 M x = (kd[x]?).getD 0 := by
  unfold kindOf
  have e10 : (2 + (24 + 8 - 1) / 8 + 5 : Int) = 10 := by decide
  rw [e10]
  by_cases h : (x : Int) < 10
  · rw [if_pos h, A.kf x (by omega)]
    rfl
  · rw [if_neg h, show ((2 : Int) + (x : Int) / 8).toNat = 2 + x / 8 by omega, show ((x : Int) % 8).toNat = x % 8 by omega, A.mp x hx]
    have hl : x < kd.length := by rw [A.kl]; exact hx
    have := A.k3 x _ (List.getElem?_eq_getElem hl)
    rw [List.getElem?_eq_getElem hl]
    show (if kd[x] = 1 ∨ kd[x] = 2 then kd[x] else 0) = kd[x]
    rcases this with q | q | q <;> rw [q] <;> decide
theorem Kds.row {M : List (List Int)} {kd us li : List Int} {i : Nat} (A : Kds M kd us li i) {y : Nat} (hy : y < 24) : ∃ m, M[y]? = some m ∧ m.length = 8 := by
  have hl : y < M.length := by rw [A.ml]; exact hy
  exact ⟨_, List.getElem?_eq_getElem hl, A.m8 _ (List.getElem_mem hl)⟩
theorem Kds.sum {M : List (List Int)} {kd us li : List Int} {i : Nat} (A : Kds M kd us li i) {o : Nat} (ho : o < 4) : cellAt M 0 o = (us[o]?).getD 0 := by
  have hou : o < us.length := by rw [A.u4]; exact ho
  rw [cellAt_of A.r0 (x := us[o]) (by rw [List.getElem?_append_left hou]; exact List.getElem?_eq_getElem hou), List.getElem?_eq_getElem hou]
  rfl
theorem Kds.lim {M : List (List Int)} {kd us li : List Int} {i : Nat} (A : Kds M kd us li i) {o : Nat} (ho : o < 4) : cellAt M 0 (4 + o) = (li[o]?).getD 0 := by
  have hol : o < li.length := by rw [A.l4]; exact ho
  have hou := A.u4
  rw [cellAt_of A.r0 (x := li[o]) (by rw [List.getElem?_append_right (by omega), hou, show 4 + o - 4 = o by omega]; exact List.getElem?_eq_getElem hol), List.getElem?_eq_getElem hol]
  rfl
theorem tkM_len {M : List (List Int)} {x o : Nat} {k d : Int} : (tkM M x k o d).length = M.length := by
  unfold tkM
  rw [setC_len, List.length_set, setC_len]
theorem setC_m8 {M : List (List Int)} {i j : Nat} {x : Int} (h : ∀ m ∈ M, m.length = 8) (hi : i < M.length) : ∀ m ∈ setC M i j x, m.length = 8 := fun m hm => by
  unfold setC at hm
  rcases mem_set_of hm with e | e
  · rw [e, List.length_set, List.getElem?_eq_getElem hi]
    exact h _ (List.getElem_mem hi)
  · exact h m e
theorem Kds.tk {M : List (List Int)} {kd us li : List Int} {i x o : Nat} {k d : Int} (A : Kds M kd us li i) (hx : 10 ≤ x) (hx2 : x < 24) (ho : o < 4) (hd : d = 1 ∨ d = -1) (hk : k = 0 ∨ k = 1 ∨ k = 2) :
    Kds (tkM M x k o d) (kd.set x k) (us.set o ((us[o]?).getD 0 + d)) li (i + 1) := by
  have hou : o < us.length := by rw [A.u4]; exact ho
  have ml := A.ml
  have hkl := A.kl
  obtain ⟨mm, em, lm⟩ := A.row (y := 2 + x / 8) (by omega)
  have mx : mm[x % 8]? = some ((kd[x]?).getD 0) := by
    have h1 := A.mp x hx2
    have hl : x % 8 < mm.length := by omega
    rw [cellAt_of em (List.getElem?_eq_getElem hl)] at h1
    rw [List.getElem?_eq_getElem hl, h1]
  refine { ml := by rw [tkM_len]; exact ml, m8 := ?_, kl := by rw [List.length_set]; exact A.kl, kf := fun y hy => by rw [List.getElem?_set_ne (by omega)]; exact A.kf y hy, k3 := fun y k' h => ?_, mp := fun y hy => ?_, u4 := by rw [List.length_set]; exact A.u4, l4 := A.l4, r0 := ?_, ul := fun u hu => ?_ }
  · unfold tkM
    refine setC_m8 (fun m hm => ?_) (by rw [List.length_set, setC_len]; omega)
    rcases mem_set_of hm with e | e
    · rw [e]; exact List.length_replicate
    · exact setC_m8 A.m8 (by omega) m e
  · rcases mem_set_of (List.mem_of_getElem? h) with e | e
    · rw [e]; exact hk
    · obtain ⟨j, hj, ej⟩ := List.getElem_of_mem e
      exact A.k3 j k' (by rw [List.getElem?_eq_getElem hj, ej])
  · by_cases e : y / 8 = x / 8
    · rw [e]
      have hl : y % 8 < (mm.set (x % 8) k).length := by rw [List.length_set]; omega
      rw [cellAt_of (tkm em hx hx2) (List.getElem?_eq_getElem hl)]
      by_cases q : x = y
      · subst q
        rw [List.getElem?_set_self (by omega), List.getElem_set_self]
        rfl
      · rw [List.getElem?_set_ne q, List.getElem_set_ne (by omega), ← A.mp y hy, e]
        exact (cellAt_of em (List.getElem?_eq_getElem (by rw [List.length_set] at hl; exact hl))).symm
    · rw [cellAt_congr (tko (by omega) (by omega) (by omega)), A.mp y hy, List.getElem?_set_ne (by intro z; subst z; exact e rfl)]
  · rw [tk0 A.r0 hx, A.sum ho, List.set_append_left _ _ hou]
  · rcases mem_set_of hu with e | e
    · have h1 := A.ul _ (List.getElem_mem hou)
      rw [List.getElem?_eq_getElem hou] at e
      have e' : u = us[o] + d := e
      rcases hd with q | q <;> omega
    · have := A.ul u e
      omega
theorem Kds.put {M : List (List Int)} {kd us li : List Int} {i r j : Nat} {x : Int} (A : Kds M kd us li i) (hr : 5 ≤ r) (hr2 : r < 24) : Kds (setC M r j x) kd us li i :=
  { A with ml := by rw [setC_len]; exact A.ml, m8 := setC_m8 A.m8 (by rw [A.ml]; exact hr2), mp := fun y hy => by rw [cellAt_setC_row (by omega)]; exact A.mp y hy, r0 := by rw [setC_row (by omega)]; exact A.r0 }
theorem Kds.mono {M : List (List Int)} {kd us li : List Int} {i j : Nat} (A : Kds M kd us li i) (h : i ≤ j) : Kds M kd us li j := { A with ul := fun u hu => Nat.le_trans (A.ul u hu) h }
/-- a limit -/
theorem Kds.limit {M : List (List Int)} {kd us li : List Int} {i o : Nat} {l : Int} (A : Kds M kd us li i) (ho : o < 4) : Kds (setC M 0 (4 + o) l) kd us (li.set o l) i := by
  refine { A with ml := by rw [setC_len]; exact A.ml, m8 := setC_m8 A.m8 (by rw [A.ml]; decide), mp := fun y hy => by rw [cellAt_setC_row (by omega)]; exact A.mp y hy, l4 := by rw [List.length_set]; exact A.l4, r0 := ?_ }
  rw [setC_at A.r0, List.set_append_right _ _ (by rw [A.u4]; omega), A.u4, show 4 + o - 4 = o by omega]
/-! ### a file's places: G 0 .. G 9, its table G 12; C what the blocks hold -/
def setG (G : Nat → Int) (q : Nat) (x : Int) : Nat → Int := fun i => if i = q then x else G i
theorem setG_at {G : Nat → Int} {q : Nat} {x : Int} : setG G q x q = x := if_pos rfl
theorem setG_ne {G : Nat → Int} {q i : Nat} {x : Int} (h : i ≠ q) : setG G q x i = G i := if_neg h
def setB (C : Nat → List Int) (q : Nat) (c : List Int) : Nat → List Int := fun i => if i = q then c else C i
theorem setB_at {C : Nat → List Int} {q : Nat} {c : List Int} : setB C q c q = c := if_pos rfl
theorem setB_ne {C : Nat → List Int} {q i : Nat} {c : List Int} (h : i ≠ q) : setB C q c i = C i := if_neg h
def tabR (G : Nat → Int) : List Int := [G 2, G 3, G 4, G 5, G 6, G 7, G 8, G 9]
structure Fl (M : List (List Int)) (m : Int) (G : Nat → Int) (C : Nat → List Int) (sz o1 mk : Int) : Prop where
  r6 : M[nrow 24 m]? = some [1, 0, sz, o1, G 0, G 1, G 12, mk]
  rt : G 12 ≠ 0 → M[(G 12).toNat]? = some (tabR G)
  rc : ∀ i, i < 10 → G i ≠ 0 → M[(G i).toNat]? = some (C i)
  c8 : ∀ i, (C i).length = 8
  pf : ∀ i, i < 13 → G i ≠ 0 → 10 ≤ G i ∧ G i < 24
  nd : ∀ i j, i < 13 → j < 13 → G i ≠ 0 → G i = G j → i = j
  tz : G 12 = 0 → ∀ i, 2 ≤ i → i < 10 → G i = 0
  z1 : G 10 = 0 ∧ G 11 = 0
theorem nrow_in {m : Int} (h1 : 1 ≤ m) (h2 : m ≤ 5) : 5 ≤ nrow 24 m ∧ nrow 24 m < 10 := by
  unfold nrow
  omega
theorem tabR_set {G : Nat → Int} {q : Nat} {x : Int} (h2 : 2 ≤ q) (h10 : q < 10) : (tabR G).set (q - 2) x = tabR (setG G q x) := by
  have : q = 2 ∨ q = 3 ∨ q = 4 ∨ q = 5 ∨ q = 6 ∨ q = 7 ∨ q = 8 ∨ q = 9 := by omega
  rcases this with e | e | e | e | e | e | e | e <;> (subst e; rfl)
theorem tabR_ne {G : Nat → Int} {q : Nat} {x : Int} (h : q < 2 ∨ 10 ≤ q) : tabR (setG G q x) = tabR G := by
  unfold tabR
  rw [setG_ne (by omega), setG_ne (by omega), setG_ne (by omega), setG_ne (by omega), setG_ne (by omega), setG_ne (by omega), setG_ne (by omega), setG_ne (by omega)]
section
variable {M : List (List Int)} {m : Int} {G : Nat → Int} {C : Nat → List Int} {sz o1 mk : Int}
theorem Fl.keep (A : Fl M m G C sz o1 mk) {M' : List (List Int)} (h6 : M'[nrow 24 m]? = M[nrow 24 m]?) (hg : ∀ i, i < 13 → G i ≠ 0 → M'[(G i).toNat]? = M[(G i).toNat]?) : Fl M' m G C sz o1 mk :=
  { A with r6 := by rw [h6]; exact A.r6, rt := fun e => by rw [hg 12 (by decide) e]; exact A.rt e, rc := fun i hi e => by rw [hg i (by omega) e]; exact A.rc i hi e }
/-- a block apart from the file's taken or given -/
theorem Fl.tk (A : Fl M m G C sz o1 mk) (h1 : 1 ≤ m) (h2 : m ≤ 5) {x o : Nat} {k d : Int} (hx : 10 ≤ x) (hx2 : x < 24) (nx : ∀ i, i < 13 → G i ≠ (x : Int)) : Fl (tkM M x k o d) m G C sz o1 mk := by
  have hn := nrow_in h1 h2
  refine A.keep (tkh hn.1 hx2 (by omega)) fun i hi e => ?_
  have p := A.pf i hi e
  have n := nx i hi
  exact tkh (by omega) hx2 (by omega)
/-- a block of the file given: it stands empty -/
theorem Fl.clr (A : Fl M m G C sz o1 mk) (h1 : 1 ≤ m) (h2 : m ≤ 5) (hl : M.length = 24) {q o : Nat} {k d : Int} (hq : q < 10) (e0 : G q ≠ 0) : Fl (tkM M (G q).toNat k o d) m G (setB C q (List.replicate 8 0)) sz o1 mk := by
  have hn := nrow_in h1 h2
  have pq := A.pf q (by omega) e0
  have ne : ∀ i, i < 13 → G i ≠ 0 → i ≠ q → (G i).toNat ≠ (G q).toNat := fun i hi e hne z => by
    have p := A.pf i hi e
    exact hne (A.nd i q hi (by omega) e (by omega))
  refine { A with r6 := ?_, rt := fun e => ?_, rc := fun i hi e => ?_, c8 := fun i => ?_ }
  · rw [tkh hn.1 (by omega) (by omega)]
    exact A.r6
  · have p := A.pf 12 (by decide) e
    rw [tkh (by omega) (by omega) (ne 12 (by decide) e (by omega))]
    exact A.rt e
  · by_cases z : i = q
    · subst z
      rw [tkx (by omega) (by omega), setB_at]
    · have p := A.pf i (by omega) e
      rw [tkh (by omega) (by omega) (ne i (by omega) e z), setB_ne z]
      exact A.rc i hi e
  · unfold setB
    split
    · exact List.length_replicate
    · exact A.c8 i
/-- the table given, or taken, empty -/
theorem Fl.tkt (A : Fl M m G C sz o1 mk) (h1 : 1 ≤ m) (h2 : m ≤ 5) (hl : M.length = 24) {o : Nat} {k d : Int} (e0 : G 12 ≠ 0) (hz : tabR G = List.replicate 8 0) : Fl (tkM M (G 12).toNat k o d) m G C sz o1 mk := by
  have hn := nrow_in h1 h2
  have pq := A.pf 12 (by omega) e0
  refine A.keep (tkh hn.1 (by omega) (by omega)) fun i hi e => ?_
  by_cases z : i = 12
  · subst z
    rw [tkx (by omega) (by omega), A.rt e, hz]
  · have p := A.pf i hi e
    refine tkh (by omega) (by omega) fun y => z (A.nd i 12 hi (by decide) e (by omega))
/-- a place set -/
theorem Fl.put (A : Fl M m G C sz o1 mk) (h1 : 1 ≤ m) (h2 : m ≤ 5) {q : Nat} {x : Int} {c : List Int} (hq : q < 10) (ht : 2 ≤ q → G 12 ≠ 0) (hc : c.length = 8) (hx : x = 0 ∨ (10 ≤ x ∧ x < 24 ∧ M[x.toNat]? = some c ∧ ∀ i, i < 13 → G i ≠ x)) :
    Fl (putPl 24 M m q x) m (setG G q x) (setB C q c) sz o1 mk := by
  have hn := nrow_in h1 h2
  have epl : plc 24 M m = G 12 := cellAt_of A.r6 rfl
  obtain ⟨R, J, hR, hput⟩ : ∃ R J, ((q < 2 ∧ R = nrow 24 m ∧ J = 4 + q) ∨ (2 ≤ q ∧ R = (G 12).toNat ∧ J = q - 2)) ∧ putPl 24 M m q x = setC M R J x := by
    unfold putPl
    rw [epl]
    by_cases z : q < 2
    · exact ⟨_, _, .inl ⟨z, rfl, rfl⟩, if_pos z⟩
    · exact ⟨_, _, .inr ⟨by omega, rfl, rfl⟩, if_neg z⟩
  rw [hput]
  have gne : ∀ i, i < 13 → setG G q x i ≠ 0 → (i = q ∧ x ≠ 0) ∨ (i ≠ q ∧ G i ≠ 0) := fun i hi e => by
    by_cases z : i = q
    · subst z
      rw [setG_at] at e
      exact .inl ⟨rfl, e⟩
    · rw [setG_ne z] at e
      exact .inr ⟨z, e⟩
  have hrow : ∀ y, y ≠ R → (setC M R J x)[y]? = M[y]? := fun y hy => setC_row fun z => hy z.symm
  have e12 : setG G q x 12 = G 12 := setG_ne (by omega)
  -- a block of the file's words is neither of the two rows
  have apart : ∀ y : Int, 10 ≤ y → (G 12 ≠ 0 → y ≠ G 12) → y.toNat ≠ R := fun y hy hne z => by
    rcases hR with ⟨_, r, _⟩ | ⟨h2', r, _⟩
    · omega
    · have hg := ht h2'
      have p := A.pf 12 (by decide) hg
      have := hne hg
      omega
  refine { r6 := ?_, rt := fun e => ?_, rc := fun i hi e => ?_, c8 := fun i => ?_, pf := fun i hi e => ?_, nd := fun i j hi hj e eij => ?_, tz := fun e i hi hi2 => ?_, z1 := ⟨by rw [setG_ne (by omega)]; exact A.z1.1, by rw [setG_ne (by omega)]; exact A.z1.2⟩ }
  · rcases hR with ⟨h, r, j⟩ | ⟨h, r, j⟩
    · rw [r, j, setC_at A.r6]
      have : q = 0 ∨ q = 1 := by omega
      rcases this with z | z <;> (subst z; rfl)
    · have p := A.pf 12 (by decide) (ht h)
      rw [hrow _ (by omega), A.r6, setG_ne (by omega), setG_ne (by omega), e12]
  · rw [e12] at e ⊢
    have p := A.pf 12 (by decide) e
    rcases hR with ⟨h, r, j⟩ | ⟨h, r, j⟩
    · rw [hrow _ (by omega), A.rt e, tabR_ne (.inl h)]
    · rw [r, j, setC_at (A.rt e), tabR_set h hq]
  · rcases gne i (by omega) e with ⟨z, e2⟩ | ⟨z, e2⟩
    · subst z
      rw [setG_at, setB_at]
      rcases hx with h | ⟨a1, a2, a3, a4⟩
      · exact absurd h e2
      rw [hrow _ (apart x a1 fun hg z => a4 12 (by decide) z.symm)]
      exact a3
    · rw [setG_ne z, setB_ne z]
      have p := A.pf i (by omega) e2
      rw [hrow _ (apart _ p.1 fun hg z2 => by
        have := A.nd i 12 (by omega) (by decide) e2 z2
        omega)]
      exact A.rc i hi e2
  · unfold setB
    split
    · exact hc
    · exact A.c8 i
  · rcases gne i hi e with ⟨z, e2⟩ | ⟨z, e2⟩
    · subst z
      rw [setG_at]
      rcases hx with h | ⟨a1, a2, a3, a4⟩
      · exact absurd h e2
      · exact ⟨a1, a2⟩
    · rw [setG_ne z]
      exact A.pf i hi e2
  · rcases gne i hi e with ⟨z, e2⟩ | ⟨z, e2⟩
    · subst z
      rw [setG_at] at eij
      by_cases zj : j = i
      · exact zj.symm
      · rw [setG_ne zj] at eij
        rcases hx with h | ⟨a1, a2, a3, a4⟩
        · exact absurd h e2
        · exact absurd eij.symm (a4 j hj)
    · rw [setG_ne z] at eij
      by_cases zj : j = q
      · subst zj
        rw [setG_at] at eij
        rcases hx with h | ⟨a1, a2, a3, a4⟩
        · exact absurd (eij.trans h) e2
        · exact absurd eij (a4 i hi)
      · rw [setG_ne zj] at eij
        exact A.nd i j hi hj e2 eij
  · rw [e12] at e
    by_cases z : i = q
    · subst z
      exact absurd e (ht hi)
    · rw [setG_ne z]
      exact A.tz e i hi hi2
/-- the table set -/
theorem Fl.putT (A : Fl M m G C sz o1 mk) (h1 : 1 ≤ m) (h2 : m ≤ 5) {x : Int} (hz : ∀ i, 2 ≤ i → i < 10 → G i = 0) (hx : x = 0 ∨ (10 ≤ x ∧ x < 24 ∧ M[x.toNat]? = some (List.replicate 8 0) ∧ ∀ i, i < 13 → G i ≠ x)) :
    Fl (setC M (nrow 24 m) 6 x) m (setG G 12 x) C sz o1 mk := by
  have hn := nrow_in h1 h2
  have hrow : ∀ y, y ≠ nrow 24 m → (setC M (nrow 24 m) 6 x)[y]? = M[y]? := fun y hy => setC_row fun z => hy z.symm
  have hG : ∀ i, i < 10 → setG G 12 x i = G i := fun i hi => setG_ne (by omega)
  refine { r6 := ?_, rt := fun e => ?_, rc := fun i hi e => ?_, c8 := A.c8, pf := fun i hi e => ?_, nd := fun i j hi hj e eij => ?_, tz := fun e i hi hi2 => by rw [hG i hi2]; exact hz i hi hi2, z1 := ⟨by rw [setG_ne (by omega)]; exact A.z1.1, by rw [setG_ne (by omega)]; exact A.z1.2⟩ }
  · rw [setC_at A.r6, setG_at, hG 0 (by decide), hG 1 (by decide)]
    rfl
  · rw [setG_at] at e ⊢
    rcases hx with h | ⟨a1, a2, a3, a4⟩
    · exact absurd h e
    rw [hrow _ (by omega), a3, tabR_ne (.inr (by decide))]
    unfold tabR
    rw [hz 2 (by decide) (by decide), hz 3 (by decide) (by decide), hz 4 (by decide) (by decide), hz 5 (by decide) (by decide), hz 6 (by decide) (by decide), hz 7 (by decide) (by decide), hz 8 (by decide) (by decide), hz 9 (by decide) (by decide)]
    rfl
  · rw [hG i hi] at e ⊢
    have p := A.pf i (by omega) e
    rw [hrow _ (by omega)]
    exact A.rc i hi e
  · by_cases z : i = 12
    · subst z
      rw [setG_at] at e ⊢
      rcases hx with h | ⟨a1, a2, a3, a4⟩
      · exact absurd h e
      · exact ⟨a1, a2⟩
    · rw [setG_ne z] at e ⊢
      exact A.pf i hi e
  · by_cases z : i = 12
    · subst z
      rw [setG_at] at e eij
      by_cases zj : j = 12
      · exact zj.symm
      · rw [setG_ne zj] at eij
        rcases hx with h | ⟨a1, a2, a3, a4⟩
        · exact absurd h e
        · exact absurd eij.symm (a4 j hj)
    · rw [setG_ne z] at e eij
      by_cases zj : j = 12
      · subst zj
        rw [setG_at] at eij
        rcases hx with h | ⟨a1, a2, a3, a4⟩
        · exact absurd (eij.trans h) e
        · exact absurd eij (a4 i hi)
      · rw [setG_ne zj] at eij
        exact A.nd i j hi hj e eij
/-- a word put -/
theorem Fl.word (A : Fl M m G C sz o1 mk) (h1 : 1 ≤ m) (h2 : m ≤ 5) {q j : Nat} {y : Int} (hq : q < 10) (e0 : G q ≠ 0) : Fl (setC M (G q).toNat j y) m G (setB C q ((C q).set j y)) sz o1 mk := by
  have hn := nrow_in h1 h2
  have pq := A.pf q (by omega) e0
  have ne : ∀ i, i < 13 → G i ≠ 0 → i ≠ q → (G q).toNat ≠ (G i).toNat := fun i hi e hne z => by
    have p := A.pf i hi e
    exact hne (A.nd i q hi (by omega) e (by omega))
  refine { A with r6 := ?_, rt := fun e => ?_, rc := fun i hi e => ?_, c8 := fun i => ?_ }
  · rw [setC_row (by omega)]
    exact A.r6
  · rw [setC_row (ne 12 (by decide) e (by omega))]
    exact A.rt e
  · by_cases z : i = q
    · subst z
      rw [setC_at (A.rc i hi e), setB_at]
    · rw [setC_row (ne i (by omega) e z), setB_ne z]
      exact A.rc i hi e
  · unfold setB
    split
    · rw [List.length_set]
      exact A.c8 q
    · exact A.c8 i
theorem Fl.size (A : Fl M m G C sz o1 mk) (h1 : 1 ≤ m) (h2 : m ≤ 5) {s : Int} : Fl (setC M (nrow 24 m) 2 s) m G C s o1 mk := by
  have hn := nrow_in h1 h2
  refine { A with r6 := ?_, rt := fun e => ?_, rc := fun i hi e => ?_ }
  · rw [setC_at A.r6]
    rfl
  · have p := A.pf 12 (by decide) e
    rw [setC_row (by omega)]
    exact A.rt e
  · have p := A.pf i (by omega) e
    rw [setC_row (by omega)]
    exact A.rc i hi e
/-! ### what the code reads of it -/
theorem Fl.sz_ (A : Fl M m G C sz o1 mk) : cellAt M (nrow 24 m) 2 = sz := cellAt_of A.r6 rfl
theorem Fl.ow_ (A : Fl M m G C sz o1 mk) : cellAt M (nrow 24 m) 3 = o1 := cellAt_of A.r6 rfl
theorem Fl.kd_ (A : Fl M m G C sz o1 mk) : cellAt M (nrow 24 m) 0 = 1 := cellAt_of A.r6 rfl
theorem Fl.c_ (A : Fl M m G C sz o1 mk) : plc 24 M m = G 12 := cellAt_of A.r6 rfl
theorem Fl.ok_ (A : Fl M m G C sz o1 mk) : PlcOk 24 5 M m := by
  unfold PlcOk
  rw [A.c_]
  by_cases e : G 12 = 0
  · exact .inl e
  · have := A.pf 12 (by decide) e
    exact .inr ⟨by show (10 : Int) ≤ _; omega, by omega⟩
theorem Fl.v_ (A : Fl M m G C sz o1 mk) {o : Nat} (h : o < 10) : plV 24 M m o = G o := by
  unfold plV
  rw [A.c_]
  by_cases c : o < 2
  · rw [if_pos c]
    have : o = 0 ∨ o = 1 := by omega
    rcases this with e | e <;> (subst e; exact cellAt_of A.r6 rfl)
  · rw [if_neg c]
    by_cases e : G 12 = 0
    · rw [if_pos e, A.tz e o (by omega) h]
    · rw [if_neg e]
      have : o = 2 ∨ o = 3 ∨ o = 4 ∨ o = 5 ∨ o = 6 ∨ o = 7 ∨ o = 8 ∨ o = 9 := by omega
      rcases this with q | q | q | q | q | q | q | q <;> (subst q; exact cellAt_of (A.rt e) rfl)
theorem Fl.pl_ (A : Fl M m G C sz o1 mk) {o : Nat} (h : o < 10) : PlOk 24 5 M m o := by
  unfold PlOk
  rw [A.v_ h]
  by_cases e : G o = 0
  · exact .inl e
  · have := A.pf o (by omega) e
    exact .inr ⟨by show (10 : Int) ≤ _; omega, by omega⟩
/-- the word at c -/
def wdV (G : Nat → Int) (C : Nat → List Int) (sz : Int) (c : Int) : Int := if c ≥ sz then 0 else if G (c / 8).toNat = 0 then 0 else ((C (c / 8).toNat)[(c % 8).toNat]?).getD 0
theorem Fl.rd_ (A : Fl M m G C sz o1 mk) {c : Int} (h0 : 0 ≤ c) (hs : sz ≤ 80) : rdW 24 M m c = wdV G C sz c := by
  unfold rdW wdV
  rw [A.sz_]
  by_cases z : c ≥ sz
  · rw [if_pos z, if_pos z]
  · have ho : (c / 8).toNat < 10 := by omega
    rw [if_neg z, if_neg z, A.v_ ho]
    by_cases e : G (c / 8).toNat = 0
    · rw [if_pos e, if_pos e]
    · rw [if_neg e, if_neg e]
      unfold cellAt
      rw [A.rc _ ho e]
      rfl
end
end K06
namespace K06
open PySem PySem.Spec PyProof.Rows L2 Rg
/-! ### counting -/
theorem filt_one {S : List Int} (h : S.Nodup) (a : Int) : (S.filter fun x => decide (x ≠ a)).length + (if a ∈ S then 1 else 0) = S.length := by
  induction S with
  | nil => simp
  | cons y S ih =>
    have hn := List.nodup_cons.mp h
    have := ih hn.2
    by_cases e : y = a
    · subst e
      rw [List.filter_cons_of_neg (by simp), if_pos (List.mem_cons_self ..)]
      rw [if_neg hn.1] at this
      rw [List.length_cons]
      omega
    · rw [List.filter_cons_of_pos (by simp [e]), List.length_cons, List.length_cons]
      have em : (a ∈ y :: S) ↔ a ∈ S := by
        rw [List.mem_cons]
        constructor
        · rintro (z | z)
          · exact absurd z.symm e
          · exact z
        · exact .inr
      by_cases z : a ∈ S
      · rw [if_pos (em.mpr z)]
        rw [if_pos z] at this
        omega
      · rw [if_neg (fun q => z (em.mp q))]
        rw [if_neg z] at this
        omega
theorem filt_cons {R L : List Int} {a : Int} : (R.filter fun x => decide (x ∉ a :: L)) = (R.filter fun x => decide (x ∉ L)).filter fun x => decide (x ≠ a) := by
  rw [List.filter_filter]
  refine List.filter_congr fun x _ => ?_
  by_cases h1 : x = a
  · simp [h1]
  · by_cases h2 : x ∈ L <;> simp [h1, h2]
theorem filt_nil {R : List Int} : (R.filter fun x => decide (x ∉ ([] : List Int))) = R := by
  rw [List.filter_eq_self]
  intro x _
  simp
theorem filt_ge {R : List Int} (h : R.Nodup) : ∀ L : List Int, R.length ≤ (R.filter fun x => decide (x ∉ L)).length + L.length
  | [] => by rw [filt_nil]; exact Nat.le_refl _
  | a :: L => by
    have h1 := filt_ge h L
    have h2 := filt_one (S := R.filter fun x => decide (x ∉ L)) (h.filter _) a
    rw [filt_cons, List.length_cons]
    split at h2 <;> omega
theorem filt_eq {R : List Int} (h : R.Nodup) : ∀ L : List Int, L.Nodup → (∀ x ∈ L, x ∈ R) → (R.filter fun x => decide (x ∉ L)).length + L.length = R.length
  | [], _, _ => by rw [filt_nil]; rfl
  | a :: L, hn, hs => by
    have hn' := List.nodup_cons.mp hn
    have h1 := filt_eq h L hn'.2 fun x hx => hs x (List.mem_cons_of_mem _ hx)
    have h2 := filt_one (S := R.filter fun x => decide (x ∉ L)) (h.filter _) a
    rw [if_pos (List.mem_filter.mpr ⟨hs a (List.mem_cons_self ..), by simp [hn'.1]⟩)] at h2
    rw [filt_cons, List.length_cons]
    omega
def nz (x : Int) : Int := if x = 0 then 0 else 1
theorem filt_nz : ∀ l : List Int, ((l.filter fun x => x != 0).length : Int) = (l.map nz).sum
  | [] => rfl
  | x :: l => by
    rw [List.map_cons, List.sum_cons, ← filt_nz l]
    unfold nz
    by_cases e : x = 0
    · rw [List.filter_cons_of_neg (by simp [e]), if_pos e]
      omega
    · rw [List.filter_cons_of_pos (by simp [e]), if_neg e, List.length_cons]
      omega
def cntG (G : Nat → Int) : Int := nz (G 0) + nz (G 1) + nz (G 2) + nz (G 3) + nz (G 4) + nz (G 5) + nz (G 6) + nz (G 7) + nz (G 8) + nz (G 9) + nz (G 12)
def fileD (G : Nat → Int) : List Int := [G 0, G 1, G 2, G 3, G 4, G 5, G 6, G 7, G 8, G 9, G 12].filter fun x => x != 0
theorem fileD_len {G : Nat → Int} : ((fileD G).length : Int) = cntG G := by
  unfold fileD
  rw [filt_nz]
  simp only [List.map_cons, List.map_nil, List.sum_cons, List.sum_nil]
  unfold cntG
  omega
theorem fileD_mem {G : Nat → Int} {x : Int} : x ∈ fileD G ↔ x ≠ 0 ∧ ∃ i, (i < 10 ∨ i = 12) ∧ G i = x := by
  unfold fileD
  rw [List.mem_filter]
  simp only [List.mem_cons, List.not_mem_nil, or_false, bne_iff_ne, ne_eq]
  constructor
  · rintro ⟨h, e⟩
    refine ⟨e, ?_⟩
    rcases h with h | h | h | h | h | h | h | h | h | h | h
    · exact ⟨0, by decide, h.symm⟩
    · exact ⟨1, by decide, h.symm⟩
    · exact ⟨2, by decide, h.symm⟩
    · exact ⟨3, by decide, h.symm⟩
    · exact ⟨4, by decide, h.symm⟩
    · exact ⟨5, by decide, h.symm⟩
    · exact ⟨6, by decide, h.symm⟩
    · exact ⟨7, by decide, h.symm⟩
    · exact ⟨8, by decide, h.symm⟩
    · exact ⟨9, by decide, h.symm⟩
    · exact ⟨12, by decide, h.symm⟩
  · rintro ⟨e, i, hi, rfl⟩
    refine ⟨?_, e⟩
    have : i = 0 ∨ i = 1 ∨ i = 2 ∨ i = 3 ∨ i = 4 ∨ i = 5 ∨ i = 6 ∨ i = 7 ∨ i = 8 ∨ i = 9 ∨ i = 12 := by omega
    rcases this with h | h | h | h | h | h | h | h | h | h | h <;> (subst h; simp)
theorem cnt_set {G : Nat → Int} {q : Nat} {x : Int} (hq : q < 10 ∨ q = 12) : cntG (setG G q x) = cntG G + nz x - nz (G q) := by
  have : q = 0 ∨ q = 1 ∨ q = 2 ∨ q = 3 ∨ q = 4 ∨ q = 5 ∨ q = 6 ∨ q = 7 ∨ q = 8 ∨ q = 9 ∨ q = 12 := by omega
  rcases this with h | h | h | h | h | h | h | h | h | h | h <;> (subst h; simp [cntG, setG]; omega)
/-! ### one file in an image of 24 blocks -/
structure Stt (M : List (List Int)) (G : Nat → Int) (C : Nat → List Int) (kd us : List Int) (sz : Int) (o1 i : Nat) : Prop where
  k : Kds M kd us [0, 0, 0, 0] i
  r1 : M[1]? = some [0, 0, 0, 0, 0, 0, 0, 0]
  r5 : M[5]? = some [2, 1, 0, 0, 0, 0, 0, 1]
  f : Fl M 2 G C sz o1 1
  kq : ∀ x : Nat, 10 ≤ x → x < 24 → ((∃ i, i < 10 ∧ G i = x) → kd[x]? = some 2) ∧ (G 12 = x → kd[x]? = some 1) ∧ ((∀ i, i < 13 → G i ≠ x) → kd[x]? = some 0)
  uq : ∀ o, o < 4 → us[o]? = some (if o = o1 then cntG G else 0)
  o4 : o1 < 4
  s0 : 0 ≤ sz
  s8 : sz ≤ 80
section
variable {v : IV} {M : List (List Int)} {G : Nat → Int} {C : Nat → List Int} {kd us : List Int} {sz : Int} {o1 i : Nat}
theorem Stt.noq (A : Stt v.M G C kd us sz o1 i) {o : Nat} (ho : o < 4) : ¬ quota v o := fun z => by
  unfold quota at z
  rw [A.k.lim ho] at z
  have : o = 0 ∨ o = 1 ∨ o = 2 ∨ o = 3 := by omega
  rcases this with e | e | e | e <;> (subst e; exact z.1 rfl)
theorem Stt.free0 (A : Stt M G C kd us sz o1 i) {x : Nat} (h1 : 10 ≤ x) (h2 : x < 24) : kd[x]? = some 0 ↔ ∀ i, i < 13 → G i ≠ x := by
  obtain ⟨a, b, c⟩ := A.kq x h1 h2
  refine ⟨fun h i hi e => ?_, c⟩
  by_cases z : i < 10
  · rw [a ⟨i, z, e⟩] at h
    cases h
  · have : i = 10 ∨ i = 11 ∨ i = 12 := by omega
    have z1 := A.f.z1
    rcases this with q | q | q
    · rw [q, z1.1] at e
      omega
    · rw [q, z1.2] at e
      omega
    · rw [q] at e
      rw [b e] at h
      cases h
theorem Stt.freeL (A : Stt M G C kd us sz o1 i) : freeL 24 5 M = (rng 10 14).filter fun x => decide (x ∉ fileD G) := by
  unfold K06.freeL
  rw [show fdOf 24 5 = 10 by decide, show ((24 : Int) - 10).toNat = 14 by decide]
  refine List.filter_congr fun x hx => ?_
  have hr := rng_mem hx
  obtain ⟨n, rfl⟩ : ∃ n : Nat, x = n := ⟨x.toNat, by omega⟩
  rw [A.k.kind (by omega)]
  have hl : n < kd.length := by rw [A.k.kl]; omega
  have h0 := A.free0 (x := n) (by omega) (by omega)
  by_cases e : ∀ i, i < 13 → G i ≠ n
  · rw [h0.mpr e, show ((some (0 : Int)).getD 0 : Int) = 0 from rfl, decide_eq_true rfl]
    have hh : (n : Int) ∉ fileD G := fun z => by
      obtain ⟨_, i, hi, ei⟩ := fileD_mem.mp z
      exact e i (by omega) ei
    rw [decide_eq_true hh]
  · rw [List.getElem?_eq_getElem hl]
    have ne : kd[n] ≠ 0 := fun z => e (h0.mp (by rw [List.getElem?_eq_getElem hl, z]))
    rw [show ((some kd[n]).getD 0 : Int) = kd[n] from rfl, decide_eq_false ne]
    have hh : (n : Int) ∈ fileD G := by
      refine Classical.byContradiction fun z => e fun i hi ei => z (fileD_mem.mpr ⟨by omega, i, ?_, ei⟩)
      have z1 := A.f.z1
      by_cases q : i = 10
      · rw [q, z1.1] at ei; omega
      · by_cases q2 : i = 11
        · rw [q2, z1.2] at ei; omega
        · omega
    rw [decide_eq_false (fun z => z hh)]
theorem rng_nd : (rng 10 14).Nodup := by decide +kernel
theorem fileD_le {G : Nat → Int} : (fileD G).length ≤ 11 := List.length_filter_le _ _
theorem Stt.free_ne (A : Stt M G C kd us sz o1 i) : K06.freeL 24 5 M ≠ [] := fun z => by
  have h := filt_ge rng_nd (fileD G)
  rw [← A.freeL, z, rng_len] at h
  have := fileD_le (G := G)
  simp at h
  omega
theorem Stt.pick (A : Stt M G C kd us sz o1 i) {kind wi : Int} : ∃ x : Nat, pickL (letL 24 5 M kind []) wi = some (x : Int) ∧ 10 ≤ x ∧ x < 24 ∧ ∀ i, i < 13 → G i ≠ x := by
  have el : letL 24 5 M kind [] = K06.freeL 24 5 M := by
    unfold letL
    split
    · exact filt_nil
    · rfl
  rw [el]
  obtain ⟨x, hx⟩ := pick_some (wi := wi) A.free_ne
  have hm := pickL_mem hx
  rw [A.freeL] at hm
  obtain ⟨m1, m2⟩ := List.mem_filter.mp hm
  have hr := rng_mem m1
  obtain ⟨n, rfl⟩ : ∃ n : Nat, x = n := ⟨x.toNat, by omega⟩
  refine ⟨n, hx, by omega, by omega, fun i hi ei => ?_⟩
  refine absurd (fileD_mem.mpr ⟨by omega, i, ?_, ei⟩) (of_decide_eq_true m2)
  have z1 := A.f.z1
  by_cases q : i = 10
  · rw [q, z1.1] at ei; omega
  · by_cases q2 : i = 11
    · rw [q2, z1.2] at ei; omega
    · omega
end
end K06
namespace K06
open PySem PySem.Spec PyProof.Rows L2 Rg
section
variable {v : IV} {M : List (List Int)} {G : Nat → Int} {C : Nat → List Int} {kd us : List Int} {sz : Int} {o1 i : Nat}
theorem set_at {l : List Int} {i j : Nat} {x : Int} (hl : i < l.length) : (l.set i x)[j]? = if j = i then some x else l[j]? := by
  by_cases e : j = i
  · subst e
    rw [List.getElem?_set_self hl, if_pos rfl]
  · rw [List.getElem?_set_ne (fun z => e z.symm), if_neg e]
/-- a new block as a place or as the table -/
theorem Stt.sums (A : Stt M G C kd us sz o1 i) {d : Int} {o : Nat} (ho : o < 4) : (us.set o1 ((us[o1]?).getD 0 + d))[o]? = some (if o = o1 then cntG G + d else 0) := by
  have h4 := A.o4
  have e1 := A.uq o1 h4
  rw [if_pos rfl] at e1
  rw [set_at (by rw [A.k.u4]; exact h4), e1]
  by_cases e : o = o1
  · rw [if_pos e, if_pos e]
    rfl
  · rw [if_neg e, if_neg e, A.uq o ho, if_neg e]
theorem putPl_len {b m x : Int} {o : Nat} : (putPl b M m o x).length = M.length := by
  unfold putPl
  split <;> exact setC_len
theorem Stt.kdsPut (A : Kds M kd us [0, 0, 0, 0] i) {r j : Nat} {x : Int} (hr : 5 ≤ r) (hr2 : r < 24) : Kds (setC M r j x) kd us [0, 0, 0, 0] i := A.put hr hr2
theorem putPl_row {x : Int} {q : Nat} (A : Fl M 2 G C sz o1 1) (ht : 2 ≤ q → G 12 ≠ 0) : ∃ r j, 5 < r ∧ r < 24 ∧ putPl 24 M 2 q x = setC M r j x := by
  have hn : nrow 24 2 = 6 := by decide
  unfold putPl
  rw [A.c_]
  by_cases z : q < 2
  · exact ⟨_, _, by omega, by omega, if_pos z⟩
  · have p := A.pf 12 (by decide) (ht (by omega))
    exact ⟨_, _, by omega, by omega, if_neg z⟩
/-- a place taken -/
theorem Stt.take1 (A : Stt M G C kd us sz o1 i) {x q : Nat} (hx : 10 ≤ x) (hx2 : x < 24) (nx : ∀ i, i < 13 → G i ≠ x) (hq : q < 10) (e0 : G q = 0) (ht : 2 ≤ q → G 12 ≠ 0) :
    Stt (putPl 24 (tkM M x 2 o1 1) 2 q x) (setG G q x) (setB C q (List.replicate 8 0)) (kd.set x 2) (us.set o1 ((us[o1]?).getD 0 + 1)) sz o1 (i + 1) := by
  have k1 := A.k.tk (d := 1) (k := 2) hx hx2 A.o4 (.inl rfl) (.inr (.inr rfl))
  have f1 := A.f.tk (o := o1) (k := 2) (d := 1) (by decide) (by decide) hx hx2 nx
  have hxl : (x : Int).toNat = x := by omega
  have f2 := f1.put (by decide) (by decide) (x := x) (c := List.replicate 8 0) hq ht List.length_replicate (.inr ⟨by omega, by omega, by rw [hxl]; exact tkx hx (by rw [A.k.ml]; omega), nx⟩)
  obtain ⟨r, j, hr, hr2, ep⟩ := putPl_row (x := x) f1 ht
  have hkl : x < kd.length := by rw [A.k.kl]; exact hx2
  have gx : (x : Int) ≠ 0 := by omega
  refine { k := ?_, r1 := ?_, r5 := ?_, f := f2, kq := fun y h1 h2 => ?_, uq := fun o ho => ?_, o4 := A.o4, s0 := A.s0, s8 := A.s8 }
  · rw [ep]; exact k1.put (by omega) hr2
  · rw [ep, setC_row (by omega), tk1 hx hx2]; exact A.r1
  · rw [ep]
    rw [setC_row (by omega), tkh (by decide) hx2 (by omega)]; exact A.r5
  · rw [set_at hkl]
    obtain ⟨a, b, c⟩ := A.kq y h1 h2
    by_cases z : y = x
    · subst z
      rw [if_pos rfl]
      refine ⟨fun _ => rfl, fun e => ?_, fun e => ?_⟩
      · rw [setG_ne (by omega)] at e
        exact absurd e (nx 12 (by decide))
      · exact absurd setG_at (e q (by omega))
    · rw [if_neg z]
      refine ⟨fun ⟨i, hi, e⟩ => ?_, fun e => ?_, fun e => ?_⟩
      · by_cases w : i = q
        · rw [w, setG_at] at e
          omega
        · rw [setG_ne w] at e
          exact a ⟨i, hi, e⟩
      · rw [setG_ne (by omega)] at e
        exact b e
      · refine c fun i hi => ?_
        by_cases w : i = q
        · rw [w, e0]
          omega
        · have := e i hi
          rw [setG_ne w] at this
          exact this
  · rw [A.sums ho, cnt_set (.inl hq), e0]
    unfold nz
    rw [if_neg gx, if_pos rfl]
    split <;> (congr 1; try omega)
end
end K06
namespace K06
open PySem PySem.Spec PyProof.Rows L2 Rg
section
variable {v : IV} {M : List (List Int)} {G : Nat → Int} {C : Nat → List Int} {kd us : List Int} {sz : Int} {o1 i : Nat}
theorem n6 : nrow 24 2 = 6 := by decide
/-- the table taken -/
theorem Stt.takeT (A : Stt M G C kd us sz o1 i) {x : Nat} (hx : 10 ≤ x) (hx2 : x < 24) (nx : ∀ i, i < 13 → G i ≠ x) (e0 : G 12 = 0) :
    Stt (setC (tkM M x 1 o1 1) (nrow 24 2) 6 x) (setG G 12 x) C (kd.set x 1) (us.set o1 ((us[o1]?).getD 0 + 1)) sz o1 (i + 1) := by
  have k1 := A.k.tk (d := 1) (k := 1) hx hx2 A.o4 (.inl rfl) (.inr (.inl rfl))
  have f1 := A.f.tk (o := o1) (k := 1) (d := 1) (by decide) (by decide) hx hx2 nx
  have hxl : (x : Int).toNat = x := by omega
  have f2 := f1.putT (by decide) (by decide) (x := x) (A.f.tz e0) (.inr ⟨by omega, by omega, by rw [hxl]; exact tkx hx (by rw [A.k.ml]; omega), nx⟩)
  have hkl : x < kd.length := by rw [A.k.kl]; exact hx2
  have gx : (x : Int) ≠ 0 := by omega
  refine { k := ?_, r1 := ?_, r5 := ?_, f := f2, kq := fun y h1 h2 => ?_, uq := fun o ho => ?_, o4 := A.o4, s0 := A.s0, s8 := A.s8 }
  · rw [n6]; exact k1.put (by decide) (by decide)
  · rw [n6, setC_row (by decide), tk1 hx hx2]; exact A.r1
  · rw [n6, setC_row (by decide), tkh (by decide) hx2 (by omega)]; exact A.r5
  · rw [set_at hkl]
    obtain ⟨a, b, c⟩ := A.kq y h1 h2
    by_cases z : y = x
    · subst z
      rw [if_pos rfl]
      refine ⟨fun ⟨i, hi, e⟩ => ?_, fun _ => rfl, fun e => ?_⟩
      · rw [setG_ne (by omega)] at e
        exact absurd e (nx i (by omega))
      · exact absurd setG_at (e 12 (by omega))
    · rw [if_neg z]
      refine ⟨fun ⟨i, hi, e⟩ => ?_, fun e => ?_, fun e => ?_⟩
      · rw [setG_ne (by omega)] at e
        exact a ⟨i, hi, e⟩
      · rw [setG_at] at e
        omega
      · refine c fun i hi => ?_
        by_cases w : i = 12
        · rw [w, e0]
          omega
        · have := e i hi
          rw [setG_ne w] at this
          exact this
  · rw [A.sums ho, cnt_set (.inr rfl), e0]
    unfold nz
    rw [if_neg gx, if_pos rfl]
    split <;> (congr 1; try omega)
theorem Stt.mono (A : Stt M G C kd us sz o1 i) {j : Nat} (h : i ≤ j) : Stt M G C kd us sz o1 j := { A with k := A.k.mono h }
def Te (G : Nat → Int) : Prop := G 12 ≠ 0 → ∃ i, 2 ≤ i ∧ i < 10 ∧ G i ≠ 0
theorem Stt.takeR (A : Stt v.M G C kd us sz o1 i) (hba : v.ba = []) (te : Te G) {q : Nat} (hq : q < 10) (e0 : G q = 0) :
    ∃ (v' : IV) (G' : Nat → Int) (C' : Nat → List Int) (kd' us' : List Int), takeR 24 5 v 2 q o1 = .ok v' ∧ Stt v'.M G' C' kd' us' sz o1 (i + 2) ∧ v'.ba = [] ∧ v'.wi = v.wi ∧ v'.se = v.se ∧ G' q ≠ 0 ∧ C' q = List.replicate 8 0 ∧ (∀ j, j < 10 → j ≠ q → G' j = G j ∧ C' j = C j) ∧ Te G' := by
  have h4 := A.o4
  have nq := A.noq h4
  unfold K06.takeR fillR
  rw [A.f.v_ hq, if_neg (by simp [e0])]
  by_cases hn : needsT 24 v 2 q = false
  · have ht : 2 ≤ q → G 12 ≠ 0 := fun h z => by
      unfold needsT at hn
      rw [A.f.c_, z, decide_eq_true h, decide_eq_true rfl] at hn
      cases hn
    obtain ⟨x, ex, hx, hx2, nx⟩ := A.pick (kind := 2) (wi := v.wi)
    rw [← hba] at ex
    rw [if_pos hn, if_neg nq, ex]
    refine ⟨_, _, _, _, _, rfl, (A.take1 hx hx2 nx hq e0 ht).mono (by omega), hba, rfl, rfl, ?_, setB_at, fun j _ hj => ⟨setG_ne hj, setB_ne hj⟩, fun h => ?_⟩
    · rw [setG_at]
      omega
    · rw [setG_ne (by omega)] at h
      obtain ⟨j, j1, j2, j3⟩ := te h
      exact ⟨j, j1, j2, by rw [setG_ne (fun z => j3 (by rw [z]; exact e0))]; exact j3⟩
  · have hn' : needsT 24 v 2 q = true := by
      cases h : needsT 24 v 2 q with
      | true => rfl
      | false => exact absurd h hn
    have hq2 : 2 ≤ q ∧ G 12 = 0 := by
      unfold needsT at hn'
      rw [A.f.c_] at hn'
      have := Bool.and_eq_true_iff.mp hn'
      exact ⟨of_decide_eq_true this.1, of_decide_eq_true this.2⟩
    obtain ⟨t, et, ht, ht2, nt⟩ := A.pick (kind := 1) (wi := v.wi)
    rw [← hba] at et
    rw [if_neg hn, if_neg nq, et]
    have B := A.takeT ht ht2 nt hq2.2
    have eT : (takT 24 v 2 o1 t).M = setC (tkM v.M t 1 o1 1) (nrow 24 2) 6 t := rfl
    rw [← eT] at B
    have nq2 := B.noq h4
    obtain ⟨x, ex, hx, hx2, nx⟩ := B.pick (kind := 2) (wi := v.wi)
    rw [← hba] at ex
    have tt : ((t : Int)).toNat = t := by omega
    show ∃ v' G' C' kd' us', (if quota (takT 24 v 2 o1 ((t : Int)).toNat) o1 then TR.oq else match pickL (letL 24 5 (takT 24 v 2 o1 ((t : Int)).toNat).M 2 v.ba) v.wi with | none => TR.bf | some x => TR.ok (takP 24 (takT 24 v 2 o1 ((t : Int)).toNat) 2 q o1 2 x.toNat)) = TR.ok v' ∧ _
    rw [tt, if_neg nq2, ex]
    have e12 : setG G 12 (t : Int) 12 ≠ 0 := by rw [setG_at]; omega
    refine ⟨_, _, _, _, _, rfl, B.take1 hx hx2 nx hq (by rw [setG_ne (by omega)]; exact e0) (fun _ => e12), hba, rfl, rfl, ?_, setB_at, fun j hj hne => ⟨by rw [setG_ne hne, setG_ne (by omega)], setB_ne hne⟩, fun _ => ⟨q, hq2.1, hq, ?_⟩⟩
    · rw [setG_at]
      omega
    · rw [setG_at]
      omega
theorem Stt.log (A : Stt M G C kd us sz o1 i) (hi : i < 1000) : (cellAt M 0 o1).natAbs.log2 < 1910 := by
  have ho := A.o4
  rw [A.k.sum ho]
  have hou : o1 < us.length := by rw [A.k.u4]; exact ho
  rw [List.getElem?_eq_getElem hou]
  have := A.k.ul _ (List.getElem_mem hou)
  show (us[o1]).natAbs.log2 < 1910
  by_cases e : (us[o1]).natAbs = 0
  · rw [e]; decide
  rw [Nat.log2_lt e]
  have h1 : (1000 : Nat) < 2 ^ 10 := by decide
  have h2 : (2 : Nat) ^ 10 ≤ 2 ^ 1910 := Nat.pow_le_pow_right (by decide) (by decide)
  omega
theorem Stt.takeRs : ∀ (os : List Nat) {v : IV} {G : Nat → Int} {C : Nat → List Int} {kd us : List Int} {i : Nat}, Stt v.M G C kd us sz o1 i → v.ba = [] → Te G → i + 2 * os.length < 1000 → os.Nodup → (∀ o ∈ os, o < 10 ∧ G o = 0) →
    ∃ (v' : IV) (G' : Nat → Int) (C' : Nat → List Int) (kd' us' : List Int), takeRs 24 5 2 o1 v os = .ok v' ∧ TkOk 24 5 2 o1 v os ∧ Stt v'.M G' C' kd' us' sz o1 (i + 2 * os.length) ∧ v'.ba = [] ∧ v'.wi = v.wi ∧ v'.se = v.se ∧ (∀ o ∈ os, G' o ≠ 0 ∧ C' o = List.replicate 8 0) ∧ (∀ j, j < 10 → j ∉ os → G' j = G j ∧ C' j = C j) ∧ Te G'
  | [], v, G, C, kd, us, i, A, hba, te, _, _, _ => ⟨v, G, C, kd, us, rfl, trivial, A, hba, rfl, rfl, fun _ h => absurd h List.not_mem_nil, fun _ _ _ => ⟨rfl, rfl⟩, te⟩
  | o :: os, v, G, C, kd, us, i, A, hba, te, hi, hn, h0 => by
    rw [List.length_cons] at hi
    have hn' := List.nodup_cons.mp hn
    have ho := h0 o (List.mem_cons_self ..)
    obtain ⟨v1, G1, C1, kd1, us1, e1, A1, b1, w1, s1, g1, c1, r1, te1⟩ := A.takeR hba te ho.1 ho.2
    obtain ⟨v2, G2, C2, kd2, us2, e2, T2, A2, b2, w2, s2, g2, r2, te2⟩ := Stt.takeRs os A1 b1 te1 (by omega) hn'.2 fun j hj => by
      have := h0 j (List.mem_cons_of_mem _ hj)
      refine ⟨this.1, ?_⟩
      rw [(r1 j this.1 (fun z => hn'.1 (z ▸ hj))).1]
      exact this.2
    refine ⟨v2, G2, C2, kd2, us2, ?_, ⟨ho.1, A.f.ok_, A.f.ow_, A.log (by omega), fun v' ev => ?_⟩, ?_, b2, w2.trans w1, s2.trans s1, fun j hj => ?_, fun j hj hne => ?_, te2⟩
    · show (match K06.takeR 24 5 v 2 o o1 with | .ok v' => K06.takeRs 24 5 2 o1 v' os | .oq => .oq | .bf => .bf) = _
      rw [e1]
      exact e2
    · rw [e1] at ev
      cases ev
      exact T2
    · rw [List.length_cons, show i + 2 * (os.length + 1) = i + 2 + 2 * os.length by omega]
      exact A2
    · rcases List.mem_cons.mp hj with z | z
      · subst z
        obtain ⟨a, b⟩ := r2 j ho.1 hn'.1
        rw [a, b]
        exact ⟨g1, c1⟩
      · exact g2 j z
    · have m1 : j ≠ o := fun z => hne (z ▸ List.mem_cons_self ..)
      have m2 : j ∉ os := fun z => hne (List.mem_cons_of_mem _ z)
      obtain ⟨a, b⟩ := r2 j hj m2
      obtain ⟨a', b'⟩ := r1 j hj m1
      exact ⟨a.trans a', b.trans b'⟩
end
end K06
namespace K06
open PySem PySem.Spec PyProof.Rows L2 Rg
section
variable {v : IV} {M : List (List Int)} {G : Nat → Int} {C : Nat → List Int} {kd us : List Int} {sz : Int} {o1 i : Nat}
/-- a place dropped -/
theorem Stt.drop1 (A : Stt M G C kd us sz o1 i) {q : Nat} (hq : q < 10) (e0 : G q ≠ 0) :
    Stt (putPl 24 (tkM M (G q).toNat 0 o1 (-1)) 2 q 0) (setG G q 0) (setB (setB C q (List.replicate 8 0)) q (List.replicate 8 0)) (kd.set (G q).toNat 0) (us.set o1 ((us[o1]?).getD 0 + -1)) sz o1 (i + 1) := by
  have pq := A.f.pf q (by omega) e0
  obtain ⟨x, ex⟩ : ∃ x : Nat, G q = x := ⟨(G q).toNat, by omega⟩
  have hxt : (G q).toNat = x := by omega
  rw [hxt]
  have hx : 10 ≤ x := by omega
  have hx2 : x < 24 := by omega
  have ht : 2 ≤ q → G 12 ≠ 0 := fun h z => e0 (A.f.tz z q h hq)
  have k1 := A.k.tk (d := -1) (k := 0) hx hx2 A.o4 (.inr rfl) (.inl rfl)
  have f1 := A.f.clr (o := o1) (k := 0) (d := -1) (by decide) (by decide) A.k.ml hq e0
  rw [hxt] at f1
  have f2 := f1.put (by decide) (by decide) (x := 0) (c := List.replicate 8 0) hq ht List.length_replicate (.inl rfl)
  obtain ⟨r, j, hr, hr2, ep⟩ := putPl_row (x := 0) f1 ht
  have hkl : x < kd.length := by rw [A.k.kl]; exact hx2
  refine { k := ?_, r1 := ?_, r5 := ?_, f := f2, kq := fun y h1 h2 => ?_, uq := fun o ho => ?_, o4 := A.o4, s0 := A.s0, s8 := A.s8 }
  · rw [ep]; exact k1.put (by omega) hr2
  · rw [ep, setC_row (by omega), tk1 hx hx2]; exact A.r1
  · rw [ep, setC_row (by omega), tkh (by decide) hx2 (by omega)]; exact A.r5
  · rw [set_at hkl]
    obtain ⟨a, b, c⟩ := A.kq y h1 h2
    by_cases z : y = x
    · subst z
      rw [if_pos rfl]
      refine ⟨fun ⟨i, hi, e⟩ => ?_, fun e => ?_, fun e => rfl⟩
      · exfalso
        by_cases w : i = q
        · rw [w, setG_at] at e
          omega
        · rw [setG_ne w] at e
          exact w (A.f.nd i q (by omega) (by omega) (by omega) (by omega))
      · rw [setG_ne (by omega)] at e
        have := A.f.nd 12 q (by decide) (by omega) (by omega) (by omega)
        omega
    · rw [if_neg z]
      refine ⟨fun ⟨i, hi, e⟩ => ?_, fun e => ?_, fun e => ?_⟩
      · by_cases w : i = q
        · rw [w, setG_at] at e
          omega
        · rw [setG_ne w] at e
          exact a ⟨i, hi, e⟩
      · rw [setG_ne (by omega)] at e
        exact b e
      · refine c fun i hi => ?_
        by_cases w : i = q
        · rw [w]
          omega
        · have := e i hi
          rw [setG_ne w] at this
          exact this
  · rw [A.sums ho, cnt_set (.inl hq)]
    unfold nz
    rw [if_neg e0, if_pos rfl]
    split <;> (congr 1; try omega)
theorem Stt.dropT (A : Stt M G C kd us sz o1 i) (e0 : G 12 ≠ 0) (hz : ∀ i, 2 ≤ i → i < 10 → G i = 0) :
    Stt (setC (tkM M (G 12).toNat 0 o1 (-1)) (nrow 24 2) 6 0) (setG G 12 0) C (kd.set (G 12).toNat 0) (us.set o1 ((us[o1]?).getD 0 + -1)) sz o1 (i + 1) := by
  have pq := A.f.pf 12 (by omega) e0
  obtain ⟨x, ex⟩ : ∃ x : Nat, G 12 = x := ⟨(G 12).toNat, by omega⟩
  have hxt : (G 12).toNat = x := by omega
  rw [hxt]
  have hx : 10 ≤ x := by omega
  have hx2 : x < 24 := by omega
  have hz8 : tabR G = List.replicate 8 0 := by
    unfold tabR
    rw [hz 2 (by decide) (by decide), hz 3 (by decide) (by decide), hz 4 (by decide) (by decide), hz 5 (by decide) (by decide), hz 6 (by decide) (by decide), hz 7 (by decide) (by decide), hz 8 (by decide) (by decide), hz 9 (by decide) (by decide)]
    rfl
  have k1 := A.k.tk (d := -1) (k := 0) hx hx2 A.o4 (.inr rfl) (.inl rfl)
  have f1 := A.f.tkt (o := o1) (k := 0) (d := -1) (by decide) (by decide) A.k.ml e0 hz8
  rw [hxt] at f1
  have f2 := f1.putT (by decide) (by decide) (x := 0) hz (.inl rfl)
  have hkl : x < kd.length := by rw [A.k.kl]; exact hx2
  refine { k := ?_, r1 := ?_, r5 := ?_, f := f2, kq := fun y h1 h2 => ?_, uq := fun o ho => ?_, o4 := A.o4, s0 := A.s0, s8 := A.s8 }
  · rw [n6]; exact k1.put (by decide) (by decide)
  · rw [n6, setC_row (by decide), tk1 hx hx2]; exact A.r1
  · rw [n6, setC_row (by decide), tkh (by decide) hx2 (by omega)]; exact A.r5
  · rw [set_at hkl]
    obtain ⟨a, b, c⟩ := A.kq y h1 h2
    by_cases z : y = x
    · subst z
      rw [if_pos rfl]
      refine ⟨fun ⟨i, hi, e⟩ => ?_, fun e => ?_, fun e => rfl⟩
      · rw [setG_ne (by omega)] at e
        have := A.f.nd i 12 (by omega) (by decide) (by omega) (by omega)
        omega
      · rw [setG_at] at e
        omega
    · rw [if_neg z]
      refine ⟨fun ⟨i, hi, e⟩ => ?_, fun e => ?_, fun e => ?_⟩
      · rw [setG_ne (by omega)] at e
        exact a ⟨i, hi, e⟩
      · rw [setG_at] at e
        omega
      · refine c fun i hi => ?_
        by_cases w : i = 12
        · rw [w]
          omega
        · have := e i hi
          rw [setG_ne w] at this
          exact this
  · rw [A.sums ho, cnt_set (.inr rfl)]
    unfold nz
    rw [if_neg e0, if_pos rfl]
    split <;> (congr 1; try omega)
theorem tabR_anyF {G : Nat → Int} (h : (tabR G).any (fun x => x != 0) = false) : ∀ i, 2 ≤ i → i < 10 → G i = 0 := fun i h1 h2 => by
  unfold tabR at h
  simp only [List.any_cons, List.any_nil, Bool.or_false, Bool.or_eq_false_iff, bne_eq_false_iff_eq] at h
  obtain ⟨a2, a3, a4, a5, a6, a7, a8, a9⟩ := h
  have : i = 2 ∨ i = 3 ∨ i = 4 ∨ i = 5 ∨ i = 6 ∨ i = 7 ∨ i = 8 ∨ i = 9 := by omega
  rcases this with e | e | e | e | e | e | e | e <;> (subst e; assumption)
theorem tabR_anyT {G : Nat → Int} (h : (tabR G).any (fun x => x != 0) = true) : ∃ i, 2 ≤ i ∧ i < 10 ∧ G i ≠ 0 := by
  unfold tabR at h
  simp only [List.any_cons, List.any_nil, Bool.or_false, Bool.or_eq_true, bne_iff_ne, ne_eq] at h
  rcases h with h | h | h | h | h | h | h | h
  · exact ⟨2, by decide, by decide, h⟩
  · exact ⟨3, by decide, by decide, h⟩
  · exact ⟨4, by decide, by decide, h⟩
  · exact ⟨5, by decide, by decide, h⟩
  · exact ⟨6, by decide, by decide, h⟩
  · exact ⟨7, by decide, by decide, h⟩
  · exact ⟨8, by decide, by decide, h⟩
  · exact ⟨9, by decide, by decide, h⟩
theorem Stt.dropP (A : Stt v.M G C kd us sz o1 i) {q : Nat} (hq : q < 10) (e0 : G q ≠ 0) :
    ∃ (G' : Nat → Int) (C' : Nat → List Int) (kd' us' : List Int), Stt (dropP 24 v 2 q o1).M G' C' kd' us' sz o1 (i + 2) ∧ (dropP 24 v 2 q o1).ba = v.ba ∧ G' q = 0 ∧ (∀ j, j < 10 → j ≠ q → G' j = G j ∧ C' j = C j) ∧ Te G' := by
  have B := A.drop1 hq e0
  have hv := A.f.v_ hq
  unfold K06.dropP
  rw [hv, if_neg e0]
  obtain ⟨w, hw⟩ : ∃ w : IV, w = { giveV v (G q).toNat o1 with M := putPl 24 (giveV v (G q).toNat o1).M 2 q 0 } := ⟨_, rfl⟩
  have eM : w.M = putPl 24 (tkM v.M (G q).toNat 0 o1 (-1)) 2 q 0 := by rw [hw]; rfl
  have eb : w.ba = v.ba := by rw [hw]; rfl
  rw [← hw, ← eb]
  rw [← eM] at B
  unfold dropB
  rw [B.f.c_]
  have keep : ∀ j, j < 10 → j ≠ q → setG G q 0 j = G j ∧ setB (setB C q (List.replicate 8 0)) q (List.replicate 8 0) j = C j := fun j _ hj => ⟨setG_ne hj, by rw [setB_ne hj, setB_ne hj]⟩
  by_cases z : setG G q 0 12 = 0
  · rw [if_pos (.inl z)]
    exact ⟨_, _, _, _, B.mono (by omega), rfl, setG_at, keep, fun h => absurd z h⟩
  · rw [B.f.rt z]
    cases y : (tabR (setG G q 0)).any (fun x => x != 0) with
    | true =>
      rw [if_pos (.inr y)]
      exact ⟨_, _, _, _, B.mono (by omega), rfl, setG_at, keep, fun _ => tabR_anyT y⟩
    | false =>
      have hz := tabR_anyF y
      have hn : ¬ (setG G q 0 12 = 0 ∨ ((some (tabR (setG G q 0))).getD []).any (fun x => x != 0) = true) := by
        rintro (h | h)
        · exact z h
        · have h' : (tabR (setG G q 0)).any (fun x => x != 0) = true := h
          rw [y] at h'
          cases h'
      rw [if_neg hn]
      have D := B.dropT z hz
      refine ⟨_, _, _, _, D, rfl, ?_, fun j hj hne => ?_, fun h => absurd setG_at h⟩
      · rw [setG_ne (by omega), setG_at]
      · rw [setG_ne (by omega)]
        exact keep j hj hne
theorem Stt.dropS : ∀ (os : List Nat) {v : IV} {G : Nat → Int} {C : Nat → List Int} {kd us : List Int} {i : Nat}, Stt v.M G C kd us sz o1 i → Te G → os.Nodup → (∀ o ∈ os, o < 10 ∧ G o ≠ 0) →
    ∃ (G' : Nat → Int) (C' : Nat → List Int) (kd' us' : List Int), DropOk 24 5 2 o1 v os ∧ Stt (dropS 24 v 2 o1 os).M G' C' kd' us' sz o1 (i + 2 * os.length) ∧ (dropS 24 v 2 o1 os).ba = v.ba ∧ (∀ o ∈ os, G' o = 0) ∧ (∀ j, j < 10 → j ∉ os → G' j = G j ∧ C' j = C j) ∧ Te G'
  | [], v, G, C, kd, us, i, A, te, _, _ => ⟨G, C, kd, us, trivial, A, rfl, fun _ h => absurd h List.not_mem_nil, fun _ _ _ => ⟨rfl, rfl⟩, te⟩
  | o :: os, v, G, C, kd, us, i, A, te, hn, h0 => by
    have hn' := List.nodup_cons.mp hn
    have ho := h0 o (List.mem_cons_self ..)
    obtain ⟨G1, C1, kd1, us1, A1, b1, g1, r1, te1⟩ := A.dropP ho.1 ho.2
    obtain ⟨G2, C2, kd2, us2, D2, A2, b2, g2, r2, te2⟩ := Stt.dropS os A1 te1 hn'.2 fun j hj => by
      have := h0 j (List.mem_cons_of_mem _ hj)
      refine ⟨this.1, ?_⟩
      rw [(r1 j this.1 (fun z => hn'.1 (z ▸ hj))).1]
      exact this.2
    refine ⟨G2, C2, kd2, us2, ⟨ho.1, A.f.ok_, A.f.pl_ ho.1, A.f.ow_, D2⟩, ?_, b2.trans b1, fun j hj => ?_, fun j hj hne => ?_, te2⟩
    · rw [List.length_cons, show i + 2 * (os.length + 1) = i + 2 + 2 * os.length by omega]
      exact A2
    · rcases List.mem_cons.mp hj with z | z
      · subst z
        rw [(r2 j ho.1 hn'.1).1]
        exact g1
      · exact g2 j z
    · have m1 : j ≠ o := fun z => hne (z ▸ List.mem_cons_self ..)
      have m2 : j ∉ os := fun z => hne (List.mem_cons_of_mem _ z)
      obtain ⟨a, b⟩ := r2 j hj m2
      obtain ⟨a', b'⟩ := r1 j hj m1
      exact ⟨a.trans a', b.trans b'⟩
/-! ### words -/
def cellC (C : Nat → List Int) (c : Nat) : Int := ((C (c / 8))[c % 8]?).getD 0
theorem wdV_nat {c : Nat} : wdV G C sz c = if (c : Int) ≥ sz then 0 else if G (c / 8) = 0 then 0 else cellC C c := by
  unfold wdV cellC
  rw [show ((c : Int) / 8).toNat = c / 8 by omega, show ((c : Int) % 8).toNat = c % 8 by omega]
theorem cellC_set (hC : ∀ i, (C i).length = 8) {q j c : Nat} {y : Int} (hj : j < 8) : cellC (setB C q ((C q).set j y)) c = if c = 8 * q + j then y else cellC C c := by
  unfold cellC
  by_cases e : c / 8 = q
  · rw [e, setB_at, set_at (by rw [hC]; exact hj)]
    by_cases z : c % 8 = j
    · rw [if_pos z, if_pos (by omega)]
      rfl
    · rw [if_neg z, if_neg (by omega)]
  · rw [setB_ne e, if_neg (by omega)]
theorem Stt.word (A : Stt M G C kd us sz o1 i) {q j : Nat} {y : Int} (hq : q < 10) (e0 : G q ≠ 0) : Stt (setC M (G q).toNat j y) G (setB C q ((C q).set j y)) kd us sz o1 i := by
  have pq := A.f.pf q (by omega) e0
  exact { A with k := A.k.put (by omega) (by omega), r1 := by rw [setC_row (by omega)]; exact A.r1, r5 := by rw [setC_row (by omega)]; exact A.r5, f := A.f.word (by decide) (by decide) hq e0 }
theorem Stt.zero (A : Stt M G C kd us sz o1 i) {q j : Nat} (hq : q < 10) (e0 : G q ≠ 0) : ∀ n, j + n ≤ 8 → ∃ C', Stt (zeroC M (G q).toNat j n) G C' kd us sz o1 i ∧ ∀ c, cellC C' c = if 8 * q + j ≤ c ∧ c < 8 * q + j + n then 0 else cellC C c
  | 0, _ => ⟨C, A, fun c => by rw [if_neg (by omega)]⟩
  | n + 1, h => by
    obtain ⟨C', A', hc⟩ := Stt.zero A (j := j) hq e0 n (by omega)
    refine ⟨_, A'.word (j := j + n) (y := 0) hq e0, fun c => ?_⟩
    rw [cellC_set A'.f.c8 (by omega), hc]
    by_cases z : c = 8 * q + (j + n)
    · rw [if_pos z, if_pos (by omega)]
    · rw [if_neg z]
      by_cases w : 8 * q + j ≤ c ∧ c < 8 * q + j + n
      · rw [if_pos w, if_pos (by omega)]
      · rw [if_neg w, if_neg (by omega)]
theorem Stt.size (A : Stt M G C kd us sz o1 i) {s : Int} (h0 : 0 ≤ s) (h8 : s ≤ 80) : Stt (setC M (nrow 24 2) 2 s) G C kd us s o1 i := by
  rw [n6]
  exact { A with k := A.k.put (by decide) (by decide), r1 := by rw [setC_row (by decide)]; exact A.r1, r5 := by rw [setC_row (by decide)]; exact A.r5, f := by rw [← n6]; exact A.f.size (by decide) (by decide), s0 := h0, s8 := h8 }
/-- the size put: to less, or to more where nothing comes into sight -/
theorem Stt.psM (A : Stt M G C kd us sz o1 i) {s : Int} (h0 : 0 ≤ s) (h8 : s ≤ 80) (hl : s ≤ sz ∨ ∀ o : Nat, o < 10 → 8 * (o : Int) ≥ sz → G o = 0 ∨ C o = List.replicate 8 0) :
    ∃ C', Stt (psM 24 M 2 s) G C' kd us s o1 i ∧ ∀ c : Nat, wdV G C' s c = if (c : Int) < s then wdV G C sz c else 0 := by
  have s0 := A.s0
  have s8 := A.s8
  obtain ⟨e, he⟩ : ∃ e : Nat, endV 24 M 2 s = e := ⟨(endV 24 M 2 s).toNat, by unfold endV; rw [A.f.sz_]; split <;> omega⟩
  have hee : (e : Int) = if s < sz then s else sz := by
    rw [← he]
    unfold endV
    rw [A.f.sz_]
  obtain ⟨C', A', hc⟩ : ∃ C', Stt (cutM 24 M 2 e) G C' kd us sz o1 i ∧ ∀ c, cellC C' c = if e % 8 ≠ 0 ∧ G (e / 8) ≠ 0 ∧ e ≤ c ∧ c < 8 * (e / 8) + 8 then 0 else cellC C c := by
    unfold cutM
    rw [show ((e : Int) / 8).toNat = e / 8 by omega, show ((e : Int) % 8).toNat = e % 8 by omega]
    by_cases z : (e : Int) % 8 = 0
    · rw [if_pos (.inl z)]
      exact ⟨C, A, fun c => by rw [if_neg (by omega)]⟩
    · have ho : e / 8 < 10 := by split at hee <;> omega
      rw [A.f.v_ ho]
      by_cases z2 : G (e / 8) = 0
      · rw [if_pos (.inr z2)]
        exact ⟨C, A, fun c => by rw [if_neg (by simp [z2])]⟩
      · rw [if_neg (by intro h; rcases h with h | h; exact z h; exact z2 h)]
        obtain ⟨C', A', hc⟩ := A.zero (j := e % 8) ho z2 (8 - e % 8) (by omega)
        refine ⟨C', A', fun c => ?_⟩
        rw [hc]
        by_cases w : 8 * (e / 8) + e % 8 ≤ c ∧ c < 8 * (e / 8) + e % 8 + (8 - e % 8)
        · rw [if_pos w, if_pos ⟨by omega, z2, by omega, by omega⟩]
        · rw [if_neg w, if_neg (by intro h; omega)]
  refine ⟨C', ?_, fun c => ?_⟩
  · unfold K06.psM
    rw [he]
    exact A'.size h0 h8
  · rw [wdV_nat, wdV_nat]
    by_cases z : (c : Int) < s
    · rw [if_neg (by omega), if_pos z]
      by_cases g : G (c / 8) = 0
      · rw [if_pos g, if_pos g]
        split <;> rfl
      rw [if_neg g, if_neg g, hc]
      by_cases z2 : (c : Int) ≥ sz
      · rw [if_pos z2]
        have hes : (e : Int) = sz := by rw [hee, if_neg (by omega)]
        rcases hl with hl | hl
        · omega
        by_cases z3 : 8 * ((c / 8 : Nat) : Int) ≥ sz
        · rcases hl (c / 8) (by omega) z3 with q | q
          · exact absurd q g
          · have : cellC C c = 0 := by
              unfold cellC
              rw [q, List.getElem?_replicate, if_pos (by omega)]
              rfl
            rw [this]
            split <;> rfl
        · have e8 : e / 8 = c / 8 := by omega
          rw [if_pos ⟨by omega, by rw [e8]; exact g, by omega, by omega⟩]
      · rw [if_neg z2]
        have : (c : Int) < e := by rw [hee]; split <;> omega
        rw [if_neg (by omega)]
    · rw [if_pos (by omega), if_neg z]
theorem Stt.wr : ∀ (ws : List Int) {a k : Nat} {M : List (List Int)} {C : Nat → List Int}, Stt M G C kd us sz o1 i → (∀ t, a + k ≤ t → t < a + k + ws.length → t < 80 ∧ G (t / 8) ≠ 0) →
    WrOk 24 5 2 (a : Int) M ws k ∧ ∃ C', Stt (wrM 24 2 (a : Int) M ws k) G C' kd us sz o1 i ∧ ∀ c, cellC C' c = if a + k ≤ c ∧ c < a + k + ws.length then (ws[c - (a + k)]?).getD 0 else cellC C c
  | [], a, k, M, C, A, _ => ⟨trivial, C, A, fun c => by rw [if_neg (by rw [List.length_nil]; omega)]⟩
  | y :: ws, a, k, M, C, A, h => by
    obtain ⟨t1, t2⟩ := h (a + k) (Nat.le_refl _) (by rw [List.length_cons]; omega)
    have hq : (a + k) / 8 < 10 := by omega
    have pq := A.f.pf _ (by omega) t2
    have e1 : (((a : Int) + (k : Int)) / 8).toNat = (a + k) / 8 := by omega
    have e2 : (((a : Int) + (k : Int)) % 8).toNat = (a + k) % 8 := by omega
    have B := A.word (j := (a + k) % 8) (y := y) hq t2
    obtain ⟨W, C', A', hc⟩ := Stt.wr ws (a := a) (k := k + 1) B fun t h1 h2 => h t (by omega) (by rw [List.length_cons]; omega)
    refine ⟨?_, C', ?_, fun c => ?_⟩
    · show _ ∧ _ ∧ _ ∧ WrOk 24 5 2 (a : Int) (setC M (plV 24 M 2 (((a : Int) + (k : Int)) / 8).toNat).toNat (((a : Int) + (k : Int)) % 8).toNat y) ws (k + 1)
      rw [e1, e2, A.f.v_ hq]
      exact ⟨A.f.ok_, by show (10 : Int) ≤ _; omega, by omega, W⟩
    · show Stt (wrM 24 2 (a : Int) (setC M (plV 24 M 2 (((a : Int) + (k : Int)) / 8).toNat).toNat (((a : Int) + (k : Int)) % 8).toNat y) ws (k + 1)) G C' kd us sz o1 i
      rw [e1, e2, A.f.v_ hq]
      exact A'
    · rw [hc, cellC_set A.f.c8 (by omega), List.length_cons]
      by_cases z : c = 8 * ((a + k) / 8) + (a + k) % 8
      · rw [if_neg (by omega), if_pos z, if_pos (by omega), show c - (a + k) = 0 by omega]
        rfl
      · rw [if_neg z]
        by_cases w : a + (k + 1) ≤ c ∧ c < a + (k + 1) + ws.length
        · rw [if_pos w, if_pos (by omega), show c - (a + k) = c - (a + (k + 1)) + 1 by omega]
          rfl
        · rw [if_neg w, if_neg (by omega)]
end
end K06
namespace K06
open PySem PySem.Spec PyProof.Rows L2 Rg
/-! ### the law's book -/
structure Bk where
  (bk wa ha sa : Addr)
structure BV where
  (ws : List Int) (hd : List Bool) (sz : Int)
def bkR (B : Bk) (o1 : Nat) : List V := [.ref B.wa, .ref B.ha, .ref B.sa, .int (o1 : Int)]
def bkL (B : Bk) (o1 : Nat) (w : BV) (fa : Addr) (fs : List Int) : List (Addr × HO) := [(fa, .lst (fs.map V.int)), (B.bk, .lst (bkR B o1)), (B.wa, .lst (w.ws.map V.int)), (B.ha, .lst (w.hd.map V.bl)), (B.sa, .lst [.int w.sz])]
def bkA (B : Bk) (fa : Addr) : List Addr := [fa, B.bk, B.wa, B.ha, B.sa]
theorem bkA_eq {B : Bk} {o1 : Nat} {w : BV} {fa : Addr} {fs : List Int} : (bkL B o1 w fa fs).map (·.1) = bkA B fa := rfl
structure Ag (v : IV) (w : BV) (G : Nat → Int) (C : Nat → List Int) (kd us : List Int) (o1 i : Nat) : Prop where
  s : Stt v.M G C kd us w.sz o1 i
  te : Te G
  hd : w.hd = (List.range 10).map fun o => decide (G o ≠ 0)
  wl : w.ws.length = 80
  wv : ∀ c : Nat, c < 80 → w.ws[c]? = some (wdV G C w.sz (c : Int))
theorem Ag.hd_ {v : IV} {w : BV} {G : Nat → Int} {C : Nat → List Int} {kd us : List Int} {o1 i : Nat} (A : Ag v w G C kd us o1 i) {o : Nat} (h : o < 10) : w.hd[o]? = some (decide (G o ≠ 0)) := by
  rw [A.hd, List.getElem?_map, List.getElem?_range h]
  rfl
section
variable {P : Program} {w0_ : World} {K : PySem.W.Frag} {mg : Str → Option Value} {base : Heap}
/-! ### _law_row -/
def sp_Lrow : Sp := fun vs H Q _ => ∃ (a q : Addr) (xs : List Int), vs = [.ref a, .ref q] ∧ (H a = some (.lst (xs.map V.int)) ∨ H a = some (.tup (xs.map V.int))) ∧ H q = some (.lst (xs.map V.int)) ∧ xs.length ≤ 900 ∧ Q (.bl true) H
theorem ok_Lrow (T : Tx K mg) : FnOk P w0_ K mg base CX0 2 T.f_Lrow T.fd_Lrow ["_law_actual", "_law_due"] sp_Lrow := by
  refine T.F_Lrow.ok sc_Lrow (fun vs H Q E h => ?_) (fun cdv A0 outer s H vs Q E hr h => ?_)
  · obtain ⟨_, _, _, rfl, _⟩ := h; rfl
  · obtain ⟨a, q, xs, rfl, ha, hq, hl, k⟩ := h
    refine ⟨_, (pss_cons (ps_if (pt_cmpR op_ne (pe_callB call_len_seq rfl T.b_len (by decide +kernel) (pa_cons (pv 0) pa_nil)) (pe_callB call_len_seq rfl T.b_len (by decide +kernel) (pa_cons (pv 1) pa_nil)) (nomark _))
        (pss_one (ps_ret pe_bl))
        pss_nil)
      (pss_cons (ps_for PassesOwn.never rfl (pi_range1 rfl T.b_range (pa_cons (pe_callB call_len_seq rfl T.b_len (by decide +kernel) (pa_cons (pv 1) pa_nil)) pa_nil)) (pg_name (i := 2) sc_Lrow.nd rfl (.inl rfl))
        (pss_one (ps_if (pt_not (pt_val (pe_call (ok_Linteger T) hr rfl T.mg_Linteger T.F_Linteger.kp (b_Linteger T) .nil pass0 (pa_cons (pe_ix (ix_list.or ix_tup) (pv 0) (pv 2) (fun _ _ => rfl)) (pa_cons (pe_ix ix_list (pv 1) (pv 2) (fun _ _ => rfl)) pa_nil)))))
          (pss_one (ps_ret pe_bl))
          pss_nil)))
      (pss_one (ps_ret pe_bl)))), ?_⟩
    refine ⟨_, rfl, a, xs.map V.int, rfl, ha.elim (fun e => .inl (.of e)) (fun e => .inr (.of e)), _, rfl, q, xs.map V.int, rfl, .inl (.of hq), rfl, _, rfl, ?_⟩
    rw [dec_iv, decide_eq_true rfl]
    refine iteF ⟨_, rfl, q, xs.map V.int, rfl, .inl (.of hq), ((xs.map V.int).length : Int), rfl, by omega, by rw [List.length_map]; omega, for_range (lo := 0) (n := ((xs.map V.int).length : Int).toNat) (fun i σ H' => ∃ u2 : Option V, σ = [some (.ref a), some (.ref q), u2] ∧ H' = H) ⟨_, rfl, rfl⟩ ?_ ?_⟩
    · rintro i σ H' hi ⟨u2, rfl, rfl⟩
      rw [List.length_map] at hi
      have hil : i < xs.length := by omega
      have ei : (xs.map V.int)[i]? = some (V.int xs[i]) := by rw [List.getElem?_map, List.getElem?_eq_getElem hil]; rfl
      have at0 : atI (xs.map V.int) (0 + (i : Int)) = some (V.int xs[i]) := by
        rw [show (0 : Int) + (i : Int) = (i : Int) by omega]
        exact atI_nat ei
      refine ⟨_, rfl, _, rfl, ?_⟩
      rcases ha with ha | ha
      · refine .inl ⟨a, _, _, _, rfl, rfl, .of ha, at0, _, rfl, _, rfl, q, _, _, _, rfl, rfl, .of hq, at0, _, _, rfl, ?_⟩
        rw [decide_eq_true rfl]
        exact ⟨_, rfl, iteF ⟨_, rfl, rfl⟩⟩
      · refine .inr ⟨a, _, _, _, rfl, rfl, .of ha, at0, _, rfl, _, rfl, q, _, _, _, rfl, rfl, .of hq, at0, _, _, rfl, ?_⟩
        rw [decide_eq_true rfl]
        exact ⟨_, rfl, iteF ⟨_, rfl, rfl⟩⟩
    · rintro σ H' ⟨u2, rfl, rfl⟩
      exact k
/-! ### _law_behind -/
def sp_Lbehind (CI CP : Addr) : Sp := fun vs H Q _ => ∃ (im : Addr) (A : IA) (v : IV) (s : Int) (B : Bk) (w : BV) (fa : Addr) (fs : List Int) (G : Nat → Int) (C : Nat → List Int) (kd us : List Int) (o1 i : Nat), vs = [.ref B.bk] ∧ SI CI CP H im A v 24 5 s (bkL B o1 w fa fs) ∧ Ag v w G C kd us o1 i ∧
  ∀ H' p, Same H H' → H p = none → H' p = some (.lst ((tbL 24 v.M 2).map V.int)) → Q (.ref p) H'
theorem ok_Lbehind (T : Tx K mg) : FnOk P w0_ K mg base CX0 1 T.f_Lbehind T.fd_Lbehind ["_law_book"] (sp_Lbehind T.C_Image T.C_Plan) := by
  refine T.F_Lbehind.ok sc_Lbehind (fun vs H Q E h => ?_) (fun cdv A0 outer s H vs Q E hr h => ?_)
  · obtain ⟨_, _, _, _, _, _, _, _, _, _, _, _, _, _, rfl, _⟩ := h; rfl
  · obtain ⟨im, A, v, sl, B, w, fa, fs, G, C, kd, us, o1, ib, rfl, S, Aq, k⟩ := h
    refine ⟨_, (pss_cons (ps_asg (pv 0) (pg_lst rfl (pgs_cons (pg_name (i := 1) sc_Lbehind.nd rfl (.inl rfl)) (pgs_cons (pg_name (i := 2) sc_Lbehind.nd rfl (.inr rfl)) (pgs_cons (pg_name (i := 3) sc_Lbehind.nd rfl (.inr rfl)) (pgs_cons (pg_name (i := 4) sc_Lbehind.nd rfl (.inl rfl)) pgs_nil))))))
      (pss_one (ps_ret (pe_lc rfl (own := [("_law_o", 5)]) (g := gName 5) (tt := _) sc_Lbehind.nd (pi_range1 rfl T.b_range (pa_cons pe_int pa_nil)) (blkOk_by (N := ["_law_book", "_law_words", "_law_held", "_law_sizes", "_law_owner", "_law_o"]) (sc := defScope s_Lbehind) (by decide +kernel)) (fun _ _ _ _ _ => pg_name (i := 5) sc_Lbehind.nd rfl (Or.inl rfl)) (fun _ _ _ _ _ => pts_one (PW.pt (pw_and (pt_val (pe_ixK (K := K) (pv 2) (pv 5) (fun _ _ => rfl))) (pw_and1 (pt_cmpR op_ge (pe_op op_mul pe_int (pv 5)) (pe_ixK (K := K) (pv 3) pe_int (fun _ _ => rfl)) (nomark _)))))) (fun _ _ _ _ _ => (pv 5)))))), ?_⟩
    refine ⟨_, rfl, B.bk, _, rfl, .of (S.F.get 1 rfl), rfl, _, _, rfl, _, _, rfl, _, _, rfl, _, _, rfl, rfl, ?_⟩
    refine ⟨10, rfl, by decide, by decide, fun D hD => ?_⟩
    have h10 : (rng 0 10).length < 1000 := by rw [rng_len]; decide
    have f := Aq.s.f
    refine lc_range (lo := 0) (n := (10 : Int).toNat) (PvF H D (rng 0 10) (tbP 24 v.M 2)) (PvF.start hD) ?_ ?_
    · rintro i H' hi Pv
      have hi : i < 10 := hi
      have hx := rng_get (lo := 0) hi
      have S' := S.same Pv.1
      have ez : (0 : Int) + (i : Int) = (i : Int) := by omega
      have eh : (w.hd.map V.bl)[i]? = some (V.bl (decide (G i ≠ 0))) := by rw [List.getElem?_map, Aq.hd_ hi]; rfl
      have tb : tbP 24 v.M 2 (0 + (i : Int)) = (decide (8 * (0 + (i : Int)) ≥ w.sz) && (G i != 0)) := by
        unfold tbP
        rw [f.sz_, show ((0 : Int) + (i : Int)).toNat = i by omega, f.v_ hi]
      refine ⟨rfl, ?_⟩
      refine ⟨_, rfl, _, rfl, B.ha, _, _, _, rfl, rfl, .of (S'.F.get 3 rfl), by rw [ez]; exact atI_nat eh, _, rfl, ?_⟩
      by_cases e1 : G i = 0
      · rw [decide_eq_false (by simp [e1])]
        exact iteF (Pv.no (Same.refl _) hx (by rw [tb]; simp [e1]))
      · rw [decide_eq_true e1]
        refine iteT ⟨_, rfl, _, _, rfl, rfl, (by show CMul 8 _; exact .inl ⟨by decide, by decide⟩), _, rfl, B.sa, _, 0, .int w.sz, rfl, rfl, .of (S'.F.get 4 rfl), atI_nat (j := 0) rfl, _, _, rfl, rfl, _, rfl, ?_⟩
        by_cases e2 : (8 : Int) * (0 + (i : Int)) ≥ w.sz
        · rw [decide_eq_true e2]
          exact iteT ⟨_, rfl, Pv.yes hD (Same.refl _) hx h10 (by rw [tb, decide_eq_true e2]; simp [e1])⟩
        · rw [decide_eq_false e2]
          exact iteF (Pv.no (Same.refl _) hx (by rw [tb, decide_eq_false e2]; rfl))
    intro H1 Pv
    obtain ⟨S1, e1⟩ := Pv.all (by rw [rng_len]; rfl)
    exact k H1 D S1 hD e1
end
end K06
namespace K06
open PySem PySem.Spec PyProof.Rows L2 Rg
theorem inV_bl (l : List Bool) : inV (.bl true) (l.map V.bl) = l.any id := by
  induction l with
  | nil => simp [inV]
  | cons a l ih =>
    rw [List.map_cons, List.any_cons, ← ih]
    cases a <;> simp [inV, eqV]
theorem flat_bl (l : List Bool) : (l.map V.bl).all flatV = true := by
  rw [List.all_map]
  simp [flatV]
theorem dec_bl (a d : Bool) : decide (V.bl a = V.bl d) = decide (a = d) := by
  by_cases e : a = d
  · subst e; simp
  · rw [decide_eq_false e, decide_eq_false fun q => e (V.bl.inj q)]
def l10 (G : Nat → Int) : List Int := [G 0, G 1, G 2, G 3, G 4, G 5, G 6, G 7, G 8, G 9]
theorem l10_at {G : Nat → Int} {i : Nat} (h : i < 10) : (l10 G)[i]? = some (G i) := by
  have : i = 0 ∨ i = 1 ∨ i = 2 ∨ i = 3 ∨ i = 4 ∨ i = 5 ∨ i = 6 ∨ i = 7 ∨ i = 8 ∨ i = 9 := by omega
  rcases this with e | e | e | e | e | e | e | e | e | e <;> (subst e; rfl)
theorem hd_any {G : Nat → Int} (te : Te G) (tz : G 12 = 0 → ∀ i, 2 ≤ i → i < 10 → G i = 0) : ((((List.range 10).map fun o => decide (G o ≠ 0)).drop 2).any id) = decide (G 12 ≠ 0) := by
  have e : ((((List.range 10).map fun o => decide (G o ≠ 0)).drop 2).any id) = (tabR G).any (fun x => x != 0) := by
    show ([decide (G 2 ≠ 0), decide (G 3 ≠ 0), decide (G 4 ≠ 0), decide (G 5 ≠ 0), decide (G 6 ≠ 0), decide (G 7 ≠ 0), decide (G 8 ≠ 0), decide (G 9 ≠ 0)].any id) = _
    unfold tabR
    simp only [List.any_cons, List.any_nil, id]
    have h : ∀ x : Int, decide (x ≠ 0) = (x != 0) := fun x => by
      by_cases z : x = 0 <;> simp [z]
    simp only [h]
  rw [e]
  by_cases z : G 12 = 0
  · rw [decide_eq_false (by simp [z])]
    cases y : (tabR G).any (fun x => x != 0) with
    | false => rfl
    | true =>
      obtain ⟨i, h1, h2, h3⟩ := tabR_anyT y
      exact absurd (tz z i h1 h2) h3
  · rw [decide_eq_true z]
    cases y : (tabR G).any (fun x => x != 0) with
    | true => rfl
    | false =>
      obtain ⟨i, h1, h2, h3⟩ := te z
      exact absurd (tabR_anyF y i h1 h2) h3
theorem same_put {H H' : Hp} (S : Same H H') {q : Addr} {o : HO} (hq : H q = none) : Same H (upd H' q o) := fun b x e => by
  rw [upd_ne (ne_of_none e hq)]
  exact S _ _ e
section
variable {P : Program} {w0_ : World} {K : PySem.W.Frag} {mg : Str → Option Value} {base : Heap}
def sp_Lblocks (CI CP : Addr) : Sp := fun vs H Q _ => ∃ (im : Addr) (A : IA) (v : IV) (s : Int) (B : Bk) (w : BV) (fa : Addr) (fs : List Int) (G : Nat → Int) (C : Nat → List Int) (kd us : List Int) (o1 i : Nat), vs = [.ref im, .ref B.bk] ∧ SI CI CP H im A v 24 5 s (bkL B o1 w fa fs) ∧ Ag v w G C kd us o1 i ∧
  ∀ H' p, Same H H' → H p = none → H' p = some (.lst ((fileD G).map V.int)) → Q (.ref p) H'
theorem ok_Lblocks (T : Tx K mg) : FnOk P w0_ K mg base CX0 4 T.f_Lblocks T.fd_Lblocks ["_law_image", "_law_book"] (sp_Lblocks T.C_Image T.C_Plan) := by
  refine T.F_Lblocks.ok sc_Lblocks (fun vs H Q E h => ?_) (fun cdv A0 outer s H vs Q E hr h => ?_)
  · obtain ⟨_, _, _, _, _, _, _, _, _, _, _, _, _, _, rfl, _⟩ := h; rfl
  · obtain ⟨im, A, v, sl, B, w, fa, fs, G, C, kd, us, o1, ib, rfl, S, Aq, k⟩ := h
    have hr2 : Room 2 _ := hr.mono (by decide)
    refine ⟨_, (pss_cons (ps_asg (pv 1) (pg_lst rfl (pgs_cons (pg_name (i := 2) sc_Lblocks.nd rfl (.inl rfl)) (pgs_cons (pg_name (i := 3) sc_Lblocks.nd rfl (.inl rfl)) (pgs_cons (pg_name (i := 4) sc_Lblocks.nd rfl (.inl rfl)) (pgs_cons (pg_name (i := 5) sc_Lblocks.nd rfl (.inl rfl)) pgs_nil))))))
      (pss_cons (ps_set (i := 6) sc_Lblocks.nd rfl (.inl rfl) (pe_lst pa_nil))
      (pss_cons (ps_for PassesOwn.never rfl (pi_range1 rfl T.b_range (pa_cons pe_int pa_nil)) (pg_name (i := 7) sc_Lblocks.nd rfl (.inl rfl))
        (pss_cons (ps_set (i := 8) sc_Lblocks.nd rfl (.inl rfl) (pe_call (ok_place_block T) hr rfl T.mg_place_block T.F_place_block.kp (b_place_block T) .nil pass0 (pa_cons (pv 0) (pa_cons pe_int (pa_cons (pv 7) pa_nil)))))
        (pss_cons (ps_if (PW.pt (pw_or (pt_not (pt_val (pe_callB call_isi rfl T.b_isinstance (by decide +kernel) (pa_cons (pv 8) (pa_cons (pe_bltn (v := .ty "int") rfl T.b_int (by decide +kernel) rfl) pa_nil))))) (pw_or (pt_val (pe_callB call_isi rfl T.b_isinstance (by decide +kernel) (pa_cons (pv 8) (pa_cons (pe_bltn (v := .ty "bool") rfl T.b_bool (by decide +kernel) rfl) pa_nil)))) (pw_or1 (pt_cmpR op_ne (pe_cmpR op_ne (pv 8) pe_int (nomark _)) (pe_ix ix_list (pv 3) (pv 7) (fun _ _ => rfl)) (nomark _))))))
          (pss_one (ps_ret pe_non))
          pss_nil)
        (pss_one (ps_if (pt_cmpR op_ne (pv 8) pe_int (nomark _))
          (pss_cons (ps_if (pt_cmpR op_ne (pe_meth (pv 0) T.cl_Image T.m_Image_kind (ok_Image_kind T) hr2 (b_Image_kind T) .nil pass0 (pa_cons (pv 8) pa_nil)) pe_int (nomark _))
            (pss_one (ps_ret pe_non))
            pss_nil)
          (pss_one (ps_expr (pe_bm PySem.F.plainAttrs_list PySem.F.slot_list_append PySem.F.type_list_append mt_append (pv 6) (pa_cons (pv 8) pa_nil)))))
          pss_nil)))))
      (pss_cons (ps_set (i := 9) sc_Lblocks.nd rfl (.inl rfl) (pe_ix ix_list (pe_ix ix_list (pe_fld (pv 0) rfl) pe_int (fun _ _ => rfl)) pe_int (fun _ _ => rfl)))
      (pss_cons (ps_if (pt_cmpR op_ne (pe_cmpR op_ne (pv 9) pe_int (nomark _)) (pe_cmpR op_in_seq pe_bl (pe_slice sl_list (pv 3) (po_some pe_int) po_none) rfl) (nomark _))
        (pss_one (ps_ret pe_non))
        pss_nil)
      (Evl.pss_cut (ps_if (pt_cmpR op_ne (pv 9) pe_int (nomark _))
        (pss_cons (ps_if (pt_cmpR op_ne (pe_meth (pv 0) T.cl_Image T.m_Image_kind (ok_Image_kind T) hr2 (b_Image_kind T) .nil pass0 (pa_cons (pv 9) pa_nil)) pe_int (nomark _))
          (pss_one (ps_ret pe_non))
          pss_nil)
        (pss_one (ps_expr (pe_bm PySem.F.plainAttrs_list PySem.F.slot_list_append PySem.F.type_list_append mt_append (pv 6) (pa_cons (pv 9) pa_nil)))))
        pss_nil)
      (pss_one (ps_ret (pv 6))))))))), ?_⟩
    have f := Aq.s.f
    have I := S.I
    have ml := Aq.s.k.ml
    have d0 := I.d0
    refine ⟨_, rfl, B.bk, _, rfl, .of (S.F.get 1 rfl), rfl, _, _, rfl, _, _, rfl, _, _, rfl, _, _, rfl, rfl, ?_⟩
    refine ⟨Nat.zero_le _, fun q nq => ?_⟩
    refine ⟨10, rfl, by decide, by decide, for_range (lo := 0) (n := (10 : Int).toNat) (fun i σ H' => ∃ u7 u8 : Option V, σ = [some (.ref im), some (.ref B.bk), some (.ref B.wa), some (.ref B.ha), some (.ref B.sa), some (.int (o1 : Int)), some (.ref q), u7, u8, none] ∧ Same H H' ∧ H' q = some (.lst ((((l10 G).take i).filter fun x => x != 0).map V.int))) ⟨_, _, rfl, same_upd nq, upd_same⟩ ?_ ?_⟩
    · rintro i σ H' hi ⟨u7, u8, rfl, S', e'⟩
      have hi : i < 10 := hi
      have X := S.same S'
      have ez : (0 : Int) + (i : Int) = (i : Int) := by omega
      have eh : (w.hd.map V.bl)[i]? = some (V.bl (decide (G i ≠ 0))) := by rw [List.getElem?_map, Aq.hd_ hi]; rfl
      refine ⟨_, rfl, _, rfl, im, A, v, 24, 5, sl, 2, i, ?_, X.I, by decide, by decide, hi, f.ok_, ?_⟩
      · show [V.ref im, V.int 2, V.int (0 + (i : Int))] = _
        rw [ez]
      rw [f.v_ hi]
      refine ⟨_, rfl, _, _, _, _, true, rfl, .ty _, .base (.int _), kit_ty (by decide +kernel), _, rfl, iteF ⟨_, rfl, _, _, _, _, false, rfl, .ty _, .base (.int _), kit_ty (by decide +kernel), _, rfl, iteF ⟨_, rfl, rfl, _, rfl, _, rfl, B.ha, _, _, _, rfl, rfl, .of (X.F.get 3 rfl), by rw [ez]; exact atI_nat eh, rfl, _, rfl, ?_⟩⟩⟩
      have eb : (!decide (V.int (G i) = V.int 0)) = decide (G i ≠ 0) := by
        rw [dec_iv]
        by_cases z : G i = 0 <;> simp [z]
      rw [eb, decide_eq_true rfl]
      refine iteF ⟨_, rfl, rfl, _, rfl, ?_⟩
      rw [dec_iv]
      by_cases e : G i = 0
      · rw [decide_eq_true e]
        refine iteF ⟨_, _, rfl, S', ?_⟩
        rw [e', takeB (l10_at hi), List.filter_append, List.filter_cons_of_neg (by simp [e]), List.filter_nil, List.append_nil]
      · rw [decide_eq_false e]
        have p := f.pf i (by omega) e
        obtain ⟨x, ex⟩ : ∃ x : Nat, G i = x := ⟨(G i).toNat, by omega⟩
        have ek := (Aq.s.kq x (by omega) (by omega)).1 ⟨i, hi, ex⟩
        refine iteT ⟨_, rfl, im, _, _, rfl, X.I.ob, rfl, _, rfl, im, A, v, 24, 5, sl, _, rfl, X.I, by omega, by omega, fun H2 S2 => ⟨rfl, _, rfl, ?_⟩⟩
        rw [dec_iv, ex, Aq.s.k.kind (by omega), ek, decide_eq_true (show (some (2 : Int)).getD 0 = 2 from rfl)]
        have e2 := S2 _ _ e'
        refine iteF ⟨.ref q, rfl, .inl ⟨rfl, _, .inl (.inl e2)⟩, _, rfl, q, _, _, rfl, rfl, e2, ?_, ?_⟩
        · rw [List.length_map]
          have h1 := List.length_filter_le (fun x => x != 0) ((l10 G).take i)
          have h2 := List.length_take_le i (l10 G)
          exact small1000 (by omega)
        · refine ⟨_, _, rfl, same_put (S'.trans S2) nq, ?_⟩
          rw [upd_same, takeB (l10_at hi), List.filter_append, List.filter_cons_of_pos (by simp [e]), List.map_append, ex]
          rfl
    rintro σ H1 ⟨u7, u8, rfl, S1, e1⟩
    have X1 := S.same S1
    -- the table
    have r6 : v.M[6]? = some [1, 0, w.sz, (o1 : Int), G 0, G 1, G 12, 1] := by rw [← n6]; exact f.r6
    obtain ⟨r, a1, a2, _⟩ := X1.I.gr.get r6
    refine ⟨_, rfl, im, _, _, _, _, rfl, X1.I.ob, T.cl_Image, T.na_Image_cells, rfl, A.ca, _, 6, .ref r, rfl, rfl, .of X1.I.gr.out, atI_nat (j := 6) (by rw [List.getElem?_map, a1]; rfl), r, _, 6, .int (G 12), rfl, rfl, .of a2, atI_nat (j := 6) rfl, ?_⟩
    refine ⟨_, rfl, rfl, _, rfl, _, rfl, B.ha, _, rfl, .of (X1.F.get 3 rfl), fun qs nqs => ?_⟩
    have s2 := same_upd (o := .lst (cutV (w.hd.map V.bl) (some 2) none)) nqs
    have ecut : cutV (w.hd.map V.bl) (some 2) none = (w.hd.drop 2).map V.bl := by
      unfold cutV
      rw [List.map_drop]
      have hl : w.hd.length = 10 := by rw [Aq.hd]; rfl
      have e : HT.sIx (w.hd.map V.bl).length 0 (some 2) = 2 := by
        rw [List.length_map, hl]
        rfl
      rw [e]
      exact List.take_of_length_le (by rw [List.length_drop]; exact Nat.le_refl _)
    have es : upd H1 qs (.lst (cutV (w.hd.map V.bl) (some 2) none)) qs = some (.lst ((w.hd.drop 2).map V.bl)) := by rw [upd_same, ecut]
    generalize upd H1 qs (.lst (cutV (w.hd.map V.bl) (some 2) none)) = H2 at s2 es ⊢
    refine ⟨qs, _, rfl, .inl (.of es), rfl, flat_bl _, rfl, _, rfl, ?_⟩
    have eb : (!decide (V.int (G 12) = V.int 0)) = decide (G 12 ≠ 0) := by
      rw [dec_iv]
      by_cases z : G 12 = 0 <;> simp [z]
    rw [eb, inV_bl, Aq.hd, hd_any Aq.te f.tz]
    have S2 := S1.trans s2
    have X2 := S.same S2
    have e2 := s2 _ _ e1
    have el : l10 G = (l10 G).take (10 : Int).toNat := rfl
    rw [← el] at e2
    have e1f : ∀ b : Bool, decide (V.bl b = V.bl (if false = true then !b else b)) = true := fun b => by cases b <;> rfl
    rw [e1f]
    refine iteF ⟨fun σ H' => ∃ u7 u8 u9 : Option V, σ = [some (.ref im), some (.ref B.bk), some (.ref B.wa), some (.ref B.ha), some (.ref B.sa), some (.int (o1 : Int)), some (.ref q), u7, u8, u9] ∧ Same H H' ∧ H' q = some (.lst ((fileD G).map V.int)), ?_, ?_⟩
    · refine ⟨_, rfl, rfl, _, rfl, ?_⟩
      rw [dec_iv]
      by_cases e : G 12 = 0
      · rw [decide_eq_true e]
        refine iteF ⟨_, _, _, rfl, S2, ?_⟩
        rw [e2]
        show _ = some (HO.lst (((l10 G ++ [G 12]).filter fun x => x != 0).map V.int))
        rw [List.filter_append, List.filter_cons_of_neg (by simp [e]), List.filter_nil, List.append_nil]
      · rw [decide_eq_false e]
        have p := f.pf 12 (by decide) e
        obtain ⟨x, ex⟩ : ∃ x : Nat, G 12 = x := ⟨(G 12).toNat, by omega⟩
        have ek := (Aq.s.kq x (by omega) (by omega)).2.1 ex
        refine iteT ⟨_, rfl, im, _, _, rfl, X2.I.ob, rfl, _, rfl, im, A, v, 24, 5, sl, _, rfl, X2.I, by omega, by omega, fun H3 S3 => ⟨rfl, _, rfl, ?_⟩⟩
        rw [dec_iv, ex, Aq.s.k.kind (by omega), ek, decide_eq_true (show (some (1 : Int)).getD 0 = 1 from rfl)]
        have e3 := S3 _ _ e2
        refine iteF ⟨.ref q, rfl, .inl ⟨rfl, _, .inl (.inl e3)⟩, _, rfl, q, _, _, rfl, rfl, e3, ?_, ?_⟩
        · rw [List.length_map]
          have h1 := List.length_filter_le (fun x => x != 0) (l10 G)
          have h2 : (l10 G).length = 10 := rfl
          exact small1000 (by omega)
        · refine ⟨_, _, _, rfl, same_put (S2.trans S3) nq, ?_⟩
          rw [upd_same]
          show _ = some (HO.lst (((l10 G ++ [G 12]).filter fun x => x != 0).map V.int))
          rw [List.filter_append, List.filter_cons_of_pos (by simp [e]), List.map_append, ex]
          rfl
    rintro σ H3 ⟨u7, u8, u9, rfl, S3, e3⟩
    exact ⟨_, rfl, k H3 q S3 nq e3⟩
end
end K06
namespace K06
open PySem PySem.Spec PyProof.Rows L2 Rg
theorem rng_in {lo x : Int} {n : Nat} (h1 : lo ≤ x) (h2 : x < lo + n) : x ∈ rng lo n := by
  unfold rng
  exact List.mem_map.mpr ⟨(x - lo).toNat, by rw [List.mem_range]; omega, by omega⟩
theorem Fl.nd_ {M : List (List Int)} {m : Int} {G : Nat → Int} {C : Nat → List Int} {sz o1 mk : Int} (A : Fl M m G C sz o1 mk) : (fileD G).Nodup := by
  show ((([0, 1, 2, 3, 4, 5, 6, 7, 8, 9, 12] : List Nat).map G).filter fun x => x != 0).Nodup
  unfold List.Nodup
  rw [List.pairwise_filter, List.pairwise_map]
  refine List.Pairwise.imp ?_ (show ([0, 1, 2, 3, 4, 5, 6, 7, 8, 9, 12] : List Nat).Pairwise (fun i j => i ≠ j ∧ i < 13 ∧ j < 13) by decide)
  rintro i j ⟨h1, h2, h3⟩ p1 p2 e
  exact h1 (A.nd i j h2 h3 (by simpa using p1) e)
theorem Fl.in_ {M : List (List Int)} {m : Int} {G : Nat → Int} {C : Nat → List Int} {sz o1 mk : Int} (A : Fl M m G C sz o1 mk) : ∀ x ∈ fileD G, x ∈ rng 10 14 := fun x hx => by
  obtain ⟨h0, i, hi, e⟩ := fileD_mem.mp hx
  have := A.pf i (by omega) (by rw [e]; exact h0)
  exact rng_in (by omega) (by omega)
section
variable {v : IV} {M : List (List Int)} {G : Nat → Int} {C : Nat → List Int} {kd us : List Int} {sz : Int} {o1 i : Nat}
theorem nr1 : nrow 24 1 = 5 := by decide
theorem Stt.c1 (A : Stt M G C kd us sz o1 i) : plc 24 M 1 = 0 := by unfold plc; rw [nr1]; exact cellAt_of A.r5 rfl
theorem Stt.v1 (A : Stt M G C kd us sz o1 i) {o : Nat} : plV 24 M 1 o = 0 := by
  unfold plV
  rw [A.c1, nr1]
  by_cases c : o < 2
  · rw [if_pos c]
    have : o = 0 ∨ o = 1 := by omega
    rcases this with e | e <;> (subst e; exact cellAt_of A.r5 rfl)
  · rw [if_neg c, if_pos rfl]
theorem Stt.ok1 (A : Stt M G C kd us sz o1 i) : PlcOk 24 5 M 1 := .inl A.c1
theorem Stt.h2 (A : Stt M G C kd us sz o1 i) : (plsOf 24 M 2).filter (fun x => x != 0) = fileD G := by
  have e : plsOf 24 M 2 = [G 0, G 1, G 2, G 3, G 4, G 5, G 6, G 7, G 8, G 9, G 12] := by
    show [plV 24 M 2 0, plV 24 M 2 1, plV 24 M 2 2, plV 24 M 2 3, plV 24 M 2 4, plV 24 M 2 5, plV 24 M 2 6, plV 24 M 2 7, plV 24 M 2 8, plV 24 M 2 9, plc 24 M 2] = _
    rw [A.f.c_, A.f.v_ (by decide), A.f.v_ (by decide), A.f.v_ (by decide), A.f.v_ (by decide), A.f.v_ (by decide), A.f.v_ (by decide), A.f.v_ (by decide), A.f.v_ (by decide), A.f.v_ (by decide), A.f.v_ (by decide)]
  rw [e]
  rfl
theorem Stt.h1 (A : Stt M G C kd us sz o1 i) : (plsOf 24 M 1).filter (fun x => x != 0) = [] := by
  show [plV 24 M 1 0, plV 24 M 1 1, plV 24 M 1 2, plV 24 M 1 3, plV 24 M 1 4, plV 24 M 1 5, plV 24 M 1 6, plV 24 M 1 7, plV 24 M 1 8, plV 24 M 1 9, plc 24 M 1].filter _ = _
  rw [A.c1]
  simp only [A.v1]
  rfl
theorem Stt.held2 (A : Stt M G C kd us sz o1 i) : heldV 24 M [2] = fileD G := by
  show (plsOf 24 M 2).filter (fun x => x != 0) ++ [] = _
  rw [A.h2, List.append_nil]
theorem Stt.held212 (A : Stt M G C kd us sz o1 i) : heldV 24 M [2, 1, 2] = fileD G ++ fileD G := by
  show (plsOf 24 M 2).filter (fun x => x != 0) ++ ((plsOf 24 M 1).filter (fun x => x != 0) ++ ((plsOf 24 M 2).filter (fun x => x != 0) ++ [])) = _
  rw [A.h2, A.h1, List.append_nil, List.nil_append]
theorem us4 {us : List Int} {c : Int} (h : us.length = 4) (ho : o1 < 4) (u : ∀ o, o < 4 → us[o]? = some (if o = o1 then c else 0)) : us ++ [0, 0, 0, 0] = ([0, 0, 0, 0, 0, 0, 0, 0] : List Int).set o1 c := by
  match us, h with
  | [a, b, x, d], _ =>
    have u0 := u 0 (by decide)
    have u1 := u 1 (by decide)
    have u2 := u 2 (by decide)
    have u3 := u 3 (by decide)
    simp only [List.getElem?_cons_zero, List.getElem?_cons_succ, Option.some.injEq] at u0 u1 u2 u3
    have : o1 = 0 ∨ o1 = 1 ∨ o1 = 2 ∨ o1 = 3 := by omega
    rcases this with e | e | e | e <;> (subst e; simp at u0 u1 u2 u3; subst u0 u1 u2 u3; rfl)
theorem words_eq {v : IV} {w : BV} (A : Ag v w G C kd us o1 i) : wordsL 24 v.M 2 = w.ws.take w.sz.toNat := by
  have s0 := A.s.s0
  have s8 := A.s.s8
  have wl := A.wl
  unfold wordsL
  rw [A.s.f.sz_]
  apply List.ext_getElem?
  intro c
  by_cases h : c < w.sz.toNat
  · rw [List.getElem?_map, rng_get h, List.getElem?_take_of_lt h, A.wv c (by omega)]
    show some (rdW 24 v.M 2 (0 + (c : Int))) = _
    rw [show (0 : Int) + (c : Int) = (c : Int) by omega, A.s.f.rd_ (by omega) s8]
  · rw [List.getElem?_eq_none (by rw [List.length_map, rng_len]; omega), List.getElem?_eq_none (by rw [List.length_take]; omega)]
end
section
variable {P : Program} {w0_ : World} {K : PySem.W.Frag} {mg : Str → Option Value} {base : Heap}
def sp_Lagrees (CI CP : Addr) : Sp := fun vs H Q _ => ∃ (im : Addr) (A : IA) (v : IV) (s : Int) (B : Bk) (w : BV) (fa : Addr) (fs : List Int) (G : Nat → Int) (C : Nat → List Int) (kd us : List Int) (o1 i : Nat), vs = [.ref im, .ref B.bk] ∧ SI CI CP H im A v 24 5 s (bkL B o1 w fa fs) ∧ Ag v w G C kd us o1 i ∧ ∀ H', Same H H' → Q (.bl true) H'
theorem ok_Lagrees (T : Tx K mg) : FnOk P w0_ K mg base CX0 7 T.f_Lagrees T.fd_Lagrees ["_law_image", "_law_book"] (sp_Lagrees T.C_Image T.C_Plan) := by
  refine T.F_Lagrees.ok sc_Lagrees (fun vs H Q E h => ?_) (fun cdv A0 outer s H vs Q E hr h => ?_)
  · obtain ⟨_, _, _, _, _, _, _, _, _, _, _, _, _, _, rfl, _⟩ := h; rfl
  · obtain ⟨im, A, v, sl, B, w, fa, fs, G, C, kd, us, o1, ib, rfl, S, Aq, k⟩ := h
    have hr1 : Room 1 _ := hr.mono (by decide)
    have hr2 : Room 2 _ := hr.mono (by decide)
    have hr3 : Room 3 _ := hr.mono (by decide)
    have hr4 : Room 4 _ := hr.mono (by decide)
    have hr5 : Room 5 _ := hr.mono (by decide)
    refine ⟨_, (pss_cons (ps_asg (pv 1) (pg_lst rfl (pgs_cons (pg_name (i := 2) sc_Lagrees.nd rfl (.inl rfl)) (pgs_cons (pg_name (i := 3) sc_Lagrees.nd rfl (.inl rfl)) (pgs_cons (pg_name (i := 4) sc_Lagrees.nd rfl (.inl rfl)) (pgs_cons (pg_name (i := 5) sc_Lagrees.nd rfl (.inl rfl)) pgs_nil))))))
      (pss_cons (ps_set (i := 6) sc_Lagrees.nd rfl (.inl rfl) (pe_call (ok_file_words T) hr rfl T.mg_file_words T.F_file_words.kp (b_file_words T) .nil pass0 (pa_cons (pv 0) (pa_cons pe_int pa_nil))))
      (pss_cons (ps_if (PW.pt (pw_or (pt_not (pt_val (pe_callB call_isi rfl T.b_isinstance (by decide +kernel) (pa_cons (pv 6) (pa_cons (pe_bltn (v := .ty "tuple") rfl T.b_tuple (by decide +kernel) rfl) pa_nil))))) (pw_or1 (pt_not (pt_val (pe_call (ok_Lrow T) hr2 rfl T.mg_Lrow T.F_Lrow.kp (b_Lrow T) .nil pass0 (pa_cons (pv 6) (pa_cons (pe_slice sl_list (pv 2) po_none (po_some (pe_ix ix_list (pv 4) pe_int (fun _ _ => rfl)))) pa_nil))))))))
        (pss_one (ps_ret pe_bl))
        pss_nil)
      (pss_cons (ps_set (i := 7) sc_Lagrees.nd rfl (.inr rfl) (pe_call (ok_Lblocks T) hr4 rfl T.mg_Lblocks T.F_Lblocks.kp (b_Lblocks T) .nil pass0 (pa_cons (pv 0) (pa_cons (pv 1) pa_nil))))
      (pss_cons (ps_if (pt_cmpR op_isN (pv 7) pe_non (nomark _))
        (pss_one (ps_ret pe_bl))
        pss_nil)
      (pss_cons (ps_set (i := 8) sc_Lagrees.nd rfl (.inl rfl) (pe_callR (ok_held T) hr4 T.F_held_blocks.kp rfl T.mg_held_blocks pass0 (pa_cons (pv 0) (pa_cons pe_int pa_nil))))
      (pss_cons (ps_if (PW.pt (pw_or (pt_not (pt_val (pe_callB call_isi rfl T.b_isinstance (by decide +kernel) (pa_cons (pv 8) (pa_cons (pe_bltn (v := .ty "list") rfl T.b_list (by decide +kernel) rfl) pa_nil))))) (pw_or1 (pt_cmpR (op_neD hr.units) (pv 8) (pv 7) (nomark _)))))
        (pss_one (ps_ret pe_bl))
        pss_nil)
      (pss_cons (ps_expr (pe_bm PySem.F.plainAttrs_list PySem.F.slot_list_append PySem.F.type_list_append mt_append (pv 8) (pa_cons pe_int pa_nil)))
      (pss_cons (ps_if (PW.pt (pw_or (pt_cmpR (op_neD hr.units) (pe_callR (ok_held T) hr4 T.F_held_blocks.kp rfl T.mg_held_blocks pass0 (pa_cons (pv 0) pa_nil)) (pe_lst pa_nil) (nomark _)) (pw_or1 (pt_cmpR (op_neD hr.units) (pe_callR (ok_held T) hr4 T.F_held_blocks.kp rfl T.mg_held_blocks pass0 (pa_cons (pv 0) (pa_cons pe_int (pa_cons pe_int (pa_cons pe_int pa_nil))))) (pe_op op_cat (pv 7) (pv 7)) (nomark _)))))
        (pss_one (ps_ret pe_bl))
        pss_nil)
      (pss_cons (ps_setLc (i := 9) (own := [("_law_x", 10)]) (g := gName 10) (tt := _) rfl sc_Lagrees.nd rfl rfl (sw_true rfl rfl rfl (by decide +kernel)) (pi_range2 rfl T.b_range (pa_cons pe_int (pa_cons pe_int pa_nil))) (blkOk_by (N := ["_law_image", "_law_book", "_law_words", "_law_held", "_law_sizes", "_law_owner", "_law_told", "_law_blocks_here", "_law_holds", "_law_free", "_law_x", "_law_sums", "_law_node", "_law_late"]) (sc := defScope s_Lagrees) (by decide +kernel)) (fun _ _ _ _ _ => pg_name (i := 10) sc_Lagrees.nd rfl (Or.inl rfl)) (fun _ _ _ _ _ => pts_one (pt_cmpR (op_notInK (K := K)) (pv 10) (pv 7) rfl)) (fun _ _ _ _ _ => (pv 10)))
      (pss_cons (ps_if (PW.pt (pw_or (pt_cmpR (op_neD hr.units) (pe_meth0 (pv 0) T.cl_Image T.m_Image_free_blocks (ok_free_blocks T) hr3 (b_Image_free_blocks T) .nil pass0) (pv 9) (nomark _)) (pw_or1 (pt_cmpR op_ne (pe_op op_add (pe_callB call_len_seq rfl T.b_len (by decide +kernel) (pa_cons (pv 9) pa_nil)) (pe_callB call_len_seq rfl T.b_len (by decide +kernel) (pa_cons (pv 7) pa_nil))) pe_int (nomark _)))))
        (pss_one (ps_ret pe_bl))
        pss_nil)
      (pss_cons (ps_set (i := 11) sc_Lagrees.nd rfl (.inl rfl) (pe_lst (pa_cons pe_int (pa_cons pe_int (pa_cons pe_int (pa_cons pe_int (pa_cons pe_int (pa_cons pe_int (pa_cons pe_int (pa_cons pe_int pa_nil))))))))))
      (pss_cons (ps_asg (pe_callB call_len_seq rfl T.b_len (by decide +kernel) (pa_cons (pv 7) pa_nil)) (pg_sub (pv 11) (pv 5) set_list))
      (pss_cons (ps_if (PW.pt (pw_or (pt_cmpR (op_neD hr.units) (pe_ix ix_list (pe_fld (pv 0) rfl) pe_int (fun _ _ => rfl)) (pv 11) (nomark _)) (pw_or1 (pt_cmpR (op_neD hr.units) (pe_ix ix_list (pe_fld (pv 0) rfl) pe_int (fun _ _ => rfl)) (pe_lst (pa_cons pe_int (pa_cons pe_int (pa_cons pe_int (pa_cons pe_int (pa_cons pe_int (pa_cons pe_int (pa_cons pe_int (pa_cons pe_int pa_nil))))))))) (nomark _)))))
        (pss_one (ps_ret pe_bl))
        pss_nil)
      (pss_cons (ps_set (i := 12) sc_Lagrees.nd rfl (.inl rfl) (pe_ix ix_list (pe_fld (pv 0) rfl) pe_int (fun _ _ => rfl)))
      (pss_cons (ps_if (PW.pt (pw_or (pt_cmpR (op_neD hr.units) (pe_slice sl_list (pv 12) po_none (po_some pe_int)) (pe_lst (pa_cons pe_int (pa_cons pe_int (pa_cons (pe_ix ix_list (pv 4) pe_int (fun _ _ => rfl)) (pa_cons (pv 5) pa_nil))))) (nomark _)) (pw_or (pt_cmpR op_ne (pe_ix ix_list (pv 12) pe_int (fun _ _ => rfl)) pe_int (nomark _)) (pw_or1 (pt_cmpR (op_neD hr.units) (pe_ix ix_list (pe_fld (pv 0) rfl) pe_int (fun _ _ => rfl)) (pe_lst (pa_cons pe_int (pa_cons pe_int (pa_cons pe_int (pa_cons pe_int (pa_cons pe_int (pa_cons pe_int (pa_cons pe_int (pa_cons pe_int pa_nil))))))))) (nomark _))))))
        (pss_one (ps_ret pe_bl))
        pss_nil)
      (pss_cons (ps_set (i := 13) sc_Lagrees.nd rfl (.inl rfl) (pe_call (ok_unfinished T) hr5 rfl T.mg_unfinished T.F_unfinished.kp (b_unfinished T) .nil pass0 (pa_cons (pv 0) (pa_cons pe_int pa_nil))))
      (pss_one (ps_ret (pe_and (pe_callB call_isi rfl T.b_isinstance (by decide +kernel) (pa_cons (pv 13) (pa_cons (pe_bltn (v := .ty "bool") rfl T.b_bool (by decide +kernel) rfl) pa_nil))) (pe_one (pe_cmpR op_eq (pv 13) (pe_cmpR op_gt (pe_callB call_len_seq rfl T.b_len (by decide +kernel) (pa_cons (pe_call (ok_Lbehind T) hr1 rfl T.mg_Lbehind T.F_Lbehind.kp (b_Lbehind T) .nil pass0 (pa_cons (pv 1) pa_nil)) pa_nil)) pe_int (nomark _)) (nomark _))))))))))))))))))))))), ?_⟩
    have f := Aq.s.f
    have s0 := Aq.s.s0
    have s8 := Aq.s.s8
    have wl := Aq.wl
    have pl : ∀ o, o < 10 → PlOk 24 5 v.M 2 o := fun o ho => f.pl_ ho
    have mk : ∀ {H' : Hp}, Same H H' → SI T.C_Image T.C_Plan H' im A v 24 5 sl (bkL B o1 w fa fs) := fun {H'} s' => S.same s'
    have rowc : ∀ {H' : Hp} {x : Nat} {m : List Int}, Same H H' → v.M[x]? = some m → ∃ r, atI (A.rs.map V.ref) (x : Int) = some (.ref r) ∧ H' r = some (.lst (m.map V.int)) := fun {H' x m} s' hm => by
      obtain ⟨r, r1, r2, _⟩ := S.I.gr.get hm
      exact ⟨r, atI_nat (by rw [List.getElem?_map, r1]; rfl), s' _ _ r2⟩
    refine ⟨_, rfl, B.bk, _, rfl, .of (S.F.get 1 rfl), rfl, _, _, rfl, _, _, rfl, _, _, rfl, _, _, rfl, rfl, ?_⟩
    -- the words
    refine ⟨_, rfl, im, A, v, 24, 5, sl, 2, rfl, S.I, by decide, by decide, f.ok_, pl, by rw [f.sz_]; exact s0, by rw [f.sz_]; exact s8, fun H1 p1 S1 np1 e1 => ?_⟩
    rw [words_eq Aq] at e1
    have X1 := mk S1
    refine ⟨_, rfl, _, _, _, _, true, rfl, .ty _, .base (.tup e1), kit_ty (by decide +kernel), _, rfl, iteF ?_⟩
    refine ⟨_, rfl, _, rfl, _, rfl, B.sa, _, 0, .int w.sz, rfl, rfl, .of (X1.F.get 4 rfl), atI_nat (j := 0) rfl, _, rfl, B.wa, _, rfl, .of (X1.F.get 2 rfl), fun q2 nq2 => ?_⟩
    have ecut : cutV (w.ws.map V.int) none (some w.sz) = (w.ws.take w.sz.toNat).map V.int := by
      unfold cutV
      have e0 : HT.sIx (w.ws.map V.int).length 0 none = 0 := rfl
      have e2 : HT.sIx (w.ws.map V.int).length (w.ws.map V.int).length (some w.sz) = w.sz.toNat := by
        show (if w.sz < 0 then (w.sz + ((w.ws.map V.int).length : Int)).toNat else min w.sz.toNat (w.ws.map V.int).length) = _
        rw [if_neg (by omega), List.length_map, wl]
        omega
      rw [e0, e2, List.drop_zero, Nat.sub_zero, List.map_take]
    have s2 := same_upd (o := .lst (cutV (w.ws.map V.int) none (some w.sz))) nq2
    have e2 : upd H1 q2 (.lst (cutV (w.ws.map V.int) none (some w.sz))) q2 = some (.lst ((w.ws.take w.sz.toNat).map V.int)) := by rw [upd_same, ecut]
    generalize upd H1 q2 (.lst (cutV (w.ws.map V.int) none (some w.sz))) = H2 at s2 e2 ⊢
    refine ⟨p1, q2, w.ws.take w.sz.toNat, rfl, .inr (s2 _ _ e1), e2, by rw [List.length_take]; omega, _, rfl, iteF ?_⟩
    have S2 := S1.trans s2
    -- the blocks
    refine ⟨_, rfl, _, rfl, im, A, v, sl, B, w, fa, fs, G, C, kd, us, o1, ib, rfl, mk S2, Aq, fun H3 p3 S3' np3 e3 => ?_⟩
    have S3 := S2.trans S3'
    refine ⟨_, rfl, rfl, _, rfl, iteF ?_⟩
    have hm2 : ∀ m ∈ ([2] : List Int), 1 ≤ m ∧ m ≤ 5 ∧ PlcOk 24 5 v.M m := fun m hm => by rw [List.mem_singleton.mp hm]; exact ⟨by decide, by decide, f.ok_⟩
    have hm212 : ∀ m ∈ ([2, 1, 2] : List Int), 1 ≤ m ∧ m ≤ 5 ∧ PlcOk 24 5 v.M m := fun m hm => by
      simp only [List.mem_cons, List.not_mem_nil, or_false] at hm
      rcases hm with e | e | e
      · rw [e]; exact ⟨by decide, by decide, f.ok_⟩
      · rw [e]; exact ⟨by decide, by decide, Aq.s.ok1⟩
      · rw [e]; exact ⟨by decide, by decide, f.ok_⟩
    refine ⟨_, rfl, [.ref im], [.int 2], rfl, rfl, (by show 1 ≤ sizeLine; decide), fun t1 nt1 => ⟨im, A, v, 24, 5, sl, t1, [2], rfl, (S.I.keep S3).keep (same_upd nt1), upd_same, by decide, hm2, fun H4 q4 S4' nq4 e4 => ?_⟩⟩
    rw [Aq.s.held2] at e4
    have S4'' := (same_upd (o := .tup [V.int 2]) nt1).trans S4'
    have S4 := S3.trans S4''
    refine ⟨_, rfl, _, _, _, _, true, rfl, .ty _, .base (.lst e4), kit_ty (by decide +kernel), _, rfl, iteF ?_⟩
    have e34 := S4'' _ _ e3
    refine ⟨_, rfl, _, rfl, _, _, dpI e4, dpI e34, shI _, shI _, _, rfl, ?_⟩
    rw [eqI]
    refine iteF ?_
    have nq43 : q4 ≠ p3 := fun z => by
      rw [z] at nq4
      have h := same_upd (o := .tup [V.int 2]) nt1 _ _ e3
      rw [nq4] at h
      cases h
    have nq4H : H q4 = none := S3.free ((same_upd (o := .tup [V.int 2]) nt1).free nq4)
    have fl := fileD_le (G := G)
    refine ⟨.ref q4, rfl, .inl ⟨rfl, _, .inl (.inl e4)⟩, q4, _, _, rfl, rfl, e4, ?_, ?_⟩
    · rw [List.length_map]
      exact small1000 (by omega)
    have S5 : Same H (upd H4 q4 (.lst ((fileD G).map V.int ++ [V.int 0]))) := same_put S4 nq4H
    have e5 : upd H4 q4 (.lst ((fileD G).map V.int ++ [V.int 0])) p3 = some (.lst ((fileD G).map V.int)) := by
      rw [upd_ne (fun z => nq43 z.symm)]
      exact e34
    generalize upd H4 q4 (.lst ((fileD G).map V.int ++ [V.int 0])) = H5 at S5 e5 ⊢
    -- none, and three times
    refine ⟨_, rfl, [.ref im], [], rfl, rfl, (by show 0 ≤ sizeLine; decide), fun t6 nt6 => ⟨im, A, v, 24, 5, sl, t6, [], rfl, (S.I.keep S5).keep (same_upd nt6), upd_same, by decide, (fun m hm => absurd hm List.not_mem_nil), fun H6 q6 S6' nq6 e6 => ?_⟩⟩
    have S6'' := (same_upd (o := .tup []) nt6).trans S6'
    refine ⟨(by show 0 ≤ sizeLine; decide), fun q7 nq7 => ?_⟩
    have S7' := same_upd (o := .lst []) nq7
    have S7'' := S6''.trans S7'
    have S7 := S5.trans S7''
    have e7 : upd H6 q7 (.lst []) q7 = some (.lst (([] : List Int).map V.int)) := upd_same
    have e57 := S7'' _ _ e5
    have e67 := S7' _ _ e6
    generalize upd H6 q7 (.lst []) = H7 at S7 e7 e57 e67 ⊢
    change H7 q6 = some (.lst (([] : List Int).map V.int)) at e67
    refine ⟨_, _, dpI e67, dpI e7, shI _, shI _, _, rfl, ?_⟩
    rw [eqI]
    refine iteF ⟨_, rfl, [.ref im], [.int 2, .int 1, .int 2], rfl, rfl, (by show 3 ≤ sizeLine; decide), fun t8 nt8 => ⟨im, A, v, 24, 5, sl, t8, [2, 1, 2], rfl, (S.I.keep S7).keep (same_upd nt8), upd_same, by decide, hm212, fun H8 q8 S8' nq8 e8 => ?_⟩⟩
    rw [Aq.s.held212] at e8
    have S8'' := (same_upd (o := .tup [V.int 2, V.int 1, V.int 2]) nt8).trans S8'
    have S8 := S7.trans S8''
    have e58 := S8'' _ _ e57
    refine ⟨_, rfl, _, rfl, p3, p3, _, _, rfl, rfl, e58, e58, by rw [List.length_map]; exact Nat.le_of_lt (small1000 (by omega)), fun q9 nq9 => ?_⟩
    have S9' := same_upd (o := .lst ((fileD G).map V.int ++ (fileD G).map V.int)) nq9
    have e9 : upd H8 q9 (.lst ((fileD G).map V.int ++ (fileD G).map V.int)) q9 = some (.lst ((fileD G ++ fileD G).map V.int)) := by rw [upd_same, List.map_append]
    have S9 := S8.trans S9'
    have e59 := S9' _ _ e58
    have e89 := S9' _ _ e8
    generalize upd H8 q9 (.lst ((fileD G).map V.int ++ (fileD G).map V.int)) = H9 at S9 e9 e59 e89 ⊢
    refine ⟨_, _, dpI e89, dpI e9, shI _, shI _, _, rfl, ?_⟩
    rw [eqI]
    refine iteF ?_
    -- the free blocks
    have h14 : (rng 10 14).length < 1000 := by rw [rng_len]; decide
    refine ⟨10, 24, rfl, ⟨by decide, by decide, by decide, by decide⟩, fun D hD => ?_⟩
    refine lc_range (lo := 10) (n := ((24 : Int) - 10).toNat) (PvF H9 D (rng 10 14) (fun x => decide (x ∉ fileD G))) (PvF.start hD) ?_ ?_
    · rintro i H' hi Pv
      have hi : i < 14 := hi
      have hx := rng_get (lo := 10) hi
      refine ⟨rfl, ?_⟩
      refine ⟨_, rfl, _, rfl, p3, _, rfl, .inl (.of (Pv.1 _ _ e59)), rfl, flat_ints _, _, rfl, ?_⟩
      rw [inV_int]
      by_cases hb : (10 + (i : Int)) ∈ fileD G
      · rw [decide_eq_true hb]
        exact iteF (Pv.no (Same.refl _) hx (by simp [hb]))
      · rw [decide_eq_false hb]
        exact iteT ⟨_, rfl, Pv.yes hD (Same.refl _) hx h14 (by simp [hb])⟩
    intro H10 Pv
    obtain ⟨S10', e10⟩ := Pv.all (by rw [rng_len]; rfl)
    have S10 := S9.trans S10'
    have e5_10 := S10' _ _ e59
    clear Pv
    have X10 := mk S10
    refine ⟨_, rfl, im, _, _, rfl, X10.I.ob, rfl, im, A, v, 24, 5, sl, rfl, X10.I, fun H11 p11 S11' np11 e11 => ?_⟩
    rw [Aq.s.freeL] at e11
    have e10' := S11' _ _ e10
    have e5_11 := S11' _ _ e5_10
    have S11 := S10.trans S11'
    refine ⟨_, rfl, _, _, dpI e11, dpI e10', shI _, shI _, _, rfl, ?_⟩
    rw [eqI]
    refine iteF ⟨_, rfl, D, _, rfl, .inl (.of e10'), _, rfl, p3, _, rfl, .inl (.of e5_11), _, _, rfl, rfl, rfl, _, rfl, ?_⟩
    have ecnt : (((((rng 10 14).filter fun x => decide (x ∉ fileD G)).map V.int).length : Int) + (((fileD G).map V.int).length : Int)) = 14 := by
      have := filt_eq rng_nd (fileD G) f.nd_ f.in_
      rw [rng_len] at this
      rw [List.length_map, List.length_map]
      omega
    rw [dec_iv, decide_eq_true ecnt]
    refine iteF ?_
    have X11 := mk S11
    -- the sums
    refine ⟨(by show 8 ≤ sizeLine; decide), fun q12 nq12 => ?_⟩
    have S12' := same_upd (o := .lst [V.int 0, V.int 0, V.int 0, V.int 0, V.int 0, V.int 0, V.int 0, V.int 0]) nq12
    have e12 : upd H11 q12 (.lst [V.int 0, V.int 0, V.int 0, V.int 0, V.int 0, V.int 0, V.int 0, V.int 0]) q12 = some (.lst (([0, 0, 0, 0, 0, 0, 0, 0] : List Int).map V.int)) := upd_same
    have e5_12 := S12' _ _ e5_11
    have S12 := S11.trans S12'
    have nq12H := S11.free nq12
    generalize upd H11 q12 (.lst [V.int 0, V.int 0, V.int 0, V.int 0, V.int 0, V.int 0, V.int 0, V.int 0]) = H12 at S12 e12 e5_12 ⊢
    have ho4 := Aq.s.o4
    refine ⟨_, rfl, p3, _, rfl, .inl (.of e5_12), _, rfl, _, rfl, q12, _, _, o1, rfl, rfl, e12, ixN_nat rfl (by show o1 < 8; omega), ?_⟩
    rw [List.length_map, fileD_len, ← List.map_set]
    have S13 : Same H (upd H12 q12 (.lst ((([0, 0, 0, 0, 0, 0, 0, 0] : List Int).set o1 (cntG G)).map V.int))) := same_put S12 nq12H
    have e13 : upd H12 q12 (.lst ((([0, 0, 0, 0, 0, 0, 0, 0] : List Int).set o1 (cntG G)).map V.int)) q12 = some (.lst ((([0, 0, 0, 0, 0, 0, 0, 0] : List Int).set o1 (cntG G)).map V.int)) := upd_same
    generalize upd H12 q12 (.lst ((([0, 0, 0, 0, 0, 0, 0, 0] : List Int).set o1 (cntG G)).map V.int)) = H13 at S13 e13 ⊢
    have X13 := mk S13
    obtain ⟨r0, a0, e0⟩ := rowc S13 Aq.s.k.r0
    rw [us4 Aq.s.k.u4 ho4 Aq.s.uq] at e0
    refine ⟨_, rfl, im, _, _, _, _, rfl, X13.I.ob, T.cl_Image, T.na_Image_cells, rfl, A.ca, _, _, _, rfl, rfl, .of X13.I.gr.out, a0, _, rfl, _, _, dpI e0, dpI e13, shI _, shI _, _, rfl, ?_⟩
    rw [eqI]
    obtain ⟨r1, a1, e1'⟩ := rowc S13 Aq.s.r1
    refine iteF ⟨_, rfl, im, _, _, _, _, rfl, X13.I.ob, T.cl_Image, T.na_Image_cells, rfl, A.ca, _, _, _, rfl, rfl, .of X13.I.gr.out, a1, (by show 8 ≤ sizeLine; decide), fun q14 nq14 => ?_⟩
    have S14' := same_upd (o := .lst [V.int 0, V.int 0, V.int 0, V.int 0, V.int 0, V.int 0, V.int 0, V.int 0]) nq14
    have e14 : upd H13 q14 (.lst [V.int 0, V.int 0, V.int 0, V.int 0, V.int 0, V.int 0, V.int 0, V.int 0]) q14 = some (.lst (([0, 0, 0, 0, 0, 0, 0, 0] : List Int).map V.int)) := upd_same
    have S14 := S13.trans S14'
    generalize upd H13 q14 (.lst [V.int 0, V.int 0, V.int 0, V.int 0, V.int 0, V.int 0, V.int 0, V.int 0]) = H14 at S14 S14' e14 ⊢
    refine ⟨_, _, dpI (S14' _ _ e1'), dpI e14, shI _, shI _, _, rfl, ?_⟩
    rw [eqI]
    have X14 := mk S14
    -- the node
    have r6 : v.M[6]? = some [1, 0, w.sz, (o1 : Int), G 0, G 1, G 12, 1] := by rw [← n6]; exact f.r6
    obtain ⟨rn, an, en⟩ := rowc S14 r6
    refine iteF ⟨_, rfl, im, _, _, _, _, rfl, X14.I.ob, T.cl_Image, T.na_Image_cells, rfl, A.ca, _, _, _, rfl, rfl, .of X14.I.gr.out, an, ?_⟩
    refine ⟨_, rfl, _, rfl, rn, _, rfl, .of en, fun q15 nq15 => ?_⟩
    have S15' := same_upd (o := .lst (cutV (([1, 0, w.sz, (o1 : Int), G 0, G 1, G 12, 1] : List Int).map V.int) none (some 4))) nq15
    have e15 : upd H14 q15 (.lst (cutV (([1, 0, w.sz, (o1 : Int), G 0, G 1, G 12, 1] : List Int).map V.int) none (some 4))) q15 = some (.lst (([1, 0, w.sz, (o1 : Int)] : List Int).map V.int)) := upd_same
    generalize upd H14 q15 (.lst (cutV (([1, 0, w.sz, (o1 : Int), G 0, G 1, G 12, 1] : List Int).map V.int) none (some 4))) = H15 at S15' e15 ⊢
    have S15 := S14.trans S15'
    have X15 := mk S15
    refine ⟨_, rfl, B.sa, _, 0, .int w.sz, rfl, rfl, .of (X15.F.get 4 rfl), atI_nat (j := 0) rfl, _, rfl, (by show 4 ≤ sizeLine; decide), fun q16 nq16 => ?_⟩
    have S16' := same_upd (o := .lst [V.int 1, V.int 0, V.int w.sz, V.int (o1 : Int)]) nq16
    have e16 : upd H15 q16 (.lst [V.int 1, V.int 0, V.int w.sz, V.int (o1 : Int)]) q16 = some (.lst (([1, 0, w.sz, (o1 : Int)] : List Int).map V.int)) := upd_same
    generalize upd H15 q16 (.lst [V.int 1, V.int 0, V.int w.sz, V.int (o1 : Int)]) = H16 at S16' e16 ⊢
    have S16 := S15.trans S16'
    refine ⟨_, _, dpI (S16' _ _ e15), dpI e16, shI _, shI _, _, rfl, ?_⟩
    rw [eqI]
    have en16 := S16' _ _ (S15' _ _ en)
    refine iteF ⟨_, rfl, rn, _, 7, .int 1, rfl, rfl, .of en16, atI_nat (j := 7) rfl, rfl, _, rfl, ?_⟩
    rw [dec_iv, decide_eq_true rfl]
    have X16 := mk S16
    obtain ⟨r5, a5, e5'⟩ := rowc S16 Aq.s.r5
    refine iteF ⟨_, rfl, im, _, _, _, _, rfl, X16.I.ob, T.cl_Image, T.na_Image_cells, rfl, A.ca, _, _, _, rfl, rfl, .of X16.I.gr.out, a5, (by show 8 ≤ sizeLine; decide), fun q17 nq17 => ?_⟩
    have S17' := same_upd (o := .lst [V.int 2, V.int 1, V.int 0, V.int 0, V.int 0, V.int 0, V.int 0, V.int 1]) nq17
    have e17 : upd H16 q17 (.lst [V.int 2, V.int 1, V.int 0, V.int 0, V.int 0, V.int 0, V.int 0, V.int 1]) q17 = some (.lst (([2, 1, 0, 0, 0, 0, 0, 1] : List Int).map V.int)) := upd_same
    have S17 := S16.trans S17'
    generalize upd H16 q17 (.lst [V.int 2, V.int 1, V.int 0, V.int 0, V.int 0, V.int 0, V.int 0, V.int 1]) = H17 at S17 S17' e17 ⊢
    refine ⟨_, _, dpI (S17' _ _ e5'), dpI e17, shI _, shI _, _, rfl, ?_⟩
    rw [eqI]
    have X17 := mk S17
    -- late
    refine iteF ⟨_, rfl, im, A, v, 24, 5, sl, 2, rfl, X17.I, by decide, by decide, f.ok_, fun H18 S18' => ?_⟩
    have S18 := S17.trans S18'
    have el : late 24 v.M 2 = decide (0 < (tbL 24 v.M 2).length) := by
      unfold late
      rw [f.kd_, decide_eq_true rfl, Bool.true_and]
    refine ⟨_, rfl, _, _, _, _, true, rfl, .ty _, .base (.bl _), kit_ty (by decide +kernel), _, rfl, iteT ⟨_, rfl, _, rfl, im, A, v, sl, B, w, fa, fs, G, C, kd, us, o1, ib, rfl, mk S18, Aq, fun H19 p19 S19 np19 e19 => ?_⟩⟩
    refine ⟨p19, _, rfl, .inl (.of e19), _, _, rfl, rfl, rfl, ?_⟩
    have eg : decide ((((tbL 24 v.M 2).map V.int).length : Int) > 0) = decide (0 < (tbL 24 v.M 2).length) := by
      rw [List.length_map]
      by_cases z : 0 < (tbL 24 v.M 2).length
      · rw [decide_eq_true z, decide_eq_true (by omega)]
      · rw [decide_eq_false z, decide_eq_false (by omega)]
    have ed : decide (V.bl (late 24 v.M 2) = V.bl (decide ((((tbL 24 v.M 2).map V.int).length : Int) > 0))) = true := by
      rw [eg, el]
      exact decide_eq_true rfl
    change Q (.bl (decide (V.bl (late 24 v.M 2) = V.bl (decide ((((tbL 24 v.M 2).map V.int).length : Int) > 0))))) H19
    rw [ed]
    exact k H19 (S18.trans S19)
end
end K06
namespace K06
open PySem PySem.Spec PyProof.Rows L2 Rg
theorem bk_same {B : Bk} {o1 : Nat} {w w' : BV} {fa : Addr} {fs fs' : List Int} {p : Addr × HO} (h : p ∈ bkL B o1 w' fa fs') : ∃ o, (p.1, o) ∈ bkL B o1 w fa fs := by
  have : p.1 ∈ (bkL B o1 w' fa fs').map (·.1) := List.mem_map.mpr ⟨p, h, rfl⟩
  rw [bkA_eq, ← bkA_eq (o1 := o1) (w := w) (fs := fs)] at this
  obtain ⟨q, hq, e⟩ := List.mem_map.mp this
  exact ⟨q.2, by rw [← e]; exact hq⟩
theorem SI.feed {CI CP : Addr} {H : Hp} {im : Addr} {A : IA} {v : IV} {b n s : Int} {B : Bk} {o1 : Nat} {w : BV} {fa : Addr} {fs : List Int} (S : SI CI CP H im A v b n s (bkL B o1 w fa fs)) (fs' : List Int) : SI CI CP (upd H fa (.lst (fs'.map V.int))) im A v b n s (bkL B o1 w fa fs') := S.put 0 rfl
theorem win_eq {v : IV} {w : BV} {G : Nat → Int} {C : Nat → List Int} {kd us : List Int} {o1 i : Nat} (A : Ag v w G C kd us o1 i) {a c : Nat} (ha : a < 90) (hc : c < 30) : ((w.ws ++ List.replicate 60 0).drop a).take c = (rng (a : Int) c).map (rdW 24 v.M 2) := by
  have s8 := A.s.s8
  have wl := A.wl
  apply List.ext_getElem?
  intro j
  by_cases h : j < c
  · rw [List.getElem?_map, rng_get h, List.getElem?_take_of_lt h, List.getElem?_drop]
    show _ = some (rdW 24 v.M 2 ((a : Int) + (j : Int)))
    rw [show (a : Int) + (j : Int) = ((a + j : Nat) : Int) by omega, A.s.f.rd_ (by omega) s8]
    by_cases z : a + j < 80
    · rw [List.getElem?_append_left (by omega), A.wv _ z]
    · rw [List.getElem?_append_right (by omega), List.getElem?_replicate, if_pos (by omega)]
      unfold wdV
      rw [if_pos (by omega)]
  · rw [List.getElem?_eq_none (by rw [List.length_take]; omega), List.getElem?_eq_none (by rw [List.length_map, rng_len]; omega)]
section
variable {P : Program} {w0_ : World} {K : PySem.W.Frag} {mg : Str → Option Value} {base : Heap}
def sp_Lwindow (CI CP : Addr) : Sp := fun vs H Q _ => ∃ (im : Addr) (A : IA) (v : IV) (s : Int) (B : Bk) (w : BV) (fa : Addr) (fs : List Int) (G : Nat → Int) (C : Nat → List Int) (kd us : List Int) (o1 i : Nat), vs = [.ref im, .ref B.bk, .ref fa] ∧ SI CI CP H im A v 24 5 s (bkL B o1 w fa fs) ∧ Ag v w G C kd us o1 i ∧ ∀ H' fs', SI CI CP H' im A v 24 5 s (bkL B o1 w fa fs') → Q (.bl true) H'
theorem ok_Lwindow (T : Tx K mg) : FnOk P w0_ K mg base CX0 6 T.f_Lwindow T.fd_Lwindow ["_law_image", "_law_book", "_law_feed_here"] (sp_Lwindow T.C_Image T.C_Plan) := by
  refine T.F_Lwindow.ok sc_Lwindow (fun vs H Q E h => ?_) (fun cdv A0 outer s H vs Q E hr h => ?_)
  · obtain ⟨_, _, _, _, _, _, _, _, _, _, _, _, _, _, rfl, _⟩ := h; rfl
  · obtain ⟨im, A, v, sl, B, w, fa, fs, G, C, kd, us, o1, ib, rfl, S, Aq, k⟩ := h
    have hr1 : Room 1 _ := hr.mono (by decide)
    have hr2 : Room 2 _ := hr.mono (by decide)
    refine ⟨_, (pss_cons (ps_set (i := 3) sc_Lwindow.nd rfl (.inl rfl) (pe_call (ok_Lpick T) hr1 rfl T.mg_Lpick T.F_Lpick.kp (b_Lpick T) .nil pass0 (pa_cons (pv 2) (pa_cons pe_int pa_nil))))
      (pss_cons (ps_set (i := 4) sc_Lwindow.nd rfl (.inl rfl) (pe_call (ok_Lpick T) hr1 rfl T.mg_Lpick T.F_Lpick.kp (b_Lpick T) .nil pass0 (pa_cons (pv 2) (pa_cons pe_int pa_nil))))
      (pss_cons (ps_set (i := 5) sc_Lwindow.nd rfl (.inl rfl) (pe_op op_cat (pe_ix ix_list (pv 1) pe_int (fun _ _ => rfl)) (pe_lc rfl (own := [("_law_k", 6)]) (g := gName 6) (tt := tYes) sc_Lwindow.nd (pi_range1 rfl T.b_range (pa_cons pe_int pa_nil)) (blkOk_by (N := ["_law_image", "_law_book", "_law_feed_here", "_law_at", "_law_count", "_law_row_here", "_law_k", "_law_told"]) (sc := defScope s_Lwindow) (by decide +kernel)) (fun _ _ _ _ _ => pg_name (i := 6) sc_Lwindow.nd rfl (Or.inl rfl)) (fun _ _ _ _ _ => pts_nil) (fun _ _ _ _ _ => pe_int))))
      (pss_cons (ps_set (i := 7) sc_Lwindow.nd rfl (.inl rfl) (pe_call (ok_read_words T) hr rfl T.mg_read_words T.F_read_words.kp (b_read_words T) .nil pass0 (pa_cons (pv 0) (pa_cons pe_int (pa_cons (pv 3) (pa_cons (pv 4) pa_nil))))))
      (pss_cons (ps_if (PW.pt (pw_or (pt_not (pt_val (pe_callB call_isi rfl T.b_isinstance (by decide +kernel) (pa_cons (pv 7) (pa_cons (pe_bltn (v := .ty "list") rfl T.b_list (by decide +kernel) rfl) pa_nil))))) (pw_or1 (pt_not (pt_val (pe_call (ok_Lrow T) hr2 rfl T.mg_Lrow T.F_Lrow.kp (b_Lrow T) .nil pass0 (pa_cons (pv 7) (pa_cons (pe_slice sl_list (pv 5) (po_some (pv 3)) (po_some (pe_op op_add (pv 3) (pv 4)))) pa_nil))))))))
        (pss_one (ps_ret pe_bl))
        pss_nil)
      (pss_cons (ps_expr (pe_bm PySem.F.plainAttrs_list PySem.F.slot_list_append PySem.F.type_list_append mt_append (pv 7) (pa_cons pe_int pa_nil)))
      (pss_one (ps_ret pe_bl)))))))), ?_⟩
    have f := Aq.s.f
    have s8 := Aq.s.s8
    have wl := Aq.wl
    have pl : ∀ o, o < 10 → PlOk 24 5 v.M 2 o := fun o ho => f.pl_ ho
    refine ⟨_, rfl, fa, fs, 90, rfl, S.F.get 0 rfl, by decide, fun r1 f1 r10 r11 fl1 => ?_⟩
    have S1 := S.feed f1
    refine ⟨_, rfl, fa, f1, 30, rfl, S1.F.get 0 rfl, by decide, fun r2 f2 r20 r21 fl2 => ?_⟩
    have S2 := S1.feed f2
    generalize upd (upd H fa (.lst (f1.map V.int))) fa (.lst (f2.map V.int)) = H2 at S2 ⊢
    obtain ⟨a, rfl⟩ : ∃ a : Nat, r1 = a := ⟨r1.toNat, by omega⟩
    obtain ⟨c, rfl⟩ : ∃ c : Nat, r2 = c := ⟨r2.toNat, by omega⟩
    refine ⟨_, rfl, B.bk, _, 0, .ref B.wa, rfl, rfl, .of (S2.F.get 1 rfl), atI_nat (j := 0) rfl, 60, rfl, by decide, by decide, fun D hD => ?_⟩
    refine lc_range (lo := 0) (n := (60 : Int).toNat) (fun i H' => H' = upd H2 D (.lst ((List.replicate i (0 : Int)).map V.int))) rfl ?_ ?_
    · rintro i H' hi rfl
      have hi : i < 60 := hi
      refine ⟨rfl, yes_ ⟨_, upd_same, ?_, ?_⟩⟩
      · rw [List.length_map, List.length_replicate]
        exact small1000 (by omega)
      · rw [upd_upd, List.replicate_succ', List.map_append]
        rfl
    rintro H3 rfl
    have s3 := same_upd (o := .lst ((List.replicate (60 : Int).toNat (0 : Int)).map V.int)) hD
    have e3 : upd H2 D (.lst ((List.replicate (60 : Int).toNat (0 : Int)).map V.int)) D = some (.lst ((List.replicate 60 (0 : Int)).map V.int)) := upd_same
    generalize upd H2 D (.lst ((List.replicate (60 : Int).toNat (0 : Int)).map V.int)) = H3 at s3 e3 ⊢
    have S3 := S2.same s3
    refine ⟨B.wa, D, _, _, rfl, rfl, S3.F.get 2 rfl, e3, by rw [List.length_map, wl]; decide, fun q4 nq4 => ?_⟩
    have s4 := same_upd (o := .lst (w.ws.map V.int ++ (List.replicate 60 (0 : Int)).map V.int)) nq4
    have e4 : upd H3 q4 (.lst (w.ws.map V.int ++ (List.replicate 60 (0 : Int)).map V.int)) q4 = some (.lst ((w.ws ++ List.replicate 60 0).map V.int)) := by rw [upd_same, List.map_append]
    generalize upd H3 q4 (.lst (w.ws.map V.int ++ (List.replicate 60 (0 : Int)).map V.int)) = H4 at s4 e4 ⊢
    have S4 := S3.same s4
    -- told
    refine ⟨_, rfl, _, rfl, _, rfl, im, A, v, 24, 5, sl, 2, (a : Int), c, rfl, S4.I, by decide, by decide, f.ok_, pl, by rw [f.sz_]; exact s8, by omega, by omega, by omega, fun H5 p5 s5 np5 e5 => ?_⟩
    have S5 := S4.same s5
    have e45 := s5 _ _ e4
    refine ⟨_, rfl, _, _, _, _, true, rfl, .ty _, .base (.lst e5), kit_ty (by decide +kernel), _, rfl, iteF ?_⟩
    refine ⟨_, rfl, _, rfl, _, rfl, _, rfl, _, rfl, _, rfl, _, _, rfl, rfl, _, rfl, q4, _, rfl, .of e45, fun q6 nq6 => ?_⟩
    have ecut : cutV ((w.ws ++ List.replicate 60 0).map V.int) (some (a : Int)) (some ((a : Int) + (c : Int))) = ((rng (a : Int) c).map (rdW 24 v.M 2)).map V.int := by
      have hl : ((w.ws ++ List.replicate 60 0).map V.int).length = 140 := by rw [List.length_map, List.length_append, wl, List.length_replicate]
      unfold cutV
      rw [hl]
      have e1 : HT.sIx 140 0 (some (a : Int)) = a := by
        rw [HT.sIx_nat]
        omega
      have e2 : HT.sIx 140 140 (some ((a : Int) + (c : Int))) = a + c := by
        rw [show (a : Int) + (c : Int) = ((a + c : Nat) : Int) by omega, HT.sIx_nat]
        omega
      rw [e1, e2, show a + c - a = c by omega, ← List.map_drop, ← List.map_take, win_eq Aq (by omega) (by omega)]
    have s6 := same_upd (o := .lst (cutV ((w.ws ++ List.replicate 60 0).map V.int) (some (a : Int)) (some ((a : Int) + (c : Int))))) nq6
    have e6 : upd H5 q6 (.lst (cutV ((w.ws ++ List.replicate 60 0).map V.int) (some (a : Int)) (some ((a : Int) + (c : Int))))) q6 = some (.lst (((rng (a : Int) c).map (rdW 24 v.M 2)).map V.int)) := by rw [upd_same, ecut]
    generalize upd H5 q6 (.lst (cutV ((w.ws ++ List.replicate 60 0).map V.int) (some (a : Int)) (some ((a : Int) + (c : Int))))) = H6 at s6 e6 ⊢
    have S6 := S5.same s6
    refine ⟨p5, q6, (rng (a : Int) c).map (rdW 24 v.M 2), rfl, .inl (s6 _ _ e5), e6, by rw [List.length_map, rng_len]; omega, _, rfl, iteF ?_⟩
    have e56 := s6 _ _ e5
    refine ⟨.ref p5, rfl, .inl ⟨rfl, _, .inl (.inl e56)⟩, p5, _, _, rfl, rfl, e56, ?_, ?_⟩
    · rw [List.length_map, List.length_map, rng_len]
      exact small1000 (by omega)
    · refine k _ f2 ⟨S6.I.keepF fun x o' hx e => ?_, S6.F.keep fun p hp o' e => ?_, S6.ap⟩
      · rw [upd_ne]
        · exact e
        · intro z
          obtain ⟨o, q⟩ := S4.I.held hx
          rw [z, np5] at q
          cases q
      · rw [upd_ne]
        · exact e
        · exact S4.F.held np5 p hp
/-! ### refused -/
theorem ne_cls (T : Tx K mg) : T.C_Unfinished ≠ T.C_TooLong := fun e => by
  have h1 := T.sub_Unfinished_Unfinished
  have h2 := T.sub_Unfinished_TooLong
  rw [← e, h1] at h2
  cases h2
def sp_Lwrite_refused (CI CP : Addr) : Sp := fun vs H Q _ => ∃ (im : Addr) (A : IA) (v : IV) (s at_ : Int) (wa : Addr) (ws : List Int) (lt : Bool), vs = [.ref im, .int at_, .ref wa, .bl lt] ∧ ImgAt CI CP H im A v 24 5 s ∧ PlcOk 24 5 v.M 2 ∧ 0 ≤ at_ ∧ 1 ≤ ws.length ∧ ws.length ≤ 900 ∧ (H wa = some (.lst (ws.map V.int)) ∨ H wa = some (.tup (ws.map V.int))) ∧ wa ∉ ft3 A ++ A.rs ∧ late 24 v.M 2 = lt ∧ (lt = true ∨ at_ + ws.length > 80) ∧ ∀ H', Same H H' → Q (.bl true) H'
theorem ok_Lwrite_refused (T : Tx K mg) : FnOk P w0_ K mg base CX0 10 T.f_Lwrite_refused T.fd_Lwrite_refused ["_law_image", "_law_at", "_law_given", "_law_late"] (sp_Lwrite_refused T.C_Image T.C_Plan) := by
  refine T.F_Lwrite_refused.ok sc_Lwrite_refused (fun vs H Q E h => ?_) (fun cdv A0 outer s H vs Q E hr h => ?_)
  · obtain ⟨_, _, _, _, _, _, _, _, rfl, _⟩ := h; rfl
  · obtain ⟨im, A, v, sl, at_, wa, ws, lt, rfl, I, hp, hat, hw1, hw9, hwa, nwa, hl, hc, k⟩ := h
    refine ⟨_, (pss_cons (L2N.ps_try_as (i := 4) rfl rfl sc_Lwrite_refused.nd rfl rfl ⟨rfl, by decide, .inl T.mg_Refused⟩ takes0N
        (fun W pn xe tk _ => pss_one (ps_expr (by exact (pe_callS (ok_write_words T) hr rfl T.mg_write_words T.F_write_words.kp (b_write_words T) (fun σ => L2N.passAt tk σ) (by exact (pa_cons (pv 0) (pa_cons pe_int (pa_cons (pv 1) (pa_cons (pv 2) pa_nil)))))))))
        (fun a oe cls d pn hz hf => pss_either
          (pss_only (cls := cls) (d := d) (D := T.C_Unfinished) fun e1 e2 => by
            subst e1
            subst e2
            exact pss_cons (ps_if (pt_val (pv 3))
              (pss_one (ps_ret (pe_and (pe_callB (call_isE T.ec_Unfinished hz.zc hf) rfl T.b_isinstance (by decide +kernel) (pa_cons (pv 4) (pa_cons (pe_glob (v := .ref T.C_Unfinished) rfl T.mg_Unfinished rfl) pa_nil))) (pe_one (pe_not (pe_callB (call_isE T.ec_Unfinished hz.zc hf) rfl T.b_isinstance (by decide +kernel) (pa_cons (pv 4) (pa_cons (pe_glob (v := .ref T.C_TooLong) rfl T.mg_TooLong rfl) pa_nil))))))))
              pss_nil)
              (pss_one (ps_ret (pe_and (pe_callB (call_isE T.ec_Unfinished hz.zc hf) rfl T.b_isinstance (by decide +kernel) (pa_cons (pv 4) (pa_cons (pe_glob (v := .ref T.C_TooLong) rfl T.mg_TooLong rfl) pa_nil))) (pe_one (pe_not (pe_callB (call_isE T.ec_Unfinished hz.zc hf) rfl T.b_isinstance (by decide +kernel) (pa_cons (pv 4) (pa_cons (pe_glob (v := .ref T.C_Unfinished) rfl T.mg_Unfinished rfl) pa_nil)))))))))
          (pss_only (cls := cls) (d := d) (D := T.C_TooLong) fun e1 e2 => by
            subst e1
            subst e2
            exact pss_cons (ps_if (pt_val (pv 3))
              (pss_one (ps_ret (pe_and (pe_callB (call_isE T.ec_TooLong hz.zc hf) rfl T.b_isinstance (by decide +kernel) (pa_cons (pv 4) (pa_cons (pe_glob (v := .ref T.C_Unfinished) rfl T.mg_Unfinished rfl) pa_nil))) (pe_one (pe_not (pe_callB (call_isE T.ec_TooLong hz.zc hf) rfl T.b_isinstance (by decide +kernel) (pa_cons (pv 4) (pa_cons (pe_glob (v := .ref T.C_TooLong) rfl T.mg_TooLong rfl) pa_nil))))))))
              pss_nil)
              (pss_one (ps_ret (pe_and (pe_callB (call_isE T.ec_TooLong hz.zc hf) rfl T.b_isinstance (by decide +kernel) (pa_cons (pv 4) (pa_cons (pe_glob (v := .ref T.C_TooLong) rfl T.mg_TooLong rfl) pa_nil))) (pe_one (pe_not (pe_callB (call_isE T.ec_TooLong hz.zc hf) rfl T.b_isinstance (by decide +kernel) (pa_cons (pv 4) (pa_cons (pe_glob (v := .ref T.C_Unfinished) rfl T.mg_Unfinished rfl) pa_nil)))))))))))
      (pss_one (ps_ret pe_bl))), ?_⟩
    refine ⟨_, rfl, _, rfl, _, rfl, im, A, v, 24, 5, sl, 2, at_, 0, wa, ws, rfl, I, by decide, by decide, hp, hat, hw1, hw9, by decide, hwa, nwa, fun e H' S => ?_, fun e hlong H' S => ?_, fun e hshort => ?_⟩
    · refine ⟨true, exm_sub T.be_Refused T.ie_Refused T.te_Refused T.sub_Unfinished_Refused, fun _ a ha => .inl ⟨rfl, rfl, _, rfl, lt, rfl, ?_⟩, fun q => nomatch q⟩
      rw [← hl, e]
      exact iteT ⟨_, rfl, _, _, true, rfl, fun u hu => hu, kit_self, _, rfl, iteT ⟨_, rfl, _, _, false, rfl, fun u hu => hu, kit_sub (ne_cls T) T.ie_TooLong T.te_TooLong T.sub_Unfinished_TooLong, _, rfl, k H' S⟩⟩
    · refine ⟨true, exm_sub T.be_Refused T.ie_Refused T.te_Refused T.sub_TooLong_Refused, fun _ a ha => .inr ⟨rfl, rfl, _, rfl, lt, rfl, ?_⟩, fun q => nomatch q⟩
      rw [← hl, e]
      exact iteF ⟨_, rfl, _, _, true, rfl, fun u hu => hu, kit_self, _, rfl, iteT ⟨_, rfl, _, _, false, rfl, fun u hu => hu, kit_sub (ne_cls T).symm T.ie_Unfinished T.te_Unfinished T.sub_TooLong_Unfinished, _, rfl, k H' S⟩⟩
    · exfalso
      rw [hl] at e
      rcases hc with z | z
      · rw [e] at z
        cases z
      · omega
def sp_Lsize_refused (CI CP : Addr) : Sp := fun vs H Q _ => ∃ (im : Addr) (A : IA) (v : IV) (s size : Int) (lt : Bool), vs = [.ref im, .int size, .bl lt] ∧ ImgAt CI CP H im A v 24 5 s ∧ PlcOk 24 5 v.M 2 ∧ (∀ o, o < 10 → PlOk 24 5 v.M 2 o) ∧ 0 ≤ cellAt v.M (nrow 24 2) 2 ∧ cellAt v.M (nrow 24 2) 2 ≤ 80 ∧ 0 ≤ size ∧ (lt = true ↔ (size > cellAt v.M (nrow 24 2) 2 ∧ late 24 v.M 2 = true)) ∧ (lt = true ∨ size > 80) ∧ ∀ H', Same H H' → Q (.bl true) H'
theorem ok_Lsize_refused (T : Tx K mg) : FnOk P w0_ K mg base CX0 7 T.f_Lsize_refused T.fd_Lsize_refused ["_law_image", "_law_size_here", "_law_late"] (sp_Lsize_refused T.C_Image T.C_Plan) := by
  refine T.F_Lsize_refused.ok sc_Lsize_refused (fun vs H Q E h => ?_) (fun cdv A0 outer s H vs Q E hr h => ?_)
  · obtain ⟨_, _, _, _, _, _, rfl, _⟩ := h; rfl
  · obtain ⟨im, A, v, sl, size, lt, rfl, I, hp, hpl, hs0, hs8, hsz, hl, hc, k⟩ := h
    refine ⟨_, (pss_cons (L2N.ps_try_as (i := 3) rfl rfl sc_Lsize_refused.nd rfl rfl ⟨rfl, by decide, .inl T.mg_Refused⟩ takes0N
        (fun W pn xe tk _ => pss_one (ps_expr (by exact (pe_callS (ok_set_size T) hr rfl T.mg_set_size T.F_set_size.kp (b_set_size T) (fun σ => L2N.passAt tk σ) (by exact (pa_cons (pv 0) (pa_cons pe_int (pa_cons (pv 1) pa_nil))))))))
        (fun a oe cls d pn hz hf => pss_either
          (pss_only (cls := cls) (d := d) (D := T.C_Unfinished) fun e1 e2 => by
            subst e1
            subst e2
            exact pss_cons (ps_if (pt_val (pv 2))
              (pss_one (ps_ret (pe_and (pe_callB (call_isE T.ec_Unfinished hz.zc hf) rfl T.b_isinstance (by decide +kernel) (pa_cons (pv 3) (pa_cons (pe_glob (v := .ref T.C_Unfinished) rfl T.mg_Unfinished rfl) pa_nil))) (pe_one (pe_not (pe_callB (call_isE T.ec_Unfinished hz.zc hf) rfl T.b_isinstance (by decide +kernel) (pa_cons (pv 3) (pa_cons (pe_glob (v := .ref T.C_TooLong) rfl T.mg_TooLong rfl) pa_nil))))))))
              pss_nil)
              (pss_one (ps_ret (pe_and (pe_callB (call_isE T.ec_Unfinished hz.zc hf) rfl T.b_isinstance (by decide +kernel) (pa_cons (pv 3) (pa_cons (pe_glob (v := .ref T.C_TooLong) rfl T.mg_TooLong rfl) pa_nil))) (pe_one (pe_not (pe_callB (call_isE T.ec_Unfinished hz.zc hf) rfl T.b_isinstance (by decide +kernel) (pa_cons (pv 3) (pa_cons (pe_glob (v := .ref T.C_Unfinished) rfl T.mg_Unfinished rfl) pa_nil)))))))))
          (pss_only (cls := cls) (d := d) (D := T.C_TooLong) fun e1 e2 => by
            subst e1
            subst e2
            exact pss_cons (ps_if (pt_val (pv 2))
              (pss_one (ps_ret (pe_and (pe_callB (call_isE T.ec_TooLong hz.zc hf) rfl T.b_isinstance (by decide +kernel) (pa_cons (pv 3) (pa_cons (pe_glob (v := .ref T.C_Unfinished) rfl T.mg_Unfinished rfl) pa_nil))) (pe_one (pe_not (pe_callB (call_isE T.ec_TooLong hz.zc hf) rfl T.b_isinstance (by decide +kernel) (pa_cons (pv 3) (pa_cons (pe_glob (v := .ref T.C_TooLong) rfl T.mg_TooLong rfl) pa_nil))))))))
              pss_nil)
              (pss_one (ps_ret (pe_and (pe_callB (call_isE T.ec_TooLong hz.zc hf) rfl T.b_isinstance (by decide +kernel) (pa_cons (pv 3) (pa_cons (pe_glob (v := .ref T.C_TooLong) rfl T.mg_TooLong rfl) pa_nil))) (pe_one (pe_not (pe_callB (call_isE T.ec_TooLong hz.zc hf) rfl T.b_isinstance (by decide +kernel) (pa_cons (pv 3) (pa_cons (pe_glob (v := .ref T.C_Unfinished) rfl T.mg_Unfinished rfl) pa_nil)))))))))))
      (pss_one (ps_ret pe_bl))), ?_⟩
    refine ⟨_, rfl, _, rfl, im, A, v, 24, 5, sl, 2, size, rfl, I, by decide, by decide, hp, hpl, hs0, hs8, hsz, fun g e H' S => ?_, fun e hlong H' S => ?_, fun e hshort => ?_⟩
    · refine ⟨true, exm_sub T.be_Refused T.ie_Refused T.te_Refused T.sub_Unfinished_Refused, fun _ a ha => .inl ⟨rfl, rfl, _, rfl, lt, rfl, ?_⟩, fun q => nomatch q⟩
      rw [hl.mpr ⟨g, e⟩]
      exact iteT ⟨_, rfl, _, _, true, rfl, fun u hu => hu, kit_self, _, rfl, iteT ⟨_, rfl, _, _, false, rfl, fun u hu => hu, kit_sub (ne_cls T) T.ie_TooLong T.te_TooLong T.sub_Unfinished_TooLong, _, rfl, k H' S⟩⟩
    · refine ⟨true, exm_sub T.be_Refused T.ie_Refused T.te_Refused T.sub_TooLong_Refused, fun _ a ha => .inr ⟨rfl, rfl, _, rfl, lt, rfl, ?_⟩, fun q => nomatch q⟩
      have el : lt = false := by
        cases lt with
        | false => rfl
        | true => exact absurd (hl.mp rfl) e
      rw [el]
      exact iteF ⟨_, rfl, _, _, true, rfl, fun u hu => hu, kit_self, _, rfl, iteT ⟨_, rfl, _, _, false, rfl, fun u hu => hu, kit_sub (ne_cls T).symm T.ie_Unfinished T.te_Unfinished T.sub_TooLong_Unfinished, _, rfl, k H' S⟩⟩
    · exfalso
      rcases hc with z | z
      · exact e (hl.mp z)
      · omega
end
end K06
namespace K06
open PySem PySem.Spec PyProof.Rows L2 Rg
section
variable {v : IV} {M : List (List Int)} {G : Nat → Int} {C : Nat → List Int} {kd us : List Int} {sz : Int} {o1 i : Nat}
theorem tbL_mem (A : Stt M G C kd us sz o1 i) {x : Int} : x ∈ tbL 24 M 2 ↔ 0 ≤ x ∧ x < 10 ∧ 8 * x ≥ sz ∧ G x.toNat ≠ 0 := by
  unfold tbL
  rw [List.mem_filter]
  unfold tbP
  rw [A.f.sz_]
  constructor
  · rintro ⟨h1, h2⟩
    have := rng_mem h1
    rw [A.f.v_ (by omega)] at h2
    have h3 := Bool.and_eq_true_iff.mp h2
    exact ⟨this.1, by omega, of_decide_eq_true h3.1, by simpa using h3.2⟩
  · rintro ⟨h1, h2, h3, h4⟩
    refine ⟨rng_in (by omega) (by omega), ?_⟩
    rw [A.f.v_ (by omega), decide_eq_true h3]
    simpa using h4
theorem tb0 (A : Stt M G C kd us sz o1 i) (h : ¬ 0 < (tbL 24 M 2).length) {o : Nat} (ho : o < 10) (h8 : 8 * (o : Int) ≥ sz) : G o = 0 := by
  refine Classical.byContradiction fun z => h ?_
  have : (o : Int) ∈ tbL 24 M 2 := (tbL_mem A).mpr ⟨by omega, by omega, h8, by rw [show ((o : Int)).toNat = o by omega]; exact z⟩
  exact List.length_pos_of_mem this
theorem piece_ok (A : Stt M G C kd us sz o1 i) : ((pieceL 24 M 2).reverse.map Int.toNat).Nodup ∧ (∀ o ∈ (pieceL 24 M 2).reverse.map Int.toNat, o < 10 ∧ G o ≠ 0 ∧ 8 * (o : Int) ≥ sz) ∧ ((pieceL 24 M 2).reverse.map Int.toNat).length ≤ 2 := by
  have hm : ∀ x ∈ pieceL 24 M 2, 0 ≤ x ∧ x < 10 ∧ 8 * x ≥ sz ∧ G x.toNat ≠ 0 := fun x hx => (tbL_mem A).mp (List.mem_of_mem_drop hx)
  have hn : (pieceL 24 M 2).Nodup := by
    unfold pieceL tbL
    have h : (rng 0 10).Nodup := by decide +kernel
    exact (h.filter _).sublist (List.drop_sublist _ _)
  refine ⟨?_, fun o ho => ?_, ?_⟩
  · unfold List.Nodup
    rw [List.pairwise_map, List.pairwise_reverse]
    refine List.Pairwise.imp_of_mem ?_ hn
    intro a b ha hb hab e
    have := hm a ha
    have := hm b hb
    exact hab (by omega)
  · obtain ⟨x, hx, rfl⟩ := List.mem_map.mp ho
    have := hm x (List.mem_reverse.mp hx)
    exact ⟨by omega, this.2.2.2, by omega⟩
  · rw [List.length_map, List.length_reverse]
    unfold pieceL
    rw [List.length_drop]
    omega
end
section
variable {P : Program} {w0_ : World} {K : PySem.W.Frag} {mg : Str → Option Value} {base : Heap}
def Nxt (CI CP : Addr) (im : Addr) (s : Int) (B : Bk) (fa : Addr) (o1 i : Nat) (Q : VK) : Prop := ∀ (H' : Hp) (A' : IA) (v' : IV) (w' : BV) (G' : Nat → Int) (C' : Nat → List Int) (kd' us' : List Int) (fs' : List Int), SI CI CP H' im A' v' 24 5 s (bkL B o1 w' fa fs') → Ag v' w' G' C' kd' us' o1 i → Q (.bl true) H'
def sp_Lpiece (CI CP : Addr) : Sp := fun vs H Q _ => ∃ (im : Addr) (A : IA) (v : IV) (s : Int) (B : Bk) (w : BV) (fa : Addr) (fs : List Int) (G : Nat → Int) (C : Nat → List Int) (kd us : List Int) (o1 i : Nat), vs = [.ref im, .ref B.bk] ∧ SI CI CP H im A v 24 5 s (bkL B o1 w fa fs) ∧ Ag v w G C kd us o1 i ∧ Nxt CI CP im s B fa o1 (i + 24) Q
theorem ok_Lpiece (T : Tx K mg) : FnOk P w0_ K mg base CX0 7 T.f_Lpiece T.fd_Lpiece ["_law_image", "_law_book"] (sp_Lpiece T.C_Image T.C_Plan) := by
  refine T.F_Lpiece.ok sc_Lpiece (fun vs H Q E h => ?_) (fun cdv A0 outer s H vs Q E hr h => ?_)
  · obtain ⟨_, _, _, _, _, _, _, _, _, _, _, _, _, _, rfl, _⟩ := h; rfl
  · obtain ⟨im, A, v, sl, B, w, fa, fs, G, C, kd, us, o1, ib, rfl, S, Aq, k⟩ := h
    have hr1 : Room 1 _ := hr.mono (by decide)
    refine ⟨_, (pss_cons (ps_asg (pv 1) (pg_lst rfl (pgs_cons (pg_name (i := 2) sc_Lpiece.nd rfl (.inl rfl)) (pgs_cons (pg_name (i := 3) sc_Lpiece.nd rfl (.inl rfl)) (pgs_cons (pg_name (i := 4) sc_Lpiece.nd rfl (.inl rfl)) (pgs_cons (pg_name (i := 5) sc_Lpiece.nd rfl (.inl rfl)) pgs_nil))))))
      (pss_cons (ps_set (i := 6) sc_Lpiece.nd rfl (.inl rfl) (pe_call (ok_Lbehind T) hr1 rfl T.mg_Lbehind T.F_Lbehind.kp (b_Lbehind T) .nil pass0 (pa_cons (pv 1) pa_nil)))
      (pss_cons (ps_set (i := 7) sc_Lpiece.nd rfl (.inl rfl) (pe_slice sl_list (pv 6) (po_some (pe_un un_neg pe_int)) po_none))
      (pss_cons (ps_for PassesOwn.never rfl (pi_list (pv 7)) (pg_name (i := 8) sc_Lpiece.nd rfl (.inl rfl))
        (pss_one (ps_asg pe_bl (pg_sub (pv 3) (pv 8) set_list))))
      (pss_one (ps_ret (pe_call (ok_Linteger T) hr1 rfl T.mg_Linteger T.F_Linteger.kp (b_Linteger T) .nil pass0 (pa_cons (pe_call (ok_free_piece T) hr rfl T.mg_free_piece T.F_free_piece.kp (b_free_piece T) .nil pass0 (pa_cons (pv 0) (pa_cons pe_int pa_nil))) (pa_cons (pe_callB call_len_seq rfl T.b_len (by decide +kernel) (pa_cons (pv 7) pa_nil)) pa_nil))))))))), ?_⟩
    have f := Aq.s.f
    obtain ⟨pn, pm, pl⟩ := piece_ok Aq.s
    refine ⟨_, rfl, B.bk, _, rfl, .of (S.F.get 1 rfl), rfl, _, _, rfl, _, _, rfl, _, _, rfl, _, _, rfl, rfl, ?_⟩
    refine ⟨_, rfl, im, A, v, sl, B, w, fa, fs, G, C, kd, us, o1, ib, rfl, S, Aq, fun H1 p1 S1 np1 e1 => ?_⟩
    refine ⟨_, rfl, _, rfl, _, rfl, p1, _, rfl, .of e1, fun q nq => ?_⟩
    have ecut : cutV ((tbL 24 v.M 2).map V.int) (some (-2)) none = (pieceL 24 v.M 2).map V.int := by
      rw [cut2, List.length_map, ← List.map_drop]
      rfl
    have s2 := same_upd (o := .lst (cutV ((tbL 24 v.M 2).map V.int) (some (-2)) none)) nq
    have e2 : upd H1 q (.lst (cutV ((tbL 24 v.M 2).map V.int) (some (-2)) none)) q = some (.lst ((pieceL 24 v.M 2).map V.int)) := by rw [upd_same, ecut]
    have nqL := (S.same S1).F.held nq
    have nqI : ∀ x ∈ A.reads im, x ≠ q := fun x hx z => by
      obtain ⟨o, e⟩ := (S.same S1).I.held hx
      rw [z, nq] at e
      cases e
    generalize upd H1 q (.lst (cutV ((tbL 24 v.M 2).map V.int) (some (-2)) none)) = H2 at s2 e2 ⊢
    have S2 := (S.same S1).same s2
    have nha : B.ha ≠ q := nqL (B.ha, .lst (w.hd.map V.bl)) (by simp [bkL])
    have hdl : w.hd.length = 10 := by rw [Aq.hd]; rfl
    refine ⟨_, rfl, q, rfl, ⟨_, .of e2⟩, for_list (K := K) (a := q) (xs := (pieceL 24 v.M 2).map V.int) (fun i σ H' => ∃ (u8 : Option V) (hd' : List Bool), σ = [some (.ref im), some (.ref B.bk), some (.ref B.wa), some (.ref B.ha), some (.ref B.sa), some (.int (o1 : Int)), some (.ref p1), some (.ref q), u8] ∧ SI T.C_Image T.C_Plan H' im A v 24 5 sl (bkL B o1 { w with hd := hd' } fa fs) ∧ H' q = some (.lst ((pieceL 24 v.M 2).map V.int)) ∧ hd'.length = 10 ∧ ∀ j, j < 10 → hd'[j]? = some (decide (G j ≠ 0) && decide (j ∉ ((pieceL 24 v.M 2).take i).map Int.toNat)))
      ⟨_, w.hd, rfl, S2, e2, hdl, fun j hj => by rw [Aq.hd_ hj]; simp⟩ (fun i σ H' _ ⟨_, _, _, _, e, _⟩ => .of e) ?_ ?_⟩
    · rintro i x σ H' hi ⟨u8, hd', rfl, X, e', hl', hd⟩
      rw [List.getElem?_map] at hi
      obtain ⟨y, hy, rfl⟩ := Option.map_eq_some_iff.mp hi
      have hym := List.mem_of_getElem? hy
      obtain ⟨y0, y10, _, _⟩ := (tbL_mem Aq.s).mp (List.mem_of_mem_drop hym)
      obtain ⟨o, rfl⟩ : ∃ o : Nat, y = o := ⟨y.toNat, by omega⟩
      refine ⟨_, rfl, _, rfl, B.ha, _, _, o, rfl, rfl, X.F.get 3 rfl, ixN_nat rfl (by rw [List.length_map, hl']; omega), ?_⟩
      have X' := X.put 3 (o' := .lst ((hd'.map V.bl).set o (V.bl false))) rfl
      rw [← List.map_set] at X' ⊢
      refine ⟨_, hd'.set o false, rfl, X', by rw [upd_ne (fun z => nha z.symm)]; exact e', by rw [List.length_set]; exact hl', fun j hj => ?_⟩
      have ht : (pieceL 24 v.M 2).take (i + 1) = (pieceL 24 v.M 2).take i ++ [(o : Int)] := takeB hy
      rw [ht, List.map_append]
      by_cases z : j = o
      · subst z
        rw [List.getElem?_set_self (by omega)]
        simp
      · rw [List.getElem?_set_ne (fun q => z q.symm), hd j hj]
        simp [z]
    rintro σ H3 ⟨u8, hd', rfl, X3, e3, hl3, hd3⟩
    rw [List.length_map, List.take_length] at hd3
    obtain ⟨os, hos⟩ : ∃ os, (pieceL 24 v.M 2).reverse.map Int.toNat = os := ⟨_, rfl⟩
    rw [hos] at pn pm pl
    obtain ⟨G', C', kd', us', D, A', ba', g0, gk, te'⟩ := Aq.s.dropS os Aq.te pn fun o ho => ⟨(pm o ho).1, (pm o ho).2.1⟩
    refine ⟨_, rfl, im, A, v, 24, 5, sl, 2, o1, rfl, X3.I, by decide, by decide, f.ok_, Aq.s.o4, by rw [hos]; exact D, fun H4 rs' R4 I4 k4 => ?_⟩
    rw [hos] at I4
    have e4 : H4 q = some (.lst ((pieceL 24 v.M 2).map V.int)) := k4 _ _ e3 fun z => by
      rcases List.mem_append.mp z with z | z
      · refine nqI q ?_ rfl
        simp only [ft3, List.mem_cons, List.not_mem_nil, or_false] at z
        simp only [IA.reads, List.mem_cons]
        rcases z with z | z | z <;> simp [z]
      · exact nqI q (by simp [IA.reads, z]) rfl
    refine ⟨_, rfl, q, _, rfl, .inl (.of e4), _, _, rfl, ?_⟩
    rw [List.length_map, decide_eq_true rfl]
    have X4 : SI T.C_Image T.C_Plan H4 im { A with rs := rs' } (dropS 24 v 2 o1 os) 24 5 sl (bkL B o1 { w with hd := hd' } fa fs) := X3.img I4 (k4.mono fun x hx => foot_mem hx) fun x hx => by
      simp only [IA.reads, List.mem_cons] at hx ⊢
      rcases hx with e | e | e | e | e | e | e | e
      · simp [e]
      · simp [e]
      · simp [e]
      · simp [e]
      · simp [e]
      · simp [e]
      · simp [e]
      · rcases R4 x e with f | f
        · simp [f]
        · exact .inr f
    have osm : ∀ j : Nat, j ∈ (pieceL 24 v.M 2).map Int.toNat ↔ j ∈ os := fun j => by
      rw [← hos, List.map_reverse, List.mem_reverse]
    refine k H4 _ _ { w with hd := hd' } G' C' kd' us' fs X4 { s := A'.mono (by omega), te := te', hd := ?_, wl := Aq.wl, wv := fun c hc => ?_ }
    · apply List.ext_getElem?
      intro j
      by_cases hj : j < 10
      · rw [hd3 j hj, List.getElem?_map, List.getElem?_range hj]
        show _ = some (decide (G' j ≠ 0))
        by_cases z : j ∈ os
        · have hh : ¬ ¬ j ∈ (pieceL 24 v.M 2).map Int.toNat := fun h => h ((osm j).mpr z)
          rw [g0 j z, decide_eq_false hh]
          simp
        · rw [(gk j hj z).1]
          have hh : ¬ j ∈ (pieceL 24 v.M 2).map Int.toNat := fun h => z ((osm j).mp h)
          rw [decide_eq_true hh, Bool.and_true]
      · rw [List.getElem?_eq_none (by show hd'.length ≤ j; omega), List.getElem?_eq_none (by rw [List.length_map, List.length_range]; omega)]
    · show w.ws[c]? = _
      rw [Aq.wv c hc]
      show some (wdV G C w.sz (c : Int)) = some (wdV G' C' w.sz (c : Int))
      rw [wdV_nat, wdV_nat]
      by_cases z : (c : Int) ≥ w.sz
      · rw [if_pos z, if_pos z]
      · have hn : c / 8 ∉ os := fun h => by
          have := (pm _ h).2.2
          omega
        obtain ⟨a, b⟩ := gk (c / 8) (by omega) hn
        unfold cellC
        rw [a, b]
def sp_Lspoil (CI CP : Addr) : Sp := fun vs H Q _ => ∃ (im : Addr) (A : IA) (v : IV) (s : Int) (B : Bk) (w : BV) (fa : Addr) (fs : List Int) (G : Nat → Int) (C : Nat → List Int) (kd us : List Int) (o1 i : Nat), vs = [.ref im, .ref B.bk, .ref fa] ∧ SI CI CP H im A v 24 5 s (bkL B o1 w fa fs) ∧ Ag v w G C kd us o1 i ∧ Nxt CI CP im s B fa o1 (i + 24) Q
theorem ok_Lspoil (T : Tx K mg) : FnOk P w0_ K mg base CX0 4 T.f_Lspoil T.fd_Lspoil ["_law_image", "_law_book", "_law_feed_here"] (sp_Lspoil T.C_Image T.C_Plan) := by
  refine T.F_Lspoil.ok sc_Lspoil (fun vs H Q E h => ?_) (fun cdv A0 outer s H vs Q E hr h => ?_)
  · obtain ⟨_, _, _, _, _, _, _, _, _, _, _, _, _, _, rfl, _⟩ := h; rfl
  · obtain ⟨im, A, v, sl, B, w, fa, fs, G, C, kd, us, o1, ib, rfl, S, Aq, k⟩ := h
    have hr1 : Room 1 _ := hr.mono (by decide)
    refine ⟨_, (pss_cons (ps_asg (pv 1) (pg_lst rfl (pgs_cons (pg_name (i := 3) sc_Lspoil.nd rfl (.inl rfl)) (pgs_cons (pg_name (i := 4) sc_Lspoil.nd rfl (.inl rfl)) (pgs_cons (pg_name (i := 5) sc_Lspoil.nd rfl (.inl rfl)) (pgs_cons (pg_name (i := 6) sc_Lspoil.nd rfl (.inl rfl)) pgs_nil))))))
      (pss_cons (ps_set (i := 7) sc_Lspoil.nd rfl (.inl rfl) (pe_callTy call_int1 rfl T.b_int (by decide +kernel) (pa_cons (pe_ix ix_list (pv 5) pe_int (fun _ _ => rfl)) pa_nil)))
      (Evl.pss_cut (ps_if (PW.pt (pw_and (pt_cmpR op_ne (pe_op op_mod (pv 7) pe_int) pe_int (nomark _)) (pw_and1 (pt_val (pe_ix ix_list (pv 4) (pe_op op_fdiv (pv 7) pe_int) (fun _ _ => rfl))))))
        (pss_cons (ps_set (i := 8) sc_Lspoil.nd rfl (.inl rfl) (pe_ix ix_list (pe_fld (pv 0) rfl) (pe_call (ok_place_block T) hr rfl T.mg_place_block T.F_place_block.kp (b_place_block T) .nil pass0 (pa_cons (pv 0) (pa_cons pe_int (pa_cons (pe_op op_fdiv (pv 7) pe_int) pa_nil)))) (fun _ _ => rfl)))
        (pss_one (ps_for PassesOwn.never rfl (pi_range2 rfl T.b_range (pa_cons (pe_op op_mod (pv 7) pe_int) (pa_cons pe_int pa_nil))) (pg_name (i := 9) sc_Lspoil.nd rfl (.inl rfl))
          (pss_one (ps_asg (pe_op op_add pe_int (pe_call (ok_Lpick T) hr1 rfl T.mg_Lpick T.F_Lpick.kp (b_Lpick T) .nil pass0 (pa_cons (pv 2) (pa_cons pe_int pa_nil)))) (pg_sub (pv 8) (pv 9) set_list))))))
        pss_nil)
      (pss_one (ps_ret pe_bl))))), ?_⟩
    have f := Aq.s.f
    have s0 := Aq.s.s0
    have s8 := Aq.s.s8
    refine ⟨_, rfl, B.bk, _, rfl, .of (S.F.get 1 rfl), rfl, _, _, rfl, _, _, rfl, _, _, rfl, _, _, rfl, rfl, ?_⟩
    refine ⟨_, rfl, B.sa, _, 0, .int w.sz, rfl, rfl, .of (S.F.get 4 rfl), atI_nat (j := 0) rfl, .inl ⟨_, rfl, ?_⟩⟩
    obtain ⟨z, hz⟩ : ∃ z : Nat, w.sz = z := ⟨w.sz.toNat, by omega⟩
    refine ⟨fun σ H' => (∃ u8 u9 : Option V, σ = [some (.ref im), some (.ref B.bk), some (.ref fa), some (.ref B.wa), some (.ref B.ha), some (.ref B.sa), some (.int (o1 : Int)), some (.int w.sz), u8, u9]) ∧ ∃ (M' : List (List Int)) (C' : Nat → List Int) (fs' : List Int), SI T.C_Image T.C_Plan H' im A { v with M := M' } 24 5 sl (bkL B o1 w fa fs') ∧ Stt M' G C' kd us w.sz o1 ib ∧ ∀ c : Nat, (c : Int) < w.sz → cellC C' c = cellC C c, ?_, ?_⟩
    · refine ⟨_, rfl, _, _, rfl, rfl, (by show (0 : Int) < 8; decide), rfl, _, rfl, ?_⟩
      rw [dec_iv]
      by_cases e1 : w.sz % 8 = 0
      · rw [decide_eq_true e1]
        exact iteF ⟨⟨_, _, rfl⟩, v.M, C, fs, S, Aq.s, fun _ _ => rfl⟩
      · rw [decide_eq_false e1]
        have hq : z / 8 < 10 := by omega
        have eh : (w.hd.map V.bl)[z / 8]? = some (V.bl (decide (G (z / 8) ≠ 0))) := by rw [List.getElem?_map, Aq.hd_ hq]; rfl
        refine iteT ⟨_, rfl, _, rfl, _, _, rfl, rfl, (by show CDiv _ 8; exact ⟨by decide, by decide⟩), B.ha, _, w.sz / 8, _, rfl, rfl, .of (S.F.get 3 rfl), at_of (j := z / 8) (by omega) eh, _, rfl, ?_⟩
        by_cases e2 : G (z / 8) = 0
        · rw [decide_eq_false (by simp [e2])]
          exact iteF ⟨⟨_, _, rfl⟩, v.M, C, fs, S, Aq.s, fun _ _ => rfl⟩
        · rw [decide_eq_true e2]
          have pq := f.pf _ (by omega) e2
          obtain ⟨x, ex⟩ : ∃ x : Nat, G (z / 8) = x := ⟨(G (z / 8)).toNat, by omega⟩
          obtain ⟨r, row, r1, r2, r3, r4⟩ := S.I.rowAt (x := x) (by omega)
          refine iteT ⟨_, rfl, im, _, _, _, _, rfl, S.I.ob, T.cl_Image, T.na_Image_cells, rfl, _, rfl, _, rfl, _, _, rfl, rfl, (by show CDiv _ 8; exact ⟨by decide, by decide⟩), im, A, v, 24, 5, sl, 2, z / 8, ?_, S.I, by decide, by decide, hq, f.ok_, A.ca, _, _, .ref r, rfl, rfl, .of S.I.gr.out, at_of (j := x) (by rw [f.v_ hq]; exact ex) (by rw [List.getElem?_map, r1]; rfl), ?_⟩
          · show [V.ref im, V.int 2, V.int (w.sz / 8)] = _
            rw [show w.sz / 8 = ((z / 8 : Nat) : Int) by omega]
          obtain ⟨j, hj⟩ : ∃ j : Nat, w.sz % 8 = j := ⟨(w.sz % 8).toNat, by omega⟩
          refine ⟨_, rfl, _, _, rfl, rfl, (by show (0 : Int) < 8; decide), j, 8, (by show [V.int (w.sz % 8), V.int 8] = _; rw [hj]), ⟨by omega, by omega, by decide, by decide⟩, for_range (lo := j) (n := ((8 : Int) - j).toNat) (fun i σ H' => (∃ u9 : Option V, σ = [some (.ref im), some (.ref B.bk), some (.ref fa), some (.ref B.wa), some (.ref B.ha), some (.ref B.sa), some (.int (o1 : Int)), some (.int w.sz), some (.ref r), u9]) ∧ ∃ (M' : List (List Int)) (C' : Nat → List Int) (fs' : List Int), SI T.C_Image T.C_Plan H' im A { v with M := M' } 24 5 sl (bkL B o1 w fa fs') ∧ Stt M' G C' kd us w.sz o1 ib ∧ ∀ c : Nat, (c : Int) < w.sz → cellC C' c = cellC C c) ⟨⟨_, rfl⟩, v.M, C, fs, S, Aq.s, fun _ _ => rfl⟩ ?_ ?_⟩
          · rintro i σ H' hi ⟨⟨u9, rfl⟩, M', C', fs', X, A', hc⟩
            refine ⟨_, rfl, fa, fs', 999, rfl, X.F.get 0 rfl, by decide, fun rr f2 rr0 rr1 fl => ?_⟩
            have X1 := X.feed f2
            generalize upd H' fa (.lst (f2.map V.int)) = H1 at X1 ⊢
            obtain ⟨r', row', r1', r2', r3', r4'⟩ := X1.I.rowAt (x := x) (by omega)
            have er : r' = r := by
              rw [r1] at r1'
              exact (Option.some.inj r1').symm
            subst er
            refine ⟨_, _, rfl, rfl, _, rfl, _, rfl, r', _, _, j + i, rfl, rfl, r4', ixN_nat rfl (by rw [List.length_map, r3']; omega), ?_⟩
            have I2 := X1.I.setC (j := j + i) (x := 1 + rr) r1' r2'
            have X2 := X1.img I2 (Kp.refl.own (by have := List.mem_of_getElem? r1'; simp [IA.reads, this])) (fun x hx => .inl hx)
            have B2 := A'.word (j := j + i) (y := 1 + rr) hq e2
            rw [ex, show ((x : Int)).toNat = x by omega] at B2
            refine ⟨⟨_, rfl⟩, _, _, f2, X2, B2, fun c hcs => ?_⟩
            rw [cellC_set A'.f.c8 (by omega), if_neg (by omega)]
            exact hc c hcs
          · rintro σ H' ⟨⟨u9, rfl⟩, M', C', fs', X, A', hc⟩
            exact ⟨⟨_, _, rfl⟩, M', C', fs', X, A', hc⟩
    rintro σ H' ⟨⟨u8, u9, rfl⟩, M', C', fs', X, A', hc⟩
    refine k H' A _ w G C' kd us fs' X { s := A'.mono (by omega), te := Aq.te, hd := Aq.hd, wl := Aq.wl, wv := fun c h => ?_ }
    rw [Aq.wv c h, wdV_nat, wdV_nat]
    by_cases z2 : (c : Int) ≥ w.sz
    · rw [if_pos z2, if_pos z2]
    · rw [if_neg z2, if_neg z2, hc c (by omega)]
end
end K06
namespace K06
open PySem PySem.Spec PyProof.Rows L2 Rg
section
variable {v : IV} {w : BV} {M : List (List Int)} {G : Nat → Int} {C : Nat → List Int} {kd us : List Int} {sz : Int} {o1 i : Nat}
theorem holes_mem (A : Stt M G C kd us sz o1 i) {a e : Nat} (h1 : a < e) (h2 : e ≤ 80) {o : Nat} : o ∈ holesN 24 M 2 ((a : Int) / 8) (((e : Int) - 1) / 8) ↔ a / 8 ≤ o ∧ o ≤ (e - 1) / 8 ∧ G o = 0 := by
  unfold holesN holesL
  rw [List.mem_map]
  constructor
  · rintro ⟨x, hx, rfl⟩
    obtain ⟨m1, m2⟩ := List.mem_filter.mp hx
    have := rng_mem m1
    have m3 := of_decide_eq_true m2
    rw [A.f.v_ (by omega)] at m3
    exact ⟨by omega, by omega, m3⟩
  · rintro ⟨h3, h4, h5⟩
    refine ⟨(o : Int), List.mem_filter.mpr ⟨rng_in (by omega) (by omega), ?_⟩, by omega⟩
    rw [show ((o : Int)).toNat = o by omega, A.f.v_ (by omega), h5]
    rfl
theorem rng_nodup {lo : Int} {n : Nat} : (rng lo n).Nodup := by
  unfold rng List.Nodup
  rw [List.pairwise_map]
  exact List.Pairwise.imp (fun h e => h (by omega)) (List.nodup_range (n := n))
theorem holes_nd {a e : Nat} : (holesN 24 M 2 ((a : Int) / 8) (((e : Int) - 1) / 8)).Nodup := by
  unfold holesN holesL List.Nodup
  rw [List.pairwise_map]
  refine List.Pairwise.imp_of_mem ?_ (rng_nodup.filter _)
  intro x y hx hy hxy e'
  have := rng_mem (List.mem_filter.mp hx).1
  have := rng_mem (List.mem_filter.mp hy).1
  exact hxy (by omega)
theorem holes_len {a e : Nat} (h2 : e ≤ 80) : (holesN 24 M 2 ((a : Int) / 8) (((e : Int) - 1) / 8)).length ≤ 10 := by
  unfold holesN holesL
  rw [List.length_map]
  refine Nat.le_trans (List.length_filter_le _ _) ?_
  rw [rng_len]
  omega
theorem Stt.write (A : Stt v.M G C kd us sz o1 i) (hba : v.ba = []) (te : Te G) (hi : i < 900) (nl : ¬ 0 < (tbL 24 v.M 2).length) {a : Nat} {ws : List Int} (hn : 1 ≤ ws.length) (he : a + ws.length ≤ 80) :
    ∃ (v1 : IV) (G1 : Nat → Int) (C3 : Nat → List Int) (kd1 us1 : List Int), K06.takeRs 24 5 2 o1 v (holesN 24 v.M 2 ((a : Int) / 8) ((((a + ws.length : Nat) : Int) - 1) / 8)) = .ok v1 ∧ TkOk 24 5 2 o1 v (holesN 24 v.M 2 ((a : Int) / 8) ((((a + ws.length : Nat) : Int) - 1) / 8)) ∧
      PlcOk 24 5 v1.M 2 ∧ (∀ o, o < 10 → PlOk 24 5 v1.M 2 o) ∧ 0 ≤ cellAt v1.M (nrow 24 2) 2 ∧ cellAt v1.M (nrow 24 2) 2 ≤ 80 ∧ WrOk 24 5 2 (a : Int) (szM 24 v1.M 2 ((a + ws.length : Nat) : Int)) ws 0 ∧
      Stt (wrM 24 2 (a : Int) (szM 24 v1.M 2 ((a + ws.length : Nat) : Int)) ws 0) G1 C3 kd1 us1 (if ((a + ws.length : Nat) : Int) > sz then ((a + ws.length : Nat) : Int) else sz) o1 (i + 24) ∧ Te G1 ∧ (∀ o, o < 10 → (G1 o ≠ 0 ↔ (a / 8 ≤ o ∧ o ≤ (a + ws.length - 1) / 8) ∨ G o ≠ 0)) ∧
      ∀ c : Nat, c < 80 → wdV G1 C3 (if ((a + ws.length : Nat) : Int) > sz then ((a + ws.length : Nat) : Int) else sz) (c : Int) = if a ≤ c ∧ c < a + ws.length then (ws[c - a]?).getD 0 else wdV G C sz (c : Int) := by
  have s0 := A.s0
  have s8 := A.s8
  obtain ⟨e, hee⟩ : ∃ e, a + ws.length = e := ⟨_, rfl⟩
  rw [hee] at he ⊢
  have hl := holes_len (M := v.M) (a := a) he
  have hm : ∀ o, o ∈ holesN 24 v.M 2 ((a : Int) / 8) (((e : Int) - 1) / 8) ↔ a / 8 ≤ o ∧ o ≤ (e - 1) / 8 ∧ G o = 0 := fun o => holes_mem A (by omega) he
  obtain ⟨os, hos⟩ : ∃ os, holesN 24 v.M 2 ((a : Int) / 8) (((e : Int) - 1) / 8) = os := ⟨_, rfl⟩
  have hnd : os.Nodup := by rw [← hos]; exact holes_nd
  rw [hos] at hl hm ⊢
  obtain ⟨v1, G1, C1, kd1, us1, e1, T1, A1, b1, w1, se1, g1, r1, te1⟩ := Stt.takeRs os A hba te (by omega) hnd fun o ho => by
    obtain ⟨h1, h2, h3⟩ := (hm o).mp ho
    exact ⟨by omega, h3⟩
  have hG1 : ∀ o, o < 10 → (G1 o ≠ 0 ↔ (a / 8 ≤ o ∧ o ≤ (e - 1) / 8) ∨ G o ≠ 0) := fun o ho => by
    by_cases z : o ∈ os
    · obtain ⟨h1, h2, h3⟩ := (hm o).mp z
      exact ⟨fun _ => .inl ⟨h1, h2⟩, fun _ => (g1 o z).1⟩
    · rw [(r1 o ho z).1]
      refine ⟨.inr, fun h => ?_⟩
      rcases h with ⟨h1, h2⟩ | h
      · exact fun q => z ((hm o).mpr ⟨h1, h2, q⟩)
      · exact h
  -- what stands where nothing is written
  have old : ∀ c : Nat, c < 80 → wdV G1 C1 sz (c : Int) = wdV G C sz (c : Int) := fun c hc => by
    rw [wdV_nat, wdV_nat]
    by_cases z : (c : Int) ≥ sz
    · rw [if_pos z, if_pos z]
    · rw [if_neg z, if_neg z]
      by_cases q : c / 8 ∈ os
      · obtain ⟨h1, h2, h3⟩ := (hm _).mp q
        rw [if_neg (g1 _ q).1, if_pos h3]
        unfold cellC
        rw [(g1 _ q).2, List.getElem?_replicate, if_pos (by omega)]
        rfl
      · obtain ⟨x, y⟩ := r1 (c / 8) (by omega) q
        unfold cellC
        rw [x, y]
  obtain ⟨s', hs'⟩ : ∃ s', (if (e : Int) > sz then (e : Int) else sz) = s' := ⟨_, rfl⟩
  have hes : (e : Int) ≤ s' := by
    have hq : s' = if (e : Int) > sz then (e : Int) else sz := hs'.symm
    split at hq <;> omega
  rw [hs']
  obtain ⟨C2, A2, hc2⟩ : ∃ C2, Stt (szM 24 v1.M 2 (e : Int)) G1 C2 kd1 us1 s' o1 (i + 2 * os.length) ∧ ∀ c : Nat, c < 80 → wdV G1 C2 s' (c : Int) = wdV G C sz (c : Int) := by
    unfold szM
    rw [A1.f.sz_]
    by_cases z : (e : Int) > sz
    · rw [if_pos z]
      rw [if_pos z] at hs'
      subst hs'
      obtain ⟨C2, B, hb⟩ := A1.psM (s := (e : Int)) (by omega) (by omega) (.inr fun o ho h8 => by
        by_cases q : o ∈ os
        · exact .inr (g1 o q).2
        · left
          rw [(r1 o ho q).1]
          exact tb0 A nl ho h8)
      refine ⟨C2, B, fun c hc => ?_⟩
      rw [hb]
      by_cases q : (c : Int) < e
      · rw [if_pos q, old c hc]
      · rw [if_neg q, wdV_nat, if_pos (by omega)]
    · rw [if_neg z]
      rw [if_neg z] at hs'
      subst hs'
      exact ⟨C1, A1, old⟩
  obtain ⟨W, C3, A3, hc3⟩ := Stt.wr ws (a := a) (k := 0) A2 fun t h1 h2 => ⟨by omega, (hG1 (t / 8) (by omega)).mpr (.inl ⟨by omega, by omega⟩)⟩
  refine ⟨v1, G1, C3, kd1, us1, e1, T1, A1.f.ok_, fun o ho => A1.f.pl_ ho, by rw [A1.f.sz_]; exact s0, by rw [A1.f.sz_]; exact s8, W, A3.mono (by omega), te1, hG1, fun c hc => ?_⟩
  have h3 := hc3 c
  rw [Nat.add_zero] at h3
  by_cases z : a ≤ c ∧ c < e
  · rw [if_pos z, wdV_nat, if_neg (by omega), if_neg ((hG1 (c / 8) (by omega)).mpr (.inl ⟨by omega, by omega⟩)), h3, if_pos (by omega)]
  · have h4 : cellC C3 c = cellC C2 c := by rw [h3, if_neg (by omega)]
    rw [if_neg z, ← hc2 c hc, wdV_nat, wdV_nat, h4]
end
end K06
namespace K06
open PySem PySem.Spec PyProof.Rows L2 Rg
section
variable {P : Program} {w0_ : World} {K : PySem.W.Frag} {mg : Str → Option Value} {base : Heap}
theorem late_eq {v : IV} {G : Nat → Int} {C : Nat → List Int} {kd us : List Int} {sz : Int} {o1 i : Nat} (A : Stt v.M G C kd us sz o1 i) : late 24 v.M 2 = decide (0 < (tbL 24 v.M 2).length) := by
  unfold late
  rw [A.f.kd_, decide_eq_true rfl, Bool.true_and]
theorem len_gt {l : List Int} : decide (((l.map V.int).length : Int) > 0) = decide (0 < l.length) := by
  rw [List.length_map]
  by_cases z : 0 < l.length
  · rw [decide_eq_true z, decide_eq_true (by omega)]
  · rw [decide_eq_false z, decide_eq_false (by omega)]
def sp_Lsize (CI CP : Addr) : Sp := fun vs H Q _ => ∃ (im : Addr) (A : IA) (v : IV) (s : Int) (B : Bk) (w : BV) (fa : Addr) (fs : List Int) (G : Nat → Int) (C : Nat → List Int) (kd us : List Int) (o1 i : Nat), vs = [.ref im, .ref B.bk, .ref fa] ∧ SI CI CP H im A v 24 5 s (bkL B o1 w fa fs) ∧ Ag v w G C kd us o1 i ∧ Nxt CI CP im s B fa o1 (i + 24) Q
theorem ok_Lsize (T : Tx K mg) : FnOk P w0_ K mg base CX0 8 T.f_Lsize T.fd_Lsize ["_law_image", "_law_book", "_law_feed_here"] (sp_Lsize T.C_Image T.C_Plan) := by
  refine T.F_Lsize.ok sc_Lsize (fun vs H Q E h => ?_) (fun cdv A0 outer s H vs Q E hr h => ?_)
  · obtain ⟨_, _, _, _, _, _, _, _, _, _, _, _, _, _, rfl, _⟩ := h; rfl
  · obtain ⟨im, A, v, sl, B, w, fa, fs, G, C, kd, us, o1, ib, rfl, S, Aq, k⟩ := h
    have hr1 : Room 1 _ := hr.mono (by decide)
    have hr6 : Room 6 _ := hr.mono (by decide)
    refine ⟨_, (pss_cons (ps_asg (pv 1) (pg_lst rfl (pgs_cons (pg_name (i := 3) sc_Lsize.nd rfl (.inl rfl)) (pgs_cons (pg_name (i := 4) sc_Lsize.nd rfl (.inl rfl)) (pgs_cons (pg_name (i := 5) sc_Lsize.nd rfl (.inl rfl)) (pgs_cons (pg_name (i := 6) sc_Lsize.nd rfl (.inl rfl)) pgs_nil))))))
      (pss_cons (ps_set (i := 7) sc_Lsize.nd rfl (.inl rfl) (pe_call (ok_Lpick T) hr1 rfl T.mg_Lpick T.F_Lpick.kp (b_Lpick T) .nil pass0 (pa_cons (pv 2) (pa_cons pe_int pa_nil))))
      (Evl.pss_cut (ps_if (pt_cmpR op_eq (pe_call (ok_Lpick T) hr1 rfl T.mg_Lpick T.F_Lpick.kp (b_Lpick T) .nil pass0 (pa_cons (pv 2) (pa_cons pe_int pa_nil))) pe_int (nomark _))
        (pss_one (ps_set (i := 7) sc_Lsize.nd rfl (.inl rfl) (pe_op op_add pe_int (pe_call (ok_Lpick T) hr1 rfl T.mg_Lpick T.F_Lpick.kp (b_Lpick T) .nil pass0 (pa_cons (pv 2) (pa_cons pe_int pa_nil))))))
        pss_nil)
      (Evl.pss_cut (ps_set (i := 8) sc_Lsize.nd rfl (.inl rfl) (pe_and (pe_cmpR op_gt (pv 7) (pe_ix ix_list (pv 5) pe_int (fun _ _ => rfl)) (nomark _)) (pe_one (pe_cmpR op_gt (pe_callB call_len_seq rfl T.b_len (by decide +kernel) (pa_cons (pe_call (ok_Lbehind T) hr1 rfl T.mg_Lbehind T.F_Lbehind.kp (b_Lbehind T) .nil pass0 (pa_cons (pv 1) pa_nil)) pa_nil)) pe_int (nomark _)))))
      (pss_cons (ps_if (PW.pt (pw_or (pt_val (pv 8)) (pw_or1 (pt_cmpR op_gt (pv 7) pe_int (nomark _)))))
        (pss_one (ps_ret (pe_call (ok_Lsize_refused T) hr rfl T.mg_Lsize_refused T.F_Lsize_refused.kp (b_Lsize_refused T) .nil pass0 (pa_cons (pv 0) (pa_cons (pv 7) (pa_cons (pv 8) pa_nil))))))
        pss_nil)
      (pss_cons (ps_for PassesOwn.never rfl (pi_range2 rfl T.b_range (pa_cons (pv 7) (pa_cons pe_int pa_nil))) (pg_name (i := 9) sc_Lsize.nd rfl (.inl rfl))
        (pss_one (ps_asg pe_int (pg_sub (pv 3) (pv 9) set_list))))
      (pss_cons (ps_asg (pv 7) (pg_sub (pv 5) pe_int set_list))
      (pss_one (ps_ret (pe_cmpR op_isN (pe_call (ok_set_size T) hr6 rfl T.mg_set_size T.F_set_size.kp (b_set_size T) .nil passLN (pa_cons (pv 0) (pa_cons pe_int (pa_cons (pv 7) pa_nil)))) pe_non (nomark _))))))))))), ?_⟩
    have f := Aq.s.f
    have s0 := Aq.s.s0
    have s8 := Aq.s.s8
    have wl := Aq.wl
    have pl : ∀ o, o < 10 → PlOk 24 5 v.M 2 o := fun o ho => f.pl_ ho
    refine ⟨_, rfl, B.bk, _, rfl, .of (S.F.get 1 rfl), rfl, _, _, rfl, _, _, rfl, _, _, rfl, _, _, rfl, rfl, ?_⟩
    refine ⟨_, rfl, fa, fs, 81, rfl, S.F.get 0 rfl, by decide, fun r1 f1 r10 r11 fl1 => ?_⟩
    have S1 := S.feed f1
    refine ⟨fun σ H' => ∃ (n : Nat) (fs' : List Int), σ = [some (.ref im), some (.ref B.bk), some (.ref fa), some (.ref B.wa), some (.ref B.ha), some (.ref B.sa), some (.int (o1 : Int)), some (.int (n : Int)), none, none] ∧ n < 100 ∧ SI T.C_Image T.C_Plan H' im A v 24 5 sl (bkL B o1 w fa fs'), ?_, ?_⟩
    · refine ⟨_, rfl, fa, f1, 8, rfl, S1.F.get 0 rfl, by decide, fun r2 f2 r20 r21 fl2 => ?_⟩
      have S2 := S1.feed f2
      refine ⟨rfl, _, rfl, ite2 (fun _ => ?_) (fun _ => ?_)⟩
      · refine ⟨_, rfl, fa, f2, 19, rfl, S2.F.get 0 rfl, by decide, fun r3 f3 r30 r31 fl3 => ?_⟩
        have S3 := S2.feed f3
        refine ⟨_, _, rfl, rfl, ?_⟩
        obtain ⟨n, hn⟩ : ∃ n : Nat, 81 + r3 = n := ⟨(81 + r3).toNat, by omega⟩
        exact ⟨n, f3, by rw [← hn]; rfl, by omega, S3⟩
      · obtain ⟨n, rfl⟩ : ∃ n : Nat, r1 = n := ⟨r1.toNat, by omega⟩
        exact ⟨n, f2, rfl, by omega, S2⟩
    rintro σ H2 ⟨n, fs2, rfl, hn, S2⟩
    -- late
    refine ⟨fun σ H' => ∃ lt : Bool, σ = [some (.ref im), some (.ref B.bk), some (.ref fa), some (.ref B.wa), some (.ref B.ha), some (.ref B.sa), some (.int (o1 : Int)), some (.int (n : Int)), some (.bl lt), none] ∧ (lt = true ↔ ((n : Int) > w.sz ∧ late 24 v.M 2 = true)) ∧ SI T.C_Image T.C_Plan H' im A v 24 5 sl (bkL B o1 w fa fs2), ?_, ?_⟩
    · refine ⟨_, rfl, _, rfl, B.sa, _, 0, .int w.sz, rfl, rfl, .of (S2.F.get 4 rfl), atI_nat (j := 0) rfl, _, _, rfl, rfl, _, rfl, ?_⟩
      by_cases z : (n : Int) > w.sz
      · rw [decide_eq_true z]
        refine iteT ⟨_, rfl, im, A, v, sl, B, w, fa, fs2, G, C, kd, us, o1, ib, rfl, S2, Aq, fun H3 p3 S3 np3 e3 => ?_⟩
        refine ⟨p3, _, rfl, .inl (.of e3), _, _, rfl, rfl, _, rfl, ?_, S2.same S3⟩
        rw [len_gt, ← late_eq Aq.s]
        exact ⟨fun h => ⟨z, h⟩, fun h => h.2⟩
      · rw [decide_eq_false z]
        refine iteF ⟨_, rfl, ⟨fun h => (by cases h), fun h => absurd h.1 z⟩, S2⟩
    rintro σ H3 ⟨lt, rfl, hlt, S3⟩
    have ref : (lt = true ∨ (n : Int) > 80) → ∀ H', Same H3 H' → Q (.bl true) H' := fun _ H' s' => k H' A v w G C kd us fs2 (S3.same s') { Aq with s := Aq.s.mono (by omega) }
    have rfs : (lt = true ∨ (n : Int) > 80) → sp_Lsize_refused T.C_Image T.C_Plan [.ref im, .int (n : Int), .bl lt] H3 Q E0 := fun hc => ⟨im, A, v, sl, n, lt, rfl, S3.I, f.ok_, pl, by rw [f.sz_]; exact s0, by rw [f.sz_]; exact s8, by omega, by rw [f.sz_]; exact hlt, hc, ref hc⟩
    cases lt with
    | true =>
      exact ⟨_, rfl, _, rfl, iteT ⟨_, rfl, _, rfl, _, rfl, rfs (.inl rfl)⟩⟩
    | false =>
    refine ⟨_, rfl, _, rfl, iteF ⟨_, rfl, _, _, rfl, rfl, _, rfl, ite2 (fun z => ?_) (fun z => ?_)⟩⟩
    · exact ⟨_, rfl, _, rfl, _, rfl, rfs (.inr (of_decide_eq_true z))⟩
    have n80 : n ≤ 80 := by
      have : ¬ ((n : Int) > 80) := fun y => z (decide_eq_true y)
      omega
    have nlate : ¬ ((n : Int) > w.sz ∧ late 24 v.M 2 = true) := fun y => by
      have := hlt.mpr y
      cases this
    -- the words behind the size
    refine ⟨_, rfl, (n : Int), 80, rfl, ⟨by omega, by omega, by omega, by omega⟩, for_range (lo := (n : Int)) (n := ((80 : Int) - n).toNat) (fun i σ H' => ∃ (u9 : Option V) (ws' : List Int), σ = [some (.ref im), some (.ref B.bk), some (.ref fa), some (.ref B.wa), some (.ref B.ha), some (.ref B.sa), some (.int (o1 : Int)), some (.int (n : Int)), some (.bl false), u9] ∧ SI T.C_Image T.C_Plan H' im A v 24 5 sl (bkL B o1 { w with ws := ws' } fa fs2) ∧ ws'.length = 80 ∧ ∀ c : Nat, c < 80 → ws'[c]? = some (if n ≤ c ∧ c < n + i then 0 else wdV G C w.sz (c : Int))) ⟨_, w.ws, rfl, S3, wl, fun c hc => by rw [if_neg (by omega)]; exact Aq.wv c hc⟩ ?_ ?_⟩
    · rintro i σ H' hi ⟨u9, ws', rfl, X, hl', hw⟩
      refine ⟨_, rfl, _, rfl, B.wa, _, _, n + i, rfl, rfl, X.F.get 2 rfl, ixN_nat rfl (by rw [List.length_map, hl']; omega), ?_⟩
      have X' := X.put 2 (o' := .lst ((ws'.map V.int).set (n + i) (V.int 0))) rfl
      rw [← List.map_set] at X' ⊢
      refine ⟨_, ws'.set (n + i) 0, rfl, X', by rw [List.length_set]; exact hl', fun c hc => ?_⟩
      rw [set_at (by omega), hw c hc]
      by_cases q : c = n + i
      · rw [if_pos q, if_pos (by omega)]
      · rw [if_neg q]
        by_cases q2 : n ≤ c ∧ c < n + i
        · rw [if_pos q2, if_pos (by omega)]
        · rw [if_neg q2, if_neg (by omega)]
    rintro σ H4 ⟨u9, ws', rfl, X4, hl4, hw4⟩
    refine ⟨_, rfl, _, rfl, B.sa, _, _, 0, rfl, rfl, X4.F.get 4 rfl, ixN_nat rfl (by show 0 < 1; decide), ?_⟩
    have X5 := X4.put 4 (o' := .lst [V.int (n : Int)]) rfl
    change SI _ _ (upd H4 B.sa (.lst ([V.int w.sz].set 0 (V.int (n : Int))))) _ _ _ _ _ _ _ at X5
    generalize upd H4 B.sa (.lst ([V.int w.sz].set 0 (V.int (n : Int)))) = H5 at X5 ⊢
    change SI T.C_Image T.C_Plan H5 im A v 24 5 sl (bkL B o1 { w with ws := ws', sz := (n : Int) } fa fs2) at X5
    have hl : (n : Int) ≤ w.sz ∨ ∀ o : Nat, o < 10 → 8 * (o : Int) ≥ w.sz → G o = 0 ∨ C o = List.replicate 8 0 := by
      by_cases z : (n : Int) ≤ w.sz
      · exact .inl z
      · refine .inr fun o ho h8 => .inl (tb0 Aq.s (fun y => nlate ⟨by omega, ?_⟩) ho h8)
        rw [late_eq Aq.s]
        exact decide_eq_true y
    obtain ⟨C', A', hc'⟩ := Aq.s.psM (s := (n : Int)) (by omega) (by omega) hl
    refine ⟨_, rfl, _, rfl, im, A, v, 24, 5, sl, 2, n, rfl, X5.I, by decide, by decide, f.ok_, pl, by rw [f.sz_]; exact s0, by rw [f.sz_]; exact s8, by omega, (fun g e => absurd ⟨by rw [f.sz_] at g; exact g, e⟩ nlate), (fun _ g => by omega), fun _ _ H6 I6 k6 => ?_⟩
    have X6 := X5.img I6 (k6.mono fun x hx => by simp [IA.reads, hx]) (fun x hx => .inl hx)
    refine ⟨rfl, ?_⟩
    refine k H6 A _ { w with ws := ws', sz := (n : Int) } G C' kd us fs2 X6 { s := A'.mono (by omega), te := Aq.te, hd := Aq.hd, wl := hl4, wv := fun c hc => ?_ }
    show ws'[c]? = some (wdV G C' (n : Int) (c : Int))
    rw [hw4 c hc, hc']
    by_cases q : n ≤ c ∧ c < n + ((80 : Int) - n).toNat
    · rw [if_pos q, if_neg (by omega)]
    · rw [if_neg q, if_pos (by omega)]
end
end K06
namespace K06
open PySem PySem.Spec PyProof.Rows L2 Rg
section
variable {CI CP : Addr} {H : Hp} {im : Addr} {A : IA} {v : IV} {b n s : Int} {L : List (Addr × HO)}
/-- one more place -/
theorem SI.cons (S : SI CI CP H im A v b n s L) {a : Addr} {o : HO} (h : H a = none) : SI CI CP (upd H a o) im A v b n s ((a, o) :: L) :=
  ⟨S.I.keep (same_upd h), S.F.cons h, fun p hp => by
    rcases List.mem_cons.mp hp with rfl | hp
    · intro z
      obtain ⟨o', e⟩ := S.I.held z
      rw [h] at e
      cases e
    · exact S.ap p hp⟩
theorem SI.front (S : SI CI CP H im A v b n s L) (i : Nat) {p : Addr × HO} (h : L[i]? = some p) : SI CI CP H im A v b n s (p :: L.eraseIdx i) := by
  have hi : i < L.length := (List.getElem?_eq_some_iff.mp h).1
  have pm : (p :: L.eraseIdx i).Perm L := by
    rw [List.getElem?_eq_getElem hi] at h
    have e : L = L.take i ++ p :: L.drop (i + 1) := by
      rw [← Option.some.inj h, ← List.drop_eq_getElem_cons hi, List.take_append_drop]
    rw [List.eraseIdx_eq_take_drop_succ]
    exact (List.perm_middle.symm).trans (.of_eq e.symm)
  exact ⟨S.I, ⟨fun q hq => S.F.at_ q (pm.mem_iff.mp hq), (pm.map (·.1)).nodup_iff.mpr S.F.nd⟩, fun q hq => S.ap q (pm.mem_iff.mp hq)⟩
theorem SI.sub (S : SI CI CP H im A v b n s L) {L' : List (Addr × HO)} (h : L'.Sublist L) : SI CI CP H im A v b n s L' :=
  ⟨S.I, ⟨fun q hq => S.F.at_ q (h.subset hq), S.F.nd.sublist (h.map _)⟩, fun q hq => S.ap q (h.subset hq)⟩
end
section
variable {P : Program} {w0_ : World} {K : PySem.W.Frag} {mg : Str → Option Value} {base : Heap}
def wkL (bs wt : Int) (n : Nat) : List Int := (List.range n).map fun k : Nat => (bs + (k : Int)) * wt
theorem wkL_at {bs wt : Int} {n i : Nat} (h : i < n) : (wkL bs wt n)[i]? = some ((bs + (i : Int)) * wt) := by
  unfold wkL
  rw [List.getElem?_map, List.getElem?_range h]
  rfl
theorem wkL_len {bs wt : Int} {n : Nat} : (wkL bs wt n).length = n := by unfold wkL; simp
def sp_Lwrite (CI CP : Addr) : Sp := fun vs H Q _ => ∃ (im : Addr) (A : IA) (v : IV) (s : Int) (B : Bk) (w : BV) (fa : Addr) (fs : List Int) (G : Nat → Int) (C : Nat → List Int) (kd us : List Int) (o1 i : Nat), vs = [.ref im, .ref B.bk, .ref fa] ∧ SI CI CP H im A v 24 5 s (bkL B o1 w fa fs) ∧ Ag v w G C kd us o1 i ∧ v.ba = [] ∧ i < 900 ∧ Nxt CI CP im s B fa o1 (i + 24) Q
theorem ok_Lwrite (T : Tx K mg) : FnOk P w0_ K mg base CX0 11 T.f_Lwrite T.fd_Lwrite ["_law_image", "_law_book", "_law_feed_here"] (sp_Lwrite T.C_Image T.C_Plan) := by
  refine T.F_Lwrite.ok sc_Lwrite (fun vs H Q E h => ?_) (fun cdv A0 outer s H vs Q E hr h => ?_)
  · obtain ⟨_, _, _, _, _, _, _, _, _, _, _, _, _, _, rfl, _⟩ := h; rfl
  · obtain ⟨im, A, v, sl, B, w, fa, fs, G, C, kd, us, o1, ib, rfl, S, Aq, hba, hib, k⟩ := h
    have hr1 : Room 1 _ := hr.mono (by decide)
    have hr9 : Room 9 _ := hr.mono (by decide)
    refine ⟨_, (pss_cons (ps_asg (pv 1) (pg_lst rfl (pgs_cons (pg_name (i := 3) sc_Lwrite.nd rfl (.inl rfl)) (pgs_cons (pg_name (i := 4) sc_Lwrite.nd rfl (.inl rfl)) (pgs_cons (pg_name (i := 5) sc_Lwrite.nd rfl (.inl rfl)) (pgs_cons (pg_name (i := 6) sc_Lwrite.nd rfl (.inl rfl)) pgs_nil))))))
      (pss_cons (ps_set (i := 7) sc_Lwrite.nd rfl (.inl rfl) (pe_call (ok_Lpick T) hr1 rfl T.mg_Lpick T.F_Lpick.kp (b_Lpick T) .nil pass0 (pa_cons (pv 2) (pa_cons pe_int pa_nil))))
      (Evl.pss_cut (ps_if (pt_cmpR op_eq (pe_call (ok_Lpick T) hr1 rfl T.mg_Lpick T.F_Lpick.kp (b_Lpick T) .nil pass0 (pa_cons (pv 2) (pa_cons pe_int pa_nil))) pe_int (nomark _))
        (pss_one (ps_set (i := 7) sc_Lwrite.nd rfl (.inl rfl) (pe_op op_add pe_int (pe_call (ok_Lpick T) hr1 rfl T.mg_Lpick T.F_Lpick.kp (b_Lpick T) .nil pass0 (pa_cons (pv 2) (pa_cons pe_int pa_nil))))))
        pss_nil)
      (pss_cons (ps_set (i := 8) sc_Lwrite.nd rfl (.inl rfl) (pe_op op_add pe_int (pe_call (ok_Lpick T) hr1 rfl T.mg_Lpick T.F_Lpick.kp (b_Lpick T) .nil pass0 (pa_cons (pv 2) (pa_cons pe_int pa_nil)))))
      (pss_cons (ps_set (i := 9) sc_Lwrite.nd rfl (.inr rfl) (pe_call (ok_Lpick T) hr1 rfl T.mg_Lpick T.F_Lpick.kp (b_Lpick T) .nil pass0 (pa_cons (pv 2) (pa_cons pe_int pa_nil))))
      (pss_cons (ps_set (i := 10) sc_Lwrite.nd rfl (.inr rfl) (pe_ix ix_list (pe_lst (pa_cons pe_int (pa_cons pe_int (pa_cons pe_int (pa_cons pe_int pa_nil))))) (pe_call (ok_Lpick T) hr1 rfl T.mg_Lpick T.F_Lpick.kp (b_Lpick T) .nil pass0 (pa_cons (pv 2) (pa_cons pe_int pa_nil))) (fun _ _ => rfl)))
      (pss_cons (ps_setLc (i := 11) (own := [("_law_k", 12)]) (g := gName 12) (tt := tYes) rfl sc_Lwrite.nd rfl rfl (sw_true rfl rfl rfl (by decide +kernel)) (pi_range1 rfl T.b_range (pa_cons (pv 8) pa_nil)) (blkOk_by (N := ["_law_image", "_law_book", "_law_feed_here", "_law_words", "_law_held", "_law_sizes", "_law_owner", "_law_at", "_law_count", "_law_base", "_law_weight", "_law_given", "_law_k", "_law_kept", "_law_late"]) (sc := defScope s_Lwrite) (by decide +kernel)) (fun _ _ _ _ _ => pg_name (i := 12) sc_Lwrite.nd rfl (Or.inl rfl)) (fun _ _ _ _ _ => pts_nil) (fun _ _ _ _ _ => (pe_op op_mul (pe_op op_add (pv 9) (pv 12)) (pv 10))))
      (pss_cons (ps_set (i := 13) sc_Lwrite.nd rfl (.inl rfl) (pe_listof (K := K) (pv 11) T.b_list))
      (Evl.pss_cut (ps_if (pt_cmpR op_eq (pe_call (ok_Lpick T) hr1 rfl T.mg_Lpick T.F_Lpick.kp (b_Lpick T) .nil pass0 (pa_cons (pv 2) (pa_cons pe_int pa_nil))) pe_int (nomark _))
        (pss_one (ps_set (i := 11) sc_Lwrite.nd rfl (.inl rfl) (pe_callTy call_tuple_of rfl T.b_tuple (by decide +kernel) (pa_cons (pv 11) pa_nil))))
        pss_nil)
      (pss_cons (ps_set (i := 14) sc_Lwrite.nd rfl (.inl rfl) (pe_cmpR op_gt (pe_callB call_len_seq rfl T.b_len (by decide +kernel) (pa_cons (pe_call (ok_Lbehind T) hr1 rfl T.mg_Lbehind T.F_Lbehind.kp (b_Lbehind T) .nil pass0 (pa_cons (pv 1) pa_nil)) pa_nil)) pe_int (nomark _)))
      (pss_cons (ps_if (PW.pt (pw_or (pt_val (pv 14)) (pw_or1 (pt_cmpR op_gt (pe_op op_add (pv 7) (pv 8)) pe_int (nomark _)))))
        (pss_one (ps_ret (pe_and (pe_call (ok_Lwrite_refused T) hr rfl T.mg_Lwrite_refused T.F_Lwrite_refused.kp (b_Lwrite_refused T) .nil pass0 (pa_cons (pv 0) (pa_cons (pv 7) (pa_cons (pv 11) (pa_cons (pv 14) pa_nil))))) (pe_one (pe_cmpR (op_eqD hr.units) (pe_listof (K := K) (pv 11) T.b_list) (pv 13) (nomark _))))))
        pss_nil)
      (pss_cons (ps_for PassesOwn.never rfl (pi_range1 rfl T.b_range (pa_cons (pv 8) pa_nil)) (pg_name (i := 12) sc_Lwrite.nd rfl (.inl rfl))
        (pss_cons (ps_asg (pe_ix ix_list (pv 13) (pv 12) (fun _ _ => rfl)) (pg_sub (pv 3) (pe_op op_add (pv 7) (pv 12)) set_list))
        (pss_one (ps_asg pe_bl (pg_sub (pv 4) (pe_op op_fdiv (pe_op op_add (pv 7) (pv 12)) pe_int) set_list)))))
      (pss_cons (ps_asg (pe_callB (call_max2 rfl) rfl T.b_max (by decide +kernel) (pa_cons (pe_ix ix_list (pv 5) pe_int (fun _ _ => rfl)) (pa_cons (pe_op op_add (pv 7) (pv 8)) pa_nil))) (pg_sub (pv 5) pe_int set_list))
      (pss_one (ps_ret (pe_and (pe_cmpR op_isN (pe_call (ok_write_words T) hr9 rfl T.mg_write_words T.F_write_words.kp (b_write_words T) .nil passLN (pa_cons (pv 0) (pa_cons pe_int (pa_cons (pv 7) (pa_cons (pv 11) pa_nil))))) pe_non (nomark _)) (pe_one (pe_cmpR (op_eqD hr.units) (pe_listof (K := K) (pv 11) T.b_list) (pv 13) (nomark _))))))))))))))))))), ?_⟩
    have f := Aq.s.f
    have s0 := Aq.s.s0
    have s8 := Aq.s.s8
    have wl := Aq.wl
    have pl : ∀ o, o < 10 → PlOk 24 5 v.M 2 o := fun o ho => f.pl_ ho
    refine ⟨_, rfl, B.bk, _, rfl, .of (S.F.get 1 rfl), rfl, _, _, rfl, _, _, rfl, _, _, rfl, _, _, rfl, rfl, ?_⟩
    refine ⟨_, rfl, fa, fs, 80, rfl, S.F.get 0 rfl, by decide, fun r1 f1 r10 r11 fl1 => ?_⟩
    have S1 := S.feed f1
    refine ⟨fun σ H' => ∃ (a : Nat) (fs' : List Int), σ = [some (.ref im), some (.ref B.bk), some (.ref fa), some (.ref B.wa), some (.ref B.ha), some (.ref B.sa), some (.int (o1 : Int)), some (.int (a : Int)), none, none, none, none, none, none, none] ∧ a < 100 ∧ SI T.C_Image T.C_Plan H' im A v 24 5 sl (bkL B o1 w fa fs'), ?_, ?_⟩
    · refine ⟨_, rfl, fa, f1, 8, rfl, S1.F.get 0 rfl, by decide, fun r2 f2 r20 r21 fl2 => ?_⟩
      have S2 := S1.feed f2
      refine ⟨rfl, _, rfl, ite2 (fun _ => ?_) (fun _ => ?_)⟩
      · refine ⟨_, rfl, fa, f2, 40, rfl, S2.F.get 0 rfl, by decide, fun r3 f3 r30 r31 fl3 => ?_⟩
        have S3 := S2.feed f3
        refine ⟨_, _, rfl, rfl, ?_⟩
        obtain ⟨n, hn⟩ : ∃ n : Nat, 60 + r3 = n := ⟨(60 + r3).toNat, by omega⟩
        exact ⟨n, f3, by rw [← hn]; rfl, by omega, S3⟩
      · obtain ⟨n, rfl⟩ : ∃ n : Nat, r1 = n := ⟨r1.toNat, by omega⟩
        exact ⟨n, f2, rfl, by omega, S2⟩
    rintro σ H2 ⟨a, f2, rfl, ha, S2⟩
    -- count, base, weight
    refine ⟨_, rfl, fa, f2, 16, rfl, S2.F.get 0 rfl, by decide, fun r3 f3 r30 r31 fl3 => ⟨_, _, rfl, rfl, ?_⟩⟩
    have S3 := S2.feed f3
    generalize upd H2 fa (.lst (f3.map V.int)) = H3 at S3 ⊢
    obtain ⟨n, hn⟩ : ∃ n : Nat, 1 + r3 = n := ⟨(1 + r3).toNat, by omega⟩
    change gName 8 (V.int (1 + r3)) _ _ _
    rw [hn]
    refine ⟨_, rfl, fa, f3, 1000, rfl, S3.F.get 0 rfl, by decide, fun bs f4 bs0 bs1 fl4 => ?_⟩
    have S4 := S3.feed f4
    generalize upd H3 fa (.lst (f4.map V.int)) = H4 at S4 ⊢
    refine ⟨(by show 4 ≤ sizeLine; decide), fun q5 nq5 => ?_⟩
    have S5 := (S4.cons (o := .lst (([1, 0, 1000, 900000] : List Int).map V.int)) nq5)
    change SI _ _ (upd H4 q5 (.lst [V.int 1, V.int 0, V.int 1000, V.int 900000])) _ _ _ _ _ _ _ at S5
    generalize upd H4 q5 (.lst [V.int 1, V.int 0, V.int 1000, V.int 900000]) = H5 at S5 ⊢
    refine ⟨_, rfl, fa, f4, 4, rfl, S5.F.get 1 rfl, by decide, fun r6 f6 r60 r61 fl6 => ?_⟩
    have S6 : SI T.C_Image T.C_Plan (upd H5 fa (.lst (f6.map V.int))) im A v 24 5 sl ((q5, .lst (([1, 0, 1000, 900000] : List Int).map V.int)) :: bkL B o1 w fa f6) := S5.put 1 rfl
    generalize upd H5 fa (.lst (f6.map V.int)) = H6 at S6 ⊢
    obtain ⟨m, rfl⟩ : ∃ m : Nat, r6 = m := ⟨r6.toNat, by omega⟩
    have hm4 : m < ([1, 0, 1000, 900000] : List Int).length := by show m < 4; omega
    obtain ⟨wt, hwt⟩ : ∃ wt, ([1, 0, 1000, 900000] : List Int)[m] = wt := ⟨_, rfl⟩
    refine ⟨q5, _, _, .int wt, rfl, rfl, .of (S6.F.get 0 rfl), atI_nat (j := m) (by rw [List.getElem?_map, List.getElem?_eq_getElem hm4, hwt]; rfl), ?_⟩
    have S7 := S6.sub (.cons _ (.refl _))
    -- given
    obtain ⟨ws, hws⟩ : ∃ ws, wkL bs wt n = ws := ⟨_, rfl⟩
    have lws : ws.length = n := by rw [← hws]; exact wkL_len
    refine ⟨_, rfl, (n : Int), rfl, by omega, by omega, fun D hD => ?_⟩
    refine lc_range (lo := 0) (n := ((n : Int)).toNat) (fun i H' => H' = upd H6 D (.lst ((ws.take i).map V.int))) rfl ?_ ?_
    · rintro i H' hi rfl
      have hi : i < n := by omega
      refine ⟨rfl, yes_ ⟨_, rfl, _, rfl, _, _, rfl, rfl, _, rfl, _, _, rfl, rfl, (by show CMul (bs + (0 + (i : Int))) wt; exact .inl ⟨by omega, by omega⟩), _, upd_same, ?_, ?_⟩⟩
      · rw [List.length_map]
        exact small1000 (by have := List.length_take_le i ws; omega)
      · have e1 : ws[i]? = some ((bs + (0 + (i : Int))) * wt) := by rw [← hws, wkL_at hi, show (0 : Int) + (i : Int) = (i : Int) by omega]
        rw [upd_upd, take_get e1, List.map_append]
        rfl
    rintro H8 rfl
    have etk : ws.take ((n : Int)).toNat = ws := List.take_of_length_le (by omega)
    rw [etk]
    have S8 := S7.cons (o := .lst (ws.map V.int)) hD
    generalize upd H6 D (.lst (ws.map V.int)) = H8 at S8 ⊢
    -- kept
    refine ⟨_, rfl, D, _, rfl, .inl (.of (S8.F.get 0 rfl)), fun kp nkp => ?_⟩
    have S9 := S8.cons (o := .lst (ws.map V.int)) nkp
    generalize upd H8 kp (.lst (ws.map V.int)) = H9 at S9 ⊢
    refine ⟨fun σ H' => ∃ (g : Addr) (o : HO) (fs' : List Int) (u12 : Option V), σ = [some (.ref im), some (.ref B.bk), some (.ref fa), some (.ref B.wa), some (.ref B.ha), some (.ref B.sa), some (.int (o1 : Int)), some (.int (a : Int)), some (.int (n : Int)), some (.int bs), some (.int wt), some (.ref g), u12, some (.ref kp), none] ∧ (o = .lst (ws.map V.int) ∨ o = .tup (ws.map V.int)) ∧ SI T.C_Image T.C_Plan H' im A v 24 5 sl ((g, o) :: (kp, .lst (ws.map V.int)) :: bkL B o1 w fa fs'), ?_, ?_⟩
    · refine ⟨_, rfl, fa, f6, 2, rfl, S9.F.get 2 rfl, by decide, fun r7 f7 r70 r71 fl7 => ?_⟩
      have S10 : SI T.C_Image T.C_Plan (upd H9 fa (.lst (f7.map V.int))) im A v 24 5 sl ((kp, .lst (ws.map V.int)) :: (D, .lst (ws.map V.int)) :: bkL B o1 w fa f7) := S9.put 2 rfl
      generalize upd H9 fa (.lst (f7.map V.int)) = H10 at S10 ⊢
      refine ⟨rfl, _, rfl, ite2 (fun _ => ?_) (fun _ => ?_)⟩
      · refine ⟨_, rfl, D, ws.map V.int, rfl, .inl ⟨.of (S10.F.get 1 rfl), fun t nt => ?_⟩⟩
        have S11 := S10.cons (o := .tup (ws.map V.int)) nt
        exact ⟨t, _, f7, _, rfl, .inr rfl, S11.sub (.cons₂ _ (.cons₂ _ (.cons _ (.refl _))))⟩
      · exact ⟨D, _, f7, _, rfl, .inl rfl, S10.front 1 rfl⟩
    rintro σ H11 ⟨g, o, f7, u12, rfl, hgo, S11⟩
    -- late
    have S11b := S11.sub (L' := bkL B o1 w fa f7) (.cons _ (.cons _ (.refl _)))
    refine ⟨_, rfl, im, A, v, sl, B, w, fa, f7, G, C, kd, us, o1, ib, rfl, S11b, Aq, fun H12 p12 S12' np12 e12 => ?_⟩
    refine ⟨p12, _, rfl, .inl (.of e12), _, _, rfl, rfl, ?_⟩
    have S12 := S11.same S12'
    have len_gt' : (V.bl (decide ((((tbL 24 v.M 2).map V.int).length : Int) > 0))) = V.bl (late 24 v.M 2) := by rw [len_gt, late_eq Aq.s]
    change gName 14 (V.bl (decide ((((tbL 24 v.M 2).map V.int).length : Int) > 0))) _ _ _
    rw [len_gt']
    -- given and kept stay alike
    have alike : ∀ {H' : Hp} {A' : IA} {v' : IV} {w' : BV} {fs' : List Int}, SI T.C_Image T.C_Plan H' im A' v' 24 5 sl ((g, o) :: (kp, .lst (ws.map V.int)) :: bkL B o1 w' fa fs') → (SqL K H' g (ws.map V.int) ∨ SqT K H' g (ws.map V.int)) := fun {H' A' v' w' fs'} X => by
      have e := X.F.get 0 rfl
      rcases hgo with z | z
      · rw [z] at e; exact .inl (.of e)
      · rw [z] at e; exact .inr (.of e)
    have nga : g ∉ ft3 A ++ A.rs := fun z => by
      refine S12.ap (g, o) (List.mem_cons_self ..) ?_
      rcases List.mem_append.mp z with z | z
      · simp only [ft3, List.mem_cons, List.not_mem_nil, or_false] at z
        simp only [IA.reads, List.mem_cons]
        rcases z with z | z | z <;> simp [z]
      · simp [IA.reads, z]
    have hga : H12 g = some (.lst (ws.map V.int)) ∨ H12 g = some (.tup (ws.map V.int)) := by
      have e := S12.F.get 0 rfl
      rcases hgo with z | z
      · rw [z] at e; exact .inl e
      · rw [z] at e; exact .inr e
    have rfs : (late 24 v.M 2 = true ∨ a + n > 80) → ∀ (H13 : Hp), Same H12 H13 → Q (.bl true) H13 := fun _ H13 S13 => k H13 A v w G C kd us f7 ((S12.same S13).sub (L' := bkL B o1 w fa f7) (.cons _ (.cons _ (.refl _)))) { Aq with s := Aq.s.mono (by omega) }
    -- list(given) == kept, whatever the image
    by_cases hlt : late 24 v.M 2 = true
    · rw [hlt]
      refine ⟨_, rfl, _, rfl, iteT ⟨_, rfl, _, rfl, _, rfl, _, rfl, im, A, v, sl, (a : Int), g, ws, true, rfl, S12.I, f.ok_, by omega, by omega, by omega, hga, nga, hlt, .inl rfl, fun H13 S13 => ?_⟩⟩
      have X := S12.same S13
      refine ⟨_, rfl, iteT ⟨_, rfl, g, _, rfl, alike X, fun c nc => ?_⟩⟩
      have sc := same_upd (o := .lst (ws.map V.int)) nc
      refine ⟨_, rfl, _, _, dpI upd_same, dpI (sc _ _ (X.F.get 1 rfl)), shI _, shI _, ?_⟩
      rw [eqI]
      exact rfs (.inl hlt) _ (S13.trans sc)
    have hlf : late 24 v.M 2 = false := by
      cases z : late 24 v.M 2 with
      | true => exact absurd z hlt
      | false => rfl
    refine ⟨_, rfl, late 24 v.M 2, rfl, ?_⟩
    rw [hlf]
    refine iteF ⟨_, rfl, _, rfl, _, _, rfl, rfl, _, _, rfl, rfl, _, rfl, ite2 (fun z => ?_) (fun z => ?_)⟩
    · have z' := of_decide_eq_true z
      refine ⟨_, rfl, _, rfl, _, rfl, _, rfl, im, A, v, sl, (a : Int), g, ws, false, rfl, S12.I, f.ok_, by omega, by omega, by omega, hga, nga, hlf, .inr (by omega), fun H13 S13 => ?_⟩
      have X := S12.same S13
      refine ⟨_, rfl, iteT ⟨_, rfl, g, _, rfl, alike X, fun c nc => ?_⟩⟩
      have sc := same_upd (o := .lst (ws.map V.int)) nc
      refine ⟨_, rfl, _, _, dpI upd_same, dpI (sc _ _ (X.F.get 1 rfl)), shI _, shI _, ?_⟩
      rw [eqI]
      exact rfs (.inr (by omega)) _ (S13.trans sc)
    have h80 : a + n ≤ 80 := by
      have : ¬ ((a : Int) + (n : Int) > 80) := fun y => z (decide_eq_true y)
      omega
    have nl : ¬ 0 < (tbL 24 v.M 2).length := fun y => by
      have := late_eq Aq.s
      rw [hlf, decide_eq_true y] at this
      cases this
    -- the book
    refine ⟨_, rfl, (n : Int), rfl, by omega, by omega, for_range (lo := 0) (n := ((n : Int)).toNat) (fun i σ H' => ∃ (u12 : Option V) (ws' : List Int) (hd' : List Bool), σ = [some (.ref im), some (.ref B.bk), some (.ref fa), some (.ref B.wa), some (.ref B.ha), some (.ref B.sa), some (.int (o1 : Int)), some (.int (a : Int)), some (.int (n : Int)), some (.int bs), some (.int wt), some (.ref g), u12, some (.ref kp), some (.bl false)] ∧ SI T.C_Image T.C_Plan H' im A v 24 5 sl ((g, o) :: (kp, .lst (ws.map V.int)) :: bkL B o1 { w with ws := ws', hd := hd' } fa f7) ∧ ws'.length = 80 ∧ hd'.length = 10 ∧
      (∀ c : Nat, c < 80 → ws'[c]? = some (if a ≤ c ∧ c < a + i then (ws[c - a]?).getD 0 else wdV G C w.sz (c : Int))) ∧ ∀ q : Nat, q < 10 → hd'[q]? = some (decide ((0 < i ∧ a / 8 ≤ q ∧ 8 * q < a + i) ∨ G q ≠ 0)))
      ⟨_, w.ws, w.hd, rfl, S12, wl, by rw [Aq.hd]; rfl, fun c hc => by rw [if_neg (by omega)]; exact Aq.wv c hc, fun q hq => by rw [Aq.hd_ hq]; congr 1; exact decide_eq_decide.mpr ⟨.inr, fun h => h.elim (fun y => absurd y.1 (by omega)) id⟩⟩ ?_ ?_⟩
    · rintro i σ H' hi ⟨u12, ws', hd', rfl, X, hl', hh', hw, hd⟩
      have hi : i < n := by omega
      have ez : (0 : Int) + (i : Int) = (i : Int) := by omega
      have hil : i < ws.length := by omega
      refine ⟨_, rfl, _, rfl, kp, _, _, _, rfl, rfl, .of (X.F.get 1 rfl), by rw [ez]; exact atI_nat (j := i) (by rw [List.getElem?_map, List.getElem?_eq_getElem hil]; rfl), ?_⟩
      refine ⟨_, rfl, _, rfl, _, rfl, _, _, rfl, rfl, B.wa, _, _, a + i, rfl, rfl, X.F.get 4 rfl, by rw [ez]; exact ixN_nat rfl (by rw [List.length_map, hl']; omega), ?_⟩
      have X1 := X.put 4 (o' := .lst ((ws'.map V.int).set (a + i) (V.int ws[i]))) rfl
      rw [← List.map_set] at X1 ⊢
      generalize upd H' B.wa (.lst ((ws'.set (a + i) ws[i]).map V.int)) = H1 at X1 ⊢
      refine ⟨_, rfl, _, rfl, _, rfl, _, _, rfl, rfl, _, _, rfl, rfl, (by show CDiv _ 8; exact ⟨by decide, by decide⟩), B.ha, _, ((a : Int) + (0 + (i : Int))) / 8, (a + i) / 8, rfl, rfl, X1.F.get 5 rfl, by rw [ez, show ((a : Int) + (i : Int)) / 8 = (((a + i) / 8 : Nat) : Int) by omega]; exact ixN_nat rfl (by rw [List.length_map, hh']; omega), ?_⟩
      have X2 := X1.put 5 (o' := .lst ((hd'.map V.bl).set ((a + i) / 8) (V.bl true))) rfl
      rw [← List.map_set] at X2 ⊢
      refine ⟨_, ws'.set (a + i) ws[i], hd'.set ((a + i) / 8) true, rfl, X2, by rw [List.length_set]; exact hl', by rw [List.length_set]; exact hh', fun c hc => ?_, fun q hq => ?_⟩
      · rw [set_at (by omega), hw c hc]
        by_cases y : c = a + i
        · subst y
          rw [if_pos rfl, if_pos (by omega), show a + i - a = i by omega, List.getElem?_eq_getElem hil]
          rfl
        · rw [if_neg y]
          by_cases y2 : a ≤ c ∧ c < a + i
          · rw [if_pos y2, if_pos (by omega)]
          · rw [if_neg y2, if_neg (by omega)]
      · by_cases y : q = (a + i) / 8
        · rw [y, List.getElem?_set_self (by omega)]
          congr 1
          exact (decide_eq_true (.inl ⟨by omega, by omega, by omega⟩)).symm
        · rw [List.getElem?_set_ne (fun e => y e.symm), hd q hq]
          congr 1
          refine decide_eq_decide.mpr ⟨fun h => h.imp (fun e => by omega) id, fun h => h.imp (fun e => by omega) id⟩
    rintro σ H13 ⟨u13, ws', hd', rfl, X13, hl13, hh13, hw13, hd13⟩
    rw [show ((n : Int)).toNat = n by omega] at hw13 hd13
    refine ⟨_, rfl, B.sa, _, 0, .int w.sz, rfl, rfl, .of (X13.F.get 6 rfl), atI_nat (j := 0) rfl, _, rfl, _, rfl, _, _, rfl, rfl, _, _, rfl, ?_⟩
    refine ⟨_, rfl, B.sa, _, _, 0, rfl, rfl, X13.F.get 6 rfl, ixN_nat rfl (by show 0 < 1; decide), ?_⟩
    have esz : (if (a : Int) + (n : Int) > w.sz then (a : Int) + (n : Int) else w.sz) = (if ((a + ws.length : Nat) : Int) > w.sz then ((a + ws.length : Nat) : Int) else w.sz) := by
      rw [lws, show ((a + n : Nat) : Int) = (a : Int) + (n : Int) by omega]
    rw [esz]
    obtain ⟨sz', hsz'⟩ : ∃ sz', (if ((a + ws.length : Nat) : Int) > w.sz then ((a + ws.length : Nat) : Int) else w.sz) = sz' := ⟨_, rfl⟩
    obtain ⟨v1, G1, C3, kd1, us1, e1, T1, p1, p2, p3, p4, W1, A3, te3, hG3, hw3⟩ := Aq.s.write hba Aq.te hib nl (a := a) (ws := ws) (by omega) (by omega)
    rw [hsz'] at A3 hw3 ⊢
    have X14 := X13.put 6 (o' := .lst [V.int sz']) rfl
    change SI _ _ (upd H13 B.sa (.lst ([V.int w.sz].set 0 (V.int sz')))) _ _ _ _ _ _ _ at X14
    generalize upd H13 B.sa (.lst ([V.int w.sz].set 0 (V.int sz'))) = H14 at X14 ⊢
    change SI T.C_Image T.C_Plan H14 im A v 24 5 sl ((g, o) :: (kp, .lst (ws.map V.int)) :: bkL B o1 { w with ws := ws', hd := hd', sz := sz' } fa f7) at X14
    have hg14 : H14 g = some (.lst (ws.map V.int)) ∨ H14 g = some (.tup (ws.map V.int)) := by
      have e := X14.F.get 0 rfl
      rcases hgo with z | z
      · rw [z] at e; exact .inl e
      · rw [z] at e; exact .inr e
    have ean : (a : Int) + (ws.length : Int) = ((a + ws.length : Nat) : Int) := by omega
    refine ⟨_, rfl, _, rfl, _, rfl, im, A, v, 24, 5, sl, 2, (a : Int), o1, g, ws, rfl, X14.I, by decide, by decide, f.ok_, by omega, by omega, by omega, Aq.s.o4, hg14, nga, (fun e => absurd e hlt), (fun _ h => by omega), fun _ _ => ?_⟩
    rw [ean]
    refine ⟨T1, (fun e => by rw [e1] at e; cases e), (fun e => by rw [e1] at e; cases e), fun v' ev => ?_⟩
    rw [e1] at ev
    cases ev
    refine ⟨p1, p2, p3, p4, W1, fun H15 rs' R15 I15 k15 => ?_⟩
    have X15 : SI T.C_Image T.C_Plan H15 im { A with rs := rs' } { v1 with M := wrM 24 2 (a : Int) (szM 24 v1.M 2 ((a + ws.length : Nat) : Int)) ws 0 } 24 5 sl ((g, o) :: (kp, .lst (ws.map V.int)) :: bkL B o1 { w with ws := ws', hd := hd', sz := sz' } fa f7) := X14.img I15 (k15.mono fun x hx => foot_mem hx) fun x hx => by
      simp only [IA.reads, List.mem_cons] at hx ⊢
      rcases hx with e | e | e | e | e | e | e | e
      · simp [e]
      · simp [e]
      · simp [e]
      · simp [e]
      · simp [e]
      · simp [e]
      · simp [e]
      · rcases R15 x e with f | f
        · simp [f]
        · exact .inr f
    refine ⟨rfl, _, rfl, iteT ⟨_, rfl, g, _, rfl, alike X15, fun c nc => ?_⟩⟩
    have sc := same_upd (o := .lst (ws.map V.int)) nc
    refine ⟨_, rfl, _, _, dpI upd_same, dpI (sc _ _ (X15.F.get 1 rfl)), shI _, shI _, ?_⟩
    rw [eqI]
    refine k _ _ _ { w with ws := ws', hd := hd', sz := sz' } G1 C3 kd1 us1 f7 ((X15.same sc).sub (L' := bkL B o1 { w with ws := ws', hd := hd', sz := sz' } fa f7) (.cons _ (.cons _ (.refl _)))) { s := A3, te := te3, hd := ?_, wl := hl13, wv := fun c hc => ?_ }
    · apply List.ext_getElem?
      intro q
      by_cases hq : q < 10
      · show hd'[q]? = _
        rw [hd13 q hq, List.getElem?_map, List.getElem?_range hq]
        show _ = some (decide (G1 q ≠ 0))
        congr 1
        refine decide_eq_decide.mpr ?_
        rw [hG3 q hq]
        exact ⟨fun h => h.imp (fun e => by omega) id, fun h => h.imp (fun e => by omega) id⟩
      · rw [List.getElem?_eq_none (by show hd'.length ≤ q; omega), List.getElem?_eq_none (by rw [List.length_map, List.length_range]; omega)]
    · show ws'[c]? = some (wdV G1 C3 sz' (c : Int))
      rw [hw13 c hc, hw3 c hc, lws]
end
end K06
namespace K06
open PySem PySem.Spec PyProof.Rows L2 Rg
/-- x is not True, of True -/
theorem op_notB {X : Cx} : OpR X (compareOp .IsNot) (fun x y H Q => x = .bl true ∧ y = .bl true ∧ Q (.bl false) H) := by
  intro pins s σ H x y v u Q I rx ry h
  obtain ⟨rfl, rfl, q⟩ := h
  cases rx
  cases ry
  exact wpAny_isNot_self rfl ⟨.bl false, H, I, rfl, q⟩
/-- the image changed at its own places, its new parts apart from the others -/
theorem SI.imgN_ {CI CP : Addr} {H H' : Hp} {im : Addr} {A A' : IA} {v v' : IV} {b n s : Int} {L : List (Addr × HO)} (S : SI CI CP H im A v b n s L) (I' : ImgAt CI CP H' im A' v' b n s) {F : List Addr} (k : Kp F H H') (hF : ∀ x ∈ F, x ∈ A.reads im) (hr : ∀ x ∈ A'.reads im, x ∈ A.reads im ∨ ∀ p ∈ L, p.1 ≠ x) : SI CI CP H' im A' v' b n s L :=
  ⟨I', S.F.keep fun p hp o e => k _ _ e fun z => S.ap p hp (hF _ z), fun p hp z => by
    rcases hr _ z with e | e
    · exact S.ap p hp e
    · exact e p hp rfl⟩
/-! ### the image made -/
def k0L : List Int := [1, 1, 1, 1, 1, 1, 1, 1, 1, 1, 0, 0, 0, 0, 0, 0, 0, 0, 0, 0, 0, 0, 0, 0]
def MO (o1 : Int) : List (List Int) := (freshM 24 5).set 6 [1, 0, 0, o1, 0, 0, 0, 1]
def v0I : IV := ofV 24 5 (freshM 24 5) (24 : Int).toNat
theorem v0M : v0I.M = freshM 24 5 := by decide +kernel
theorem un1 : unmadeTo 24 (freshM 24 5) 4 = [2, 3, 4, 5] := by decide +kernel
theorem MO_len {o1 : Int} : (MO o1).length = 24 := by
  unfold MO
  rw [List.length_set]
  decide +kernel
theorem MO_row {o1 : Int} {y : Nat} (h6 : y ≠ 6) : (MO o1)[y]? = (freshM 24 5)[y]? := by
  unfold MO
  rw [List.getElem?_set_ne fun z => h6 z.symm]
theorem kds0 {o1 : Int} : Kds (MO o1) k0L [0, 0, 0, 0] [0, 0, 0, 0] 0 := by
  refine { ml := MO_len, m8 := fun m hm => ?_, kl := rfl, kf := fun x hx => ?_, k3 := fun x k h => ?_, mp := fun x hx => ?_, u4 := rfl, l4 := rfl, r0 := ?_, ul := ?_ }
  · rcases mem_set_of hm with e | e
    · rw [e]; rfl
    · have : ∀ m ∈ freshM 24 5, m.length = 8 := by decide +kernel
      exact this m e
  · have h : ∀ x ∈ List.range 10, k0L[x]? = some 1 := by decide +kernel
    exact h x (by rw [List.mem_range]; exact hx)
  · have hm : k ∈ k0L := List.mem_of_getElem? h
    have hh : ∀ k ∈ k0L, k = 0 ∨ k = 1 ∨ k = 2 := by decide +kernel
    exact hh k hm
  · rw [cellAt_congr (MO_row (by omega))]
    have h : ∀ x ∈ List.range 24, cellAt (freshM 24 5) (2 + x / 8) (x % 8) = (k0L[x]?).getD 0 := by decide +kernel
    exact h x (by rw [List.mem_range]; exact hx)
  · rw [MO_row (by decide)]
    decide +kernel
  · show ∀ u ∈ ([0, 0, 0, 0] : List Int), u.natAbs ≤ 0
    decide
def g0 : Nat → Int := fun _ => 0
def c0 : Nat → List Int := fun _ => List.replicate 8 0
theorem stt0 {o1 : Nat} (h : o1 < 4) : Stt (MO o1) g0 c0 k0L [0, 0, 0, 0] 0 o1 0 := by
  refine { k := kds0, r1 := ?_, r5 := ?_, f := ?_, kq := fun x h1 h2 => ⟨fun ⟨i, _, e⟩ => ?_, fun e => ?_, fun _ => ?_⟩, uq := fun o ho => ?_, o4 := h, s0 := by decide, s8 := by decide }
  · rw [MO_row (by decide)]
    decide +kernel
  · rw [MO_row (by decide)]
    decide +kernel
  · refine { r6 := ?_, rt := fun e => absurd rfl e, rc := fun i _ e => absurd rfl e, c8 := fun _ => List.length_replicate, pf := fun i _ e => absurd rfl e, nd := fun i j _ _ e _ => absurd rfl e, tz := fun _ _ _ _ => rfl, z1 := ⟨rfl, rfl⟩ }
    rw [n6]
    unfold MO
    rw [List.getElem?_set_self (by decide +kernel)]
    rfl
  · have : (0 : Int) = (x : Int) := e
    omega
  · have : (0 : Int) = (x : Int) := e
    omega
  · have hh : ∀ x ∈ List.range 24, 10 ≤ x → k0L[x]? = some 0 := by decide +kernel
    exact hh x (by rw [List.mem_range]; exact h2) h1
  · have e : cntG g0 = 0 := by decide
    rw [e]
    have : o = 0 ∨ o = 1 ∨ o = 2 ∨ o = 3 := by omega
    rcases this with q | q | q | q <;> (subst q; simp)
def w0 : BV := ⟨List.replicate 80 0, List.replicate 10 false, 0⟩
theorem ag0 {o1 : Nat} {v : IV} (hM : v.M = MO o1) (h : o1 < 4) : Ag v w0 g0 c0 k0L [0, 0, 0, 0] o1 (24 * 0) :=
  { s := by rw [hM]; exact stt0 h, te := fun e => absurd rfl e, hd := by decide, wl := List.length_replicate, wv := fun c hc => by
      show (List.replicate 80 (0 : Int))[c]? = _
      rw [List.getElem?_replicate, if_pos hc]
      unfold wdV
      rw [if_pos (by show (c : Int) ≥ 0; omega)] }
section
variable {P : Program} {w0_ : World} {K : PySem.W.Frag} {mg : Str → Option Value} {base : Heap}
def sp_law (K : PySem.W.Frag) : Sp := fun vs H Q _ => ∃ (a : Addr) (ns : List Int), vs = [.ref a] ∧ SqL K H a (ns.map V.int) ∧ ns.length ≤ 63 ∧ ∀ H', Q (.bl true) H'
theorem ok_law (T : Tx K mg) : FnOk P w0_ K mg base CX0 12 T.f_law T.fd_law ["_law_script"] (sp_law K) := by
  refine T.F_law.ok sc_law (fun vs H Q E h => ?_) (fun cdv A0_ outer s H vs Q E hr h => ?_)
  · obtain ⟨_, _, rfl, _⟩ := h; rfl
  · obtain ⟨a, ns, rfl, hS, hlen, k⟩ := h
    have hr1 : Room 1 _ := hr.mono (by decide)
    have hr2 : Room 2 _ := hr.mono (by decide)
    have hr4 : Room 4 _ := hr.mono (by decide)
    have hr6 : Room 6 _ := hr.mono (by decide)
    have hr7 : Room 7 _ := hr.mono (by decide)
    have hr8 : Room 8 _ := hr.mono (by decide)
    have hr11 : Room 11 _ := hr.mono (by decide)
    refine ⟨_, (pss_cons (ps_set (i := 1) sc_law.nd rfl (.inl rfl) (pe_call (ok_Lfeed T) hr1 rfl T.mg_Lfeed T.F_Lfeed.kp (b_Lfeed T) .nil pass0 (pa_cons (pv 0) pa_nil)))
      (pss_cons (ps_set (i := 2) sc_law.nd rfl (.inl rfl) (pe_smeth T.mg_Image T.cr_Image T.sm_Image_fresh (ok_fresh T) hr4 (b_Image_fresh T) .nil pass0 (pa_cons (pe_makeK T.mk_Plan (ok_Plan_init T) hr2 rfl T.mg_Plan (kb_Plan T) pass0 (pa_cons pe_int pa_nil) (pk_cons pe_int (pk_cons pe_int pk_nil))) pa_nil)))
      (pss_cons (ps_set (i := 3) sc_law.nd rfl (.inl rfl) (pe_call (ok_Lpick T) hr1 rfl T.mg_Lpick T.F_Lpick.kp (b_Lpick T) .nil pass0 (pa_cons (pv 1) (pa_cons pe_int pa_nil))))
      (pss_cons (ps_if (pt_not (pt_val (pe_call (ok_Linteger T) hr1 rfl T.mg_Linteger T.F_Linteger.kp (b_Linteger T) .nil pass0 (pa_cons (pe_call (ok_make_node T) hr4 rfl T.mg_make_node T.F_make_node.kp (b_make_node T) .nil passLN (pa_cons (pv 2) (pa_cons pe_int (pa_cons (pv 3) pa_nil)))) (pa_cons pe_int pa_nil)))))
        (pss_one (ps_ret pe_bl))
        pss_nil)
      (pss_cons (ps_set (i := 4) sc_law.nd rfl (.inl rfl) (pe_lst (pa_cons (pe_lc rfl (own := [("_law_k", 5)]) (g := gName 5) (tt := tYes) sc_law.nd (pi_range1 rfl T.b_range (pa_cons pe_int pa_nil)) (blkOk_by (N := ["_law_script", "_law_feed_here", "_law_image", "_law_owner", "_law_book", "_law_k", "_law_o", "_law_choice", "_law_good"]) (sc := defScope s_law) (by decide +kernel)) (fun _ _ _ _ _ => pg_name (i := 5) sc_law.nd rfl (Or.inl rfl)) (fun _ _ _ _ _ => pts_nil) (fun _ _ _ _ _ => pe_int)) (pa_cons (pe_lc rfl (own := [("_law_o", 6)]) (g := gName 6) (tt := tYes) sc_law.nd (pi_range1 rfl T.b_range (pa_cons pe_int pa_nil)) (blkOk_by (N := ["_law_script", "_law_feed_here", "_law_image", "_law_owner", "_law_book", "_law_k", "_law_o", "_law_choice", "_law_good"]) (sc := defScope s_law) (by decide +kernel)) (fun _ _ _ _ _ => pg_name (i := 6) sc_law.nd rfl (Or.inl rfl)) (fun _ _ _ _ _ => pts_nil) (fun _ _ _ _ _ => pe_bl)) (pa_cons (pe_lst (pa_cons pe_int pa_nil)) (pa_cons (pv 3) pa_nil))))))
      (pss_cons (ps_if (pt_not (pt_val (pe_call (ok_Lagrees T) hr7 rfl T.mg_Lagrees T.F_Lagrees.kp (b_Lagrees T) .nil pass0 (pa_cons (pv 2) (pa_cons (pv 4) pa_nil)))))
        (pss_one (ps_ret pe_bl))
        pss_nil)
      (pss_cons (ps_for PassesOwn.never rfl (pi_range1 rfl T.b_range (pa_cons (pe_op op_add pe_int (pe_call (ok_Lpick T) hr1 rfl T.mg_Lpick T.F_Lpick.kp (b_Lpick T) .nil pass0 (pa_cons (pv 1) (pa_cons pe_int pa_nil)))) pa_nil)) (pg_name (i := 5) sc_law.nd rfl (.inl rfl))
        (pss_cons (ps_set (i := 7) sc_law.nd rfl (.inl rfl) (pe_call (ok_Lpick T) hr1 rfl T.mg_Lpick T.F_Lpick.kp (b_Lpick T) .nil pass0 (pa_cons (pv 1) (pa_cons pe_int pa_nil))))
        (pss_cons (ps_expr (pe_meth (pv 2) T.cl_Image T.m_Image_begin (ok_begin T) hr1 (b_Image_begin T) .nil pass0 (pa_cons (pe_call (ok_Lpick T) hr1 rfl T.mg_Lpick T.F_Lpick.kp (b_Lpick T) .nil pass0 (pa_cons (pv 1) (pa_cons pe_int pa_nil))) (pa_cons (pe_tup pa_nil) pa_nil))))
        (pss_cons (ps_set (i := 8) sc_law.nd rfl (.inl rfl) pe_bl)
        (Evl.pss_cut (ps_if (pt_cmpR op_lt (pv 7) pe_int (nomark _))
          (pss_one (ps_set (i := 8) sc_law.nd rfl (.inl rfl) (pe_call (ok_Lwrite T) hr11 rfl T.mg_Lwrite T.F_Lwrite.kp (b_Lwrite T) .nil pass0 (pa_cons (pv 2) (pa_cons (pv 4) (pa_cons (pv 1) pa_nil))))))
          (pss_one (ps_if (pt_cmpR op_lt (pv 7) pe_int (nomark _))
            (pss_one (ps_set (i := 8) sc_law.nd rfl (.inl rfl) (pe_call (ok_Lsize T) hr8 rfl T.mg_Lsize T.F_Lsize.kp (b_Lsize T) .nil pass0 (pa_cons (pv 2) (pa_cons (pv 4) (pa_cons (pv 1) pa_nil))))))
            (pss_one (ps_if (pt_cmpR op_lt (pv 7) pe_int (nomark _))
              (pss_one (ps_set (i := 8) sc_law.nd rfl (.inl rfl) (pe_call (ok_Lpiece T) hr7 rfl T.mg_Lpiece T.F_Lpiece.kp (b_Lpiece T) .nil pass0 (pa_cons (pv 2) (pa_cons (pv 4) pa_nil)))))
              (pss_one (ps_set (i := 8) sc_law.nd rfl (.inl rfl) (pe_call (ok_Lspoil T) hr4 rfl T.mg_Lspoil T.F_Lspoil.kp (b_Lspoil T) .nil pass0 (pa_cons (pv 2) (pa_cons (pv 4) (pa_cons (pv 1) pa_nil)))))))))))
        (pss_one (ps_if (PW.pt (pw_or (pt_cmpR op_notB (pv 8) pe_bl (nomark _)) (pw_or (pt_not (pt_val (pe_call (ok_Lagrees T) hr7 rfl T.mg_Lagrees T.F_Lagrees.kp (b_Lagrees T) .nil pass0 (pa_cons (pv 2) (pa_cons (pv 4) pa_nil))))) (pw_or1 (pt_not (pt_val (pe_call (ok_Lwindow T) hr6 rfl T.mg_Lwindow T.F_Lwindow.kp (b_Lwindow T) .nil pass0 (pa_cons (pv 2) (pa_cons (pv 4) (pa_cons (pv 1) pa_nil))))))))))
          (pss_one (ps_ret pe_bl))
          pss_nil)))))))
      (pss_one (ps_ret pe_bl))))))))), ?_⟩
    -- the feed
    refine ⟨_, rfl, a, ns, rfl, hS, hlen, fun H1 fa f1 S1 nfa efa lfs => ?_⟩
    -- Plan(24, nodes=5, slots=30), Image.fresh
    refine ⟨rfl, rfl, fun px pdx npx npdx ned => ?_⟩
    refine ⟨px, pdx, 24, 5, 30, rfl, upd_same, by decide, by decide, by decide, by decide, by decide, by decide, by decide, rfl, ?_⟩
    have Pl : PlanAt T.C_Plan (upd (upd (upd H1 pdx (.own px)) px (.ins T.C_Plan pdx [])) px (.ins T.C_Plan pdx (planF 24 5 30))) px 24 5 30 :=
      ⟨⟨pdx, upd_same⟩, by decide, by decide, by decide, by decide, by decide, by decide, by decide⟩
    have Fp : (upd (upd (upd H1 pdx (.own px)) px (.ins T.C_Plan pdx [])) px (.ins T.C_Plan pdx (planF 24 5 30))) fa = some (.lst (f1.map V.int)) := by
      have a1 : fa ≠ px := ne_of_none efa npx
      have a2 : fa ≠ pdx := ne_of_none efa npdx
      rw [upd_ne a1, upd_ne a1, upd_ne a2]
      exact efa
    generalize upd (upd (upd H1 pdx (.own px)) px (.ins T.C_Plan pdx [])) px (.ins T.C_Plan pdx (planF 24 5 30)) = H2 at Pl Fp ⊢
    refine ⟨px, 24, 5, 30, rfl, Pl, fun H3 im A S3 nim I3 N3 eA => ?_⟩
    have F3 := S3 _ _ Fp
    have hfa : ∀ y, H2 y = none → fa ≠ y := fun y e => ne_of_none Fp e
    have X3 : SI T.C_Image T.C_Plan H3 im A v0I 24 5 30 [(fa, .lst (f1.map V.int))] := by
      refine ⟨I3, ⟨fun p hp => ?_, by simp⟩, fun p hp z => ?_⟩
      · rw [List.mem_singleton.mp hp]
        exact F3
      · rw [List.mem_singleton.mp hp] at z
        obtain ⟨dxp, hpl⟩ := I3.pl.ob
        simp only [IA.reads, List.mem_cons] at z
        rcases z with z | z | z | z | z | z | z | z
        · exact hfa _ nim z
        · rw [← z, F3] at hpl
          cases hpl
        · exact hfa _ N3.ca z
        · exact hfa _ N3.ho z
        · exact hfa _ N3.st z
        · exact hfa _ N3.hd z
        · have := I3.ba
          rw [← z, F3] at this
          cases this
        · exact hfa _ (N3.rs _ z) rfl
    -- the owner, the node
    refine ⟨_, rfl, fa, f1, 4, rfl, X3.F.get 0 rfl, by decide, fun r1 f2 r10 r11 fl2 => ?_⟩
    have X4 : SI T.C_Image T.C_Plan (upd H3 fa (.lst (f2.map V.int))) im A v0I 24 5 30 [(fa, .lst (f2.map V.int))] := X3.put 0 rfl
    generalize upd H3 fa (.lst (f2.map V.int)) = H4 at X4 ⊢
    obtain ⟨o1, rfl⟩ : ∃ o : Nat, r1 = o := ⟨r1.toNat, by omega⟩
    refine ⟨_, rfl, _, rfl, im, A, v0I, 24, 5, 30, 1, (o1 : Int), rfl, X4.I, (fun e => ?_), fun m rest e H5 I5 k5 => ?_⟩
    · rw [v0M, show ((5 : Int) - 1).toNat = 4 by decide, un1] at e
      cases e
    rw [v0M, show ((5 : Int) - 1).toNat = 4 by decide, un1] at e
    cases e
    have X5 := X4.imgN_ I5 k5 (fun x hx => by simp [IA.reads, hx]) fun x hx => .inl hx
    rw [n6, v0M, show cellAt (freshM 24 5) 6 7 + 1 = 1 by decide +kernel] at X5
    change SI T.C_Image T.C_Plan H5 im A { v0I with M := MO o1 } 24 5 30 _ at X5
    have e8 : ({ v0I with M := MO o1 } : IV).M = MO o1 := rfl
    generalize ({ v0I with M := MO o1 } : IV) = v8 at X5 e8
    refine ⟨2, 2, rfl, ?_⟩
    rw [decide_eq_true rfl]
    refine ⟨_, rfl, iteF ?_⟩
    -- the book
    refine ⟨80, rfl, by decide, by decide, fun d1 n1 => ?_⟩
    refine lc_range (lo := 0) (n := (80 : Int).toNat) (fun i H' => H' = upd H5 d1 (.lst ((List.replicate i (0 : Int)).map V.int))) rfl ?_ ?_
    · rintro i H' hi rfl
      have hi : i < 80 := hi
      refine ⟨rfl, yes_ ⟨_, upd_same, ?_, ?_⟩⟩
      · rw [List.length_map, List.length_replicate]
        exact small1000 (by omega)
      · rw [upd_upd, List.replicate_succ', List.map_append]
        rfl
    rintro H6 rfl
    have X6 := X5.cons (o := .lst ((List.replicate 80 (0 : Int)).map V.int)) n1
    change SI _ _ (upd H5 d1 (.lst ((List.replicate (80 : Int).toNat (0 : Int)).map V.int))) _ _ _ _ _ _ _ at X6
    generalize upd H5 d1 (.lst ((List.replicate (80 : Int).toNat (0 : Int)).map V.int)) = H6 at X6 ⊢
    refine ⟨10, rfl, by decide, by decide, fun d2 n2 => ?_⟩
    refine lc_range (lo := 0) (n := (10 : Int).toNat) (fun i H' => H' = upd H6 d2 (.lst ((List.replicate i false).map V.bl))) rfl ?_ ?_
    · rintro i H' hi rfl
      have hi : i < 10 := hi
      refine ⟨rfl, yes_ ⟨_, upd_same, ?_, ?_⟩⟩
      · rw [List.length_map, List.length_replicate]
        exact small1000 (by omega)
      · rw [upd_upd, List.replicate_succ', List.map_append]
        rfl
    rintro H7 rfl
    have X7 := X6.cons (o := .lst ((List.replicate 10 false).map V.bl)) n2
    change SI _ _ (upd H6 d2 (.lst ((List.replicate (10 : Int).toNat false).map V.bl))) _ _ _ _ _ _ _ at X7
    generalize upd H6 d2 (.lst ((List.replicate (10 : Int).toNat false).map V.bl)) = H7 at X7 ⊢
    refine ⟨(by show 1 ≤ sizeLine; decide), fun d3 n3 => ?_⟩
    have X8 := X7.cons (o := .lst [V.int 0]) n3
    generalize upd H7 d3 (.lst [V.int 0]) = H8 at X8 ⊢
    refine ⟨_, rfl, (by show 4 ≤ sizeLine; decide), fun bk nbk => ?_⟩
    have X9 := X8.cons (o := .lst (bkR ⟨bk, d1, d2, d3⟩ o1)) nbk
    change SI _ _ (upd H8 bk (.lst [.ref d1, .ref d2, .ref d3, .int (o1 : Int)])) _ _ _ _ _ _ _ at X9
    generalize upd H8 bk (.lst [.ref d1, .ref d2, .ref d3, .int (o1 : Int)]) = H9 at X9 ⊢
    have X10 := ((((X9.front 1 rfl).front 2 rfl).front 3 rfl).front 3 rfl).front 4 rfl
    clear X9
    obtain ⟨B, hB⟩ : ∃ B : Bk, B = ⟨bk, d1, d2, d3⟩ := ⟨_, rfl⟩
    have eb : bk = B.bk := by rw [hB]
    change SI T.C_Image T.C_Plan H9 im A v8 24 5 30 (bkL ⟨bk, d1, d2, d3⟩ o1 w0 fa f2) at X10
    rw [← hB] at X10
    subst eb
    have A10 : Ag v8 w0 g0 c0 k0L [0, 0, 0, 0] o1 (24 * 0) := ag0 e8 (by omega)
    -- the first look
    refine ⟨_, rfl, _, rfl, im, A, v8, 30, B, w0, fa, f2, g0, c0, k0L, _, o1, _, rfl, X10, A10, fun H11 S11 => ⟨_, rfl, iteF ?_⟩⟩
    have X11 := X10.same S11
    refine ⟨_, rfl, fa, f2, 24, rfl, X11.F.get 0 rfl, by decide, fun r4 f5 r40 r41 fl5 => ?_⟩
    have X12 := X11.feed f5
    refine ⟨_, _, rfl, rfl, _, rfl, by omega, by omega, for_range (lo := 0) (n := (1 + r4).toNat) (fun i σ H' => ∃ (A : IA) (v : IV) (w : BV) (G : Nat → Int) (C : Nat → List Int) (kd us : List Int) (fs : List Int) (u5 u7 u8 : Option V), σ = [some (.ref a), some (.ref fa), some (.ref im), some (.int (o1 : Int)), some (.ref B.bk), u5, none, u7, u8] ∧ SI T.C_Image T.C_Plan H' im A v 24 5 30 (bkL B o1 w fa fs) ∧ Ag v w G C kd us o1 (24 * i))
      ⟨_, _, _, _, _, _, _, _, _, _, _, rfl, X12, A10⟩ ?_ ?_⟩
    · rintro i σ H' hi ⟨A, v, w, G, C, kd, us, fs, u5, u7, u8, rfl, X, Aq⟩
      have hi24 : i < 24 := by omega
      refine ⟨_, rfl, fa, fs, 9, rfl, X.F.get 0 rfl, by decide, fun ch f6 ch0 ch1 fl6 => ?_⟩
      have X1 := X.feed f6
      generalize upd H' fa (.lst (f6.map V.int)) = H1' at X1 ⊢
      refine ⟨_, rfl, im, _, _, rfl, X1.I.ob, rfl, _, rfl, fa, f6, 64, rfl, X1.F.get 0 rfl, by decide, fun wi f7 wi0 wi1 fl7 => ?_⟩
      have X2 := X1.feed f7
      generalize upd H1' fa (.lst (f7.map V.int)) = H2' at X2 ⊢
      refine ⟨(by show 0 ≤ sizeLine; decide), fun q nq => ?_⟩
      have X3' := X2.same (same_upd (o := .tup []) nq)
      have eq : upd H2' q (.tup []) q = some (.tup []) := upd_same
      have nqL := X2.F.held nq
      generalize upd H2' q (.tup []) = H3' at X3' eq ⊢
      refine ⟨im, A, v, 24, 5, 30, wi, q, [], rfl, X3'.I, .inr eq, fun H4' t I4' k4' nt => ?_⟩
      have X4' : SI T.C_Image T.C_Plan H4' im { A with ba := t } { v with se := v.se + 1, wi := wi, ba := [] } 24 5 30 (bkL B o1 w fa f7) := X3'.imgN_ I4' k4' (by simp [IA.reads]) fun x hx => by
        simp only [IA.reads, List.mem_cons] at hx ⊢
        rcases hx with z | z | z | z | z | z | z | z
        · exact .inl (by simp [z])
        · exact .inl (by simp [z])
        · exact .inl (by simp [z])
        · exact .inl (by simp [z])
        · exact .inl (by simp [z])
        · exact .inl (by simp [z])
        · right
          rw [z]
          rcases nt with q1 | q1
          · exact X3'.F.held q1
          · rw [q1]
            exact nqL
        · exact .inl (by simp [z])
      have A4' : Ag { v with se := v.se + 1, wi := wi, ba := [] } w G C kd us o1 (24 * i) := { Aq with s := Aq.s }
      refine ⟨fun σ H' => ∃ (A : IA) (v : IV) (w : BV) (G : Nat → Int) (C : Nat → List Int) (kd us : List Int) (fs : List Int) (u5 u7 : Option V), σ = [some (.ref a), some (.ref fa), some (.ref im), some (.int (o1 : Int)), some (.ref B.bk), u5, none, u7, some (.bl true)] ∧ SI T.C_Image T.C_Plan H' im A v 24 5 30 (bkL B o1 w fa fs) ∧ Ag v w G C kd us o1 (24 * i + 24), ?_, ?_⟩
      · refine ⟨_, rfl, _, _, rfl, rfl, _, rfl, ite2 (fun _ => ?_) (fun _ => ?_)⟩
        · exact ⟨_, rfl, _, rfl, _, rfl, im, _, _, 30, B, w, fa, f7, G, C, kd, us, o1, 24 * i, rfl, X4', A4', rfl, by omega, fun H5 A5 v5 w5 G5 C5 kd5 us5 fs5 X5' Aq5 => ⟨A5, v5, w5, G5, C5, kd5, us5, fs5, _, _, rfl, X5', Aq5⟩⟩
        · refine ⟨_, rfl, _, _, rfl, rfl, _, rfl, ite2 (fun _ => ?_) (fun _ => ?_)⟩
          · exact ⟨_, rfl, _, rfl, _, rfl, im, _, _, 30, B, w, fa, f7, G, C, kd, us, o1, 24 * i, rfl, X4', A4', fun H5 A5 v5 w5 G5 C5 kd5 us5 fs5 X5' Aq5 => ⟨A5, v5, w5, G5, C5, kd5, us5, fs5, _, _, rfl, X5', Aq5⟩⟩
          · refine ⟨_, rfl, _, _, rfl, rfl, _, rfl, ite2 (fun _ => ?_) (fun _ => ?_)⟩
            · exact ⟨_, rfl, _, rfl, im, _, _, 30, B, w, fa, f7, G, C, kd, us, o1, 24 * i, rfl, X4', A4', fun H5 A5 v5 w5 G5 C5 kd5 us5 fs5 X5' Aq5 => ⟨A5, v5, w5, G5, C5, kd5, us5, fs5, _, _, rfl, X5', Aq5⟩⟩
            · exact ⟨_, rfl, _, rfl, _, rfl, im, _, _, 30, B, w, fa, f7, G, C, kd, us, o1, 24 * i, rfl, X4', A4', fun H5 A5 v5 w5 G5 C5 kd5 us5 fs5 X5' Aq5 => ⟨A5, v5, w5, G5, C5, kd5, us5, fs5, _, _, rfl, X5', Aq5⟩⟩
      rintro σ H5 ⟨A5, v5, w5, G5, C5, kd5, us5, fs5, u5', u7', rfl, X5', Aq5⟩
      refine ⟨_, rfl, rfl, rfl, _, rfl, iteF ⟨_, rfl, _, rfl, im, A5, v5, 30, B, w5, fa, fs5, G5, C5, kd5, us5, o1, _, rfl, X5', Aq5, fun H6 S6 => ⟨_, rfl, iteF ?_⟩⟩⟩
      refine ⟨_, rfl, _, rfl, _, rfl, im, A5, v5, 30, B, w5, fa, fs5, G5, C5, kd5, us5, o1, _, rfl, X5'.same S6, Aq5, fun H7 fs7 X7' => ⟨_, rfl, iteF ?_⟩⟩
      exact ⟨A5, v5, w5, G5, C5, kd5, us5, fs7, _, _, _, rfl, X7', by rw [show 24 * (i + 1) = 24 * i + 24 by omega]; exact Aq5⟩
    · rintro σ H' _
      exact k _
end
end K06
namespace K06
open PySem PySem.Spec PyProof.Rows L2 Rg
theorem law_binds {K : PySem.W.Frag} {mg : Str → Option Value} (T : Tx K mg) (s : Shared) (v : Value) : BindsTo s T.fd_law ⟨[v], []⟩ [("_law_script", v)] := by
  obtain ⟨oc, od, kV, doc, pm, an, cdv, ct, osl, e, lk, hcd⟩ := T.F_law.ex
  rw [e]
  exact .of_eq rfl
theorem fin_F {P : Program} {w : World} {K : PySem.W.Frag} {mg : Str → Option Value} {fa : Addr} (z : Nonempty (Tx K mg)) (hmg : mg "law" = some (.ref fa)) :
    ∃ fd : FuncData, (∀ (s : Shared) (u : Value), BindsTo s fd ⟨[u], []⟩ [("_law_script", u)]) ∧ ∀ base : Heap, K.In base → base.Ns mainGlobals mg → FnOk P w K mg base CX0 12 fa fd ["_law_script"] (sp_law K) := by
  obtain ⟨T⟩ := z
  have e : T.f_law = fa := Value.ref.inj (Option.some.inj (T.mg_law.symm.trans hmg))
  subst e
  exact ⟨T.fd_law, fun s v => law_binds T s v, fun base _ _ => ok_law T⟩
theorem all_mk {w : World} {K : PySem.W.Frag} {h : Heap} {mg : Str → Option Value} (X : K.In h) (G : h.Ns mainGlobals mg)
    {a_node_cell : Addr}
    {od_node_cell an_node_cell : Option Addr} {sl_node_cell : Array (Option Value)} {oc_node_cell kV_node_cell dc_node_cell pm_node_cell cd_node_cell ct_node_cell : Value}
    (l_node_cell : K.lookup a_node_cell = some ⟨oc_node_cell, od_node_cell, .func (PySem.W.fnOf "node_cell" "node_cell" (defArgs s_node_cell) (defBody s_node_cell) (defScope s_node_cell) .none kV_node_cell dc_node_cell pm_node_cell an_node_cell cd_node_cell ct_node_cell), sl_node_cell⟩)
    (c_node_cell : PySem.W.codeIn K cd_node_cell "node_cell" = true)
    (k_node_cell : PySem.W.keepIn K (.ref a_node_cell) = true)
    (g_node_cell : PySem.W.nsIn K mainGlobals "node_cell" = some (some (.ref a_node_cell)))
    {a_put_node_cell : Addr}
    {od_put_node_cell an_put_node_cell : Option Addr} {sl_put_node_cell : Array (Option Value)} {oc_put_node_cell kV_put_node_cell dc_put_node_cell pm_put_node_cell cd_put_node_cell ct_put_node_cell : Value}
    (l_put_node_cell : K.lookup a_put_node_cell = some ⟨oc_put_node_cell, od_put_node_cell, .func (PySem.W.fnOf "put_node_cell" "put_node_cell" (defArgs s_put_node_cell) (defBody s_put_node_cell) (defScope s_put_node_cell) .none kV_put_node_cell dc_put_node_cell pm_put_node_cell an_put_node_cell cd_put_node_cell ct_put_node_cell), sl_put_node_cell⟩)
    (c_put_node_cell : PySem.W.codeIn K cd_put_node_cell "put_node_cell" = true)
    (k_put_node_cell : PySem.W.keepIn K (.ref a_put_node_cell) = true)
    (g_put_node_cell : PySem.W.nsIn K mainGlobals "put_node_cell" = some (some (.ref a_put_node_cell)))
    {a_is_made : Addr}
    {od_is_made an_is_made : Option Addr} {sl_is_made : Array (Option Value)} {oc_is_made kV_is_made dc_is_made pm_is_made cd_is_made ct_is_made : Value}
    (l_is_made : K.lookup a_is_made = some ⟨oc_is_made, od_is_made, .func (PySem.W.fnOf "is_made" "is_made" (defArgs s_is_made) (defBody s_is_made) (defScope s_is_made) .none kV_is_made dc_is_made pm_is_made an_is_made cd_is_made ct_is_made), sl_is_made⟩)
    (c_is_made : PySem.W.codeIn K cd_is_made "is_made" = true)
    (k_is_made : PySem.W.keepIn K (.ref a_is_made) = true)
    (g_is_made : PySem.W.nsIn K mainGlobals "is_made" = some (some (.ref a_is_made)))
    {a_make_node : Addr}
    {od_make_node an_make_node : Option Addr} {sl_make_node : Array (Option Value)} {oc_make_node kV_make_node dc_make_node pm_make_node cd_make_node ct_make_node : Value}
    (l_make_node : K.lookup a_make_node = some ⟨oc_make_node, od_make_node, .func (PySem.W.fnOf "make_node" "make_node" (defArgs s_make_node) (defBody s_make_node) (defScope s_make_node) .none kV_make_node dc_make_node pm_make_node an_make_node cd_make_node ct_make_node), sl_make_node⟩)
    (c_make_node : PySem.W.codeIn K cd_make_node "make_node" = true)
    (k_make_node : PySem.W.keepIn K (.ref a_make_node) = true)
    (g_make_node : PySem.W.nsIn K mainGlobals "make_node" = some (some (.ref a_make_node)))
    {a_unmake_node : Addr}
    {od_unmake_node an_unmake_node : Option Addr} {sl_unmake_node : Array (Option Value)} {oc_unmake_node kV_unmake_node dc_unmake_node pm_unmake_node cd_unmake_node ct_unmake_node : Value}
    (l_unmake_node : K.lookup a_unmake_node = some ⟨oc_unmake_node, od_unmake_node, .func (PySem.W.fnOf "unmake_node" "unmake_node" (defArgs s_unmake_node) (defBody s_unmake_node) (defScope s_unmake_node) .none kV_unmake_node dc_unmake_node pm_unmake_node an_unmake_node cd_unmake_node ct_unmake_node), sl_unmake_node⟩)
    (c_unmake_node : PySem.W.codeIn K cd_unmake_node "unmake_node" = true)
    (k_unmake_node : PySem.W.keepIn K (.ref a_unmake_node) = true)
    (g_unmake_node : PySem.W.nsIn K mainGlobals "unmake_node" = some (some (.ref a_unmake_node)))
    {a_place_block : Addr}
    {od_place_block an_place_block : Option Addr} {sl_place_block : Array (Option Value)} {oc_place_block kV_place_block dc_place_block pm_place_block cd_place_block ct_place_block : Value}
    (l_place_block : K.lookup a_place_block = some ⟨oc_place_block, od_place_block, .func (PySem.W.fnOf "place_block" "place_block" (defArgs s_place_block) (defBody s_place_block) (defScope s_place_block) .none kV_place_block dc_place_block pm_place_block an_place_block cd_place_block ct_place_block), sl_place_block⟩)
    (c_place_block : PySem.W.codeIn K cd_place_block "place_block" = true)
    (k_place_block : PySem.W.keepIn K (.ref a_place_block) = true)
    (g_place_block : PySem.W.nsIn K mainGlobals "place_block" = some (some (.ref a_place_block)))
    {a_put_place : Addr}
    {od_put_place an_put_place : Option Addr} {sl_put_place : Array (Option Value)} {oc_put_place kV_put_place dc_put_place pm_put_place cd_put_place ct_put_place : Value}
    (l_put_place : K.lookup a_put_place = some ⟨oc_put_place, od_put_place, .func (PySem.W.fnOf "put_place" "put_place" (defArgs s_put_place) (defBody s_put_place) (defScope s_put_place) .none kV_put_place dc_put_place pm_put_place an_put_place cd_put_place ct_put_place), sl_put_place⟩)
    (c_put_place : PySem.W.codeIn K cd_put_place "put_place" = true)
    (k_put_place : PySem.W.keepIn K (.ref a_put_place) = true)
    (g_put_place : PySem.W.nsIn K mainGlobals "put_place" = some (some (.ref a_put_place)))
    {a_needs_block_of_places : Addr}
    {od_needs_block_of_places an_needs_block_of_places : Option Addr} {sl_needs_block_of_places : Array (Option Value)} {oc_needs_block_of_places kV_needs_block_of_places dc_needs_block_of_places pm_needs_block_of_places cd_needs_block_of_places ct_needs_block_of_places : Value}
    (l_needs_block_of_places : K.lookup a_needs_block_of_places = some ⟨oc_needs_block_of_places, od_needs_block_of_places, .func (PySem.W.fnOf "_needs_block_of_places" "_needs_block_of_places" (defArgs s_needs_block_of_places) (defBody s_needs_block_of_places) (defScope s_needs_block_of_places) .none kV_needs_block_of_places dc_needs_block_of_places pm_needs_block_of_places an_needs_block_of_places cd_needs_block_of_places ct_needs_block_of_places), sl_needs_block_of_places⟩)
    (c_needs_block_of_places : PySem.W.codeIn K cd_needs_block_of_places "_needs_block_of_places" = true)
    (k_needs_block_of_places : PySem.W.keepIn K (.ref a_needs_block_of_places) = true)
    (g_needs_block_of_places : PySem.W.nsIn K mainGlobals "_needs_block_of_places" = some (some (.ref a_needs_block_of_places)))
    {a_fill_place : Addr}
    {od_fill_place an_fill_place : Option Addr} {sl_fill_place : Array (Option Value)} {oc_fill_place kV_fill_place dc_fill_place pm_fill_place cd_fill_place ct_fill_place : Value}
    (l_fill_place : K.lookup a_fill_place = some ⟨oc_fill_place, od_fill_place, .func (PySem.W.fnOf "_fill_place" "_fill_place" (defArgs s_fill_place) (defBody s_fill_place) (defScope s_fill_place) .none kV_fill_place dc_fill_place pm_fill_place an_fill_place cd_fill_place ct_fill_place), sl_fill_place⟩)
    (c_fill_place : PySem.W.codeIn K cd_fill_place "_fill_place" = true)
    (k_fill_place : PySem.W.keepIn K (.ref a_fill_place) = true)
    (g_fill_place : PySem.W.nsIn K mainGlobals "_fill_place" = some (some (.ref a_fill_place)))
    {a_take_place : Addr}
    {od_take_place an_take_place : Option Addr} {sl_take_place : Array (Option Value)} {oc_take_place kV_take_place dc_take_place pm_take_place cd_take_place ct_take_place : Value}
    (l_take_place : K.lookup a_take_place = some ⟨oc_take_place, od_take_place, .func (PySem.W.fnOf "take_place" "take_place" (defArgs s_take_place) (defBody s_take_place) (defScope s_take_place) .none kV_take_place dc_take_place pm_take_place an_take_place cd_take_place ct_take_place), sl_take_place⟩)
    (c_take_place : PySem.W.codeIn K cd_take_place "take_place" = true)
    (k_take_place : PySem.W.keepIn K (.ref a_take_place) = true)
    (g_take_place : PySem.W.nsIn K mainGlobals "take_place" = some (some (.ref a_take_place)))
    {a_drop_block_of_places : Addr}
    {od_drop_block_of_places an_drop_block_of_places : Option Addr} {sl_drop_block_of_places : Array (Option Value)} {oc_drop_block_of_places kV_drop_block_of_places dc_drop_block_of_places pm_drop_block_of_places cd_drop_block_of_places ct_drop_block_of_places : Value}
    (l_drop_block_of_places : K.lookup a_drop_block_of_places = some ⟨oc_drop_block_of_places, od_drop_block_of_places, .func (PySem.W.fnOf "_drop_block_of_places" "_drop_block_of_places" (defArgs s_drop_block_of_places) (defBody s_drop_block_of_places) (defScope s_drop_block_of_places) .none kV_drop_block_of_places dc_drop_block_of_places pm_drop_block_of_places an_drop_block_of_places cd_drop_block_of_places ct_drop_block_of_places), sl_drop_block_of_places⟩)
    (c_drop_block_of_places : PySem.W.codeIn K cd_drop_block_of_places "_drop_block_of_places" = true)
    (k_drop_block_of_places : PySem.W.keepIn K (.ref a_drop_block_of_places) = true)
    (g_drop_block_of_places : PySem.W.nsIn K mainGlobals "_drop_block_of_places" = some (some (.ref a_drop_block_of_places)))
    {a_drop_place : Addr}
    {od_drop_place an_drop_place : Option Addr} {sl_drop_place : Array (Option Value)} {oc_drop_place kV_drop_place dc_drop_place pm_drop_place cd_drop_place ct_drop_place : Value}
    (l_drop_place : K.lookup a_drop_place = some ⟨oc_drop_place, od_drop_place, .func (PySem.W.fnOf "drop_place" "drop_place" (defArgs s_drop_place) (defBody s_drop_place) (defScope s_drop_place) .none kV_drop_place dc_drop_place pm_drop_place an_drop_place cd_drop_place ct_drop_place), sl_drop_place⟩)
    (c_drop_place : PySem.W.codeIn K cd_drop_place "drop_place" = true)
    (k_drop_place : PySem.W.keepIn K (.ref a_drop_place) = true)
    (g_drop_place : PySem.W.nsIn K mainGlobals "drop_place" = some (some (.ref a_drop_place)))
    {a_held_blocks : Addr}
    {od_held_blocks an_held_blocks : Option Addr} {sl_held_blocks : Array (Option Value)} {oc_held_blocks kV_held_blocks dc_held_blocks pm_held_blocks cd_held_blocks ct_held_blocks : Value}
    (l_held_blocks : K.lookup a_held_blocks = some ⟨oc_held_blocks, od_held_blocks, .func (PySem.W.fnOf "held_blocks" "held_blocks" (defArgs s_held_blocks) (defBody s_held_blocks) (defScope s_held_blocks) .none kV_held_blocks dc_held_blocks pm_held_blocks an_held_blocks cd_held_blocks ct_held_blocks), sl_held_blocks⟩)
    (c_held_blocks : PySem.W.codeIn K cd_held_blocks "held_blocks" = true)
    (k_held_blocks : PySem.W.keepIn K (.ref a_held_blocks) = true)
    (g_held_blocks : PySem.W.nsIn K mainGlobals "held_blocks" = some (some (.ref a_held_blocks)))
    {a_taken_behind : Addr}
    {od_taken_behind an_taken_behind : Option Addr} {sl_taken_behind : Array (Option Value)} {oc_taken_behind kV_taken_behind dc_taken_behind pm_taken_behind cd_taken_behind ct_taken_behind : Value}
    (l_taken_behind : K.lookup a_taken_behind = some ⟨oc_taken_behind, od_taken_behind, .func (PySem.W.fnOf "_taken_behind" "_taken_behind" (defArgs s_taken_behind) (defBody s_taken_behind) (defScope s_taken_behind) .none kV_taken_behind dc_taken_behind pm_taken_behind an_taken_behind cd_taken_behind ct_taken_behind), sl_taken_behind⟩)
    (c_taken_behind : PySem.W.codeIn K cd_taken_behind "_taken_behind" = true)
    (k_taken_behind : PySem.W.keepIn K (.ref a_taken_behind) = true)
    (g_taken_behind : PySem.W.nsIn K mainGlobals "_taken_behind" = some (some (.ref a_taken_behind)))
    {a_unfinished : Addr}
    {od_unfinished an_unfinished : Option Addr} {sl_unfinished : Array (Option Value)} {oc_unfinished kV_unfinished dc_unfinished pm_unfinished cd_unfinished ct_unfinished : Value}
    (l_unfinished : K.lookup a_unfinished = some ⟨oc_unfinished, od_unfinished, .func (PySem.W.fnOf "unfinished" "unfinished" (defArgs s_unfinished) (defBody s_unfinished) (defScope s_unfinished) .none kV_unfinished dc_unfinished pm_unfinished an_unfinished cd_unfinished ct_unfinished), sl_unfinished⟩)
    (c_unfinished : PySem.W.codeIn K cd_unfinished "unfinished" = true)
    (k_unfinished : PySem.W.keepIn K (.ref a_unfinished) = true)
    (g_unfinished : PySem.W.nsIn K mainGlobals "unfinished" = some (some (.ref a_unfinished)))
    {a_put_size : Addr}
    {od_put_size an_put_size : Option Addr} {sl_put_size : Array (Option Value)} {oc_put_size kV_put_size dc_put_size pm_put_size cd_put_size ct_put_size : Value}
    (l_put_size : K.lookup a_put_size = some ⟨oc_put_size, od_put_size, .func (PySem.W.fnOf "put_size" "put_size" (defArgs s_put_size) (defBody s_put_size) (defScope s_put_size) .none kV_put_size dc_put_size pm_put_size an_put_size cd_put_size ct_put_size), sl_put_size⟩)
    (c_put_size : PySem.W.codeIn K cd_put_size "put_size" = true)
    (k_put_size : PySem.W.keepIn K (.ref a_put_size) = true)
    (g_put_size : PySem.W.nsIn K mainGlobals "put_size" = some (some (.ref a_put_size)))
    {a_set_size : Addr}
    {od_set_size an_set_size : Option Addr} {sl_set_size : Array (Option Value)} {oc_set_size kV_set_size dc_set_size pm_set_size cd_set_size ct_set_size : Value}
    (l_set_size : K.lookup a_set_size = some ⟨oc_set_size, od_set_size, .func (PySem.W.fnOf "set_size" "set_size" (defArgs s_set_size) (defBody s_set_size) (defScope s_set_size) .none kV_set_size dc_set_size pm_set_size an_set_size cd_set_size ct_set_size), sl_set_size⟩)
    (c_set_size : PySem.W.codeIn K cd_set_size "set_size" = true)
    (k_set_size : PySem.W.keepIn K (.ref a_set_size) = true)
    (g_set_size : PySem.W.nsIn K mainGlobals "set_size" = some (some (.ref a_set_size)))
    {a_free_piece : Addr}
    {od_free_piece an_free_piece : Option Addr} {sl_free_piece : Array (Option Value)} {oc_free_piece kV_free_piece dc_free_piece pm_free_piece cd_free_piece ct_free_piece : Value}
    (l_free_piece : K.lookup a_free_piece = some ⟨oc_free_piece, od_free_piece, .func (PySem.W.fnOf "free_piece" "free_piece" (defArgs s_free_piece) (defBody s_free_piece) (defScope s_free_piece) .none kV_free_piece dc_free_piece pm_free_piece an_free_piece cd_free_piece ct_free_piece), sl_free_piece⟩)
    (c_free_piece : PySem.W.codeIn K cd_free_piece "free_piece" = true)
    (k_free_piece : PySem.W.keepIn K (.ref a_free_piece) = true)
    (g_free_piece : PySem.W.nsIn K mainGlobals "free_piece" = some (some (.ref a_free_piece)))
    {a_read_word : Addr}
    {od_read_word an_read_word : Option Addr} {sl_read_word : Array (Option Value)} {oc_read_word kV_read_word dc_read_word pm_read_word cd_read_word ct_read_word : Value}
    (l_read_word : K.lookup a_read_word = some ⟨oc_read_word, od_read_word, .func (PySem.W.fnOf "_read_word" "_read_word" (defArgs s_read_word) (defBody s_read_word) (defScope s_read_word) .none kV_read_word dc_read_word pm_read_word an_read_word cd_read_word ct_read_word), sl_read_word⟩)
    (c_read_word : PySem.W.codeIn K cd_read_word "_read_word" = true)
    (k_read_word : PySem.W.keepIn K (.ref a_read_word) = true)
    (g_read_word : PySem.W.nsIn K mainGlobals "_read_word" = some (some (.ref a_read_word)))
    {a_read_words : Addr}
    {od_read_words an_read_words : Option Addr} {sl_read_words : Array (Option Value)} {oc_read_words kV_read_words dc_read_words pm_read_words cd_read_words ct_read_words : Value}
    (l_read_words : K.lookup a_read_words = some ⟨oc_read_words, od_read_words, .func (PySem.W.fnOf "read_words" "read_words" (defArgs s_read_words) (defBody s_read_words) (defScope s_read_words) .none kV_read_words dc_read_words pm_read_words an_read_words cd_read_words ct_read_words), sl_read_words⟩)
    (c_read_words : PySem.W.codeIn K cd_read_words "read_words" = true)
    (k_read_words : PySem.W.keepIn K (.ref a_read_words) = true)
    (g_read_words : PySem.W.nsIn K mainGlobals "read_words" = some (some (.ref a_read_words)))
    {a_file_words : Addr}
    {od_file_words an_file_words : Option Addr} {sl_file_words : Array (Option Value)} {oc_file_words kV_file_words dc_file_words pm_file_words cd_file_words ct_file_words : Value}
    (l_file_words : K.lookup a_file_words = some ⟨oc_file_words, od_file_words, .func (PySem.W.fnOf "file_words" "file_words" (defArgs s_file_words) (defBody s_file_words) (defScope s_file_words) .none kV_file_words dc_file_words pm_file_words an_file_words cd_file_words ct_file_words), sl_file_words⟩)
    (c_file_words : PySem.W.codeIn K cd_file_words "file_words" = true)
    (k_file_words : PySem.W.keepIn K (.ref a_file_words) = true)
    (g_file_words : PySem.W.nsIn K mainGlobals "file_words" = some (some (.ref a_file_words)))
    {a_take_places : Addr}
    {od_take_places an_take_places : Option Addr} {sl_take_places : Array (Option Value)} {oc_take_places kV_take_places dc_take_places pm_take_places cd_take_places ct_take_places : Value}
    (l_take_places : K.lookup a_take_places = some ⟨oc_take_places, od_take_places, .func (PySem.W.fnOf "_take_places" "_take_places" (defArgs s_take_places) (defBody s_take_places) (defScope s_take_places) .none kV_take_places dc_take_places pm_take_places an_take_places cd_take_places ct_take_places), sl_take_places⟩)
    (c_take_places : PySem.W.codeIn K cd_take_places "_take_places" = true)
    (k_take_places : PySem.W.keepIn K (.ref a_take_places) = true)
    (g_take_places : PySem.W.nsIn K mainGlobals "_take_places" = some (some (.ref a_take_places)))
    {a_fill_holes : Addr}
    {od_fill_holes an_fill_holes : Option Addr} {sl_fill_holes : Array (Option Value)} {oc_fill_holes kV_fill_holes dc_fill_holes pm_fill_holes cd_fill_holes ct_fill_holes : Value}
    (l_fill_holes : K.lookup a_fill_holes = some ⟨oc_fill_holes, od_fill_holes, .func (PySem.W.fnOf "_fill_holes" "_fill_holes" (defArgs s_fill_holes) (defBody s_fill_holes) (defScope s_fill_holes) .none kV_fill_holes dc_fill_holes pm_fill_holes an_fill_holes cd_fill_holes ct_fill_holes), sl_fill_holes⟩)
    (c_fill_holes : PySem.W.codeIn K cd_fill_holes "_fill_holes" = true)
    (k_fill_holes : PySem.W.keepIn K (.ref a_fill_holes) = true)
    (g_fill_holes : PySem.W.nsIn K mainGlobals "_fill_holes" = some (some (.ref a_fill_holes)))
    {a_write_words : Addr}
    {od_write_words an_write_words : Option Addr} {sl_write_words : Array (Option Value)} {oc_write_words kV_write_words dc_write_words pm_write_words cd_write_words ct_write_words : Value}
    (l_write_words : K.lookup a_write_words = some ⟨oc_write_words, od_write_words, .func (PySem.W.fnOf "write_words" "write_words" (defArgs s_write_words) (defBody s_write_words) (defScope s_write_words) .none kV_write_words dc_write_words pm_write_words an_write_words cd_write_words ct_write_words), sl_write_words⟩)
    (c_write_words : PySem.W.codeIn K cd_write_words "write_words" = true)
    (k_write_words : PySem.W.keepIn K (.ref a_write_words) = true)
    (g_write_words : PySem.W.nsIn K mainGlobals "write_words" = some (some (.ref a_write_words)))
    {a_Lfeed : Addr}
    {od_Lfeed an_Lfeed : Option Addr} {sl_Lfeed : Array (Option Value)} {oc_Lfeed kV_Lfeed dc_Lfeed pm_Lfeed cd_Lfeed ct_Lfeed : Value}
    (l_Lfeed : K.lookup a_Lfeed = some ⟨oc_Lfeed, od_Lfeed, .func (PySem.W.fnOf "_law_feed" "_law_feed" (defArgs s_Lfeed) (defBody s_Lfeed) (defScope s_Lfeed) .none kV_Lfeed dc_Lfeed pm_Lfeed an_Lfeed cd_Lfeed ct_Lfeed), sl_Lfeed⟩)
    (c_Lfeed : PySem.W.codeIn K cd_Lfeed "_law_feed" = true)
    (k_Lfeed : PySem.W.keepIn K (.ref a_Lfeed) = true)
    (g_Lfeed : PySem.W.nsIn K mainGlobals "_law_feed" = some (some (.ref a_Lfeed)))
    {a_Lpick : Addr}
    {od_Lpick an_Lpick : Option Addr} {sl_Lpick : Array (Option Value)} {oc_Lpick kV_Lpick dc_Lpick pm_Lpick cd_Lpick ct_Lpick : Value}
    (l_Lpick : K.lookup a_Lpick = some ⟨oc_Lpick, od_Lpick, .func (PySem.W.fnOf "_law_pick" "_law_pick" (defArgs s_Lpick) (defBody s_Lpick) (defScope s_Lpick) .none kV_Lpick dc_Lpick pm_Lpick an_Lpick cd_Lpick ct_Lpick), sl_Lpick⟩)
    (c_Lpick : PySem.W.codeIn K cd_Lpick "_law_pick" = true)
    (k_Lpick : PySem.W.keepIn K (.ref a_Lpick) = true)
    (g_Lpick : PySem.W.nsIn K mainGlobals "_law_pick" = some (some (.ref a_Lpick)))
    {a_Linteger : Addr}
    {od_Linteger an_Linteger : Option Addr} {sl_Linteger : Array (Option Value)} {oc_Linteger kV_Linteger dc_Linteger pm_Linteger cd_Linteger ct_Linteger : Value}
    (l_Linteger : K.lookup a_Linteger = some ⟨oc_Linteger, od_Linteger, .func (PySem.W.fnOf "_law_integer" "_law_integer" (defArgs s_Linteger) (defBody s_Linteger) (defScope s_Linteger) .none kV_Linteger dc_Linteger pm_Linteger an_Linteger cd_Linteger ct_Linteger), sl_Linteger⟩)
    (c_Linteger : PySem.W.codeIn K cd_Linteger "_law_integer" = true)
    (k_Linteger : PySem.W.keepIn K (.ref a_Linteger) = true)
    (g_Linteger : PySem.W.nsIn K mainGlobals "_law_integer" = some (some (.ref a_Linteger)))
    {a_Lrow : Addr}
    {od_Lrow an_Lrow : Option Addr} {sl_Lrow : Array (Option Value)} {oc_Lrow kV_Lrow dc_Lrow pm_Lrow cd_Lrow ct_Lrow : Value}
    (l_Lrow : K.lookup a_Lrow = some ⟨oc_Lrow, od_Lrow, .func (PySem.W.fnOf "_law_row" "_law_row" (defArgs s_Lrow) (defBody s_Lrow) (defScope s_Lrow) .none kV_Lrow dc_Lrow pm_Lrow an_Lrow cd_Lrow ct_Lrow), sl_Lrow⟩)
    (c_Lrow : PySem.W.codeIn K cd_Lrow "_law_row" = true)
    (k_Lrow : PySem.W.keepIn K (.ref a_Lrow) = true)
    (g_Lrow : PySem.W.nsIn K mainGlobals "_law_row" = some (some (.ref a_Lrow)))
    {a_Lbehind : Addr}
    {od_Lbehind an_Lbehind : Option Addr} {sl_Lbehind : Array (Option Value)} {oc_Lbehind kV_Lbehind dc_Lbehind pm_Lbehind cd_Lbehind ct_Lbehind : Value}
    (l_Lbehind : K.lookup a_Lbehind = some ⟨oc_Lbehind, od_Lbehind, .func (PySem.W.fnOf "_law_behind" "_law_behind" (defArgs s_Lbehind) (defBody s_Lbehind) (defScope s_Lbehind) .none kV_Lbehind dc_Lbehind pm_Lbehind an_Lbehind cd_Lbehind ct_Lbehind), sl_Lbehind⟩)
    (c_Lbehind : PySem.W.codeIn K cd_Lbehind "_law_behind" = true)
    (k_Lbehind : PySem.W.keepIn K (.ref a_Lbehind) = true)
    (g_Lbehind : PySem.W.nsIn K mainGlobals "_law_behind" = some (some (.ref a_Lbehind)))
    {a_Lblocks : Addr}
    {od_Lblocks an_Lblocks : Option Addr} {sl_Lblocks : Array (Option Value)} {oc_Lblocks kV_Lblocks dc_Lblocks pm_Lblocks cd_Lblocks ct_Lblocks : Value}
    (l_Lblocks : K.lookup a_Lblocks = some ⟨oc_Lblocks, od_Lblocks, .func (PySem.W.fnOf "_law_blocks" "_law_blocks" (defArgs s_Lblocks) (defBody s_Lblocks) (defScope s_Lblocks) .none kV_Lblocks dc_Lblocks pm_Lblocks an_Lblocks cd_Lblocks ct_Lblocks), sl_Lblocks⟩)
    (c_Lblocks : PySem.W.codeIn K cd_Lblocks "_law_blocks" = true)
    (k_Lblocks : PySem.W.keepIn K (.ref a_Lblocks) = true)
    (g_Lblocks : PySem.W.nsIn K mainGlobals "_law_blocks" = some (some (.ref a_Lblocks)))
    {a_Lagrees : Addr}
    {od_Lagrees an_Lagrees : Option Addr} {sl_Lagrees : Array (Option Value)} {oc_Lagrees kV_Lagrees dc_Lagrees pm_Lagrees cd_Lagrees ct_Lagrees : Value}
    (l_Lagrees : K.lookup a_Lagrees = some ⟨oc_Lagrees, od_Lagrees, .func (PySem.W.fnOf "_law_agrees" "_law_agrees" (defArgs s_Lagrees) (defBody s_Lagrees) (defScope s_Lagrees) .none kV_Lagrees dc_Lagrees pm_Lagrees an_Lagrees cd_Lagrees ct_Lagrees), sl_Lagrees⟩)
    (c_Lagrees : PySem.W.codeIn K cd_Lagrees "_law_agrees" = true)
    (k_Lagrees : PySem.W.keepIn K (.ref a_Lagrees) = true)
    (g_Lagrees : PySem.W.nsIn K mainGlobals "_law_agrees" = some (some (.ref a_Lagrees)))
    {a_Lwindow : Addr}
    {od_Lwindow an_Lwindow : Option Addr} {sl_Lwindow : Array (Option Value)} {oc_Lwindow kV_Lwindow dc_Lwindow pm_Lwindow cd_Lwindow ct_Lwindow : Value}
    (l_Lwindow : K.lookup a_Lwindow = some ⟨oc_Lwindow, od_Lwindow, .func (PySem.W.fnOf "_law_window" "_law_window" (defArgs s_Lwindow) (defBody s_Lwindow) (defScope s_Lwindow) .none kV_Lwindow dc_Lwindow pm_Lwindow an_Lwindow cd_Lwindow ct_Lwindow), sl_Lwindow⟩)
    (c_Lwindow : PySem.W.codeIn K cd_Lwindow "_law_window" = true)
    (k_Lwindow : PySem.W.keepIn K (.ref a_Lwindow) = true)
    (g_Lwindow : PySem.W.nsIn K mainGlobals "_law_window" = some (some (.ref a_Lwindow)))
    {a_Lwrite_refused : Addr}
    {od_Lwrite_refused an_Lwrite_refused : Option Addr} {sl_Lwrite_refused : Array (Option Value)} {oc_Lwrite_refused kV_Lwrite_refused dc_Lwrite_refused pm_Lwrite_refused cd_Lwrite_refused ct_Lwrite_refused : Value}
    (l_Lwrite_refused : K.lookup a_Lwrite_refused = some ⟨oc_Lwrite_refused, od_Lwrite_refused, .func (PySem.W.fnOf "_law_write_refused" "_law_write_refused" (defArgs s_Lwrite_refused) (defBody s_Lwrite_refused) (defScope s_Lwrite_refused) .none kV_Lwrite_refused dc_Lwrite_refused pm_Lwrite_refused an_Lwrite_refused cd_Lwrite_refused ct_Lwrite_refused), sl_Lwrite_refused⟩)
    (c_Lwrite_refused : PySem.W.codeIn K cd_Lwrite_refused "_law_write_refused" = true)
    (k_Lwrite_refused : PySem.W.keepIn K (.ref a_Lwrite_refused) = true)
    (g_Lwrite_refused : PySem.W.nsIn K mainGlobals "_law_write_refused" = some (some (.ref a_Lwrite_refused)))
    {a_Lsize_refused : Addr}
    {od_Lsize_refused an_Lsize_refused : Option Addr} {sl_Lsize_refused : Array (Option Value)} {oc_Lsize_refused kV_Lsize_refused dc_Lsize_refused pm_Lsize_refused cd_Lsize_refused ct_Lsize_refused : Value}
    (l_Lsize_refused : K.lookup a_Lsize_refused = some ⟨oc_Lsize_refused, od_Lsize_refused, .func (PySem.W.fnOf "_law_size_refused" "_law_size_refused" (defArgs s_Lsize_refused) (defBody s_Lsize_refused) (defScope s_Lsize_refused) .none kV_Lsize_refused dc_Lsize_refused pm_Lsize_refused an_Lsize_refused cd_Lsize_refused ct_Lsize_refused), sl_Lsize_refused⟩)
    (c_Lsize_refused : PySem.W.codeIn K cd_Lsize_refused "_law_size_refused" = true)
    (k_Lsize_refused : PySem.W.keepIn K (.ref a_Lsize_refused) = true)
    (g_Lsize_refused : PySem.W.nsIn K mainGlobals "_law_size_refused" = some (some (.ref a_Lsize_refused)))
    {a_Lwrite : Addr}
    {od_Lwrite an_Lwrite : Option Addr} {sl_Lwrite : Array (Option Value)} {oc_Lwrite kV_Lwrite dc_Lwrite pm_Lwrite cd_Lwrite ct_Lwrite : Value}
    (l_Lwrite : K.lookup a_Lwrite = some ⟨oc_Lwrite, od_Lwrite, .func (PySem.W.fnOf "_law_write" "_law_write" (defArgs s_Lwrite) (defBody s_Lwrite) (defScope s_Lwrite) .none kV_Lwrite dc_Lwrite pm_Lwrite an_Lwrite cd_Lwrite ct_Lwrite), sl_Lwrite⟩)
    (c_Lwrite : PySem.W.codeIn K cd_Lwrite "_law_write" = true)
    (k_Lwrite : PySem.W.keepIn K (.ref a_Lwrite) = true)
    (g_Lwrite : PySem.W.nsIn K mainGlobals "_law_write" = some (some (.ref a_Lwrite)))
    {a_Lsize : Addr}
    {od_Lsize an_Lsize : Option Addr} {sl_Lsize : Array (Option Value)} {oc_Lsize kV_Lsize dc_Lsize pm_Lsize cd_Lsize ct_Lsize : Value}
    (l_Lsize : K.lookup a_Lsize = some ⟨oc_Lsize, od_Lsize, .func (PySem.W.fnOf "_law_size" "_law_size" (defArgs s_Lsize) (defBody s_Lsize) (defScope s_Lsize) .none kV_Lsize dc_Lsize pm_Lsize an_Lsize cd_Lsize ct_Lsize), sl_Lsize⟩)
    (c_Lsize : PySem.W.codeIn K cd_Lsize "_law_size" = true)
    (k_Lsize : PySem.W.keepIn K (.ref a_Lsize) = true)
    (g_Lsize : PySem.W.nsIn K mainGlobals "_law_size" = some (some (.ref a_Lsize)))
    {a_Lspoil : Addr}
    {od_Lspoil an_Lspoil : Option Addr} {sl_Lspoil : Array (Option Value)} {oc_Lspoil kV_Lspoil dc_Lspoil pm_Lspoil cd_Lspoil ct_Lspoil : Value}
    (l_Lspoil : K.lookup a_Lspoil = some ⟨oc_Lspoil, od_Lspoil, .func (PySem.W.fnOf "_law_spoil" "_law_spoil" (defArgs s_Lspoil) (defBody s_Lspoil) (defScope s_Lspoil) .none kV_Lspoil dc_Lspoil pm_Lspoil an_Lspoil cd_Lspoil ct_Lspoil), sl_Lspoil⟩)
    (c_Lspoil : PySem.W.codeIn K cd_Lspoil "_law_spoil" = true)
    (k_Lspoil : PySem.W.keepIn K (.ref a_Lspoil) = true)
    (g_Lspoil : PySem.W.nsIn K mainGlobals "_law_spoil" = some (some (.ref a_Lspoil)))
    {a_Lpiece : Addr}
    {od_Lpiece an_Lpiece : Option Addr} {sl_Lpiece : Array (Option Value)} {oc_Lpiece kV_Lpiece dc_Lpiece pm_Lpiece cd_Lpiece ct_Lpiece : Value}
    (l_Lpiece : K.lookup a_Lpiece = some ⟨oc_Lpiece, od_Lpiece, .func (PySem.W.fnOf "_law_piece" "_law_piece" (defArgs s_Lpiece) (defBody s_Lpiece) (defScope s_Lpiece) .none kV_Lpiece dc_Lpiece pm_Lpiece an_Lpiece cd_Lpiece ct_Lpiece), sl_Lpiece⟩)
    (c_Lpiece : PySem.W.codeIn K cd_Lpiece "_law_piece" = true)
    (k_Lpiece : PySem.W.keepIn K (.ref a_Lpiece) = true)
    (g_Lpiece : PySem.W.nsIn K mainGlobals "_law_piece" = some (some (.ref a_Lpiece)))
    {a_law : Addr}
    {od_law an_law : Option Addr} {sl_law : Array (Option Value)} {oc_law kV_law dc_law pm_law cd_law ct_law : Value}
    (l_law : K.lookup a_law = some ⟨oc_law, od_law, .func (PySem.W.fnOf "law" "law" (defArgs s_law) (defBody s_law) (defScope s_law) .none kV_law dc_law pm_law an_law cd_law ct_law), sl_law⟩)
    (c_law : PySem.W.codeIn K cd_law "law" = true)
    (k_law : PySem.W.keepIn K (.ref a_law) = true)
    (g_law : PySem.W.nsIn K mainGlobals "law" = some (some (.ref a_law)))
    {a_Plan___init__ : Addr}
    {od_Plan___init__ an_Plan___init__ : Option Addr} {sl_Plan___init__ : Array (Option Value)} {oc_Plan___init__ kV_Plan___init__ dc_Plan___init__ pm_Plan___init__ cd_Plan___init__ ct_Plan___init__ : Value}
    (l_Plan___init__ : K.lookup a_Plan___init__ = some ⟨oc_Plan___init__, od_Plan___init__, .func (PySem.W.fnOf "__init__" "Plan.__init__" (defArgs s_Plan___init__) (defBody s_Plan___init__) (defScope s_Plan___init__) .none kV_Plan___init__ dc_Plan___init__ pm_Plan___init__ an_Plan___init__ cd_Plan___init__ ct_Plan___init__), sl_Plan___init__⟩)
    (c_Plan___init__ : PySem.W.codeIn K cd_Plan___init__ "Plan.__init__" = true)
    (k_Plan___init__ : PySem.W.keepIn K (.ref a_Plan___init__) = true)
    {a_Plan_map_place : Addr}
    {od_Plan_map_place an_Plan_map_place : Option Addr} {sl_Plan_map_place : Array (Option Value)} {oc_Plan_map_place kV_Plan_map_place dc_Plan_map_place pm_Plan_map_place cd_Plan_map_place ct_Plan_map_place : Value}
    (l_Plan_map_place : K.lookup a_Plan_map_place = some ⟨oc_Plan_map_place, od_Plan_map_place, .func (PySem.W.fnOf "map_place" "Plan.map_place" (defArgs s_Plan_map_place) (defBody s_Plan_map_place) (defScope s_Plan_map_place) .none kV_Plan_map_place dc_Plan_map_place pm_Plan_map_place an_Plan_map_place cd_Plan_map_place ct_Plan_map_place), sl_Plan_map_place⟩)
    (c_Plan_map_place : PySem.W.codeIn K cd_Plan_map_place "Plan.map_place" = true)
    (k_Plan_map_place : PySem.W.keepIn K (.ref a_Plan_map_place) = true)
    {a_Plan_node_block : Addr}
    {od_Plan_node_block an_Plan_node_block : Option Addr} {sl_Plan_node_block : Array (Option Value)} {oc_Plan_node_block kV_Plan_node_block dc_Plan_node_block pm_Plan_node_block cd_Plan_node_block ct_Plan_node_block : Value}
    (l_Plan_node_block : K.lookup a_Plan_node_block = some ⟨oc_Plan_node_block, od_Plan_node_block, .func (PySem.W.fnOf "node_block" "Plan.node_block" (defArgs s_Plan_node_block) (defBody s_Plan_node_block) (defScope s_Plan_node_block) .none kV_Plan_node_block dc_Plan_node_block pm_Plan_node_block an_Plan_node_block cd_Plan_node_block ct_Plan_node_block), sl_Plan_node_block⟩)
    (c_Plan_node_block : PySem.W.codeIn K cd_Plan_node_block "Plan.node_block" = true)
    (k_Plan_node_block : PySem.W.keepIn K (.ref a_Plan_node_block) = true)
    {a_Plan_data_blocks : Addr}
    {od_Plan_data_blocks an_Plan_data_blocks : Option Addr} {sl_Plan_data_blocks : Array (Option Value)} {oc_Plan_data_blocks kV_Plan_data_blocks dc_Plan_data_blocks pm_Plan_data_blocks cd_Plan_data_blocks ct_Plan_data_blocks : Value}
    (l_Plan_data_blocks : K.lookup a_Plan_data_blocks = some ⟨oc_Plan_data_blocks, od_Plan_data_blocks, .func (PySem.W.fnOf "data_blocks" "Plan.data_blocks" (defArgs s_Plan_data_blocks) (defBody s_Plan_data_blocks) (defScope s_Plan_data_blocks) .none kV_Plan_data_blocks dc_Plan_data_blocks pm_Plan_data_blocks an_Plan_data_blocks cd_Plan_data_blocks ct_Plan_data_blocks), sl_Plan_data_blocks⟩)
    (c_Plan_data_blocks : PySem.W.codeIn K cd_Plan_data_blocks "Plan.data_blocks" = true)
    (k_Plan_data_blocks : PySem.W.keepIn K (.ref a_Plan_data_blocks) = true)
    {a_Image___init__ : Addr}
    {od_Image___init__ an_Image___init__ : Option Addr} {sl_Image___init__ : Array (Option Value)} {oc_Image___init__ kV_Image___init__ dc_Image___init__ pm_Image___init__ cd_Image___init__ ct_Image___init__ : Value}
    (l_Image___init__ : K.lookup a_Image___init__ = some ⟨oc_Image___init__, od_Image___init__, .func (PySem.W.fnOf "__init__" "Image.__init__" (defArgs s_Image___init__) (defBody s_Image___init__) (defScope s_Image___init__) .none kV_Image___init__ dc_Image___init__ pm_Image___init__ an_Image___init__ cd_Image___init__ ct_Image___init__), sl_Image___init__⟩)
    (c_Image___init__ : PySem.W.codeIn K cd_Image___init__ "Image.__init__" = true)
    (k_Image___init__ : PySem.W.keepIn K (.ref a_Image___init__) = true)
    {a_Image_begin : Addr}
    {od_Image_begin an_Image_begin : Option Addr} {sl_Image_begin : Array (Option Value)} {oc_Image_begin kV_Image_begin dc_Image_begin pm_Image_begin cd_Image_begin ct_Image_begin : Value}
    (l_Image_begin : K.lookup a_Image_begin = some ⟨oc_Image_begin, od_Image_begin, .func (PySem.W.fnOf "begin" "Image.begin" (defArgs s_Image_begin) (defBody s_Image_begin) (defScope s_Image_begin) .none kV_Image_begin dc_Image_begin pm_Image_begin an_Image_begin cd_Image_begin ct_Image_begin), sl_Image_begin⟩)
    (c_Image_begin : PySem.W.codeIn K cd_Image_begin "Image.begin" = true)
    (k_Image_begin : PySem.W.keepIn K (.ref a_Image_begin) = true)
    {a_Image_twin : Addr}
    {od_Image_twin an_Image_twin : Option Addr} {sl_Image_twin : Array (Option Value)} {oc_Image_twin kV_Image_twin dc_Image_twin pm_Image_twin cd_Image_twin ct_Image_twin : Value}
    (l_Image_twin : K.lookup a_Image_twin = some ⟨oc_Image_twin, od_Image_twin, .func (PySem.W.fnOf "twin" "Image.twin" (defArgs s_Image_twin) (defBody s_Image_twin) (defScope s_Image_twin) .none kV_Image_twin dc_Image_twin pm_Image_twin an_Image_twin cd_Image_twin ct_Image_twin), sl_Image_twin⟩)
    (c_Image_twin : PySem.W.codeIn K cd_Image_twin "Image.twin" = true)
    (k_Image_twin : PySem.W.keepIn K (.ref a_Image_twin) = true)
    {a_Image_take : Addr}
    {od_Image_take an_Image_take : Option Addr} {sl_Image_take : Array (Option Value)} {oc_Image_take kV_Image_take dc_Image_take pm_Image_take cd_Image_take ct_Image_take : Value}
    (l_Image_take : K.lookup a_Image_take = some ⟨oc_Image_take, od_Image_take, .func (PySem.W.fnOf "take" "Image.take" (defArgs s_Image_take) (defBody s_Image_take) (defScope s_Image_take) .none kV_Image_take dc_Image_take pm_Image_take an_Image_take cd_Image_take ct_Image_take), sl_Image_take⟩)
    (c_Image_take : PySem.W.codeIn K cd_Image_take "Image.take" = true)
    (k_Image_take : PySem.W.keepIn K (.ref a_Image_take) = true)
    {a_Image_give : Addr}
    {od_Image_give an_Image_give : Option Addr} {sl_Image_give : Array (Option Value)} {oc_Image_give kV_Image_give dc_Image_give pm_Image_give cd_Image_give ct_Image_give : Value}
    (l_Image_give : K.lookup a_Image_give = some ⟨oc_Image_give, od_Image_give, .func (PySem.W.fnOf "give" "Image.give" (defArgs s_Image_give) (defBody s_Image_give) (defScope s_Image_give) .none kV_Image_give dc_Image_give pm_Image_give an_Image_give cd_Image_give ct_Image_give), sl_Image_give⟩)
    (c_Image_give : PySem.W.codeIn K cd_Image_give "Image.give" = true)
    (k_Image_give : PySem.W.keepIn K (.ref a_Image_give) = true)
    {a_Image__put_block : Addr}
    {od_Image__put_block an_Image__put_block : Option Addr} {sl_Image__put_block : Array (Option Value)} {oc_Image__put_block kV_Image__put_block dc_Image__put_block pm_Image__put_block cd_Image__put_block ct_Image__put_block : Value}
    (l_Image__put_block : K.lookup a_Image__put_block = some ⟨oc_Image__put_block, od_Image__put_block, .func (PySem.W.fnOf "_put_block" "Image._put_block" (defArgs s_Image__put_block) (defBody s_Image__put_block) (defScope s_Image__put_block) .none kV_Image__put_block dc_Image__put_block pm_Image__put_block an_Image__put_block cd_Image__put_block ct_Image__put_block), sl_Image__put_block⟩)
    (c_Image__put_block : PySem.W.codeIn K cd_Image__put_block "Image._put_block" = true)
    (k_Image__put_block : PySem.W.keepIn K (.ref a_Image__put_block) = true)
    {a_Image_free_blocks : Addr}
    {od_Image_free_blocks an_Image_free_blocks : Option Addr} {sl_Image_free_blocks : Array (Option Value)} {oc_Image_free_blocks kV_Image_free_blocks dc_Image_free_blocks pm_Image_free_blocks cd_Image_free_blocks ct_Image_free_blocks : Value}
    (l_Image_free_blocks : K.lookup a_Image_free_blocks = some ⟨oc_Image_free_blocks, od_Image_free_blocks, .func (PySem.W.fnOf "free_blocks" "Image.free_blocks" (defArgs s_Image_free_blocks) (defBody s_Image_free_blocks) (defScope s_Image_free_blocks) .none kV_Image_free_blocks dc_Image_free_blocks pm_Image_free_blocks an_Image_free_blocks cd_Image_free_blocks ct_Image_free_blocks), sl_Image_free_blocks⟩)
    (c_Image_free_blocks : PySem.W.codeIn K cd_Image_free_blocks "Image.free_blocks" = true)
    (k_Image_free_blocks : PySem.W.keepIn K (.ref a_Image_free_blocks) = true)
    {a_Image_kind : Addr}
    {od_Image_kind an_Image_kind : Option Addr} {sl_Image_kind : Array (Option Value)} {oc_Image_kind kV_Image_kind dc_Image_kind pm_Image_kind cd_Image_kind ct_Image_kind : Value}
    (l_Image_kind : K.lookup a_Image_kind = some ⟨oc_Image_kind, od_Image_kind, .func (PySem.W.fnOf "kind" "Image.kind" (defArgs s_Image_kind) (defBody s_Image_kind) (defScope s_Image_kind) .none kV_Image_kind dc_Image_kind pm_Image_kind an_Image_kind cd_Image_kind ct_Image_kind), sl_Image_kind⟩)
    (c_Image_kind : PySem.W.codeIn K cd_Image_kind "Image.kind" = true)
    (k_Image_kind : PySem.W.keepIn K (.ref a_Image_kind) = true)
    {a_Image_fresh : Addr}
    {od_Image_fresh an_Image_fresh : Option Addr} {sl_Image_fresh : Array (Option Value)} {oc_Image_fresh kV_Image_fresh dc_Image_fresh pm_Image_fresh cd_Image_fresh ct_Image_fresh : Value}
    (l_Image_fresh : K.lookup a_Image_fresh = some ⟨oc_Image_fresh, od_Image_fresh, .func (PySem.W.fnOf "fresh" "Image.fresh" (defArgs s_Image_fresh) (defBody s_Image_fresh) (defScope s_Image_fresh) .none kV_Image_fresh dc_Image_fresh pm_Image_fresh an_Image_fresh cd_Image_fresh ct_Image_fresh), sl_Image_fresh⟩)
    (c_Image_fresh : PySem.W.codeIn K cd_Image_fresh "Image.fresh" = true)
    (k_Image_fresh : PySem.W.keepIn K (.ref a_Image_fresh) = true)
    {a_Image_of_cells : Addr}
    {od_Image_of_cells an_Image_of_cells : Option Addr} {sl_Image_of_cells : Array (Option Value)} {oc_Image_of_cells kV_Image_of_cells dc_Image_of_cells pm_Image_of_cells cd_Image_of_cells ct_Image_of_cells : Value}
    (l_Image_of_cells : K.lookup a_Image_of_cells = some ⟨oc_Image_of_cells, od_Image_of_cells, .func (PySem.W.fnOf "of_cells" "Image.of_cells" (defArgs s_Image_of_cells) (defBody s_Image_of_cells) (defScope s_Image_of_cells) .none kV_Image_of_cells dc_Image_of_cells pm_Image_of_cells an_Image_of_cells cd_Image_of_cells ct_Image_of_cells), sl_Image_of_cells⟩)
    (c_Image_of_cells : PySem.W.codeIn K cd_Image_of_cells "Image.of_cells" = true)
    (k_Image_of_cells : PySem.W.keepIn K (.ref a_Image_of_cells) = true)
    {aC_Plan : Addr}
    (g_Plan : PySem.W.nsIn K mainGlobals "Plan" = some (some (.ref aC_Plan)))
    (pg_Plan : PySem.W.plainGet K aC_Plan Str.empty = true)
    (hd_Plan : PySem.W.hasDictIn K aC_Plan = true)
    (po_Plan : PySem.W.plainOver K aC_Plan = true)
    (sa_Plan : PySem.W.findIn K (.ref aC_Plan) "__setattr__" = some (some (.builtin "object.__setattr__")))
    (n_Plan_blocks : PySem.W.findIn K (.ref aC_Plan) "blocks" = some none)
    (n_Plan_nodes : PySem.W.findIn K (.ref aC_Plan) "nodes" = some none)
    (n_Plan_slots : PySem.W.findIn K (.ref aC_Plan) "slots" = some none)
    (n_Plan_maps : PySem.W.findIn K (.ref aC_Plan) "maps" = some none)
    (n_Plan_first_node : PySem.W.findIn K (.ref aC_Plan) "first_node" = some none)
    (n_Plan_first_data : PySem.W.findIn K (.ref aC_Plan) "first_data" = some none)
    (mk1_Plan : PySem.W.makesIn K aC_Plan = true)
    (mk2_Plan : PySem.W.findIn K (.ref aC_Plan) "__init__" = some (some (.ref a_Plan___init__)))
    (mk3_Plan : PySem.W.isFn K (.ref a_Plan___init__) = true)
    (mk4_Plan : PySem.W.keepIn K (.ref aC_Plan) = true)
    {mcv_Plan : Value}
    (tp_Plan : PySem.W.typeIn K (.ref aC_Plan) = some mcv_Plan)
    (rd_Plan : PySem.W.readsIn K aC_Plan mcv_Plan = true)
    (ga_Plan : PySem.W.specialIn K (.ref aC_Plan) "__getattribute__" = some (some (.builtin "type.__getattribute__")))
    {tv_Plan_WIDTH : Tok}
    (v_Plan_WIDTH : PySem.W.findCls K (.ref aC_Plan) mcv_Plan "WIDTH" = some (.val (.int 8 tv_Plan_WIDTH)))
    {tv_Plan_OWNERS : Tok}
    (v_Plan_OWNERS : PySem.W.findCls K (.ref aC_Plan) mcv_Plan "OWNERS" = some (.val (.int 4 tv_Plan_OWNERS)))
    {tv_Plan_LONGEST : Tok}
    (v_Plan_LONGEST : PySem.W.findCls K (.ref aC_Plan) mcv_Plan "LONGEST" = some (.val (.int 80 tv_Plan_LONGEST)))
    {tv_Plan_FREE : Tok}
    (v_Plan_FREE : PySem.W.findCls K (.ref aC_Plan) mcv_Plan "FREE" = some (.val (.int 0 tv_Plan_FREE)))
    {tv_Plan_LOGGED : Tok}
    (v_Plan_LOGGED : PySem.W.findCls K (.ref aC_Plan) mcv_Plan "LOGGED" = some (.val (.int 1 tv_Plan_LOGGED)))
    {tv_Plan_PLAIN : Tok}
    (v_Plan_PLAIN : PySem.W.findCls K (.ref aC_Plan) mcv_Plan "PLAIN" = some (.val (.int 2 tv_Plan_PLAIN)))
    {tc_Plan_WIDTH : Tok}
    (o_Plan_WIDTH : PySem.W.findIn K (.ref aC_Plan) "WIDTH" = some (some (.int 8 tc_Plan_WIDTH)))
    (og_Plan_WIDTH : PySem.W.specialIn K (.int 8 tc_Plan_WIDTH) "__get__" = some none)
    {aC_Image : Addr}
    (g_Image : PySem.W.nsIn K mainGlobals "Image" = some (some (.ref aC_Image)))
    (pg_Image : PySem.W.plainGet K aC_Image Str.empty = true)
    (hd_Image : PySem.W.hasDictIn K aC_Image = true)
    (po_Image : PySem.W.plainOver K aC_Image = true)
    (sa_Image : PySem.W.findIn K (.ref aC_Image) "__setattr__" = some (some (.builtin "object.__setattr__")))
    (n_Image_plan : PySem.W.findIn K (.ref aC_Image) "plan" = some none)
    (n_Image_cells : PySem.W.findIn K (.ref aC_Image) "cells" = some none)
    (n_Image_holdings : PySem.W.findIn K (.ref aC_Image) "holdings" = some none)
    (n_Image_stamps : PySem.W.findIn K (.ref aC_Image) "stamps" = some none)
    (n_Image_handles : PySem.W.findIn K (.ref aC_Image) "handles" = some none)
    (n_Image_serial : PySem.W.findIn K (.ref aC_Image) "serial" = some none)
    (n_Image_wish : PySem.W.findIn K (.ref aC_Image) "wish" = some none)
    (n_Image_barred : PySem.W.findIn K (.ref aC_Image) "barred" = some none)
    (mk1_Image : PySem.W.makesIn K aC_Image = true)
    (mk2_Image : PySem.W.findIn K (.ref aC_Image) "__init__" = some (some (.ref a_Image___init__)))
    (mk3_Image : PySem.W.isFn K (.ref a_Image___init__) = true)
    (mk4_Image : PySem.W.keepIn K (.ref aC_Image) = true)
    {mcv_Image : Value}
    (tp_Image : PySem.W.typeIn K (.ref aC_Image) = some mcv_Image)
    (rd_Image : PySem.W.readsIn K aC_Image mcv_Image = true)
    (ga_Image : PySem.W.specialIn K (.ref aC_Image) "__getattribute__" = some (some (.builtin "type.__getattribute__")))
    (m1_Plan_map_place : PySem.W.findIn K (.ref aC_Plan) "map_place" = some (some (.ref a_Plan_map_place)))
    (m2_Plan_map_place : PySem.W.isFn K (.ref a_Plan_map_place) = true)
    (m1_Plan_node_block : PySem.W.findIn K (.ref aC_Plan) "node_block" = some (some (.ref a_Plan_node_block)))
    (m2_Plan_node_block : PySem.W.isFn K (.ref a_Plan_node_block) = true)
    (m1_Plan_data_blocks : PySem.W.findIn K (.ref aC_Plan) "data_blocks" = some (some (.ref a_Plan_data_blocks)))
    (m2_Plan_data_blocks : PySem.W.isFn K (.ref a_Plan_data_blocks) = true)
    (m1_Image_begin : PySem.W.findIn K (.ref aC_Image) "begin" = some (some (.ref a_Image_begin)))
    (m2_Image_begin : PySem.W.isFn K (.ref a_Image_begin) = true)
    (m1_Image_twin : PySem.W.findIn K (.ref aC_Image) "twin" = some (some (.ref a_Image_twin)))
    (m2_Image_twin : PySem.W.isFn K (.ref a_Image_twin) = true)
    (m1_Image_take : PySem.W.findIn K (.ref aC_Image) "take" = some (some (.ref a_Image_take)))
    (m2_Image_take : PySem.W.isFn K (.ref a_Image_take) = true)
    (m1_Image_give : PySem.W.findIn K (.ref aC_Image) "give" = some (some (.ref a_Image_give)))
    (m2_Image_give : PySem.W.isFn K (.ref a_Image_give) = true)
    (m1_Image__put_block : PySem.W.findIn K (.ref aC_Image) "_put_block" = some (some (.ref a_Image__put_block)))
    (m2_Image__put_block : PySem.W.isFn K (.ref a_Image__put_block) = true)
    (m1_Image_free_blocks : PySem.W.findIn K (.ref aC_Image) "free_blocks" = some (some (.ref a_Image_free_blocks)))
    (m2_Image_free_blocks : PySem.W.isFn K (.ref a_Image_free_blocks) = true)
    (m1_Image_kind : PySem.W.findIn K (.ref aC_Image) "kind" = some (some (.ref a_Image_kind)))
    (m2_Image_kind : PySem.W.isFn K (.ref a_Image_kind) = true)
    {sp_Image_fresh : Addr} {sr_Image_fresh : List Value}
    (s1_Image_fresh : PySem.W.findCls K (.ref aC_Image) mcv_Image "fresh" = some (.get (.builtin "staticmethod.__get__") (.ref sp_Image_fresh) .none (.ref aC_Image)))
    (s2_Image_fresh : PySem.W.recIn K sp_Image_fresh "staticmethod" = some (.ref a_Image_fresh :: sr_Image_fresh))
    {sp_Image_of_cells : Addr} {sr_Image_of_cells : List Value}
    (s1_Image_of_cells : PySem.W.findCls K (.ref aC_Image) mcv_Image "of_cells" = some (.get (.builtin "staticmethod.__get__") (.ref sp_Image_of_cells) .none (.ref aC_Image)))
    (s2_Image_of_cells : PySem.W.recIn K sp_Image_of_cells "staticmethod" = some (.ref a_Image_of_cells :: sr_Image_of_cells))
    {aC_Refused : Addr}
    (g_Refused : PySem.W.nsIn K mainGlobals "Refused" = some (some (.ref aC_Refused)))
    (be1_Refused : PySem.W.subIn K (.ref aC_Refused) (.type "BaseException") = some true)
    (te1_Refused : PySem.W.typeIn K (.ref aC_Refused) = some (.type "type"))
    (ie1_Refused : PySem.W.isClsIn K aC_Refused = true)
    {aC_NodesFull : Addr}
    (g_NodesFull : PySem.W.nsIn K mainGlobals "NodesFull" = some (some (.ref aC_NodesFull)))
    (be1_NodesFull : PySem.W.subIn K (.ref aC_NodesFull) (.type "BaseException") = some true)
    (te1_NodesFull : PySem.W.typeIn K (.ref aC_NodesFull) = some (.type "type"))
    (ie1_NodesFull : PySem.W.isClsIn K aC_NodesFull = true)
    (xe1_NodesFull : PySem.W.excIn K aC_NodesFull [.type "ValueError", .type "Exception", .type "BaseException", .type "object"] "ValueError.__new__" = true)
    (ke1_NodesFull : PySem.W.keepIn K (.ref aC_NodesFull) = true)
    (ec1_NodesFull : PySem.W.findIn K (.ref aC_NodesFull) "__getattribute__" = some (some (.builtin "BaseException.__getattribute__")))
    (ec2_NodesFull : PySem.W.findIn K (.ref aC_NodesFull) "__getattr__" = some none)
    (ec4_NodesFull : PySem.W.hasDictIn K aC_NodesFull = true)
    (ec5_NodesFull : PySem.W.findIn K (.ref aC_NodesFull) "__class__" = some (some (.builtin "object.__class__")))
    (ec6_NodesFull : PySem.W.specialIn K (.builtin "object.__class__") "__get__" = some (some (.builtin "getset_descriptor.__get__")))
    (ec7_NodesFull : PySem.W.takesIn K (.builtin "object.__class__") = some true)
    (ec8_NodesFull : PySem.W.mroIn K aC_NodesFull (.type "object") = some true)
    {aC_BlocksFull : Addr}
    (g_BlocksFull : PySem.W.nsIn K mainGlobals "BlocksFull" = some (some (.ref aC_BlocksFull)))
    (be1_BlocksFull : PySem.W.subIn K (.ref aC_BlocksFull) (.type "BaseException") = some true)
    (te1_BlocksFull : PySem.W.typeIn K (.ref aC_BlocksFull) = some (.type "type"))
    (ie1_BlocksFull : PySem.W.isClsIn K aC_BlocksFull = true)
    (xe1_BlocksFull : PySem.W.excIn K aC_BlocksFull [.type "ValueError", .type "Exception", .type "BaseException", .type "object"] "ValueError.__new__" = true)
    (ke1_BlocksFull : PySem.W.keepIn K (.ref aC_BlocksFull) = true)
    (ec1_BlocksFull : PySem.W.findIn K (.ref aC_BlocksFull) "__getattribute__" = some (some (.builtin "BaseException.__getattribute__")))
    (ec2_BlocksFull : PySem.W.findIn K (.ref aC_BlocksFull) "__getattr__" = some none)
    (ec4_BlocksFull : PySem.W.hasDictIn K aC_BlocksFull = true)
    (ec5_BlocksFull : PySem.W.findIn K (.ref aC_BlocksFull) "__class__" = some (some (.builtin "object.__class__")))
    (ec6_BlocksFull : PySem.W.specialIn K (.builtin "object.__class__") "__get__" = some (some (.builtin "getset_descriptor.__get__")))
    (ec7_BlocksFull : PySem.W.takesIn K (.builtin "object.__class__") = some true)
    (ec8_BlocksFull : PySem.W.mroIn K aC_BlocksFull (.type "object") = some true)
    {aC_OverQuota : Addr}
    (g_OverQuota : PySem.W.nsIn K mainGlobals "OverQuota" = some (some (.ref aC_OverQuota)))
    (be1_OverQuota : PySem.W.subIn K (.ref aC_OverQuota) (.type "BaseException") = some true)
    (te1_OverQuota : PySem.W.typeIn K (.ref aC_OverQuota) = some (.type "type"))
    (ie1_OverQuota : PySem.W.isClsIn K aC_OverQuota = true)
    (xe1_OverQuota : PySem.W.excIn K aC_OverQuota [.type "ValueError", .type "Exception", .type "BaseException", .type "object"] "ValueError.__new__" = true)
    (ke1_OverQuota : PySem.W.keepIn K (.ref aC_OverQuota) = true)
    (ec1_OverQuota : PySem.W.findIn K (.ref aC_OverQuota) "__getattribute__" = some (some (.builtin "BaseException.__getattribute__")))
    (ec2_OverQuota : PySem.W.findIn K (.ref aC_OverQuota) "__getattr__" = some none)
    (ec4_OverQuota : PySem.W.hasDictIn K aC_OverQuota = true)
    (ec5_OverQuota : PySem.W.findIn K (.ref aC_OverQuota) "__class__" = some (some (.builtin "object.__class__")))
    (ec6_OverQuota : PySem.W.specialIn K (.builtin "object.__class__") "__get__" = some (some (.builtin "getset_descriptor.__get__")))
    (ec7_OverQuota : PySem.W.takesIn K (.builtin "object.__class__") = some true)
    (ec8_OverQuota : PySem.W.mroIn K aC_OverQuota (.type "object") = some true)
    {aC_TooLong : Addr}
    (g_TooLong : PySem.W.nsIn K mainGlobals "TooLong" = some (some (.ref aC_TooLong)))
    (be1_TooLong : PySem.W.subIn K (.ref aC_TooLong) (.type "BaseException") = some true)
    (te1_TooLong : PySem.W.typeIn K (.ref aC_TooLong) = some (.type "type"))
    (ie1_TooLong : PySem.W.isClsIn K aC_TooLong = true)
    (xe1_TooLong : PySem.W.excIn K aC_TooLong [.type "ValueError", .type "Exception", .type "BaseException", .type "object"] "ValueError.__new__" = true)
    (ke1_TooLong : PySem.W.keepIn K (.ref aC_TooLong) = true)
    (ec1_TooLong : PySem.W.findIn K (.ref aC_TooLong) "__getattribute__" = some (some (.builtin "BaseException.__getattribute__")))
    (ec2_TooLong : PySem.W.findIn K (.ref aC_TooLong) "__getattr__" = some none)
    (ec4_TooLong : PySem.W.hasDictIn K aC_TooLong = true)
    (ec5_TooLong : PySem.W.findIn K (.ref aC_TooLong) "__class__" = some (some (.builtin "object.__class__")))
    (ec6_TooLong : PySem.W.specialIn K (.builtin "object.__class__") "__get__" = some (some (.builtin "getset_descriptor.__get__")))
    (ec7_TooLong : PySem.W.takesIn K (.builtin "object.__class__") = some true)
    (ec8_TooLong : PySem.W.mroIn K aC_TooLong (.type "object") = some true)
    {aC_Unfinished : Addr}
    (g_Unfinished : PySem.W.nsIn K mainGlobals "Unfinished" = some (some (.ref aC_Unfinished)))
    (be1_Unfinished : PySem.W.subIn K (.ref aC_Unfinished) (.type "BaseException") = some true)
    (te1_Unfinished : PySem.W.typeIn K (.ref aC_Unfinished) = some (.type "type"))
    (ie1_Unfinished : PySem.W.isClsIn K aC_Unfinished = true)
    (xe1_Unfinished : PySem.W.excIn K aC_Unfinished [.type "ValueError", .type "Exception", .type "BaseException", .type "object"] "ValueError.__new__" = true)
    (ke1_Unfinished : PySem.W.keepIn K (.ref aC_Unfinished) = true)
    (ec1_Unfinished : PySem.W.findIn K (.ref aC_Unfinished) "__getattribute__" = some (some (.builtin "BaseException.__getattribute__")))
    (ec2_Unfinished : PySem.W.findIn K (.ref aC_Unfinished) "__getattr__" = some none)
    (ec4_Unfinished : PySem.W.hasDictIn K aC_Unfinished = true)
    (ec5_Unfinished : PySem.W.findIn K (.ref aC_Unfinished) "__class__" = some (some (.builtin "object.__class__")))
    (ec6_Unfinished : PySem.W.specialIn K (.builtin "object.__class__") "__get__" = some (some (.builtin "getset_descriptor.__get__")))
    (ec7_Unfinished : PySem.W.takesIn K (.builtin "object.__class__") = some true)
    (ec8_Unfinished : PySem.W.mroIn K aC_Unfinished (.type "object") = some true)
    (sb_NodesFull_Refused : PySem.W.subIn K (.ref aC_NodesFull) (.ref aC_Refused) = some true)
    (sb_NodesFull_TooLong : PySem.W.subIn K (.ref aC_NodesFull) (.ref aC_TooLong) = some false)
    (sb_NodesFull_Unfinished : PySem.W.subIn K (.ref aC_NodesFull) (.ref aC_Unfinished) = some false)
    (sb_BlocksFull_Refused : PySem.W.subIn K (.ref aC_BlocksFull) (.ref aC_Refused) = some true)
    (sb_BlocksFull_TooLong : PySem.W.subIn K (.ref aC_BlocksFull) (.ref aC_TooLong) = some false)
    (sb_BlocksFull_Unfinished : PySem.W.subIn K (.ref aC_BlocksFull) (.ref aC_Unfinished) = some false)
    (sb_OverQuota_Refused : PySem.W.subIn K (.ref aC_OverQuota) (.ref aC_Refused) = some true)
    (sb_OverQuota_TooLong : PySem.W.subIn K (.ref aC_OverQuota) (.ref aC_TooLong) = some false)
    (sb_OverQuota_Unfinished : PySem.W.subIn K (.ref aC_OverQuota) (.ref aC_Unfinished) = some false)
    (sb_TooLong_Refused : PySem.W.subIn K (.ref aC_TooLong) (.ref aC_Refused) = some true)
    (sb_TooLong_TooLong : PySem.W.subIn K (.ref aC_TooLong) (.ref aC_TooLong) = some true)
    (sb_TooLong_Unfinished : PySem.W.subIn K (.ref aC_TooLong) (.ref aC_Unfinished) = some false)
    (sb_Unfinished_Refused : PySem.W.subIn K (.ref aC_Unfinished) (.ref aC_Refused) = some true)
    (sb_Unfinished_TooLong : PySem.W.subIn K (.ref aC_Unfinished) (.ref aC_TooLong) = some false)
    (sb_Unfinished_Unfinished : PySem.W.subIn K (.ref aC_Unfinished) (.ref aC_Unfinished) = some true)
    {t_SUMS_BLOCK : Tok}
    (gc_SUMS_BLOCK : PySem.W.nsIn K mainGlobals "SUMS_BLOCK" = some (some (.int 0 t_SUMS_BLOCK)))
    {t_ROOT : Tok}
    (gc_ROOT : PySem.W.nsIn K mainGlobals "ROOT" = some (some (.int 1 t_ROOT)))
    {t_KIND : Tok}
    (gc_KIND : PySem.W.nsIn K mainGlobals "KIND" = some (some (.int 0 t_KIND)))
    {t_LINKS : Tok}
    (gc_LINKS : PySem.W.nsIn K mainGlobals "LINKS" = some (some (.int 1 t_LINKS)))
    {t_SIZE : Tok}
    (gc_SIZE : PySem.W.nsIn K mainGlobals "SIZE" = some (some (.int 2 t_SIZE)))
    {t_OWNER : Tok}
    (gc_OWNER : PySem.W.nsIn K mainGlobals "OWNER" = some (some (.int 3 t_OWNER)))
    {t_FIRST_PLACE : Tok}
    (gc_FIRST_PLACE : PySem.W.nsIn K mainGlobals "FIRST_PLACE" = some (some (.int 4 t_FIRST_PLACE)))
    {t_PLACES : Tok}
    (gc_PLACES : PySem.W.nsIn K mainGlobals "PLACES" = some (some (.int 6 t_PLACES)))
    {t_MAKING : Tok}
    (gc_MAKING : PySem.W.nsIn K mainGlobals "MAKING" = some (some (.int 7 t_MAKING)))
    {t_UNMADE : Tok}
    (gc_UNMADE : PySem.W.nsIn K mainGlobals "UNMADE" = some (some (.int 0 t_UNMADE)))
    {t_FILE : Tok}
    (gc_FILE : PySem.W.nsIn K mainGlobals "FILE" = some (some (.int 1 t_FILE)))
    {t_FOLDER : Tok}
    (gc_FOLDER : PySem.W.nsIn K mainGlobals "FOLDER" = some (some (.int 2 t_FOLDER)))
    {t_LEAST_BLOCKS : Tok}
    (gc_LEAST_BLOCKS : PySem.W.nsIn K mainGlobals "LEAST_BLOCKS" = some (some (.int 8 t_LEAST_BLOCKS)))
    {t_MOST_BLOCKS : Tok}
    (gc_MOST_BLOCKS : PySem.W.nsIn K mainGlobals "MOST_BLOCKS" = some (some (.int 64 t_MOST_BLOCKS)))
    {t_LEAST_NODES : Tok}
    (gc_LEAST_NODES : PySem.W.nsIn K mainGlobals "LEAST_NODES" = some (some (.int 2 t_LEAST_NODES)))
    {t_MOST_NODES : Tok}
    (gc_MOST_NODES : PySem.W.nsIn K mainGlobals "MOST_NODES" = some (some (.int 16 t_MOST_NODES)))
    {t_MOST_SLOTS : Tok}
    (gc_MOST_SLOTS : PySem.W.nsIn K mainGlobals "MOST_SLOTS" = some (some (.int 200 t_MOST_SLOTS)))
    {t_LEAST_DATA : Tok}
    (gc_LEAST_DATA : PySem.W.nsIn K mainGlobals "LEAST_DATA" = some (some (.int 2 t_LEAST_DATA)))
    {t_FIRST_MAP : Tok}
    (gc_FIRST_MAP : PySem.W.nsIn K mainGlobals "FIRST_MAP" = some (some (.int 2 t_FIRST_MAP)))
    {t_PLACE_COUNT : Tok}
    (gc_PLACE_COUNT : PySem.W.nsIn K mainGlobals "PLACE_COUNT" = some (some (.int 10 t_PLACE_COUNT)))
    {t_NODE_PLACES : Tok}
    (gc_NODE_PLACES : PySem.W.nsIn K mainGlobals "NODE_PLACES" = some (some (.int 2 t_NODE_PLACES)))
    {t_MOST_PIECE : Tok}
    (gc_MOST_PIECE : PySem.W.nsIn K mainGlobals "MOST_PIECE" = some (some (.int 2 t_MOST_PIECE)))
    (nb_abs : PySem.W.nsIn K mainGlobals "abs" = some none)
    (nb_any : PySem.W.nsIn K mainGlobals "any" = some none)
    (nb_bool : PySem.W.nsIn K mainGlobals "bool" = some none)
    (nb_dict : PySem.W.nsIn K mainGlobals "dict" = some none)
    (nb_enumerate : PySem.W.nsIn K mainGlobals "enumerate" = some none)
    (nb_int : PySem.W.nsIn K mainGlobals "int" = some none)
    (nb_isinstance : PySem.W.nsIn K mainGlobals "isinstance" = some none)
    (nb_len : PySem.W.nsIn K mainGlobals "len" = some none)
    (nb_list : PySem.W.nsIn K mainGlobals "list" = some none)
    (nb_max : PySem.W.nsIn K mainGlobals "max" = some none)
    (nb_min : PySem.W.nsIn K mainGlobals "min" = some none)
    (nb_range : PySem.W.nsIn K mainGlobals "range" = some none)
    (nb_reversed : PySem.W.nsIn K mainGlobals "reversed" = some none)
    (nb_tuple : PySem.W.nsIn K mainGlobals "tuple" = some none)
    : Nonempty (Tx K mg) := ⟨{
      f_node_cell := a_node_cell,
      fd_node_cell := PySem.W.fnOf "node_cell" "node_cell" (defArgs s_node_cell) (defBody s_node_cell) (defScope s_node_cell) .none kV_node_cell dc_node_cell pm_node_cell an_node_cell cd_node_cell ct_node_cell,
      F_node_cell := fun_mk (st := s_node_cell) l_node_cell c_node_cell k_node_cell,
      mg_node_cell := PySem.W.mg_of X G g_node_cell,
      f_put_node_cell := a_put_node_cell,
      fd_put_node_cell := PySem.W.fnOf "put_node_cell" "put_node_cell" (defArgs s_put_node_cell) (defBody s_put_node_cell) (defScope s_put_node_cell) .none kV_put_node_cell dc_put_node_cell pm_put_node_cell an_put_node_cell cd_put_node_cell ct_put_node_cell,
      F_put_node_cell := fun_mk (st := s_put_node_cell) l_put_node_cell c_put_node_cell k_put_node_cell,
      mg_put_node_cell := PySem.W.mg_of X G g_put_node_cell,
      f_is_made := a_is_made,
      fd_is_made := PySem.W.fnOf "is_made" "is_made" (defArgs s_is_made) (defBody s_is_made) (defScope s_is_made) .none kV_is_made dc_is_made pm_is_made an_is_made cd_is_made ct_is_made,
      F_is_made := fun_mk (st := s_is_made) l_is_made c_is_made k_is_made,
      mg_is_made := PySem.W.mg_of X G g_is_made,
      f_make_node := a_make_node,
      fd_make_node := PySem.W.fnOf "make_node" "make_node" (defArgs s_make_node) (defBody s_make_node) (defScope s_make_node) .none kV_make_node dc_make_node pm_make_node an_make_node cd_make_node ct_make_node,
      F_make_node := fun_mk (st := s_make_node) l_make_node c_make_node k_make_node,
      mg_make_node := PySem.W.mg_of X G g_make_node,
      f_unmake_node := a_unmake_node,
      fd_unmake_node := PySem.W.fnOf "unmake_node" "unmake_node" (defArgs s_unmake_node) (defBody s_unmake_node) (defScope s_unmake_node) .none kV_unmake_node dc_unmake_node pm_unmake_node an_unmake_node cd_unmake_node ct_unmake_node,
      F_unmake_node := fun_mk (st := s_unmake_node) l_unmake_node c_unmake_node k_unmake_node,
      mg_unmake_node := PySem.W.mg_of X G g_unmake_node,
      f_place_block := a_place_block,
      fd_place_block := PySem.W.fnOf "place_block" "place_block" (defArgs s_place_block) (defBody s_place_block) (defScope s_place_block) .none kV_place_block dc_place_block pm_place_block an_place_block cd_place_block ct_place_block,
      F_place_block := fun_mk (st := s_place_block) l_place_block c_place_block k_place_block,
      mg_place_block := PySem.W.mg_of X G g_place_block,
      f_put_place := a_put_place,
      fd_put_place := PySem.W.fnOf "put_place" "put_place" (defArgs s_put_place) (defBody s_put_place) (defScope s_put_place) .none kV_put_place dc_put_place pm_put_place an_put_place cd_put_place ct_put_place,
      F_put_place := fun_mk (st := s_put_place) l_put_place c_put_place k_put_place,
      mg_put_place := PySem.W.mg_of X G g_put_place,
      f_needs_block_of_places := a_needs_block_of_places,
      fd_needs_block_of_places := PySem.W.fnOf "_needs_block_of_places" "_needs_block_of_places" (defArgs s_needs_block_of_places) (defBody s_needs_block_of_places) (defScope s_needs_block_of_places) .none kV_needs_block_of_places dc_needs_block_of_places pm_needs_block_of_places an_needs_block_of_places cd_needs_block_of_places ct_needs_block_of_places,
      F_needs_block_of_places := fun_mk (st := s_needs_block_of_places) l_needs_block_of_places c_needs_block_of_places k_needs_block_of_places,
      mg_needs_block_of_places := PySem.W.mg_of X G g_needs_block_of_places,
      f_fill_place := a_fill_place,
      fd_fill_place := PySem.W.fnOf "_fill_place" "_fill_place" (defArgs s_fill_place) (defBody s_fill_place) (defScope s_fill_place) .none kV_fill_place dc_fill_place pm_fill_place an_fill_place cd_fill_place ct_fill_place,
      F_fill_place := fun_mk (st := s_fill_place) l_fill_place c_fill_place k_fill_place,
      mg_fill_place := PySem.W.mg_of X G g_fill_place,
      f_take_place := a_take_place,
      fd_take_place := PySem.W.fnOf "take_place" "take_place" (defArgs s_take_place) (defBody s_take_place) (defScope s_take_place) .none kV_take_place dc_take_place pm_take_place an_take_place cd_take_place ct_take_place,
      F_take_place := fun_mk (st := s_take_place) l_take_place c_take_place k_take_place,
      mg_take_place := PySem.W.mg_of X G g_take_place,
      f_drop_block_of_places := a_drop_block_of_places,
      fd_drop_block_of_places := PySem.W.fnOf "_drop_block_of_places" "_drop_block_of_places" (defArgs s_drop_block_of_places) (defBody s_drop_block_of_places) (defScope s_drop_block_of_places) .none kV_drop_block_of_places dc_drop_block_of_places pm_drop_block_of_places an_drop_block_of_places cd_drop_block_of_places ct_drop_block_of_places,
      F_drop_block_of_places := fun_mk (st := s_drop_block_of_places) l_drop_block_of_places c_drop_block_of_places k_drop_block_of_places,
      mg_drop_block_of_places := PySem.W.mg_of X G g_drop_block_of_places,
      f_drop_place := a_drop_place,
      fd_drop_place := PySem.W.fnOf "drop_place" "drop_place" (defArgs s_drop_place) (defBody s_drop_place) (defScope s_drop_place) .none kV_drop_place dc_drop_place pm_drop_place an_drop_place cd_drop_place ct_drop_place,
      F_drop_place := fun_mk (st := s_drop_place) l_drop_place c_drop_place k_drop_place,
      mg_drop_place := PySem.W.mg_of X G g_drop_place,
      f_held_blocks := a_held_blocks,
      fd_held_blocks := PySem.W.fnOf "held_blocks" "held_blocks" (defArgs s_held_blocks) (defBody s_held_blocks) (defScope s_held_blocks) .none kV_held_blocks dc_held_blocks pm_held_blocks an_held_blocks cd_held_blocks ct_held_blocks,
      F_held_blocks := fun_mk (st := s_held_blocks) l_held_blocks c_held_blocks k_held_blocks,
      mg_held_blocks := PySem.W.mg_of X G g_held_blocks,
      f_taken_behind := a_taken_behind,
      fd_taken_behind := PySem.W.fnOf "_taken_behind" "_taken_behind" (defArgs s_taken_behind) (defBody s_taken_behind) (defScope s_taken_behind) .none kV_taken_behind dc_taken_behind pm_taken_behind an_taken_behind cd_taken_behind ct_taken_behind,
      F_taken_behind := fun_mk (st := s_taken_behind) l_taken_behind c_taken_behind k_taken_behind,
      mg_taken_behind := PySem.W.mg_of X G g_taken_behind,
      f_unfinished := a_unfinished,
      fd_unfinished := PySem.W.fnOf "unfinished" "unfinished" (defArgs s_unfinished) (defBody s_unfinished) (defScope s_unfinished) .none kV_unfinished dc_unfinished pm_unfinished an_unfinished cd_unfinished ct_unfinished,
      F_unfinished := fun_mk (st := s_unfinished) l_unfinished c_unfinished k_unfinished,
      mg_unfinished := PySem.W.mg_of X G g_unfinished,
      f_put_size := a_put_size,
      fd_put_size := PySem.W.fnOf "put_size" "put_size" (defArgs s_put_size) (defBody s_put_size) (defScope s_put_size) .none kV_put_size dc_put_size pm_put_size an_put_size cd_put_size ct_put_size,
      F_put_size := fun_mk (st := s_put_size) l_put_size c_put_size k_put_size,
      mg_put_size := PySem.W.mg_of X G g_put_size,
      f_set_size := a_set_size,
      fd_set_size := PySem.W.fnOf "set_size" "set_size" (defArgs s_set_size) (defBody s_set_size) (defScope s_set_size) .none kV_set_size dc_set_size pm_set_size an_set_size cd_set_size ct_set_size,
      F_set_size := fun_mk (st := s_set_size) l_set_size c_set_size k_set_size,
      mg_set_size := PySem.W.mg_of X G g_set_size,
      f_free_piece := a_free_piece,
      fd_free_piece := PySem.W.fnOf "free_piece" "free_piece" (defArgs s_free_piece) (defBody s_free_piece) (defScope s_free_piece) .none kV_free_piece dc_free_piece pm_free_piece an_free_piece cd_free_piece ct_free_piece,
      F_free_piece := fun_mk (st := s_free_piece) l_free_piece c_free_piece k_free_piece,
      mg_free_piece := PySem.W.mg_of X G g_free_piece,
      f_read_word := a_read_word,
      fd_read_word := PySem.W.fnOf "_read_word" "_read_word" (defArgs s_read_word) (defBody s_read_word) (defScope s_read_word) .none kV_read_word dc_read_word pm_read_word an_read_word cd_read_word ct_read_word,
      F_read_word := fun_mk (st := s_read_word) l_read_word c_read_word k_read_word,
      mg_read_word := PySem.W.mg_of X G g_read_word,
      f_read_words := a_read_words,
      fd_read_words := PySem.W.fnOf "read_words" "read_words" (defArgs s_read_words) (defBody s_read_words) (defScope s_read_words) .none kV_read_words dc_read_words pm_read_words an_read_words cd_read_words ct_read_words,
      F_read_words := fun_mk (st := s_read_words) l_read_words c_read_words k_read_words,
      mg_read_words := PySem.W.mg_of X G g_read_words,
      f_file_words := a_file_words,
      fd_file_words := PySem.W.fnOf "file_words" "file_words" (defArgs s_file_words) (defBody s_file_words) (defScope s_file_words) .none kV_file_words dc_file_words pm_file_words an_file_words cd_file_words ct_file_words,
      F_file_words := fun_mk (st := s_file_words) l_file_words c_file_words k_file_words,
      mg_file_words := PySem.W.mg_of X G g_file_words,
      f_take_places := a_take_places,
      fd_take_places := PySem.W.fnOf "_take_places" "_take_places" (defArgs s_take_places) (defBody s_take_places) (defScope s_take_places) .none kV_take_places dc_take_places pm_take_places an_take_places cd_take_places ct_take_places,
      F_take_places := fun_mk (st := s_take_places) l_take_places c_take_places k_take_places,
      mg_take_places := PySem.W.mg_of X G g_take_places,
      f_fill_holes := a_fill_holes,
      fd_fill_holes := PySem.W.fnOf "_fill_holes" "_fill_holes" (defArgs s_fill_holes) (defBody s_fill_holes) (defScope s_fill_holes) .none kV_fill_holes dc_fill_holes pm_fill_holes an_fill_holes cd_fill_holes ct_fill_holes,
      F_fill_holes := fun_mk (st := s_fill_holes) l_fill_holes c_fill_holes k_fill_holes,
      mg_fill_holes := PySem.W.mg_of X G g_fill_holes,
      f_write_words := a_write_words,
      fd_write_words := PySem.W.fnOf "write_words" "write_words" (defArgs s_write_words) (defBody s_write_words) (defScope s_write_words) .none kV_write_words dc_write_words pm_write_words an_write_words cd_write_words ct_write_words,
      F_write_words := fun_mk (st := s_write_words) l_write_words c_write_words k_write_words,
      mg_write_words := PySem.W.mg_of X G g_write_words,
      f_Lfeed := a_Lfeed,
      fd_Lfeed := PySem.W.fnOf "_law_feed" "_law_feed" (defArgs s_Lfeed) (defBody s_Lfeed) (defScope s_Lfeed) .none kV_Lfeed dc_Lfeed pm_Lfeed an_Lfeed cd_Lfeed ct_Lfeed,
      F_Lfeed := fun_mk (st := s_Lfeed) l_Lfeed c_Lfeed k_Lfeed,
      mg_Lfeed := PySem.W.mg_of X G g_Lfeed,
      f_Lpick := a_Lpick,
      fd_Lpick := PySem.W.fnOf "_law_pick" "_law_pick" (defArgs s_Lpick) (defBody s_Lpick) (defScope s_Lpick) .none kV_Lpick dc_Lpick pm_Lpick an_Lpick cd_Lpick ct_Lpick,
      F_Lpick := fun_mk (st := s_Lpick) l_Lpick c_Lpick k_Lpick,
      mg_Lpick := PySem.W.mg_of X G g_Lpick,
      f_Linteger := a_Linteger,
      fd_Linteger := PySem.W.fnOf "_law_integer" "_law_integer" (defArgs s_Linteger) (defBody s_Linteger) (defScope s_Linteger) .none kV_Linteger dc_Linteger pm_Linteger an_Linteger cd_Linteger ct_Linteger,
      F_Linteger := fun_mk (st := s_Linteger) l_Linteger c_Linteger k_Linteger,
      mg_Linteger := PySem.W.mg_of X G g_Linteger,
      f_Lrow := a_Lrow,
      fd_Lrow := PySem.W.fnOf "_law_row" "_law_row" (defArgs s_Lrow) (defBody s_Lrow) (defScope s_Lrow) .none kV_Lrow dc_Lrow pm_Lrow an_Lrow cd_Lrow ct_Lrow,
      F_Lrow := fun_mk (st := s_Lrow) l_Lrow c_Lrow k_Lrow,
      mg_Lrow := PySem.W.mg_of X G g_Lrow,
      f_Lbehind := a_Lbehind,
      fd_Lbehind := PySem.W.fnOf "_law_behind" "_law_behind" (defArgs s_Lbehind) (defBody s_Lbehind) (defScope s_Lbehind) .none kV_Lbehind dc_Lbehind pm_Lbehind an_Lbehind cd_Lbehind ct_Lbehind,
      F_Lbehind := fun_mk (st := s_Lbehind) l_Lbehind c_Lbehind k_Lbehind,
      mg_Lbehind := PySem.W.mg_of X G g_Lbehind,
      f_Lblocks := a_Lblocks,
      fd_Lblocks := PySem.W.fnOf "_law_blocks" "_law_blocks" (defArgs s_Lblocks) (defBody s_Lblocks) (defScope s_Lblocks) .none kV_Lblocks dc_Lblocks pm_Lblocks an_Lblocks cd_Lblocks ct_Lblocks,
      F_Lblocks := fun_mk (st := s_Lblocks) l_Lblocks c_Lblocks k_Lblocks,
      mg_Lblocks := PySem.W.mg_of X G g_Lblocks,
      f_Lagrees := a_Lagrees,
      fd_Lagrees := PySem.W.fnOf "_law_agrees" "_law_agrees" (defArgs s_Lagrees) (defBody s_Lagrees) (defScope s_Lagrees) .none kV_Lagrees dc_Lagrees pm_Lagrees an_Lagrees cd_Lagrees ct_Lagrees,
      F_Lagrees := fun_mk (st := s_Lagrees) l_Lagrees c_Lagrees k_Lagrees,
      mg_Lagrees := PySem.W.mg_of X G g_Lagrees,
      f_Lwindow := a_Lwindow,
      fd_Lwindow := PySem.W.fnOf "_law_window" "_law_window" (defArgs s_Lwindow) (defBody s_Lwindow) (defScope s_Lwindow) .none kV_Lwindow dc_Lwindow pm_Lwindow an_Lwindow cd_Lwindow ct_Lwindow,
      F_Lwindow := fun_mk (st := s_Lwindow) l_Lwindow c_Lwindow k_Lwindow,
      mg_Lwindow := PySem.W.mg_of X G g_Lwindow,
      f_Lwrite_refused := a_Lwrite_refused,
      fd_Lwrite_refused := PySem.W.fnOf "_law_write_refused" "_law_write_refused" (defArgs s_Lwrite_refused) (defBody s_Lwrite_refused) (defScope s_Lwrite_refused) .none kV_Lwrite_refused dc_Lwrite_refused pm_Lwrite_refused an_Lwrite_refused cd_Lwrite_refused ct_Lwrite_refused,
      F_Lwrite_refused := fun_mk (st := s_Lwrite_refused) l_Lwrite_refused c_Lwrite_refused k_Lwrite_refused,
      mg_Lwrite_refused := PySem.W.mg_of X G g_Lwrite_refused,
      f_Lsize_refused := a_Lsize_refused,
      fd_Lsize_refused := PySem.W.fnOf "_law_size_refused" "_law_size_refused" (defArgs s_Lsize_refused) (defBody s_Lsize_refused) (defScope s_Lsize_refused) .none kV_Lsize_refused dc_Lsize_refused pm_Lsize_refused an_Lsize_refused cd_Lsize_refused ct_Lsize_refused,
      F_Lsize_refused := fun_mk (st := s_Lsize_refused) l_Lsize_refused c_Lsize_refused k_Lsize_refused,
      mg_Lsize_refused := PySem.W.mg_of X G g_Lsize_refused,
      f_Lwrite := a_Lwrite,
      fd_Lwrite := PySem.W.fnOf "_law_write" "_law_write" (defArgs s_Lwrite) (defBody s_Lwrite) (defScope s_Lwrite) .none kV_Lwrite dc_Lwrite pm_Lwrite an_Lwrite cd_Lwrite ct_Lwrite,
      F_Lwrite := fun_mk (st := s_Lwrite) l_Lwrite c_Lwrite k_Lwrite,
      mg_Lwrite := PySem.W.mg_of X G g_Lwrite,
      f_Lsize := a_Lsize,
      fd_Lsize := PySem.W.fnOf "_law_size" "_law_size" (defArgs s_Lsize) (defBody s_Lsize) (defScope s_Lsize) .none kV_Lsize dc_Lsize pm_Lsize an_Lsize cd_Lsize ct_Lsize,
      F_Lsize := fun_mk (st := s_Lsize) l_Lsize c_Lsize k_Lsize,
      mg_Lsize := PySem.W.mg_of X G g_Lsize,
      f_Lspoil := a_Lspoil,
      fd_Lspoil := PySem.W.fnOf "_law_spoil" "_law_spoil" (defArgs s_Lspoil) (defBody s_Lspoil) (defScope s_Lspoil) .none kV_Lspoil dc_Lspoil pm_Lspoil an_Lspoil cd_Lspoil ct_Lspoil,
      F_Lspoil := fun_mk (st := s_Lspoil) l_Lspoil c_Lspoil k_Lspoil,
      mg_Lspoil := PySem.W.mg_of X G g_Lspoil,
      f_Lpiece := a_Lpiece,
      fd_Lpiece := PySem.W.fnOf "_law_piece" "_law_piece" (defArgs s_Lpiece) (defBody s_Lpiece) (defScope s_Lpiece) .none kV_Lpiece dc_Lpiece pm_Lpiece an_Lpiece cd_Lpiece ct_Lpiece,
      F_Lpiece := fun_mk (st := s_Lpiece) l_Lpiece c_Lpiece k_Lpiece,
      mg_Lpiece := PySem.W.mg_of X G g_Lpiece,
      f_law := a_law,
      fd_law := PySem.W.fnOf "law" "law" (defArgs s_law) (defBody s_law) (defScope s_law) .none kV_law dc_law pm_law an_law cd_law ct_law,
      F_law := fun_mk (st := s_law) l_law c_law k_law,
      mg_law := PySem.W.mg_of X G g_law,
      f_Plan___init__ := a_Plan___init__,
      fd_Plan___init__ := PySem.W.fnOf "__init__" "Plan.__init__" (defArgs s_Plan___init__) (defBody s_Plan___init__) (defScope s_Plan___init__) .none kV_Plan___init__ dc_Plan___init__ pm_Plan___init__ an_Plan___init__ cd_Plan___init__ ct_Plan___init__,
      F_Plan___init__ := fun_mk (st := s_Plan___init__) l_Plan___init__ c_Plan___init__ k_Plan___init__,
      f_Plan_map_place := a_Plan_map_place,
      fd_Plan_map_place := PySem.W.fnOf "map_place" "Plan.map_place" (defArgs s_Plan_map_place) (defBody s_Plan_map_place) (defScope s_Plan_map_place) .none kV_Plan_map_place dc_Plan_map_place pm_Plan_map_place an_Plan_map_place cd_Plan_map_place ct_Plan_map_place,
      F_Plan_map_place := fun_mk (st := s_Plan_map_place) l_Plan_map_place c_Plan_map_place k_Plan_map_place,
      f_Plan_node_block := a_Plan_node_block,
      fd_Plan_node_block := PySem.W.fnOf "node_block" "Plan.node_block" (defArgs s_Plan_node_block) (defBody s_Plan_node_block) (defScope s_Plan_node_block) .none kV_Plan_node_block dc_Plan_node_block pm_Plan_node_block an_Plan_node_block cd_Plan_node_block ct_Plan_node_block,
      F_Plan_node_block := fun_mk (st := s_Plan_node_block) l_Plan_node_block c_Plan_node_block k_Plan_node_block,
      f_Plan_data_blocks := a_Plan_data_blocks,
      fd_Plan_data_blocks := PySem.W.fnOf "data_blocks" "Plan.data_blocks" (defArgs s_Plan_data_blocks) (defBody s_Plan_data_blocks) (defScope s_Plan_data_blocks) .none kV_Plan_data_blocks dc_Plan_data_blocks pm_Plan_data_blocks an_Plan_data_blocks cd_Plan_data_blocks ct_Plan_data_blocks,
      F_Plan_data_blocks := fun_mk (st := s_Plan_data_blocks) l_Plan_data_blocks c_Plan_data_blocks k_Plan_data_blocks,
      f_Image___init__ := a_Image___init__,
      fd_Image___init__ := PySem.W.fnOf "__init__" "Image.__init__" (defArgs s_Image___init__) (defBody s_Image___init__) (defScope s_Image___init__) .none kV_Image___init__ dc_Image___init__ pm_Image___init__ an_Image___init__ cd_Image___init__ ct_Image___init__,
      F_Image___init__ := fun_mk (st := s_Image___init__) l_Image___init__ c_Image___init__ k_Image___init__,
      f_Image_begin := a_Image_begin,
      fd_Image_begin := PySem.W.fnOf "begin" "Image.begin" (defArgs s_Image_begin) (defBody s_Image_begin) (defScope s_Image_begin) .none kV_Image_begin dc_Image_begin pm_Image_begin an_Image_begin cd_Image_begin ct_Image_begin,
      F_Image_begin := fun_mk (st := s_Image_begin) l_Image_begin c_Image_begin k_Image_begin,
      f_Image_twin := a_Image_twin,
      fd_Image_twin := PySem.W.fnOf "twin" "Image.twin" (defArgs s_Image_twin) (defBody s_Image_twin) (defScope s_Image_twin) .none kV_Image_twin dc_Image_twin pm_Image_twin an_Image_twin cd_Image_twin ct_Image_twin,
      F_Image_twin := fun_mk (st := s_Image_twin) l_Image_twin c_Image_twin k_Image_twin,
      f_Image_take := a_Image_take,
      fd_Image_take := PySem.W.fnOf "take" "Image.take" (defArgs s_Image_take) (defBody s_Image_take) (defScope s_Image_take) .none kV_Image_take dc_Image_take pm_Image_take an_Image_take cd_Image_take ct_Image_take,
      F_Image_take := fun_mk (st := s_Image_take) l_Image_take c_Image_take k_Image_take,
      f_Image_give := a_Image_give,
      fd_Image_give := PySem.W.fnOf "give" "Image.give" (defArgs s_Image_give) (defBody s_Image_give) (defScope s_Image_give) .none kV_Image_give dc_Image_give pm_Image_give an_Image_give cd_Image_give ct_Image_give,
      F_Image_give := fun_mk (st := s_Image_give) l_Image_give c_Image_give k_Image_give,
      f_Image__put_block := a_Image__put_block,
      fd_Image__put_block := PySem.W.fnOf "_put_block" "Image._put_block" (defArgs s_Image__put_block) (defBody s_Image__put_block) (defScope s_Image__put_block) .none kV_Image__put_block dc_Image__put_block pm_Image__put_block an_Image__put_block cd_Image__put_block ct_Image__put_block,
      F_Image__put_block := fun_mk (st := s_Image__put_block) l_Image__put_block c_Image__put_block k_Image__put_block,
      f_Image_free_blocks := a_Image_free_blocks,
      fd_Image_free_blocks := PySem.W.fnOf "free_blocks" "Image.free_blocks" (defArgs s_Image_free_blocks) (defBody s_Image_free_blocks) (defScope s_Image_free_blocks) .none kV_Image_free_blocks dc_Image_free_blocks pm_Image_free_blocks an_Image_free_blocks cd_Image_free_blocks ct_Image_free_blocks,
      F_Image_free_blocks := fun_mk (st := s_Image_free_blocks) l_Image_free_blocks c_Image_free_blocks k_Image_free_blocks,
      f_Image_kind := a_Image_kind,
      fd_Image_kind := PySem.W.fnOf "kind" "Image.kind" (defArgs s_Image_kind) (defBody s_Image_kind) (defScope s_Image_kind) .none kV_Image_kind dc_Image_kind pm_Image_kind an_Image_kind cd_Image_kind ct_Image_kind,
      F_Image_kind := fun_mk (st := s_Image_kind) l_Image_kind c_Image_kind k_Image_kind,
      f_Image_fresh := a_Image_fresh,
      fd_Image_fresh := PySem.W.fnOf "fresh" "Image.fresh" (defArgs s_Image_fresh) (defBody s_Image_fresh) (defScope s_Image_fresh) .none kV_Image_fresh dc_Image_fresh pm_Image_fresh an_Image_fresh cd_Image_fresh ct_Image_fresh,
      F_Image_fresh := fun_mk (st := s_Image_fresh) l_Image_fresh c_Image_fresh k_Image_fresh,
      f_Image_of_cells := a_Image_of_cells,
      fd_Image_of_cells := PySem.W.fnOf "of_cells" "Image.of_cells" (defArgs s_Image_of_cells) (defBody s_Image_of_cells) (defScope s_Image_of_cells) .none kV_Image_of_cells dc_Image_of_cells pm_Image_of_cells an_Image_of_cells cd_Image_of_cells ct_Image_of_cells,
      F_Image_of_cells := fun_mk (st := s_Image_of_cells) l_Image_of_cells c_Image_of_cells k_Image_of_cells,
      C_Plan := aC_Plan,
      mg_Plan := PySem.W.mg_of X G g_Plan,
      cl_Plan := ⟨pg_Plan, hd_Plan, po_Plan, sa_Plan⟩,
      na_Plan_blocks := n_Plan_blocks,
      na_Plan_nodes := n_Plan_nodes,
      na_Plan_slots := n_Plan_slots,
      na_Plan_maps := n_Plan_maps,
      na_Plan_first_node := n_Plan_first_node,
      na_Plan_first_data := n_Plan_first_data,
      mk_Plan := ⟨mk1_Plan, mk2_Plan, mk3_Plan, mk4_Plan⟩,
      mc_Plan := mcv_Plan,
      cr_Plan := ⟨rd_Plan, ga_Plan⟩,
      cv_Plan_WIDTH := ⟨_, v_Plan_WIDTH, ⟨_, rfl⟩⟩,
      cv_Plan_OWNERS := ⟨_, v_Plan_OWNERS, ⟨_, rfl⟩⟩,
      cv_Plan_LONGEST := ⟨_, v_Plan_LONGEST, ⟨_, rfl⟩⟩,
      cv_Plan_FREE := ⟨_, v_Plan_FREE, ⟨_, rfl⟩⟩,
      cv_Plan_LOGGED := ⟨_, v_Plan_LOGGED, ⟨_, rfl⟩⟩,
      cv_Plan_PLAIN := ⟨_, v_Plan_PLAIN, ⟨_, rfl⟩⟩,
      con_Plan_WIDTH := ⟨_, o_Plan_WIDTH, ⟨_, rfl⟩, og_Plan_WIDTH, by decide +kernel⟩,
      C_Image := aC_Image,
      mg_Image := PySem.W.mg_of X G g_Image,
      cl_Image := ⟨pg_Image, hd_Image, po_Image, sa_Image⟩,
      na_Image_plan := n_Image_plan,
      na_Image_cells := n_Image_cells,
      na_Image_holdings := n_Image_holdings,
      na_Image_stamps := n_Image_stamps,
      na_Image_handles := n_Image_handles,
      na_Image_serial := n_Image_serial,
      na_Image_wish := n_Image_wish,
      na_Image_barred := n_Image_barred,
      mk_Image := ⟨mk1_Image, mk2_Image, mk3_Image, mk4_Image⟩,
      mc_Image := mcv_Image,
      cr_Image := ⟨rd_Image, ga_Image⟩,
      m_Plan_map_place := ⟨m1_Plan_map_place, m2_Plan_map_place, k_Plan_map_place⟩,
      m_Plan_node_block := ⟨m1_Plan_node_block, m2_Plan_node_block, k_Plan_node_block⟩,
      m_Plan_data_blocks := ⟨m1_Plan_data_blocks, m2_Plan_data_blocks, k_Plan_data_blocks⟩,
      m_Image_begin := ⟨m1_Image_begin, m2_Image_begin, k_Image_begin⟩,
      m_Image_twin := ⟨m1_Image_twin, m2_Image_twin, k_Image_twin⟩,
      m_Image_take := ⟨m1_Image_take, m2_Image_take, k_Image_take⟩,
      m_Image_give := ⟨m1_Image_give, m2_Image_give, k_Image_give⟩,
      m_Image__put_block := ⟨m1_Image__put_block, m2_Image__put_block, k_Image__put_block⟩,
      m_Image_free_blocks := ⟨m1_Image_free_blocks, m2_Image_free_blocks, k_Image_free_blocks⟩,
      m_Image_kind := ⟨m1_Image_kind, m2_Image_kind, k_Image_kind⟩,
      sm_Image_fresh := ⟨_, s1_Image_fresh, ⟨_, s2_Image_fresh⟩, k_Image_fresh⟩,
      sm_Image_of_cells := ⟨_, s1_Image_of_cells, ⟨_, s2_Image_of_cells⟩, k_Image_of_cells⟩,
      C_Refused := aC_Refused,
      mg_Refused := PySem.W.mg_of X G g_Refused,
      be_Refused := be1_Refused,
      te_Refused := te1_Refused,
      ie_Refused := ie1_Refused,
      C_NodesFull := aC_NodesFull,
      mg_NodesFull := PySem.W.mg_of X G g_NodesFull,
      be_NodesFull := be1_NodesFull,
      te_NodesFull := te1_NodesFull,
      ie_NodesFull := ie1_NodesFull,
      xe_NodesFull := xe1_NodesFull,
      ke_NodesFull := ke1_NodesFull,
      ec_NodesFull := ⟨ec1_NodesFull, ec2_NodesFull, be1_NodesFull, ec4_NodesFull, ec5_NodesFull, ec6_NodesFull, ec7_NodesFull, ec8_NodesFull⟩,
      C_BlocksFull := aC_BlocksFull,
      mg_BlocksFull := PySem.W.mg_of X G g_BlocksFull,
      be_BlocksFull := be1_BlocksFull,
      te_BlocksFull := te1_BlocksFull,
      ie_BlocksFull := ie1_BlocksFull,
      xe_BlocksFull := xe1_BlocksFull,
      ke_BlocksFull := ke1_BlocksFull,
      ec_BlocksFull := ⟨ec1_BlocksFull, ec2_BlocksFull, be1_BlocksFull, ec4_BlocksFull, ec5_BlocksFull, ec6_BlocksFull, ec7_BlocksFull, ec8_BlocksFull⟩,
      C_OverQuota := aC_OverQuota,
      mg_OverQuota := PySem.W.mg_of X G g_OverQuota,
      be_OverQuota := be1_OverQuota,
      te_OverQuota := te1_OverQuota,
      ie_OverQuota := ie1_OverQuota,
      xe_OverQuota := xe1_OverQuota,
      ke_OverQuota := ke1_OverQuota,
      ec_OverQuota := ⟨ec1_OverQuota, ec2_OverQuota, be1_OverQuota, ec4_OverQuota, ec5_OverQuota, ec6_OverQuota, ec7_OverQuota, ec8_OverQuota⟩,
      C_TooLong := aC_TooLong,
      mg_TooLong := PySem.W.mg_of X G g_TooLong,
      be_TooLong := be1_TooLong,
      te_TooLong := te1_TooLong,
      ie_TooLong := ie1_TooLong,
      xe_TooLong := xe1_TooLong,
      ke_TooLong := ke1_TooLong,
      ec_TooLong := ⟨ec1_TooLong, ec2_TooLong, be1_TooLong, ec4_TooLong, ec5_TooLong, ec6_TooLong, ec7_TooLong, ec8_TooLong⟩,
      C_Unfinished := aC_Unfinished,
      mg_Unfinished := PySem.W.mg_of X G g_Unfinished,
      be_Unfinished := be1_Unfinished,
      te_Unfinished := te1_Unfinished,
      ie_Unfinished := ie1_Unfinished,
      xe_Unfinished := xe1_Unfinished,
      ke_Unfinished := ke1_Unfinished,
      ec_Unfinished := ⟨ec1_Unfinished, ec2_Unfinished, be1_Unfinished, ec4_Unfinished, ec5_Unfinished, ec6_Unfinished, ec7_Unfinished, ec8_Unfinished⟩,
      sub_NodesFull_Refused := sb_NodesFull_Refused,
      sub_NodesFull_TooLong := sb_NodesFull_TooLong,
      sub_NodesFull_Unfinished := sb_NodesFull_Unfinished,
      sub_BlocksFull_Refused := sb_BlocksFull_Refused,
      sub_BlocksFull_TooLong := sb_BlocksFull_TooLong,
      sub_BlocksFull_Unfinished := sb_BlocksFull_Unfinished,
      sub_OverQuota_Refused := sb_OverQuota_Refused,
      sub_OverQuota_TooLong := sb_OverQuota_TooLong,
      sub_OverQuota_Unfinished := sb_OverQuota_Unfinished,
      sub_TooLong_Refused := sb_TooLong_Refused,
      sub_TooLong_TooLong := sb_TooLong_TooLong,
      sub_TooLong_Unfinished := sb_TooLong_Unfinished,
      sub_Unfinished_Refused := sb_Unfinished_Refused,
      sub_Unfinished_TooLong := sb_Unfinished_TooLong,
      sub_Unfinished_Unfinished := sb_Unfinished_Unfinished,
      c_SUMS_BLOCK := ⟨_, PySem.W.mg_of X G gc_SUMS_BLOCK⟩,
      c_ROOT := ⟨_, PySem.W.mg_of X G gc_ROOT⟩,
      c_KIND := ⟨_, PySem.W.mg_of X G gc_KIND⟩,
      c_LINKS := ⟨_, PySem.W.mg_of X G gc_LINKS⟩,
      c_SIZE := ⟨_, PySem.W.mg_of X G gc_SIZE⟩,
      c_OWNER := ⟨_, PySem.W.mg_of X G gc_OWNER⟩,
      c_FIRST_PLACE := ⟨_, PySem.W.mg_of X G gc_FIRST_PLACE⟩,
      c_PLACES := ⟨_, PySem.W.mg_of X G gc_PLACES⟩,
      c_MAKING := ⟨_, PySem.W.mg_of X G gc_MAKING⟩,
      c_UNMADE := ⟨_, PySem.W.mg_of X G gc_UNMADE⟩,
      c_FILE := ⟨_, PySem.W.mg_of X G gc_FILE⟩,
      c_FOLDER := ⟨_, PySem.W.mg_of X G gc_FOLDER⟩,
      c_LEAST_BLOCKS := ⟨_, PySem.W.mg_of X G gc_LEAST_BLOCKS⟩,
      c_MOST_BLOCKS := ⟨_, PySem.W.mg_of X G gc_MOST_BLOCKS⟩,
      c_LEAST_NODES := ⟨_, PySem.W.mg_of X G gc_LEAST_NODES⟩,
      c_MOST_NODES := ⟨_, PySem.W.mg_of X G gc_MOST_NODES⟩,
      c_MOST_SLOTS := ⟨_, PySem.W.mg_of X G gc_MOST_SLOTS⟩,
      c_LEAST_DATA := ⟨_, PySem.W.mg_of X G gc_LEAST_DATA⟩,
      c_FIRST_MAP := ⟨_, PySem.W.mg_of X G gc_FIRST_MAP⟩,
      c_PLACE_COUNT := ⟨_, PySem.W.mg_of X G gc_PLACE_COUNT⟩,
      c_NODE_PLACES := ⟨_, PySem.W.mg_of X G gc_NODE_PLACES⟩,
      c_MOST_PIECE := ⟨_, PySem.W.mg_of X G gc_MOST_PIECE⟩,
      b_abs := PySem.W.mg_none_of X G nb_abs,
      b_any := PySem.W.mg_none_of X G nb_any,
      b_bool := PySem.W.mg_none_of X G nb_bool,
      b_dict := PySem.W.mg_none_of X G nb_dict,
      b_enumerate := PySem.W.mg_none_of X G nb_enumerate,
      b_int := PySem.W.mg_none_of X G nb_int,
      b_isinstance := PySem.W.mg_none_of X G nb_isinstance,
      b_len := PySem.W.mg_none_of X G nb_len,
      b_list := PySem.W.mg_none_of X G nb_list,
      b_max := PySem.W.mg_none_of X G nb_max,
      b_min := PySem.W.mg_none_of X G nb_min,
      b_range := PySem.W.mg_none_of X G nb_range,
      b_reversed := PySem.W.mg_none_of X G nb_reversed,
      b_tuple := PySem.W.mg_none_of X G nb_tuple
    }⟩
end K06
open PySem PySem.W PyProof.Rows
set_option maxRecDepth 100000 in
set_option maxHeartbeats 0 in
theorem PySem.Challenge.cw_lotsandties_k06_words_of_a_file_holds : PySem.Challenge.rw_lotsandties_k06_words_of_a_file.Holds := by
  w_on; o_law; k_head; (case hw => w_witness2)
  k_fill
  refine L2.walk_of (l := PySem.Challenge.rw_lotsandties_k06_words_of_a_file) (n := 63) (k := 12) (x := "_law_script") (CX := fun _ => L2.CX0) (sp := fun w => K06.sp_law _) rfl (by decide) rfl ⟨rfl, by decide, by decide⟩ (fun w h Y => PySem.W.kIn_of Y) ?F (fun _ _ a ns hl _ hS => ⟨a, ns, rfl, hS, hl, fun _ => rfl⟩) (fun _ _ _ _ _ h => h)
  case F =>
    intro w mg fa h KX G hmg
    refine K06.fin_F ?_ hmg
    refine' K06.all_mk (w := w) KX G ?l_node_cell ?c_node_cell ?k_node_cell ?g_node_cell ?l_put_node_cell ?c_put_node_cell ?k_put_node_cell ?g_put_node_cell ?l_is_made ?c_is_made ?k_is_made ?g_is_made ?l_make_node ?c_make_node ?k_make_node ?g_make_node ?l_unmake_node ?c_unmake_node ?k_unmake_node ?g_unmake_node ?l_place_block ?c_place_block ?k_place_block ?g_place_block ?l_put_place ?c_put_place ?k_put_place ?g_put_place ?l_needs_block_of_places ?c_needs_block_of_places ?k_needs_block_of_places ?g_needs_block_of_places ?l_fill_place ?c_fill_place ?k_fill_place ?g_fill_place ?l_take_place ?c_take_place ?k_take_place ?g_take_place ?l_drop_block_of_places ?c_drop_block_of_places ?k_drop_block_of_places ?g_drop_block_of_places ?l_drop_place ?c_drop_place ?k_drop_place ?g_drop_place ?l_held_blocks ?c_held_blocks ?k_held_blocks ?g_held_blocks ?l_taken_behind ?c_taken_behind ?k_taken_behind ?g_taken_behind ?l_unfinished ?c_unfinished ?k_unfinished ?g_unfinished ?l_put_size ?c_put_size ?k_put_size ?g_put_size ?l_set_size ?c_set_size ?k_set_size ?g_set_size ?l_free_piece ?c_free_piece ?k_free_piece ?g_free_piece ?l_read_word ?c_read_word ?k_read_word ?g_read_word ?l_read_words ?c_read_words ?k_read_words ?g_read_words ?l_file_words ?c_file_words ?k_file_words ?g_file_words ?l_take_places ?c_take_places ?k_take_places ?g_take_places ?l_fill_holes ?c_fill_holes ?k_fill_holes ?g_fill_holes ?l_write_words ?c_write_words ?k_write_words ?g_write_words ?l_Lfeed ?c_Lfeed ?k_Lfeed ?g_Lfeed ?l_Lpick ?c_Lpick ?k_Lpick ?g_Lpick ?l_Linteger ?c_Linteger ?k_Linteger ?g_Linteger ?l_Lrow ?c_Lrow ?k_Lrow ?g_Lrow ?l_Lbehind ?c_Lbehind ?k_Lbehind ?g_Lbehind ?l_Lblocks ?c_Lblocks ?k_Lblocks ?g_Lblocks ?l_Lagrees ?c_Lagrees ?k_Lagrees ?g_Lagrees ?l_Lwindow ?c_Lwindow ?k_Lwindow ?g_Lwindow ?l_Lwrite_refused ?c_Lwrite_refused ?k_Lwrite_refused ?g_Lwrite_refused ?l_Lsize_refused ?c_Lsize_refused ?k_Lsize_refused ?g_Lsize_refused ?l_Lwrite ?c_Lwrite ?k_Lwrite ?g_Lwrite ?l_Lsize ?c_Lsize ?k_Lsize ?g_Lsize ?l_Lspoil ?c_Lspoil ?k_Lspoil ?g_Lspoil ?l_Lpiece ?c_Lpiece ?k_Lpiece ?g_Lpiece ?l_law ?c_law ?k_law ?g_law ?l_Plan___init__ ?c_Plan___init__ ?k_Plan___init__ ?l_Plan_map_place ?c_Plan_map_place ?k_Plan_map_place ?l_Plan_node_block ?c_Plan_node_block ?k_Plan_node_block ?l_Plan_data_blocks ?c_Plan_data_blocks ?k_Plan_data_blocks ?l_Image___init__ ?c_Image___init__ ?k_Image___init__ ?l_Image_begin ?c_Image_begin ?k_Image_begin ?l_Image_twin ?c_Image_twin ?k_Image_twin ?l_Image_take ?c_Image_take ?k_Image_take ?l_Image_give ?c_Image_give ?k_Image_give ?l_Image__put_block ?c_Image__put_block ?k_Image__put_block ?l_Image_free_blocks ?c_Image_free_blocks ?k_Image_free_blocks ?l_Image_kind ?c_Image_kind ?k_Image_kind ?l_Image_fresh ?c_Image_fresh ?k_Image_fresh ?l_Image_of_cells ?c_Image_of_cells ?k_Image_of_cells ?g_Plan ?pg_Plan ?hd_Plan ?po_Plan ?sa_Plan ?n_Plan_blocks ?n_Plan_nodes ?n_Plan_slots ?n_Plan_maps ?n_Plan_first_node ?n_Plan_first_data ?mk1_Plan ?mk2_Plan ?mk3_Plan ?mk4_Plan ?tp_Plan ?rd_Plan ?ga_Plan ?v_Plan_WIDTH ?v_Plan_OWNERS ?v_Plan_LONGEST ?v_Plan_FREE ?v_Plan_LOGGED ?v_Plan_PLAIN ?o_Plan_WIDTH ?og_Plan_WIDTH ?g_Image ?pg_Image ?hd_Image ?po_Image ?sa_Image ?n_Image_plan ?n_Image_cells ?n_Image_holdings ?n_Image_stamps ?n_Image_handles ?n_Image_serial ?n_Image_wish ?n_Image_barred ?mk1_Image ?mk2_Image ?mk3_Image ?mk4_Image ?tp_Image ?rd_Image ?ga_Image ?m1_Plan_map_place ?m2_Plan_map_place ?m1_Plan_node_block ?m2_Plan_node_block ?m1_Plan_data_blocks ?m2_Plan_data_blocks ?m1_Image_begin ?m2_Image_begin ?m1_Image_twin ?m2_Image_twin ?m1_Image_take ?m2_Image_take ?m1_Image_give ?m2_Image_give ?m1_Image__put_block ?m2_Image__put_block ?m1_Image_free_blocks ?m2_Image_free_blocks ?m1_Image_kind ?m2_Image_kind ?s1_Image_fresh ?s2_Image_fresh ?s1_Image_of_cells ?s2_Image_of_cells ?g_Refused ?be1_Refused ?te1_Refused ?ie1_Refused ?g_NodesFull ?be1_NodesFull ?te1_NodesFull ?ie1_NodesFull ?xe1_NodesFull ?ke1_NodesFull ?ec1_NodesFull ?ec2_NodesFull ?ec4_NodesFull ?ec5_NodesFull ?ec6_NodesFull ?ec7_NodesFull ?ec8_NodesFull ?g_BlocksFull ?be1_BlocksFull ?te1_BlocksFull ?ie1_BlocksFull ?xe1_BlocksFull ?ke1_BlocksFull ?ec1_BlocksFull ?ec2_BlocksFull ?ec4_BlocksFull ?ec5_BlocksFull ?ec6_BlocksFull ?ec7_BlocksFull ?ec8_BlocksFull ?g_OverQuota ?be1_OverQuota ?te1_OverQuota ?ie1_OverQuota ?xe1_OverQuota ?ke1_OverQuota ?ec1_OverQuota ?ec2_OverQuota ?ec4_OverQuota ?ec5_OverQuota ?ec6_OverQuota ?ec7_OverQuota ?ec8_OverQuota ?g_TooLong ?be1_TooLong ?te1_TooLong ?ie1_TooLong ?xe1_TooLong ?ke1_TooLong ?ec1_TooLong ?ec2_TooLong ?ec4_TooLong ?ec5_TooLong ?ec6_TooLong ?ec7_TooLong ?ec8_TooLong ?g_Unfinished ?be1_Unfinished ?te1_Unfinished ?ie1_Unfinished ?xe1_Unfinished ?ke1_Unfinished ?ec1_Unfinished ?ec2_Unfinished ?ec4_Unfinished ?ec5_Unfinished ?ec6_Unfinished ?ec7_Unfinished ?ec8_Unfinished ?sb_NodesFull_Refused ?sb_NodesFull_TooLong ?sb_NodesFull_Unfinished ?sb_BlocksFull_Refused ?sb_BlocksFull_TooLong ?sb_BlocksFull_Unfinished ?sb_OverQuota_Refused ?sb_OverQuota_TooLong ?sb_OverQuota_Unfinished ?sb_TooLong_Refused ?sb_TooLong_TooLong ?sb_TooLong_Unfinished ?sb_Unfinished_Refused ?sb_Unfinished_TooLong ?sb_Unfinished_Unfinished ?gc_SUMS_BLOCK ?gc_ROOT ?gc_KIND ?gc_LINKS ?gc_SIZE ?gc_OWNER ?gc_FIRST_PLACE ?gc_PLACES ?gc_MAKING ?gc_UNMADE ?gc_FILE ?gc_FOLDER ?gc_LEAST_BLOCKS ?gc_MOST_BLOCKS ?gc_LEAST_NODES ?gc_MOST_NODES ?gc_MOST_SLOTS ?gc_LEAST_DATA ?gc_FIRST_MAP ?gc_PLACE_COUNT ?gc_NODE_PLACES ?gc_MOST_PIECE ?nb_abs ?nb_any ?nb_bool ?nb_dict ?nb_enumerate ?nb_int ?nb_isinstance ?nb_len ?nb_list ?nb_max ?nb_min ?nb_range ?nb_reversed ?nb_tuple
    (case g_node_cell => k_is)
    (case g_put_node_cell => k_is)
    (case g_is_made => k_is)
    (case g_make_node => k_is)
    (case g_unmake_node => k_is)
    (case g_place_block => k_is)
    (case g_put_place => k_is)
    (case g_needs_block_of_places => k_is)
    (case g_fill_place => k_is)
    (case g_take_place => k_is)
    (case g_drop_block_of_places => k_is)
    (case g_drop_place => k_is)
    (case g_held_blocks => k_is)
    (case g_taken_behind => k_is)
    (case g_unfinished => k_is)
    (case g_put_size => k_is)
    (case g_set_size => k_is)
    (case g_free_piece => k_is)
    (case g_read_word => k_is)
    (case g_read_words => k_is)
    (case g_file_words => k_is)
    (case g_take_places => k_is)
    (case g_fill_holes => k_is)
    (case g_write_words => k_is)
    (case g_Lfeed => k_is)
    (case g_Lpick => k_is)
    (case g_Linteger => k_is)
    (case g_Lrow => k_is)
    (case g_Lbehind => k_is)
    (case g_Lblocks => k_is)
    (case g_Lagrees => k_is)
    (case g_Lwindow => k_is)
    (case g_Lwrite_refused => k_is)
    (case g_Lsize_refused => k_is)
    (case g_Lwrite => k_is)
    (case g_Lsize => k_is)
    (case g_Lspoil => k_is)
    (case g_Lpiece => k_is)
    (case g_law => k_is)
    (case g_Plan => k_is)
    (case g_Image => k_is)
    (case g_Refused => k_is)
    (case g_NodesFull => k_is)
    (case g_BlocksFull => k_is)
    (case g_OverQuota => k_is)
    (case g_TooLong => k_is)
    (case g_Unfinished => k_is)
    (case tp_Plan => k_is)
    (case tp_Image => k_is)
    (case mk2_Plan => k_is)
    (case mk2_Image => k_is)
    (case m1_Plan_map_place => k_is)
    (case m1_Plan_node_block => k_is)
    (case m1_Plan_data_blocks => k_is)
    (case m1_Image_begin => k_is)
    (case m1_Image_twin => k_is)
    (case m1_Image_take => k_is)
    (case m1_Image_give => k_is)
    (case m1_Image__put_block => k_is)
    (case m1_Image_free_blocks => k_is)
    (case m1_Image_kind => k_is)
    (case s1_Image_fresh => k_is)
    (case s1_Image_of_cells => k_is)
    (case s2_Image_fresh => k_is)
    (case s2_Image_of_cells => k_is)
    (case l_node_cell => k_is)
    (case c_node_cell => k_is)
    (case k_node_cell => k_is)
    (case l_put_node_cell => k_is)
    (case c_put_node_cell => k_is)
    (case k_put_node_cell => k_is)
    (case l_is_made => k_is)
    (case c_is_made => k_is)
    (case k_is_made => k_is)
    (case l_make_node => k_is)
    (case c_make_node => k_is)
    (case k_make_node => k_is)
    (case l_unmake_node => k_is)
    (case c_unmake_node => k_is)
    (case k_unmake_node => k_is)
    (case l_place_block => k_is)
    (case c_place_block => k_is)
    (case k_place_block => k_is)
    (case l_put_place => k_is)
    (case c_put_place => k_is)
    (case k_put_place => k_is)
    (case l_needs_block_of_places => k_is)
    (case c_needs_block_of_places => k_is)
    (case k_needs_block_of_places => k_is)
    (case l_fill_place => k_is)
    (case c_fill_place => k_is)
    (case k_fill_place => k_is)
    (case l_take_place => k_is)
    (case c_take_place => k_is)
    (case k_take_place => k_is)
    (case l_drop_block_of_places => k_is)
    (case c_drop_block_of_places => k_is)
    (case k_drop_block_of_places => k_is)
    (case l_drop_place => k_is)
    (case c_drop_place => k_is)
    (case k_drop_place => k_is)
    (case l_held_blocks => k_is)
    (case c_held_blocks => k_is)
    (case k_held_blocks => k_is)
    (case l_taken_behind => k_is)
    (case c_taken_behind => k_is)
    (case k_taken_behind => k_is)
    (case l_unfinished => k_is)
    (case c_unfinished => k_is)
    (case k_unfinished => k_is)
    (case l_put_size => k_is)
    (case c_put_size => k_is)
    (case k_put_size => k_is)
    (case l_set_size => k_is)
    (case c_set_size => k_is)
    (case k_set_size => k_is)
    (case l_free_piece => k_is)
    (case c_free_piece => k_is)
    (case k_free_piece => k_is)
    (case l_read_word => k_is)
    (case c_read_word => k_is)
    (case k_read_word => k_is)
    (case l_read_words => k_is)
    (case c_read_words => k_is)
    (case k_read_words => k_is)
    (case l_file_words => k_is)
    (case c_file_words => k_is)
    (case k_file_words => k_is)
    (case l_take_places => k_is)
    (case c_take_places => k_is)
    (case k_take_places => k_is)
    (case l_fill_holes => k_is)
    (case c_fill_holes => k_is)
    (case k_fill_holes => k_is)
    (case l_write_words => k_is)
    (case c_write_words => k_is)
    (case k_write_words => k_is)
    (case l_Lfeed => k_is)
    (case c_Lfeed => k_is)
    (case k_Lfeed => k_is)
    (case l_Lpick => k_is)
    (case c_Lpick => k_is)
    (case k_Lpick => k_is)
    (case l_Linteger => k_is)
    (case c_Linteger => k_is)
    (case k_Linteger => k_is)
    (case l_Lrow => k_is)
    (case c_Lrow => k_is)
    (case k_Lrow => k_is)
    (case l_Lbehind => k_is)
    (case c_Lbehind => k_is)
    (case k_Lbehind => k_is)
    (case l_Lblocks => k_is)
    (case c_Lblocks => k_is)
    (case k_Lblocks => k_is)
    (case l_Lagrees => k_is)
    (case c_Lagrees => k_is)
    (case k_Lagrees => k_is)
    (case l_Lwindow => k_is)
    (case c_Lwindow => k_is)
    (case k_Lwindow => k_is)
    (case l_Lwrite_refused => k_is)
    (case c_Lwrite_refused => k_is)
    (case k_Lwrite_refused => k_is)
    (case l_Lsize_refused => k_is)
    (case c_Lsize_refused => k_is)
    (case k_Lsize_refused => k_is)
    (case l_Lwrite => k_is)
    (case c_Lwrite => k_is)
    (case k_Lwrite => k_is)
    (case l_Lsize => k_is)
    (case c_Lsize => k_is)
    (case k_Lsize => k_is)
    (case l_Lspoil => k_is)
    (case c_Lspoil => k_is)
    (case k_Lspoil => k_is)
    (case l_Lpiece => k_is)
    (case c_Lpiece => k_is)
    (case k_Lpiece => k_is)
    (case l_law => k_is)
    (case c_law => k_is)
    (case k_law => k_is)
    (case l_Plan___init__ => k_is)
    (case c_Plan___init__ => k_is)
    (case k_Plan___init__ => k_is)
    (case l_Plan_map_place => k_is)
    (case c_Plan_map_place => k_is)
    (case k_Plan_map_place => k_is)
    (case l_Plan_node_block => k_is)
    (case c_Plan_node_block => k_is)
    (case k_Plan_node_block => k_is)
    (case l_Plan_data_blocks => k_is)
    (case c_Plan_data_blocks => k_is)
    (case k_Plan_data_blocks => k_is)
    (case l_Image___init__ => k_is)
    (case c_Image___init__ => k_is)
    (case k_Image___init__ => k_is)
    (case l_Image_begin => k_is)
    (case c_Image_begin => k_is)
    (case k_Image_begin => k_is)
    (case l_Image_twin => k_is)
    (case c_Image_twin => k_is)
    (case k_Image_twin => k_is)
    (case l_Image_take => k_is)
    (case c_Image_take => k_is)
    (case k_Image_take => k_is)
    (case l_Image_give => k_is)
    (case c_Image_give => k_is)
    (case k_Image_give => k_is)
    (case l_Image__put_block => k_is)
    (case c_Image__put_block => k_is)
    (case k_Image__put_block => k_is)
    (case l_Image_free_blocks => k_is)
    (case c_Image_free_blocks => k_is)
    (case k_Image_free_blocks => k_is)
    (case l_Image_kind => k_is)
    (case c_Image_kind => k_is)
    (case k_Image_kind => k_is)
    (case l_Image_fresh => k_is)
    (case c_Image_fresh => k_is)
    (case k_Image_fresh => k_is)
    (case l_Image_of_cells => k_is)
    (case c_Image_of_cells => k_is)
    (case k_Image_of_cells => k_is)
    (case pg_Plan => k_is)
    (case hd_Plan => k_is)
    (case po_Plan => k_is)
    (case sa_Plan => k_is)
    (case n_Plan_blocks => k_is)
    (case n_Plan_nodes => k_is)
    (case n_Plan_slots => k_is)
    (case n_Plan_maps => k_is)
    (case n_Plan_first_node => k_is)
    (case n_Plan_first_data => k_is)
    (case mk1_Plan => k_is)
    (case mk3_Plan => k_is)
    (case mk4_Plan => k_is)
    (case rd_Plan => k_is)
    (case ga_Plan => k_is)
    (case v_Plan_WIDTH => k_is)
    (case v_Plan_OWNERS => k_is)
    (case v_Plan_LONGEST => k_is)
    (case v_Plan_FREE => k_is)
    (case v_Plan_LOGGED => k_is)
    (case v_Plan_PLAIN => k_is)
    (case o_Plan_WIDTH => k_is)
    (case og_Plan_WIDTH => k_is)
    (case pg_Image => k_is)
    (case hd_Image => k_is)
    (case po_Image => k_is)
    (case sa_Image => k_is)
    (case n_Image_plan => k_is)
    (case n_Image_cells => k_is)
    (case n_Image_holdings => k_is)
    (case n_Image_stamps => k_is)
    (case n_Image_handles => k_is)
    (case n_Image_serial => k_is)
    (case n_Image_wish => k_is)
    (case n_Image_barred => k_is)
    (case mk1_Image => k_is)
    (case mk3_Image => k_is)
    (case mk4_Image => k_is)
    (case rd_Image => k_is)
    (case ga_Image => k_is)
    (case m2_Plan_map_place => k_is)
    (case m2_Plan_node_block => k_is)
    (case m2_Plan_data_blocks => k_is)
    (case m2_Image_begin => k_is)
    (case m2_Image_twin => k_is)
    (case m2_Image_take => k_is)
    (case m2_Image_give => k_is)
    (case m2_Image__put_block => k_is)
    (case m2_Image_free_blocks => k_is)
    (case m2_Image_kind => k_is)
    (case be1_Refused => k_is)
    (case te1_Refused => k_is)
    (case ie1_Refused => k_is)
    (case be1_NodesFull => k_is)
    (case te1_NodesFull => k_is)
    (case ie1_NodesFull => k_is)
    (case xe1_NodesFull => first | k_exc | k_is)
    (case ke1_NodesFull => k_is)
    (case ec1_NodesFull => k_is)
    (case ec2_NodesFull => k_is)
    (case ec4_NodesFull => k_is)
    (case ec5_NodesFull => k_is)
    (case ec6_NodesFull => k_is)
    (case ec7_NodesFull => k_is)
    (case ec8_NodesFull => k_is)
    (case be1_BlocksFull => k_is)
    (case te1_BlocksFull => k_is)
    (case ie1_BlocksFull => k_is)
    (case xe1_BlocksFull => first | k_exc | k_is)
    (case ke1_BlocksFull => k_is)
    (case ec1_BlocksFull => k_is)
    (case ec2_BlocksFull => k_is)
    (case ec4_BlocksFull => k_is)
    (case ec5_BlocksFull => k_is)
    (case ec6_BlocksFull => k_is)
    (case ec7_BlocksFull => k_is)
    (case ec8_BlocksFull => k_is)
    (case be1_OverQuota => k_is)
    (case te1_OverQuota => k_is)
    (case ie1_OverQuota => k_is)
    (case xe1_OverQuota => first | k_exc | k_is)
    (case ke1_OverQuota => k_is)
    (case ec1_OverQuota => k_is)
    (case ec2_OverQuota => k_is)
    (case ec4_OverQuota => k_is)
    (case ec5_OverQuota => k_is)
    (case ec6_OverQuota => k_is)
    (case ec7_OverQuota => k_is)
    (case ec8_OverQuota => k_is)
    (case be1_TooLong => k_is)
    (case te1_TooLong => k_is)
    (case ie1_TooLong => k_is)
    (case xe1_TooLong => first | k_exc | k_is)
    (case ke1_TooLong => k_is)
    (case ec1_TooLong => k_is)
    (case ec2_TooLong => k_is)
    (case ec4_TooLong => k_is)
    (case ec5_TooLong => k_is)
    (case ec6_TooLong => k_is)
    (case ec7_TooLong => k_is)
    (case ec8_TooLong => k_is)
    (case be1_Unfinished => k_is)
    (case te1_Unfinished => k_is)
    (case ie1_Unfinished => k_is)
    (case xe1_Unfinished => first | k_exc | k_is)
    (case ke1_Unfinished => k_is)
    (case ec1_Unfinished => k_is)
    (case ec2_Unfinished => k_is)
    (case ec4_Unfinished => k_is)
    (case ec5_Unfinished => k_is)
    (case ec6_Unfinished => k_is)
    (case ec7_Unfinished => k_is)
    (case ec8_Unfinished => k_is)
    (case sb_NodesFull_Refused => first | rfl | k_is)
    (case sb_NodesFull_TooLong => first | rfl | k_is)
    (case sb_NodesFull_Unfinished => first | rfl | k_is)
    (case sb_BlocksFull_Refused => first | rfl | k_is)
    (case sb_BlocksFull_TooLong => first | rfl | k_is)
    (case sb_BlocksFull_Unfinished => first | rfl | k_is)
    (case sb_OverQuota_Refused => first | rfl | k_is)
    (case sb_OverQuota_TooLong => first | rfl | k_is)
    (case sb_OverQuota_Unfinished => first | rfl | k_is)
    (case sb_TooLong_Refused => first | rfl | k_is)
    (case sb_TooLong_TooLong => first | rfl | k_is)
    (case sb_TooLong_Unfinished => first | rfl | k_is)
    (case sb_Unfinished_Refused => first | rfl | k_is)
    (case sb_Unfinished_TooLong => first | rfl | k_is)
    (case sb_Unfinished_Unfinished => first | rfl | k_is)
    (case gc_SUMS_BLOCK => k_is)
    (case gc_ROOT => k_is)
    (case gc_KIND => k_is)
    (case gc_LINKS => k_is)
    (case gc_SIZE => k_is)
    (case gc_OWNER => k_is)
    (case gc_FIRST_PLACE => k_is)
    (case gc_PLACES => k_is)
    (case gc_MAKING => k_is)
    (case gc_UNMADE => k_is)
    (case gc_FILE => k_is)
    (case gc_FOLDER => k_is)
    (case gc_LEAST_BLOCKS => k_is)
    (case gc_MOST_BLOCKS => k_is)
    (case gc_LEAST_NODES => k_is)
    (case gc_MOST_NODES => k_is)
    (case gc_MOST_SLOTS => k_is)
    (case gc_LEAST_DATA => k_is)
    (case gc_FIRST_MAP => k_is)
    (case gc_PLACE_COUNT => k_is)
    (case gc_NODE_PLACES => k_is)
    (case gc_MOST_PIECE => k_is)
    (case nb_abs => k_is)
    (case nb_any => k_is)
    (case nb_bool => k_is)
    (case nb_dict => k_is)
    (case nb_enumerate => k_is)
    (case nb_int => k_is)
    (case nb_isinstance => k_is)
    (case nb_len => k_is)
    (case nb_list => k_is)
    (case nb_max => k_is)
    (case nb_min => k_is)
    (case nb_range => k_is)
    (case nb_reversed => k_is)
    (case nb_tuple => k_is)
