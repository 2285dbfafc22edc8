import PyProof.Rows.All
import Wide.All
import OpenK.AllK
import Wide.FinOn
import HandS.ForMost
import HandS.IsInst
import HandS.Evl
import HandS.ClsMeth
import HandS.MakeKwOnly
import HandS.TryOnly
import HandS.ExcOwn
import HandS.ExcIs
import HandS.ExcCtx
import HandS.HotCalls
import HandS.WordsExc
import HandS.Conv
import HandS.FStr
import HandS.RaiseMore
import HandS.Style
import HandS.Small
import HandS.More
import HandS.Star
import KE.GoesMore
import HandS.Walk
import HandS.HeadHook2
import KE.KOwnIter
import HandS.IterVal
import HandS.Lambda
import HandS.RevTup
import HandS.Rev
import HandS.EndTab
import HandS.TupMul
import HandS.Zip
import HandS.Dict
import HandS.StrMore
import HandS.HeadHook4
import KE.KNestM
import HandS.AnyAll
import HandS.GenOver
import PySem.Challenge.RW_lotsandties_k45_marks_found
set_option Elab.async false
set_option linter.all false
set_option maxRecDepth 100000
set_option maxHeartbeats 4000000
namespace Rg
open PySem PySem.Spec PyProof.Rows L2
/-! ### heaps -/
theorem same_upd {H : Hp} {p : Addr} {o : HO} (h : H p = none) : Same H (upd H p o) := fun b x e => by
  rw [upd_ne (ne_of_none e h)]
  exact e
theorem upd_id {H : Hp} {p : Addr} {o : HO} (h : H p = some o) : upd H p o = H := by
  funext b
  by_cases e : b = p
  · rw [e, upd_same, h]
  · rw [upd_ne e]
theorem yes_ {σ : L2.St} {H : Hp} {A B : Hp → Prop} (h : A H) : tYes σ H fun b H3 => if b = true then A H3 else B H3 := by
  show if true = true then A H else B H
  rw [if_pos rfl]
  exact h
/-- what is free behind a store was free, and is another place -/
theorem un {H : Hp} {a b : Addr} {o : HO} (e : upd H a o b = none) : H b = none := by
  by_cases z : b = a
  · rw [z, upd_same] at e; cases e
  · rw [upd_ne z] at e; exact e
theorem unn {H : Hp} {a b : Addr} {o : HO} (e : upd H a o b = none) : b ≠ a := fun z => by
  rw [z, upd_same] at e; cases e
theorem unn' {H : Hp} {a b : Addr} {o : HO} (e : upd H a o b = none) : a ≠ b := fun z => unn e z.symm
theorem upd_comm {H : Hp} {p q : Addr} {o o' : HO} (h : p ≠ q) : upd (upd H p o) q o' = upd (upd H q o') p o := by
  funext b
  by_cases e : b = p
  · rw [e, upd_same, upd_ne h, upd_same]
  · by_cases e2 : b = q
    · rw [e2, upd_same, upd_ne h.symm, upd_same]
    · rw [upd_ne e2, upd_ne e, upd_ne e, upd_ne e2]
theorem upd_app {H : Hp} {p : Addr} {fs : List Int} {x : Int} : upd (upd H p (.lst (fs.map V.int))) p (.lst (fs.map V.int ++ [V.int x])) = upd H p (.lst ((fs ++ [x]).map V.int)) := by
  rw [upd_upd, List.map_append]
  rfl
/-- kept but for what stands at S -/
def Kp (S : List Addr) (H H' : Hp) : Prop := ∀ x o, H x = some o → x ∉ S → H' x = some o
theorem Kp.refl {S : List Addr} {H : Hp} : Kp S H H := fun _ _ e _ => e
theorem Kp.new {S : List Addr} {H H1 : Hp} {a : Addr} {o : HO} (k : Kp S H H1) (h : H1 a = none) : Kp S H (upd H1 a o) := fun x u e n => by
  rw [upd_ne (ne_of_none (k x u e n) h)]
  exact k x u e n
theorem Kp.own {S : List Addr} {H H1 : Hp} {a : Addr} {o : HO} (k : Kp S H H1) (h : a ∈ S) : Kp S H (upd H1 a o) := fun x u e n => by
  have z : x ≠ a := fun z => by rw [z] at n; exact n h
  rw [upd_ne z]
  exact k x u e n
theorem Kp.own1 {p : Addr} {H H1 : Hp} {o : HO} (k : Kp [p] H H1) : Kp [p] H (upd H1 p o) := k.own (by simp)
theorem Kp.trans {S : List Addr} {H H1 H2 : Hp} (a : Kp S H H1) (b : Kp S H1 H2) : Kp S H H2 := fun x o e n => b x o (a x o e n) n
theorem Kp.same {S : List Addr} {H H1 H2 : Hp} (a : Kp S H H1) (b : Same H1 H2) : Kp S H H2 := fun x o e n => b x o (a x o e n)
theorem Kp.of {S : List Addr} {H H1 : Hp} (b : Same H H1) : Kp S H H1 := fun x o e _ => b x o e
theorem Kp.mono {S S' : List Addr} {H H1 : Hp} (a : Kp S H H1) (h : ∀ x, x ∈ S → x ∈ S') : Kp S' H H1 := fun x o e n => a x o e fun z => n (h x z)
theorem Kp.free {S : List Addr} {H H1 : Hp} {x : Addr} (a : Kp S H H1) (n : x ∉ S) (h : H1 x = none) : H x = none := by
  cases q : H x with
  | none => rfl
  | some o => rw [a x o q n] at h; cases h
theorem Kp.at1 {p x : Addr} {H H' : Hp} {o : HO} (k : Kp [p] H H') (e : H x = some o) (n : x ≠ p) : H' x = some o := k x o e (by simp [n])
theorem Kp.ret {a : Addr} {S : List Addr} {H H' : Hp} {o : HO} (k : Kp (a :: S) H H') (h : H a = none) : Kp S H H' := fun x u e n => k x u e (by
  intro z
  rcases List.mem_cons.mp z with z | z
  · rw [z, h] at e; cases e
  · exact n z)
theorem own_f {H H' : Hp} {p : Addr} {o : HO} (h : upd H p o = H') : H' p = some o ∧ Kp [p] H H' ∧ ∀ x, H' x = none → H x = none ∧ x ≠ p := by
  subst h
  exact ⟨upd_same, Kp.refl.own1, fun x e => ⟨un e, unn e⟩⟩
theorem new_f {H H' : Hp} {a : Addr} {o : HO} (h : upd H a o = H') (n : H a = none) : H' a = some o ∧ Same H H' ∧ ∀ x, H' x = none → H x = none ∧ x ≠ a := by
  subst h
  exact ⟨upd_same, same_upd n, fun x e => ⟨un e, unn e⟩⟩
/-- a whole-number constant of the module -/
theorem pe_gc {X : Cx} {x : Str} {n : Int} {pos : Pos} (hm : ∃ t, X.mg x = some (.int n t)) (hg : Gl X x := by rfl) (hd : (x == ("__debug__" : Str)) = false := by decide) : PE X (.Name x pos) (tC (.int n)) :=
  let ⟨t, h⟩ := hm
  pe_glob hg h ⟨t, rfl⟩ hd
/-- a text constant of the module -/
theorem pe_gs {X : Cx} {x z : Str} {pos : Pos} (hm : ∃ t, X.mg x = some (.str z t)) (hg : Gl X x := by rfl) (hd : (x == ("__debug__" : Str)) = false := by decide) : PE X (.Name x pos) (tC (.str z)) :=
  let ⟨t, h⟩ := hm
  pe_glob hg h ⟨t, rfl⟩ hd
/-- C.f, C a class of the module, f a value of the class -/
theorem pe_cv {X : Cx} {x f : Str} {C : Addr} {mc : Value} {v : V} {p pos : Pos} (hm : X.mg x = some (.ref C)) (r : ClX.CRead X.K C mc) (k : ∃ u, ClX.CVal X.K C mc f v u) (hg : Gl X x := by rfl) (hd : (x == ("__debug__" : Str)) = false := by decide)
    (hb : attributeBase (.Name x p) f X.env (eval (.Name x p) X.env) = eval (.Name x p) X.env := by rfl) : PE X (.Attribute (.Name x p) f pos) (tC v) := by
  obtain ⟨u, k⟩ := k
  have := (ClX.pe_cval (pos := pos) (pe_glob (X := X) (x := x) (v := .ref C) (u := .ref C) (pos := p) hg hm rfl hd) hb)
  exact ⟨fun pins s σ H Q I h => this.run pins s σ H Q I ⟨C, mc, v, u, rfl, r, k, h⟩⟩
/-! ### the same rules with the written part named (inside a comprehension) -/
section
variable {X : Cx} {K : PySem.W.Frag}
def rListOf (K : PySem.W.Frag) : List V → Hp → VK → Prop := fun xs H Q => ∃ p ys, xs = [.ref p] ∧ (SqL K H p ys ∨ SqT K H p ys) ∧ ∀ l, H l = none → Q (.ref l) (upd H l (.lst ys))
theorem pe_listof {e : Expr} {te : TE} {p pos : Pos} (he : PE X e te) (hm : X.mg "list" = none) (hK : X.K = K := by rfl) (hg : Gl X "list" := by rfl) (hs : starEach [e] X.env = (false, eval e X.env) :: starEach [] X.env := by rfl) : PE X (.Call (.Name "list" p) [e] [] pos) (tCB (rListOf K) (tCons te tNil)) := by
  subst hK
  exact pe_callTy call_list_of hg hm (by decide +kernel) (pa_cons he pa_nil hs) (he := hs)
theorem pe_fldK {e : Expr} {f : Str} {pos : Pos} {ta : TE} (he : PE X e ta) (hb : attributeBase e f X.env (eval e X.env) = eval e X.env) (hK : X.K = K := by rfl) : PE X (.Attribute e f pos) (tFld K ta f) := by
  subst hK
  exact pe_fld he hb
theorem pe_ixK {a b : Expr} {pos : Pos} {ta tb : TE} (ha : PE X a ta) (hb : PE X b tb) (hs : PlainIx b) (hK : X.K = K := by rfl) : PE X (.Subscript a b pos) (tOp (rIxL K) ta tb) := by
  subst hK
  exact pe_ix ix_list ha hb hs
theorem pe_lenK {e : Expr} {te : TE} {p pos : Pos} (he : PE X e te) (hm : X.mg "len" = none) (hK : X.K = K := by rfl) (hg : Gl X "len" := by rfl) (hs : starEach [e] X.env = (false, eval e X.env) :: starEach [] X.env := by rfl) : PE X (.Call (.Name "len" p) [e] [] pos) (tCB (fun xs H Q => ∃ p ys, xs = [.ref p] ∧ (SqL K H p ys ∨ SqT K H p ys) ∧ Q (.int ys.length) H) (tCons te tNil)) := by
  subst hK
  exact pe_callB call_len_seq hg hm (by decide +kernel) (pa_cons he pa_nil hs) (he := hs)
end
/-! ### static methods, called off the class -/
structure SMet (K : PySem.W.Frag) (C : Addr) (mc : Value) (m : Str) (g : Addr) : Prop where
  ex : ∃ p, PySem.W.findCls K (.ref C) mc m = some (.get (.builtin "staticmethod.__get__") (.ref p) .none (.ref C)) ∧ (∃ rest, PySem.W.recIn K p "staticmethod" = some (.ref g :: rest)) ∧ PySem.W.keepIn K (.ref g) = true
/-- C.m(e, ..), C the class at C, m a static method -/
def tSMeth (sp : Sp) (dvs : List V) (E : XK) (t : TA) : TE := fun σ H Q => t σ H fun vs H2 => sp (vs ++ dvs) H2 Q E
section
variable {X : Cx} {CX : CXT} {k : Nat} {C g : Addr} {mc : Value} {sp : Sp} {E : XK} {x : Str} {e : Expr} {es : List Expr} {m : Str} {p pos apos : Pos} {t : TA} {pl : Sem Bool} {fd : FuncData} {ps : List Str} {ds : List Value} {dvs : List V}
theorem pe_smeth (hmx : X.mg x = some (.ref C)) (r : ClX.CRead X.K C mc) (c : SMet X.K C mc m g) (F : FnOk X.prog X.w X.K X.mg X.base CX k g fd ps sp) (hr : Room k X.A) (hb : Binds X.K fd ps ds) (hd : Vals dvs ds) (hx : Passes CX X E) (ha : PA X (e :: es) t) (hg : Gl X x := by rfl) (hdb : (x == ("__debug__" : Str)) = false := by decide)
    (hst : starEach (e :: es) X.env = (false, eval e X.env) :: starEach es X.env := by rfl) (hpl : (backTo pos (starEach es X.env)).any (·.1) = false := by rfl)
    (ht : eval (.Call (.Attribute (.Name x p) m apos) (e :: es) [] pos) X.env = (do
      let ov ← eval (.Name x p) X.env
      standAt apos.atName
      let (f, first) ← holding [ov] (getMethod ov m pl)
      callWith pos f first (backTo pos (starEach (e :: es) X.env)) (backToKw pos (keywordEach [] X.env))) := by rfl) :
    PE X (.Call (.Attribute (.Name x p) m apos) (e :: es) [] pos) (tSMeth sp dvs E t) := by
  obtain ⟨q, at_, ⟨rest, hp⟩, hk⟩ := c.ex
  refine ⟨fun pins s σ H Q I h => ?_⟩
  refine PySem.W.methodCall_KW (pl := pl) (ld_glob I hg hmx ?_ hdb) ht
  refine PySem.W.method_cls I.kIn r.ga (PySem.W.cls_bind I.kIn r.rd at_ ?_)
  refine wpAny_call (PySem.W.sm_get (s := { s with toks := s.toks + 1 }) I.kIn hp (PySem.W.handed_on rfl ?_))
  refine PySem.W.callWith_K (f := .ref g) (first := []) (h₀ := X.base) I.ok.mod.kin hk (thn (ha.run pos pins _ σ H _ (I.tok _) h) fun us s1 ⟨vs, H1, I1, r1, q1⟩ => ⟨I1.kIn, ?_⟩) hst hpl
  exact run_fn F hr hb hd hx I1 r1 q1
end
/-! ### errors -/
theorem exm_sub {K : PySem.W.Frag} {D S : Addr} (h1 : PySem.W.subIn K (.ref S) (.type "BaseException") = some true) (h2 : PySem.W.isClsIn K S = true) (h3 : PySem.W.typeIn K (.ref S) = some (.type "type")) (h4 : PySem.W.subIn K (.ref D) (.ref S) = some true) :
    PySem.W.exmOne K (.ref D) (.ref S) = some true := by
  have e1 : (PySem.W.subIn K (.ref S) (.type "BaseException") == some true) = true := by rw [h1] <;> rfl
  have e2 : ((PySem.W.clsIn K S).isSome && PySem.W.typeIn K (.ref S) == some (.type "type")) = true := by
    have h2' : (PySem.W.clsIn K S).isSome = true := h2
    rw [h2', h3] <;> rfl
  show (if (PySem.W.subIn K (.ref S) (.type "BaseException") == some true) = true then (if ((PySem.W.clsIn K S).isSome && PySem.W.typeIn K (.ref S) == some (.type "type")) = true then PySem.W.subIn K (.ref D) (.ref S) else none) else none) = some true
  rw [if_pos e1, if_pos e2]
  exact h4
theorem kit_sub {K : PySem.W.Frag} {D S : Addr} {b : Bool} (hne : D ≠ S) (h2 : PySem.W.isClsIn K S = true) (h3 : PySem.W.typeIn K (.ref S) = some (.type "type")) (h4 : PySem.W.subIn K (.ref D) (.ref S) = some b) :
    PySem.W.kitOne K (.ref D) (.ref S) = some b := by
  have e2 : ((PySem.W.clsIn K S).isSome && PySem.W.typeIn K (.ref S) == some (.type "type")) = true := by
    have h2' : (PySem.W.clsIn K S).isSome = true := h2
    rw [h2', h3] <;> rfl
  unfold PySem.W.kitOne
  rw [if_neg (by intro z; exact hne (Value.ref.inj (beq_iff_eq.mp z)))]
  show (if ((PySem.W.clsIn K S).isSome && PySem.W.typeIn K (.ref S) == some (.type "type")) = true then PySem.W.subIn K (.ref D) (.ref S) else none) = some b
  rw [if_pos e2]
  exact h4
/-- a suite that is come to by an error of the class at D alone (no fields of its own) -/
def tOnly (cls : Value) (d : Option Addr) (D : Addr) (t : TS) : TS := fun E σ H => cls = .ref D ∧ d = none ∧ t E σ H
theorem pss_only {X : Cx} {sts : List Stmt} {t : TS} {cls : Value} {d : Option Addr} {D : Addr} (h : cls = .ref D → d = none → PSs X sts t) : PSs X sts (tOnly cls d D t) :=
  ⟨fun pins s σ H E I hh => (h hh.1 hh.2.1).run pins s σ H E I hh.2.2⟩
theorem kit_self {K : PySem.W.Frag} {D : Addr} : PySem.W.kitOne K (.ref D) (.ref D) = some true := by
  unfold PySem.W.kitOne
  rw [if_pos (beq_self_eq_true _)]
theorem dec_iv (a d : Int) : decide (V.int a = V.int d) = decide (a = d) := by
  by_cases e : a = d
  · subst e; simp
  · rw [decide_eq_false e, decide_eq_false fun q => e (V.int.inj q)]
end Rg
namespace Rg
open PySem PySem.Spec PyProof.Rows L2
/-! ### an error that a suite holds, handed to a def of one's own -/
section
variable {prog : Program} {w : World} {A : Around} {E : Value → Shared → Prop} {s : Shared}
/-- a walk over a list comes to its end while an error is handled -/
theorem list_end_hot {it l x1 : Addr} {i : Nat} {items} {Q : Option Value → Shared → Prop} (hot : HotX.HotAt A x1 s.heap) (hit : s.heap.IsListIter it l i) (hl : s.heap.IsList l items) (hx : items[i]? = none)
    (hQ : ∀ h', Heap.ExtBut it s.heap h' → Q none { s with heap := h' }) : wpAny (model prog w) A (pyNext (.ref it)) Q E s := by
  obtain ⟨hh, o1, vs1, h1, d1, c1⟩ := hot; obtain ⟨o, ho, hc, hd⟩ := id hit
  obtain ⟨ol, hol, _, nl, hdl⟩ := hl; unfold pyNext
  have ni : it ≠ x1 := fun z => by
    rw [← z, ho] at h1
    cases h1
    rw [hd] at d1
    cases d1
    simp at c1
  refine wpAny_bind (wpAny_attempt (wpAny_callSpecial?_slot (name := Str.ofString "__next__") hit.typeIs slot_listiter_next (wpAny_call_entry slot_listiter_next hit.typeIs entry_listiter_next ?_ (args_listiter_next _))))
  refine (show wpAny _ _ (field (.ref it) 0 >>= _) _ _ s from ?_); refine wpAny_bind (wpAny_field ho hd (x := .ref l) rfl ?_)
  refine (show wpAny _ _ (if (Value.ref l == Value.none) = true then _ else _) _ _ s from ?_); rw [if_neg (show ¬ ((Value.ref l == Value.none) = true) from Bool.false_ne_true)]
  refine (show wpAny _ _ (field (.ref it) 1 >>= _) _ _ s from ?_); refine wpAny_bind (wpAny_field ho hd (x := .int i 0) rfl ?_)
  refine (show wpAny _ _ (seqItems? (.ref l) >>= _) _ _ s from ?_); refine wpAny_bind (wpAny_seqItems hol hdl ?_)
  simp only [Int.toNat_natCast, hx]; refine wpAny_bind (wpAny_rule (wpAny_bind (wpAny_setField ho hd (by simp) ?_)))
  refine (show wpAny _ _ (newExc (.type "StopIteration") [] >>= _) _ _ _ from ?_); refine wpAny_bind ?_
  simp only [newExc, newTuple]; refine wpAny_bind (wpAny_newObj_type ?_ (by size_fits))
  refine wpAny_bind (m := firstArgMember _ _) (wpAny_of_eq (a := Value.none) (by first | rfl | (simp only [firstArgMember]; rfl)) ?_); refine wpAny_newObj_type ?_ (by size_fits)
  have g1 : ∀ f : Obj → Obj, (s.heap.update it f).get? x1 = some o1 := fun f => by rw [Heap.get?_update_other _ _ ni]; exact h1
  refine HotX.raiseNew_hot ⟨hh, o1, vs1, Heap.get?_push_of_some _ (Heap.get?_push_of_some _ (g1 _)), d1, c1⟩ (Nat.ne_of_lt (Heap.lt_size (Heap.get?_push_of_some _ (g1 _)))) (Heap.get?_push_size _ rfl) rfl (by first | (simp; done) | (simp; omega) | (simp only [Array.size_append]; simp; omega)) ?_
  refine wpAny_bind (wpAny_isInstance (T := "StopIteration") (b := true) ⟨_, Heap.get?_update_self _ (Heap.get?_push_size _ rfl) rfl, rfl⟩ isSubtype_stop ?_); refine wpAny_pure (hQ _ fun b o' nb e => ?_)
  have e2 : ∀ f oo, ((s.heap.update it f).push oo).get? b = some o' := fun f oo => (Heap.SameBut.update ..).extBut.push _ b o' nb e
  rw [Heap.get?_update_other _ _ (Nat.ne_of_gt (Heap.lt_size (e2 _ _)))]; exact Heap.get?_push_of_some _ (e2 _ _)
end
/-- the turns of a walk over a list while an error is handled -/
theorem turn_listH {P : Program} {w : World} {K : PySem.W.Frag} {tg : Expr} (a it : Addr) : L2H.TurnH P w K tg (Itl K a) [it] it (fun i h => h.IsListIter it a i) where
  mem := by simp
  obj := fun i h st b hb => (turn_list (P := P) (w := w) (K := K) (tg := tg) a it).obj i h st b hb
  keep := fun i h h' st k => (turn_list (P := P) (w := w) (K := K) (tg := tg) a it).keep i h h' st k
  item := by
    intro X hP hw hK hc i pins s σ H E I hf st hg; subst hP hw hK
    obtain ⟨xs, x, hq, hx⟩ := hg; obtain ⟨its, rv, p, hz⟩ := I.list hq
    obtain ⟨u, hu, ru⟩ := rv.get hx; obtain ⟨f0, f1, f2, f3, f4, f5⟩ := hf it (by simp)
    refine wpAny_pyNext_list_item st p.isList (x := u) (by simpa using hu) fun h' st' sb => ?_
    have I1 : Inv X pins σ H { s with heap := h' } := I.turned (t' := s.toks) (fun b o hb e => (sb.2 b hb).trans e) f0 f1 f3 f4 f5
    obtain ⟨o, e, c, d⟩ := id st'
    exact ⟨u, rfl, go_of (s := { s with heap := h' }) e c d (by decide) ⟨x, H, I1, ru, ⟨rfl, fun ys hy => by rw [I.list_inj hy hq]; exact hx⟩, st', fun b hb => (hf b hb).1⟩⟩
  done := by
    intro X hP hw hK hc i pins s σ H E I hf st hg; subst hP hw hK
    obtain ⟨xs, hq, hx⟩ := hg; obtain ⟨its, rv, p, hz⟩ := I.list hq
    obtain ⟨f0, f1, f2, f3, f4, f5⟩ := hf it (by simp); obtain ⟨x1, hot⟩ := hc.at I
    have hl := rv.length
    exact list_end_hot hot st p.isList (by simp; omega) fun h' eb => ⟨rfl, I.turned (t' := s.toks) (fun b o hb e => eb b o hb e) f0 f1 f3 f4 f5⟩
  self := fun _ _ _ _ _ st h => wpAny_pyIter_listiter st h
theorem pi_listH {X : Cx} {tg l : Expr} {tl : TE} (hl : PE X l tl) : L2H.PIH X tg l (iList X.K tl) := by
  refine ⟨fun pins s σ H R I h => thn (hl.run pins s σ H _ I h) fun v s1 ⟨x, H1, I1, r1, q1⟩ => ?_⟩
  obtain ⟨a, e, ⟨xs, hq⟩, q⟩ := q1; subst e; cases r1
  obtain ⟨its, rv, p, hz⟩ := I1.list hq; refine wpAny_pyIter_list p.isList ?_
  refine ⟨s1.heap.objs.size, [s1.heap.objs.size], _, _, H1, rfl, I1.kept (t' := s1.toks) (fun b o e => Heap.get?_push_of_some _ e), turn_listH a _, ⟨_, Heap.get?_push_size _ rfl, rfl, rfl⟩, fun b hb => ?_, q⟩
  have e : b = s1.heap.objs.size := by simpa using hb
  subst e; exact I1.fpOk (Nat.le_refl _) (I1.hok.fresh (Nat.le_refl _))
/-- a def that is called with the error that a suite holds (of the class at D) and lets nothing out -/
structure FnE (P : Program) (w : World) (K : PySem.W.Frag) (mg : Str → Option Value) (base : Heap) (k : Nat) (f : Addr) (fd : FuncData) (ps : List Str) (D : Addr) (sp : Addr → Sp) : Prop where
  len : ∀ a vs H Q E, sp a vs H Q E → vs.length = ps.length
  run : ∀ (A : Around) (outer : List Env) (s : Shared) (H : Hp) (args : Args) (us : List Value) (vs : List V) (Q : VK) (E : XK) (p : Addr × Obj), L2H.RoomH k A → L2H.Hot1 A p → Zc (.ref D) none p.2 → L2H.PinOk outer H s p → Env0 P w K mg base A outer s H →
    BindsTo s fd args (ps.zip us) → Vals vs us → sp p.1 vs H Q E → codeAny (model P w) A (.call (.ref f) args) (CR CX0 outer P w H s Q E) s
section
variable {P : Program} {w : World} {K : PySem.W.Frag} {mg : Str → Option Value} {base : Heap}
theorem _root_.L2.Fun.okE {x qual : Str} {st : Stmt} {f D : Addr} {fd : FuncData} {N ps : List Str} {k : Nat} {sp : Addr → Sp} (F : Fun K x qual st f fd) (S : FnScope N ps (defScope st)) (len : ∀ a vs H Q E, sp a vs H Q E → vs.length = ps.length)
    (hbody : ∀ (cdv : Value) (A : Around) (outer : List Env) (s : Shared) (H : Hp) (vs : List V) (Q : VK) (E : XK) (p : Addr × Obj), L2H.Hot1 A p → Zc (.ref D) none p.2 → L2H.RoomH k (A.deeper (envOfC qual (defScope st) s.heap.objs.size f cdv)) → sp p.1 vs H Q E →
      ∃ t, PSs (L2H.cxH CX0 P w K mg base N qual (defScope st) f cdv A outer s H E p) (defBody st) t ∧ t { nx := fun _ H' => Q .non H', rt := Q } (L2.start N vs) H) : FnE P w K mg base (k + 1) f fd ps D sp := by
  obtain ⟨oc, od, kV, doc, pm, an, cdv, ct, osl, rfl, lk, hcd⟩ := F.ex
  refine ⟨len, fun A outer s H args us vs Q E p hr hot hz hpin e0 hb r hsp => ?_⟩
  have hl := len _ _ _ _ _ hsp; have KX : K.In s.heap := e0.mod.kin.keeps fun b o e => (e0.bs b o e).1
  have lim : s.heap.NoLimit := e0.mod.nolimit.keeps fun b o e => (e0.bs b o e).1; have bb := hb
  have hkind : ∀ y ∈ ps.zip us, (defScope st).names.lookup y.1 = some .local ∨ ((defScope st).names.lookup y.1 = some .cell ∧ ((cellsFrom (s.heap.objs.size + 1) (defScope st).names []).lookup y.1).isSome = true) := fun ⟨n, v⟩ hy =>
    (S.par n (List.of_mem_zip hy).1).elim .inl fun q => .inr ⟨q, PySem.W.cellsFrom_some _ _ _ (.inl q)⟩
  refine codeAny_call_function hr.depth (KX _ _ lk) rfl S.co S.gen rfl (PySem.W.codeRec_of KX hcd) (bb _ _ _ _ (wpAny_newFunctionEnv_cells S.kind hkind fun env he s1 x => ?_))
  subst he; refine ⟨lim.keeps x.toInCall.keep, codeAny_func ?_⟩
  obtain ⟨t, ht, hq⟩ := hbody cdv A outer s H vs Q E p hot hz (hr.deeper _) hsp
  have I := L2H.inv_startH (CX := CX0) (E := E) S hpin e0 hl r x
  refine wpAny_mono (ht.run [] s1 (L2.start N vs) H _ I hq) (fun fl s' hs => ?_) fun _ _ hs => hs
  cases fl with
  | ret u => exact hs.elim fun v ⟨σ', H', J, rv, q⟩ => ⟨v, H', J.os, J.bare, J.base, J.hok, rv, q⟩
  | next => exact hs.elim fun σ' ⟨H', J, q⟩ => ⟨V.non, H', J.os, J.bare, J.base, J.hok, rfl, q⟩
  | brk => exact hs.elim fun _ ⟨_, _, q⟩ => q.elim
  | cont => exact hs.elim fun _ ⟨_, _, q⟩ => q.elim
end
section
variable {X : Cx} {k : Nat} {f D : Addr} {fd : FuncData} {ps : List Str} {sp : Addr → Sp} {x : Str} {q pos : Pos} {e : Expr} {es : List Expr} {t : TA}
/-- f(e, ..), f a def for the error at a -/
def tCallE (sp : Addr → Sp) (a : Addr) (t : TA) : TE := fun σ H Q => t σ H fun vs H1 => sp a vs H1 Q E0
theorem pe_callE (F : FnE X.prog X.w X.K X.mg X.base k f fd ps D sp) (hr : L2H.RoomH k X.A) {p : Addr × Obj} (hot : L2H.Hot1 X.A p) (hz : Zc (.ref D) none p.2) (hp : p ∈ X.pn) (hg : Gl X x) (hm : X.mg x = some (.ref f)) (hk : PySem.W.keepIn X.K (.ref f) = true) (hb : Binds X.K fd ps [])
    (ha : PA X (e :: es) t) (hdb : (x == ("__debug__" : Str)) = false := by decide) (he : starEach (e :: es) X.env = (false, eval e X.env) :: starEach es X.env := by rfl) (hpl : (backTo pos (starEach es X.env)).any (·.1) = false := by rfl) :
    PE X (.Call (.Name x q) (e :: es) [] pos) (tCallE sp p.1 t) := by
  refine ⟨fun pins s σ H Q I h => wpAny_Call_Name_kw (ld_glob I hg hm ?_ hdb)⟩
  refine PySem.W.callWith_K (h₀ := X.base) I.ok.mod.kin hk (thn (ha.run pos pins s σ H _ I h) fun us s1 ⟨vs, H1, I1, r, q⟩ => ⟨I1.kIn, ?_⟩) he hpl
  have hl : us.length = ps.length := by rw [← r.length]; exact F.len _ _ _ _ _ q
  have b := hb s1 us I1.kIn (by rw [List.append_nil]; exact hl)
  rw [List.append_nil] at b
  have P1 := I1.pin p (List.mem_append_left _ hp)
  have hpin : L2H.PinOk X.stack H1 s1 p := ⟨P1.1, P1.2.1, fun hm' => (List.mem_cons.mp (I1.stkSub p.1 hm')).elim P1.2.2.1 P1.2.2.2.1, P1.2.2.2.2⟩
  refine wpAny_call (codeAny_mono (F.run X.A X.stack s1 H1 ⟨us, []⟩ us vs Q E0 p hr hot hz hpin I1.env0 b r q) fun r' s' hq => ?_)
  cases r' with
  | error e => exact False.elim hq
  | ok fl =>
    cases fl with
    | ret u => exact I1.after hq
    | _ => exact False.elim hq
/-- isinstance of the error that is handled, in whatever def it is asked -/
theorem call_isP {a D : Addr} {oe : Obj} (C : ExcC X.K D) (hz : Zc (.ref D) none oe) (hf : ∃ vs, oe.data = .fields vs) (hp : (a, oe) ∈ X.pn) : CallR X (.builtin "isinstance") (rIsE X.K D a) := by
  rintro pins s σ H xs us Q I r ⟨c, cv, b, rfl, hcv, e, q⟩
  obtain ⟨vs, hv⟩ := hf
  cases r with
  | cons rx rr =>
    cases rr with
    | cons rt rr =>
      cases rr; cases rx
      have ec := hcv _ rt
      subst ec
      have hget := (I.pin (a, oe) (List.mem_append_left _ hp)).1
      have J : PySem.W.InstAt s.heap a oe D none := by
        obtain ⟨oc, od, oda, osl⟩ := oe
        obtain ⟨h1, h2⟩ := hz
        subst hv
        cases h1
        cases h2
        exact ⟨hget, rfl, rfl, trivial⟩
      exact PySem.W.kia_one (PySem.W.handS_kitx_exc C.hg C.hk C.hs C.hd C.ha C.hn C.ht C.hm) I.kIn J e (fun z => nomatch z) fun tk => ⟨.bl b, H, I.kept (t' := tk) fun _ _ z => z, rfl, q⟩
end
/-! ### defs that raise: the error's context is told to be None -/
section
variable {P : Program} {w : World} {K : PySem.W.Frag} {mg : Str → Option Value} {base : Heap}
theorem _root_.L2.Fun.okN {x qual : Str} {st : Stmt} {f : Addr} {fd : FuncData} {N ps : List Str} {k : Nat} {sp : Sp} (F : Fun K x qual st f fd) (S : FnScope N ps (defScope st)) (len : ∀ vs H Q E, sp vs H Q E → vs.length = ps.length)
    (hbody : ∀ (cdv : Value) (A : Around) (outer : List Env) (s : Shared) (H : Hp) (vs : List V) (Q : VK) (E : XK), Room k (A.deeper (envOfC qual (defScope st) s.heap.objs.size f cdv)) → sp vs H Q E →
      ∃ t, PSs (cxOf (L2N.CX P w) P w K mg base N qual (defScope st) f cdv A outer s H E) (defBody st) t ∧ t { nx := fun _ H' => Q .non H', rt := Q } (L2.start N vs) H) : FnOk P w K mg base (L2N.CX P w) (k + 1) f fd ps sp := by
  obtain ⟨oc, od, kV, doc, pm, an, cdv, ct, osl, rfl, lk, hcd⟩ := F.ex
  exact fn_of lk hcd S len fun A outer s H vs Q E hr hsp => hbody cdv A outer s H vs Q E hr hsp
theorem takes0N {X : Cx} : L2N.Takes X (fun _ _ _ _ => False) := fun _ _ x => by
  obtain ⟨_, _, _, _, _, _, _, _, _, _, _, _, _, _, _, _, z⟩ := x
  cases z
end
section
variable {X : Cx} {C : Addr} {bmB : List Value} {B newId initId : String}
/-- X(e) -/
theorem pmk_own1N {x : Str} {e : Expr} {ta : TE} {p pos : Pos} (F : ExcBaseFacts B newId initId bmB) (q : PySem.W.excIn X.K C bmB newId = true) (gC : X.mg x = some (.ref C)) (kC : PySem.W.keepIn X.K (.ref C) = true) (r : Raises X (.ref C)) (hg : Gl X x) (he : PE X e ta)
    (hs : starEach [e] X.env = (false, eval e X.env) :: starEach [] X.env := by rfl) (hdb : (x == ("__debug__" : Str)) = false := by decide) : L2N.PMk X (.Call (.Name x p) [e] [] pos) (fun σ H Q => ta σ H fun _ H1 => Q (.ref C) none H1) := by
  intro pins s σ H Q I h; refine wpAny_Call_Name_kw (ld_glob I hg gC ?_ hdb)
  refine PySem.W.callWith_K (h₀ := X.base) I.ok.mod.kin kC ?_ hs (by rfl); rw [hs]
  refine (show wpAny _ _ (spliced ((false, eval e X.env) :: backTo pos (starEach [] X.env))) _ _ s from ?_)
  refine Calls.spliced_cons (thn (he.run pins s σ H _ I h) fun u s1 ⟨v, H1, I1, r1, q1⟩ => Calls.spliced_nil ⟨I1.kIn, ?_⟩)
  refine (show wpAny _ _ (call (.ref C) [u]) _ _ _ from ?_)
  obtain ⟨bm, N, nm, qn, bs, hdct, sn, sub, ab, col, dd, k0, k1, k2, k3, k5, mN, hC, hN, hni, T⟩ := exc_obj I1.kIn q
  exact wpAny_call_exc_subT F T hC hN hni (fun h' e' hm => L2N.mk_of I1 hm r q1 (I1.hok.gone hm.new)) (by show 1 ≤ sizeLine; rw [sizeLine_eq]; omega)
end
/-! ### which class an error is of -/
theorem kit_subT {K : PySem.W.Frag} {D S : Addr} (h2 : PySem.W.isClsIn K S = true) (h3 : PySem.W.typeIn K (.ref S) = some (.type "type")) (h4 : PySem.W.subIn K (.ref D) (.ref S) = some true) : PySem.W.kitOne K (.ref D) (.ref S) = some true := by
  by_cases e : D = S
  · subst e
    exact kit_self
  · exact kit_sub e h2 h3 h4
theorem kit_blt {K : PySem.W.Frag} {D : Addr} {b : String} {r : Bool} (hm : PySem.W.kitMeta b = true) (h : PySem.W.subIn K (.ref D) (.type b) = some r) : PySem.W.kitOne K (.ref D) (.type b) = some r := by
  unfold PySem.W.kitOne
  rw [if_neg (by intro z; exact nomatch (beq_iff_eq.mp z))]
  unfold PySem.W.kitCls
  simpa [hm] using h
theorem takeB {α : Type} {l : List α} {i : Nat} {x : α} (h : l[i]? = some x) : l.take (i + 1) = l.take i ++ [x] := by
  rw [List.take_succ, h]
  rfl
/-! ### unpacking a tuple while an error is handled -/
section
variable {prog : Program} {w : World} {A : Around} {E : Value → Shared → Prop} {s : Shared}
theorem tup_end_hot {it l x1 : Addr} {i : Nat} {items} {Q : Option Value → Shared → Prop} (hot : HotX.HotAt A x1 s.heap) (hit : IsTupIter s.heap it l i) (hl : IsTup s.heap l items) (hx : items[i]? = none)
    (hQ : ∀ h', Heap.ExtBut it s.heap h' → Q none { s with heap := h' }) : wpAny (model prog w) A (pyNext (.ref it)) Q E s := by
  obtain ⟨hh, o1, vs1, h1, d1, c1⟩ := hot; obtain ⟨o, ho, hc, hd⟩ := id hit
  obtain ⟨ol, hol, _, nl, hdl⟩ := hl; unfold pyNext
  have ni : it ≠ x1 := fun z => by
    rw [← z, ho] at h1
    cases h1
    rw [hd] at d1
    cases d1
    simp at c1
  refine wpAny_bind (wpAny_attempt (wpAny_callSpecial?_slot (name := Str.ofString "__next__") hit.typeIs slot_tupleiter_next (wpAny_call_entry slot_tupleiter_next hit.typeIs entry_tupleiter_next ?_ (args_tupleiter_next _))))
  refine (show wpAny _ _ (field (.ref it) 0 >>= _) _ _ s from ?_); refine wpAny_bind (wpAny_field ho hd (x := .ref l) rfl ?_)
  refine (show wpAny _ _ (if (Value.ref l == Value.none) = true then _ else _) _ _ s from ?_); rw [if_neg (show ¬ ((Value.ref l == Value.none) = true) from Bool.false_ne_true)]
  refine (show wpAny _ _ (field (.ref it) 1 >>= _) _ _ s from ?_); refine wpAny_bind (wpAny_field ho hd (x := .int i 0) rfl ?_)
  refine (show wpAny _ _ (seqItems? (.ref l) >>= _) _ _ s from ?_); refine wpAny_bind (wpAny_seqItems hol hdl ?_)
  simp only [Int.toNat_natCast, hx]; refine wpAny_bind (wpAny_rule (wpAny_bind (wpAny_setField ho hd (by simp) ?_)))
  refine (show wpAny _ _ (newExc (.type "StopIteration") [] >>= _) _ _ _ from ?_); refine wpAny_bind ?_
  simp only [newExc, newTuple]; refine wpAny_bind (wpAny_newObj_type ?_ (by size_fits))
  refine wpAny_bind (m := firstArgMember _ _) (wpAny_of_eq (a := Value.none) (by first | rfl | (simp only [firstArgMember]; rfl)) ?_); refine wpAny_newObj_type ?_ (by size_fits)
  have g1 : ∀ f : Obj → Obj, (s.heap.update it f).get? x1 = some o1 := fun f => by rw [Heap.get?_update_other _ _ ni]; exact h1
  refine HotX.raiseNew_hot ⟨hh, o1, vs1, Heap.get?_push_of_some _ (Heap.get?_push_of_some _ (g1 _)), d1, c1⟩ (Nat.ne_of_lt (Heap.lt_size (Heap.get?_push_of_some _ (g1 _)))) (Heap.get?_push_size _ rfl) rfl (by first | (simp; done) | (simp; omega) | (simp only [Array.size_append]; simp; omega)) ?_
  refine wpAny_bind (wpAny_isInstance (T := "StopIteration") (b := true) ⟨_, Heap.get?_update_self _ (Heap.get?_push_size _ rfl) rfl, rfl⟩ isSubtype_stop ?_); refine wpAny_pure (hQ _ fun b o' nb e => ?_)
  have e2 : ∀ f oo, ((s.heap.update it f).push oo).get? b = some o' := fun f oo => (Heap.SameBut.update ..).extBut.push _ b o' nb e
  rw [Heap.get?_update_other _ _ (Nat.ne_of_gt (Heap.lt_size (e2 _ _)))]; exact Heap.get?_push_of_some _ (e2 _ _)
theorem unpack_hot {t x1 : Addr} {items : Array Value} {Q : List Value → Shared → Prop} (hot : HotX.HotAt A x1 s.heap) (ht : IsTup s.heap t items)
    (hQ : ∀ h', Heap.ExtBut s.heap.objs.size s.heap h' → Q items.toList { s with heap := h' }) : wpAny (model prog w) A (unpackItems (.ref t) items.size none) Q E s := by
  have hlt : t ≠ s.heap.objs.size := ht.elim fun o ho => Nat.ne_of_lt (Heap.lt_size ho.1)
  have hx : x1 ≠ s.heap.objs.size := hot.2.elim fun o ho => ho.elim fun _ h => Nat.ne_of_lt (Heap.lt_size h.1)
  unfold unpackItems notIterableAtAll; refine wpAny_bind (wpAny_bind (wpAny_specialOf ht.typeIs slot_tuple_iter.lookup (wpAny_pure ?_)))
  simp only [Bool.false_eq_true, if_false]; refine wpAny_bind (wpAny_holding (iter_tuple ht (wpAny_bind (wpAny_holding (draw_tuple hlt items.size 0 _ _ ⟨_, Heap.get?_push_size _ rfl, rfl, rfl⟩ (ht.push _) (by omega) fun h₁ hit₁ hs₁ => ?_)))))
  have hall : List.take items.size (List.drop 0 items.toList) = items.toList := by rw [List.drop_zero]; exact List.take_of_length_le (by simp)
  rw [hall, if_neg (by simp)]
  have ht₁ := (ht.push { cls := .type "tuple_iterator", data := .fields #[.ref t, .int 0 0] }).extBut hs₁.extBut hlt
  have hot₁ : HotX.HotAt A x1 h₁ := hot.2.elim fun o ho => ho.elim fun vv h => ⟨hot.1, o, vv, hs₁.extBut x1 o hx (Heap.get?_push_of_some _ h.1), h.2.1, h.2.2⟩
  refine wpAny_bind (wpAny_holding (tup_end_hot hot₁ hit₁ ht₁ (by simp) fun h₂ he₂ => ?_))
  simp only [Option.isSome_none, Bool.false_eq_true, if_false]; exact wpAny_pure (hQ h₂ fun b o hb e => he₂ b o hb (hs₁.extBut b o hb (Heap.get?_push_of_some _ e)))
end
/-- (a, b, ..) = a tuple, while an error is handled -/
theorem pg_tupH {X : Cx} {pos : Pos} {es : List Expr} {k : Nat} {t : TGs} {n : Nat} (hc : L2H.HotC X) (h : PGs X es t) (hn : (assignEach es X.env).length = n := by rfl) (hst : (assignEach es X.env).findIdx? (·.1) = none := by rfl) : PG X (.Tuple es k pos) (gTup X.K n t) := by
  refine ⟨fun pins s σ H v u Q I r hw => ?_⟩
  obtain ⟨a, xs, e1, hq, hl, hw⟩ := hw; subst e1; cases r
  obtain ⟨its, rv, ht, hz⟩ := I.tuple hq; obtain ⟨x1, hot⟩ := hc.at I
  rw [assign_Tuple]; refine wpAny_bind (wpAny_standAt ?_); unfold unpack
  rw [show (assignEach es X.env).length = its.toArray.size by simp [hn, ← hl, rv.length], hst]
  refine wpAny_bind (wpAny_holding (unpack_hot hot ht fun h' hx => ?_))
  have I1 : Inv X pins σ H { s with heap := h' } := I.kept (t' := s.toks) fun b o e => hx b o (Nat.ne_of_lt (Heap.lt_size e)) e
  exact h.run pins _ σ H xs _ Q I1 (by simpa using rv) hw
/-- a def that may raise, called where it does not -/
theorem passLN {X : Cx} : Passes (L2N.CX X.prog X.w) X E0 := fun _ _ _ _ _ _ _ h => by
  obtain ⟨_, _, _, _, _, _, _, _, _, _, _, _, z⟩ := h
  exact False.elim z
end Rg
namespace Rg
open PySem PySem.Spec PyProof.Rows L2
/-! ### enumerate(tuple) -/
open Sem (wp)
open AutoSeq1 (wpAny_loadPart')
theorem meets_enumerate_newT (l : Addr) (items : Array Value) (n : Nat) (dct : Option Addr) (sl : Array (Option Value)) :
    Meets (Builtin.«enumerate.__new__» ⟨[.type "enumerate", .ref l], []⟩) (fun _ R s => s.heap.get? l = some { cls := .type "tuple", dict := dct, data := .seq items n, slots := sl } ∧
      R (.ok (.ret (.ref (s.heap.push { cls := .type "tuple_iterator", data := .fields #[.ref l, .int 0 0] }).objs.size)))
        { s with heap := (s.heap.push { cls := .type "tuple_iterator", data := .fields #[.ref l, .int 0 0] }).push { cls := .type "enumerate", data := .fields #[.none, .bool false, .ref s.heap.objs.size, rawInt 0, .none, .none] } }) :=
  .of_wp fun prog w A R s h => by
    obtain ⟨hp, g, d, tk, os⟩ := s; obtain ⟨hl, h⟩ := h
    have hsub := sub_enumerate
    have hL : Heap.IsTuple (Shared.heap ⟨hp, g, d, tk, os⟩) l items := ⟨_, hl, rfl, n, rfl⟩
    wp_walk using wpAny_loadPart' hl
    refine wpAny_stack_any fun st => wpAny_pure ?_
    split
    · rename_i c _ _ _ _ _
      cases (c == Value.type "enumerate")
      · wp_walk using wpAny_loadPart' hl, wpAny_pyIter_tuple hL
        exact ⟨_, rfl, h⟩
      · wp_walk using wpAny_loadPart' hl, wpAny_pyIter_tuple hL
        exact ⟨_, rfl, h⟩
    · wp_walk using wpAny_loadPart' hl, wpAny_pyIter_tuple hL
      exact ⟨_, rfl, h⟩
section
variable {prog : Program} {w : World} {A : Around} {E : Value → Shared → Prop} {s : Shared}
theorem call_enumerate_tuple {l : Addr} {items : Array Value} {Q : Value → Shared → Prop} (hL : s.heap.IsTuple l items)
    (h : ∀ h', IsEnum h' (s.heap.objs.size + 1) s.heap.objs.size 0 .none → h'.IsTupleIter s.heap.objs.size l 0 → h'.objs.size = s.heap.objs.size + 2 →
      (∀ b o, s.heap.get? b = some o → h'.get? b = some o) → Q (.ref (s.heap.objs.size + 1)) { s with heap := h' }) :
    wpAny (model prog w) A (call (.type "enumerate") [.ref l]) Q E s := by
  obtain ⟨⟨c, dct, dt, sl⟩, hl, hc, n, hd⟩ := hL
  replace hc : c = .type "tuple" := hc
  replace hd : dt = .seq items n := hd
  subst hc hd
  refine callType_new F.called_enumerate (by decide) (F.typeCall_enumerate_1 _) (F.newCall_enumerate_1 _) (fun obj => F.args_object_init_2 obj _) F.entry_enumerate_new
    (meets_enumerate_newT l items n dct sl) ⟨hl, ?_⟩
  have hz : (s.heap.push { cls := .type "tuple_iterator", data := .fields #[.ref l, .int 0 0] }).objs.size = s.heap.objs.size + 1 := Heap.size_push ..
  show _ ∧ _
  rw [hz]
  have he : IsEnum ((s.heap.push { cls := .type "tuple_iterator", data := .fields #[.ref l, .int 0 0] }).push
      { cls := .type "enumerate", data := .fields #[.none, .bool false, .ref s.heap.objs.size, rawInt 0, .none, .none] }) (s.heap.objs.size + 1) s.heap.objs.size 0 .none := by
    have := Heap.get?_push_size (s.heap.push { cls := .type "tuple_iterator", data := .fields #[.ref l, .int 0 0] })
      (o := { cls := .type "enumerate", data := .fields #[.none, .bool false, .ref s.heap.objs.size, rawInt 0, .none, .none] }) rfl
    rw [hz] at this; exact this
  refine ⟨⟨_, he, rfl⟩, h _ he ⟨_, Heap.get?_push_of_some _ (Heap.get?_push_size _ rfl), rfl, rfl⟩ (by rw [Heap.size_push, hz]) fun b o x => Heap.get?_push_of_some _ (Heap.get?_push_of_some _ x)⟩
end
/-- the tuple at a as it stands at each turn, each item in a new pair -/
def IteT (K : PySem.W.Frag) (a : Addr) : It :=
  ⟨fun i H => ∃ (xs : List V) (x : V), SqT K H a xs ∧ xs[i]? = some x, fun i H v H' => ∃ T x, v = .ref T ∧ H T = none ∧ H' = upd H T (.tup [.int (i : Nat), x]) ∧ ∀ xs, SqT K H a xs → xs[i]? = some x, fun i H => ∃ xs : List V, SqT K H a xs ∧ xs.length ≤ i⟩
theorem turn_enumT {P : Program} {w : World} {K : PySem.W.Frag} {elts : List Expr} {kk : Nat} {tpos : Pos} (a e it : Addr) :
    Turn P w K (.Tuple elts kk tpos) (IteT K a) [e, it] e (fun i h => (∃ old, IsEnum h e it ((i : Nat) : Int) old) ∧ h.IsTupleIter it a i ∧ e ≠ it) where
  mem := by simp
  obj := fun i h st b hb => by
    obtain ⟨⟨old, he⟩, ⟨o, ho, hc, hd⟩, _⟩ := st
    have e' : b = e ∨ b = it := by simpa using hb
    rcases e' with z | z
    · rw [z]; exact ⟨_, he, fun v q => nomatch q⟩
    · rw [z]; exact ⟨o, ho, fun v q => by rw [hd] at q; cases q⟩
  keep := fun i h h' st k => let ⟨⟨old, he⟩, hi, hne⟩ := st; ⟨⟨old, k e (by simp) _ he⟩, hi.at fun o q => k it (by simp) o q, hne⟩
  item := by
    intro X hP hw hK hc i pins s σ H E I hf st hg
    subst hP hw hK
    obtain ⟨⟨old, he⟩, hit, hne⟩ := st
    obtain ⟨xs, x, hq, hx⟩ := hg
    obtain ⟨its, rv, p, hz⟩ := I.tuple hq
    obtain ⟨u, hu, ru⟩ := rv.get hx
    have hlt : i < its.toArray.size := by
      have := (List.getElem?_eq_some_iff.mp hu).1
      simpa using this
    have hel : e < s.heap.objs.size := Heap.lt_size he
    have hil : it < s.heap.objs.size := by obtain ⟨_, q, _⟩ := hit; exact Heap.lt_size q
    have hae : a ≠ e := fun z => by
      obtain ⟨o, ho, hc', _⟩ := p
      rw [z] at ho
      have := Option.some.inj (ho.symm.trans he)
      rw [this] at hc'
      have hc2 : Value.type "enumerate" = Value.type "tuple" := hc'
      exact absurd hc2 (by decide)
    have hai : a ≠ it := fun z => by
      obtain ⟨o, ho, hc', _⟩ := p
      obtain ⟨o2, ho2, hc2, _⟩ := hit
      rw [z] at ho
      have := Option.some.inj (ho.symm.trans ho2)
      rw [this, hc2] at hc'
      exact absurd hc' (by decide)
    refine wpAny_pyNext_enum_itemD (Draws.tuple (prog := X.prog) (w := X.w) (A := X.A.in1) (I.ok.hd hc) it a hai its.toArray) he ⟨hit, p⟩ hlt hne (by simp [hne, hae.symm]) fun y h' tk hy ho hit' hT hsz hk => ?_
    have ey : y = u := by
      have e1 : its.toArray[i]? = some u := by simpa using hu
      rw [e1] at hy
      exact (Option.some.inj hy).symm
    subst ey
    refine ⟨_, rfl, wpAny_letOwnedTupleGo_enum (s := { s with heap := h', toks := tk + 1 }) ho fun h'' he' sb => ?_⟩
    have hT2 : h''.get? s.heap.objs.size = some { cls := .type "tuple", data := .seq #[.int i tk, y] } := (sb.2 _ (Nat.ne_of_gt hel)).trans hT
    have new : ObjOk X.prog X.w (upd H s.heap.objs.size (.tup [.int (i : Nat), x])) h'' s.heap.objs.size (.tup [.int (i : Nat), x]) :=
      ⟨by show 2 ≤ sizeLine; decide, [.int i tk, y], .cons ⟨_, rfl⟩ (.cons ru .nil), ⟨_, hT2, rfl, _, rfl⟩⟩
    have I1 : Inv X pins σ (upd H s.heap.objs.size (.tup [.int (i : Nat), x])) { s with heap := h'', toks := tk + 1 } :=
      I.turnedNew (t' := tk + 1) (ch := [e, it]) (fun b ob hb q => (sb.2 b (fun z => hb (by simp [z]))).trans (hk b ob (fun z => hb (by simp [z])) (fun z => hb (by simp [z])) q)) hf (Nat.le_refl _) new
    refine ⟨.ref s.heap.objs.size, _, I1, rfl, ⟨_, x, rfl, I.hok.fresh (Nat.le_refl _), rfl, fun ys hy => by rw [I.tuple_inj hy hq]; exact hx⟩, ⟨⟨y, ?_⟩, hit'.1.at fun o q => (sb.2 it (Ne.symm hne)).trans q, hne⟩, fun b hb => ?_⟩
    · have e1 : ((i + 1 : Nat) : Int) = (i : Int) + 1 := by omega
      rw [e1]; exact he'
    · have hb' : b < s.heap.objs.size := by
        have e' : b = e ∨ b = it := by simpa using hb
        rcases e' with z | z
        · rw [z]; exact hel
        · rw [z]; exact hil
      rw [upd_ne (Nat.ne_of_lt hb')]
      exact (hf b hb).1
  done := by
    intro X hP hw hK hc i pins s σ H E I hf st hg
    subst hP hw hK
    obtain ⟨⟨old, he⟩, hit, hne⟩ := st
    obtain ⟨xs, hq, hx⟩ := hg
    obtain ⟨its, rv, p, hz⟩ := I.tuple hq
    obtain ⟨f0, f1, f2, f3, f4, f5⟩ := hf it (by simp)
    have hl := rv.length
    unfold pyNext
    have hT : s.TypeIs (.ref e) "enumerate" := ⟨_, he, rfl⟩
    refine wpAny_bind (wpAny_attempt (wpAny_callSpecial?_slot (name := Str.ofString "__next__") hT F.slot_enumerate_next
      (wpAny_call_entry F.slot_enumerate_next hT F.entry_enumerate_next ?_ (F.args_enumerate_next_1 _))))
    show wpAny _ _ (field (.ref e) 2 >>= _) _ _ _
    refine wpAny_bind (wpAny_field he rfl (x := .ref it) rfl ?_)
    refine wpAny_bind (wpAny_nextOf_tuple_end (I.ok.hd hc) hit p (by simp; omega) fun h' x he' hx' => ?_)
    obtain ⟨o, ho, hc'⟩ := hx'
    refine wpAny_bind (wpAny_isInstance (T := "StopIteration") (b := true) ⟨o, ho, hc'⟩ isSubtype_stop ?_)
    exact wpAny_pure ⟨rfl, I.turned (t' := s.toks) (fun b o hb q => he' b o hb q) f0 f1 f3 f4 f5⟩
  self := fun A i s Q E st h => let ⟨⟨_, he⟩, _⟩ := st; wpAny_pyIter_enum he h
theorem walk_enumT {K : PySem.W.Frag} {a : Addr} {xs : List V} : Walk (IteT K a) xs.length (fun H => SqT K H a xs) (YPair (fun i => some (.int (i : Nat))) (fun i => xs[i]?)) := by
  refine ⟨fun i _ hi q => ⟨xs, xs[i], q, by simp [hi]⟩, fun _ q => ⟨xs, q, Nat.le_refl _⟩, fun i H v H' _ q y => ?_⟩
  obtain ⟨T, x, h1, h2, h3, h4⟩ := y
  exact ⟨T, .int (i : Nat), x, h1, h2, h3, rfl, h4 xs q⟩
/-- over a list or a tuple, which stays as it is -/
def iEnumA (ta : TA) : TI := fun σ H R => ta σ H fun vs H1 => ∃ a xs, vs = [.ref a] ∧ (H1 a = some (.lst xs) ∨ H1 a = some (.tup xs)) ∧ ∀ J, Walk J xs.length (fun H' => H' a = H1 a) (YPair (fun i => some (.int (i : Nat))) (fun i => xs[i]?)) → R J H1
theorem pi_enumA {X : Cx} {e : Expr} {ta : TA} {p pos tpos : Pos} {elts : List Expr} {kk : Nat} (hg : Gl X "enumerate") (hm : X.mg "enumerate" = none) (ha : PA X [e] ta) (hs : starEach [e] X.env = [(false, eval e X.env)] := by rfl) :
    PI X (.Tuple elts kk tpos) (.Call (.Name "enumerate" p) [e] [] pos) (iEnumA ta) := by
  refine ⟨fun pins s σ H R I h => ?_⟩
  refine Call_ (ld_blt I hg hm boot_enumerate (PyProof.Rows.callWith_type1 (thn (ha.run pos pins s σ H _ I h) fun us s1 ⟨vs, H1, I1, r1, q1⟩ => ?_) hs rfl))
  obtain ⟨a, xs, ex, hw, q⟩ := q1
  subst ex
  cases r1 with
  | cons r rr =>
    cases rr
    cases r
    have fp : ∀ b, b = s1.heap.objs.size + 1 ∨ b = s1.heap.objs.size → FpOk X pins H1 b := fun b e' => by
      have hle : s1.heap.objs.size ≤ b := by
        rcases e' with z | z
        · rw [z]; exact Nat.le_add_right _ _
        · rw [z]; exact Nat.le_refl _
      exact I1.fpOk hle (I1.hok.fresh hle)
    rcases hw with hw | hw
    · have hq : SqL X.K H1 a xs := .of hw
      have q := q (Ite X.K a) (walk_enum.mono (fun H' e => .of (e.trans hw)) fun _ _ _ _ _ _ y => y)
      obtain ⟨its, rv, p', hz⟩ := I1.list hq
      refine call_enumerate_list p'.isList fun h' he hit hsz hk => wpAny_pyIter_enum he ?_
      have I2 : Inv X pins σ H1 { s1 with heap := h' } := I1.kept (t' := s1.toks) hk
      refine ⟨s1.heap.objs.size + 1, [s1.heap.objs.size + 1, s1.heap.objs.size], _, _, H1, rfl, I2, turn_enum a (s1.heap.objs.size + 1) s1.heap.objs.size, ⟨⟨.none, he⟩, hit, Nat.succ_ne_self _⟩, fun b hb => fp b (by simpa using hb), q⟩
    · have hq : SqT X.K H1 a xs := .of hw
      have q := q (IteT X.K a) (walk_enumT.mono (fun H' e => .of (e.trans hw)) fun _ _ _ _ _ _ y => y)
      obtain ⟨its, rv, p', hz⟩ := I1.tuple hq
      refine call_enumerate_tuple p' fun h' he hit hsz hk => wpAny_pyIter_enum he ?_
      have I2 : Inv X pins σ H1 { s1 with heap := h' } := I1.kept (t' := s1.toks) hk
      refine ⟨s1.heap.objs.size + 1, [s1.heap.objs.size + 1, s1.heap.objs.size], _, _, H1, rfl, I2, turn_enumT a (s1.heap.objs.size + 1) s1.heap.objs.size, ⟨⟨.none, he⟩, hit, Nat.succ_ne_self _⟩, fun b hb => fp b (by simpa using hb), q⟩
end Rg
namespace Rg
open PySem PySem.Spec PyProof.Rows L2
/-! ### tuples of the written part -/
def relAllS (vs : List V) (us : List Value) : Bool := He.relAll vs us && decide (us.length ≤ 1000)
theorem relAllS_ok {vs : List V} {us : Array Value} (h : relAllS vs us.toList = true) : Vals vs us.toList := He.relAll_ok (Bool.and_eq_true_iff.mp h).1
theorem relAllS_sz {vs : List V} {us : Array Value} (h : relAllS vs us.toList = true) : us.size ≤ sizeLine := by
  have := of_decide_eq_true (Bool.and_eq_true_iff.mp h).2
  rw [Array.length_toList] at this
  have : 1000 ≤ sizeLine := by decide
  omega
/-! ### own classes: x in o, o op u, for x in o -/
section
variable {X : Cx} {k : Nat} {f C : Addr} {fd : FuncData} {sp : Sp}
/-- x in o, by the class's own __contains__ -/
def rInOwn (C : Addr) (sp : Sp) (c : Bool → Bool) : R2 := fun x y H Q => ∃ a dx fs, y = .ref a ∧ H a = some (.ins C dx fs) ∧ sp [.ref a, x] H (fun v H1 => ∃ b, v = .bl b ∧ Q (.bl (c b)) H1) E0
theorem op_inOwn (hm : Meth X.K C "__contains__" f) (F : FnOk X.prog X.w X.K X.mg X.base CX0 k f fd ["self", "name"] sp) (hr : Room k X.A) (hb : Binds X.K fd ["self", "name"] []) : OpR X (compareOp .In) (rInOwn C sp fun b => b) := by
  intro pins s σ H x y v u Q I rx ry h
  obtain ⟨a, dx, fs, rfl, e, h⟩ := h
  obtain rfl : u = Value.ref a := ry
  obtain ⟨mA, O, _, _, _, _⟩ := ins_get I.hok e
  obtain ⟨od, at_, _⟩ := O.look
  obtain ⟨m, fr⟩ := I.fr
  refine PySem.W.in_K fr I.mod.kin at_ hm.at_ hm.fn ?_
  refine wpAny_mono (run_fn (us := [.ref a, v]) (vs := [.ref a, x]) F hr hb .nil pass0 I (.cons rfl (.cons rx .nil)) h) (fun r s' hq => ?_) fun _ _ z => z
  obtain ⟨z, H1, I1, rz, b, rfl, q⟩ := hq
  obtain rfl : r = Value.bool b := rz
  exact wpAny_truthy_bool ⟨.bl b, H1, I1, rfl, q⟩
theorem op_notInOwn (hm : Meth X.K C "__contains__" f) (F : FnOk X.prog X.w X.K X.mg X.base CX0 k f fd ["self", "name"] sp) (hr : Room k X.A) (hb : Binds X.K fd ["self", "name"] []) : OpR X (compareOp .NotIn) (rInOwn C sp fun b => !b) := by
  intro pins s σ H x y v u Q I rx ry h
  obtain ⟨a, dx, fs, rfl, e, h⟩ := h
  obtain rfl : u = Value.ref a := ry
  obtain ⟨mA, O, _, _, _, _⟩ := ins_get I.hok e
  obtain ⟨od, at_, _⟩ := O.look
  obtain ⟨m, fr⟩ := I.fr
  refine PySem.W.notIn_K fr I.mod.kin at_ hm.at_ hm.fn ?_
  refine wpAny_mono (run_fn (us := [.ref a, v]) (vs := [.ref a, x]) F hr hb .nil pass0 I (.cons rfl (.cons rx .nil)) h) (fun r s' hq => ?_) fun _ _ z => z
  obtain ⟨z, H1, I1, rz, b, rfl, q⟩ := hq
  obtain rfl : r = Value.bool b := rz
  exact wpAny_truthy_bool ⟨.bl (!b), H1, I1, rfl, q⟩
/-- o op u, both of the class C, by its own method -/
def rOpOwn (C : Addr) (sp : Sp) : R2 := fun x y H Q => ∃ a dx fs b dy gs, x = .ref a ∧ y = .ref b ∧ H a = some (.ins C dx fs) ∧ H b = some (.ins C dy gs) ∧ sp [.ref a, .ref b] H (fun v H1 => Q v H1) E0
theorem op_own {op : Operator} {ps : List Str} (hs : PySem.W.selfFirst X.K C = true) (hm : Meth X.K C (PySem.dunder op.info.2) f) (F : FnOk X.prog X.w X.K X.mg X.base CX0 k f fd ps sp) (hr : Room k X.A) (hb : Binds X.K fd ps []) : OpR X (binaryOp op) (rOpOwn C sp) := by
  intro pins s σ H x y v u Q I rx ry h
  obtain ⟨a, dx, fs, b, dy, gs, rfl, rfl, e, e', h⟩ := h
  obtain rfl : v = Value.ref a := rx
  obtain rfl : u = Value.ref b := ry
  obtain ⟨mA, O, _, _, _, _⟩ := ins_get I.hok e
  obtain ⟨od, at_, _⟩ := O.look
  obtain ⟨mB, O', _, _, _, _⟩ := ins_get I.hok e'
  obtain ⟨od', at', _⟩ := O'.look
  obtain ⟨m, fr⟩ := I.fr
  refine PySem.W.binop_K fr I.mod.kin at_ at'.type hs hm.at_ hm.fn ?_
  refine wpAny_mono (run_fn (us := [.ref a, .ref b]) (vs := [.ref a, .ref b]) F hr hb .nil pass0 I (.cons rfl (.cons rfl .nil)) h) (fun r s' hq => ?_) fun _ _ z => z
  obtain ⟨z, H1, I1, rz, q⟩ := hq
  cases z with
  | non => cases rz; exact ⟨.non, H1, I1, rfl, q⟩
  | bl b => cases rz; exact ⟨.bl b, H1, I1, rfl, q⟩
  | int i => obtain ⟨t, rfl⟩ := rz; exact ⟨.int i, H1, I1, ⟨t, rfl⟩, q⟩
  | str i => obtain ⟨t, rfl⟩ := rz; exact ⟨.str i, H1, I1, ⟨t, rfl⟩, q⟩
  | byt i => obtain ⟨t, rfl⟩ := rz; exact ⟨.byt i, H1, I1, ⟨t, rfl⟩, q⟩
  | flt i => obtain ⟨t, rfl⟩ := rz; exact ⟨.flt i, H1, I1, ⟨t, rfl⟩, q⟩
  | ref i => cases rz; exact ⟨.ref i, H1, I1, rfl, q⟩
  | ty i => cases rz; exact ⟨.ty i, H1, I1, rfl, q⟩
end
/-! ### iter(t), t a tuple; walks by an own __iter__ that hands it back -/
abbrev itT (l : Addr) : Obj := { cls := .type "tuple_iterator", data := .fields #[.ref l, .int 0 0] }
def ItTO (l it : Addr) : HO := .ext fun h => h.get? it = some (itT l)
theorem itTO_ok {P : Program} {w : World} {H : Hp} {h : Heap} {l it : Addr} (e : h.get? it = some (itT l)) : ObjOk P w H h it (ItTO l it) := ⟨e, ⟨_, e⟩, fun h1 h2 q k => k _ q⟩
theorem call_iter_tup {prog : Program} {w : World} {A : Around} {E : Value → Shared → Prop} {s : Shared} {l : Addr} {items : Array Value} {Q : Value → Shared → Prop} (hl : s.heap.IsTuple l items) (h : Q (.ref s.heap.objs.size) { s with heap := s.heap.push (itT l) }) : wpAny (model prog w) A (call (.builtin "iter") [.ref l]) Q E s := by
  refine Calls.call_function_entry (by decide +kernel) (by decide +kernel) PySem.W.kdk_entry_iter (PySem.W.kdk_args_iter _) ?_
  unfold Builtin.«iter»
  refine wpAny_bind (m := PySem.someArgs "iter" 1 2 _) (wpAny_of_eq (a := [Value.ref l]) (by first | rfl | kernel_rfl!) ?_)
  show wpAny _ _ (pyIter (.ref l) >>= _) _ _ _
  refine wpAny_bind (wpAny_pyIter_tuple hl ?_)
  exact wpAny_pure ⟨_, rfl, h⟩
def rIterT (K : PySem.W.Frag) (n : Nat) : List V → Hp → VK → Prop := fun xs H Q => ∃ (l : Addr) (zs : List V), xs = [.ref l] ∧ SqT K H l zs ∧ ∀ it, H it = none → n ≤ it → Q (.ref it) (upd H it (ItTO l it))
theorem call_iterT {X : Cx} : CallR X (.builtin "iter") (rIterT X.K X.s_0.heap.objs.size) := by
  intro pins s σ H xs us Q I r h
  obtain ⟨l, zs, rfl, hq, q⟩ := h
  obtain ⟨u, rfl, ru⟩ := vals1 r
  cases ru
  obtain ⟨its, rv, pl, hz⟩ := I.tuple hq
  refine call_iter_tup (show s.heap.IsTuple l its.toArray from pl) ?_
  exact ⟨.ref s.heap.objs.size, _, I.laid (t' := s.toks) (fun b u e => Heap.get?_push_of_some _ e) (Nat.le_refl _) (itTO_ok (Heap.get?_push_size _ rfl)), rfl, q _ (I.hok.fresh (Nat.le_refl _)) I.sz⟩
/-- a def whose promise knows how many objects there are at its entry -/
structure FnS (P : Program) (w : World) (K : PySem.W.Frag) (mg : Str → Option Value) (base : Heap) (k : Nat) (f : Addr) (fd : FuncData) (ps : List Str) (sp : Nat → Sp) : Prop where
  run : ∀ (A : Around) (outer : List Env) (s : Shared) (H : Hp) (args : Args) (us : List Value) (vs : List V) (Q : VK), Room k A → Env0 P w K mg base A outer s H → BindsTo s fd args (ps.zip us) → Vals vs us → sp s.heap.objs.size vs H Q E0 →
    codeAny (model P w) A (.call (.ref f) args) (CR CX0 outer P w H s Q E0) s
theorem _root_.L2.Fun.okS {P : Program} {w : World} {K : PySem.W.Frag} {mg : Str → Option Value} {base : Heap} {x qual : Str} {st : Stmt} {f : Addr} {fd : FuncData} {N ps : List Str} {k : Nat} {sp : Nat → Sp} (F : Fun K x qual st f fd) (S : FnScope N ps (defScope st)) (len : ∀ n vs H Q E, sp n vs H Q E → vs.length = ps.length)
    (hbody : ∀ (cdv : Value) (A : Around) (outer : List Env) (s : Shared) (H : Hp) (vs : List V) (Q : VK), Room k (A.deeper (envOfC qual (defScope st) s.heap.objs.size f cdv)) → sp s.heap.objs.size vs H Q E0 →
      ∃ t, PSs (cxOf CX0 P w K mg base N qual (defScope st) f cdv A outer s H E0) (defBody st) t ∧ t { nx := fun _ H' => Q .non H', rt := Q } (L2.start N vs) H) : FnS P w K mg base (k + 1) f fd ps sp := by
  obtain ⟨oc, od, kV, doc, pm, an, cdv, ct, osl, rfl, lk, hcd⟩ := F.ex
  exact ⟨fun A outer s H args us vs Q hr e0 hb r hsp => LamX.run_ofS lk hcd S hr e0 hb r (len _ _ _ _ _ hsp) fun hr' => hbody _ A outer s H vs Q hr' hsp⟩
/-- o walked: o's class at C has an own __iter__ that keeps sp and hands back a tuple's iterator -/
def iOwnT (K : PySem.W.Frag) (C : Addr) (sp : Nat → Sp) (te : TE) : TI := fun σ H R => te σ H fun x H1 => ∃ a dx fs, x = .ref a ∧ H1 a = some (.ins C dx fs) ∧
  ∀ n, sp n [.ref a] H1 (fun v H2 => ∃ it l xs, v = .ref it ∧ n ≤ it ∧ H2 it = some (ItTO l it) ∧ SqT K (ItX.dropH H2 it) l xs ∧ R (Itt K l) (ItX.dropH H2 it)) E0
theorem pi_ownT {X : Cx} {k : Nat} {f C : Addr} {fd : FuncData} {sp : Nat → Sp} {e tg : Expr} {te : TE} (hm : Meth X.K C "__iter__" f) (F : FnS X.prog X.w X.K X.mg X.base k f fd ["self"] sp) (hr : Room k X.A) (hb : Binds X.K fd ["self"] []) (he : PE X e te) : PI X tg e (iOwnT X.K C sp te) := by
  refine ⟨fun pins s σ H R I h => thn (he.run pins s σ H _ I h) fun v s1 ⟨x, H1, I1, r1, a, dx, fs, ex, ea, h⟩ => ?_⟩
  subst ex
  obtain rfl : v = Value.ref a := r1
  obtain ⟨mA, O, _, _, _, _⟩ := ins_get I1.hok ea
  obtain ⟨od, at_, _⟩ := O.look
  obtain ⟨m, fr⟩ := I1.fr
  refine PySem.W.owit_iter fr I1.mod.kin at_ hm.at_ hm.fn ?_
  refine wpAny_call (codeAny_mono (F.run X.A X.stack s1 H1 ⟨[.ref a], []⟩ [.ref a] [.ref a] _ hr I1.env0 (hb s1 [.ref a] I1.kIn rfl) (.cons rfl .nil) (h _)) fun r s2 hq => ?_)
  cases r with
  | error e => exact hq.elim
  | ok fl =>
    cases fl with
    | ret u =>
      obtain ⟨z, H2, os, bare, un, hok, rz, it, l, xs, rfl, young, hit, hl, hR⟩ := hq
      obtain rfl : u = Value.ref it := rz
      obtain ⟨hh, g, d, t, os'⟩ := s2
      obtain rfl : os' = s1.os := os
      have I2 : Inv X pins σ H2 ⟨hh, g, d, t, s1.os⟩ := I1.call (h' := hh) (g' := g) (d' := d) (t' := t) (ch := []) un hok bare (fun b z => absurd z (by simp))
      have I3 := ItX.inv_drop I2 hit
      have at3 : hh.get? it = some (itT l) := (I2.hok it _ hit).1
      unfold PySem.W.OwitIt
      have hst : hh.IsTupleIter it l 0 := ⟨_, at3, rfl, rfl⟩
      refine wpAny_specialOf (name := Str.ofString "__next__") (T := "tuple_iterator") (Heap.IsTupleIter.typeIs (s := ⟨hh, g, d, t, s1.os⟩) hst) PySem.F.slot_tuple_iterator_next.lookup ?_
      refine ⟨it, [it], _, Itt X.K l, _, rfl, I3, turn_tuple l it, hst, fun b hb => ?_, hR⟩
      have e : b = it := by simpa using hb
      subst e
      exact ItX.inv_fp I2 hit (Nat.le_trans I1.sz young)
    | next => exact False.elim hq
    | brk => exact False.elim hq
    | cont => exact False.elim hq
/-! ### a walk over a list or a tuple -/
def iSeq (K : PySem.W.Frag) (tl : TE) : TI := fun σ H R => tl σ H fun x H1 => ∃ a, x = .ref a ∧ (((∃ xs, SqL K H1 a xs) ∧ R (Itl K a) H1) ∨ ((∃ xs, SqT K H1 a xs) ∧ R (Itt K a) H1))
theorem pi_seq {X : Cx} {tg l : Expr} {tl : TE} (hl : PE X l tl) : PI X tg l (iSeq X.K tl) := by
  refine ⟨fun pins s σ H R I h => ?_⟩
  refine thn (hl.run pins s σ H _ I h) fun v s1 ⟨x, H1, I1, r1, q1⟩ => ?_
  obtain ⟨a, e, q⟩ := q1
  subst e
  cases r1
  rcases q with ⟨⟨xs, hq⟩, q⟩ | ⟨⟨xs, hq⟩, q⟩
  · obtain ⟨its, rv, p, hz⟩ := I1.list hq
    refine wpAny_pyIter_list p.isList ?_
    refine ⟨s1.heap.objs.size, [s1.heap.objs.size], _, _, H1, rfl, I1.kept (t' := s1.toks) fun b o e => Heap.get?_push_of_some _ e, turn_list a _, ⟨_, Heap.get?_push_size _ rfl, rfl, rfl⟩, fun b hb => ?_, q⟩
    have e : b = s1.heap.objs.size := by simpa using hb
    subst e
    exact I1.fpOk (Nat.le_refl _) (I1.hok.fresh (Nat.le_refl _))
  · obtain ⟨its, rv, p, hz⟩ := I1.tuple hq
    refine wpAny_pyIter_tuple (show s1.heap.IsTuple a its.toArray from p) ?_
    refine ⟨s1.heap.objs.size, [s1.heap.objs.size], _, _, H1, rfl, I1.kept (t' := s1.toks) fun b o e => Heap.get?_push_of_some _ e, turn_tuple a _, ⟨_, Heap.get?_push_size _ rfl, rfl, rfl⟩, fun b hb => ?_, q⟩
    have e : b = s1.heap.objs.size := by simpa using hb
    subst e
    exact I1.fpOk (Nat.le_refl _) (I1.hok.fresh (Nat.le_refl _))
/-! ### enumerate of a tuple that may be written -/
def iEnumT (K : PySem.W.Frag) (ta : TA) : TI := fun σ H R => ta σ H fun vs H1 => ∃ a xs, vs = [.ref a] ∧ SqT K H1 a xs ∧ R (IteT K a) H1
theorem pi_enumT {X : Cx} {e : Expr} {ta : TA} {p pos tpos : Pos} {elts : List Expr} {kk : Nat} (hg : Gl X "enumerate") (hm : X.mg "enumerate" = none) (ha : PA X [e] ta) (hs : starEach [e] X.env = [(false, eval e X.env)] := by rfl) :
    PI X (.Tuple elts kk tpos) (.Call (.Name "enumerate" p) [e] [] pos) (iEnumT X.K ta) := by
  refine ⟨fun pins s σ H R I h => ?_⟩
  refine Call_ (ld_blt I hg hm boot_enumerate (PyProof.Rows.callWith_type1 (thn (ha.run pos pins s σ H _ I h) fun us s1 ⟨vs, H1, I1, r1, q1⟩ => ?_) hs rfl))
  obtain ⟨a, xs, ex, hq, q⟩ := q1
  subst ex
  cases r1 with
  | cons r rr =>
    cases rr
    cases r
    have fp : ∀ b, b = s1.heap.objs.size + 1 ∨ b = s1.heap.objs.size → FpOk X pins H1 b := fun b e' => by
      have hle : s1.heap.objs.size ≤ b := by
        rcases e' with z | z
        · rw [z]; exact Nat.le_add_right _ _
        · rw [z]; exact Nat.le_refl _
      exact I1.fpOk hle (I1.hok.fresh hle)
    obtain ⟨its, rv, p', hz⟩ := I1.tuple hq
    refine call_enumerate_tuple p' fun h' he hit hsz hk => wpAny_pyIter_enum he ?_
    have I2 : Inv X pins σ H1 { s1 with heap := h' } := I1.kept (t' := s1.toks) hk
    refine ⟨s1.heap.objs.size + 1, [s1.heap.objs.size + 1, s1.heap.objs.size], _, _, H1, rfl, I2, turn_enumT a (s1.heap.objs.size + 1) s1.heap.objs.size, ⟨⟨.none, he⟩, hit, Nat.succ_ne_self _⟩, fun b hb => fp b (by simpa using hb), q⟩
/-! ### an object made, a static method called, where the body may raise -/
section
variable {X : Cx} {CX : CXT} {k : Nat} {f C g : Addr} {mc : Value} {fd : FuncData} {ps : List Str} {sp : Sp} {E : L2.St → XK} {x m : Str} {p pos apos : Pos} {e : Expr} {es : List Expr} {t : TA} {pl : Sem Bool}
theorem run_makeS {pins : List (Addr × Obj)} {σ : L2.St} {H : Hp} {s : Shared} {Q : VK} {us : List Value} {vs : List V} (M : Mk X.K C f) (F : FnOk X.prog X.w X.K X.mg X.base CX k f fd ps sp) (hr : Room (k + 1) X.A) (hb : Binds X.K fd ps []) (hx : PassesAt CX X σ (E σ)) (I : Inv X pins σ H s) (r : Vals vs us)
    (h : ∀ x dx, H x = none → H dx = none → dx ≠ x → sp (.ref x :: vs) (upd (upd H dx (.own x)) x (.ins C dx [])) (fun v H2 => v = .non ∧ Q (.ref x) H2) (E σ)) :
    wpAny (model X.prog X.w) X.A (call (.ref C) us) (EP X pins σ Q) X.xe s := by
  have hq := h (s.heap.objs.size + 1) s.heap.objs.size (I.hok.fresh (Nat.le_succ _)) (I.hok.fresh (Nat.le_refl _)) (Nat.ne_of_lt (Nat.lt_succ_self _))
  have I2 := Inv.made (C := C) I
  have r2 : Vals (V.ref (s.heap.objs.size + 1) :: vs) (Value.ref (s.heap.objs.size + 1) :: us) := .cons rfl r
  have hl : (Value.ref (s.heap.objs.size + 1) :: us).length = ps.length := by
    have e := r2.length
    rw [F.len _ _ _ _ hq] at e
    exact e.symm
  have b := hb _ (Value.ref (s.heap.objs.size + 1) :: us) I2.kIn (by rw [List.append_nil]; exact hl)
  rw [List.append_nil] at b
  refine wpAny_call (make_map (f := f) I.kIn M.makes M.init (beq_iff_eq.mp M.fn) (codeAny_mono (F.run _ X.stack _ _ ⟨Value.ref (s.heap.objs.size + 1) :: us, []⟩ (Value.ref (s.heap.objs.size + 1) :: us) _ _ (E σ) (hr.make C us [])
    (I2.env0.make C us []) b r2 hq) fun r s' hq' => ?_))
  cases r with
  | error e => exact hx pins _ _ e s' I2 hq'
  | ok fl =>
    cases fl with
    | ret u =>
      obtain ⟨v, H', I3, rv, ev, q3⟩ := I2.after hq'
      subst ev
      exact ⟨rv, ⟨V.ref (s.heap.objs.size + 1), H', I3, rfl, q3⟩⟩
    | next => exact False.elim hq'
    | brk => exact False.elim hq'
    | cont => exact False.elim hq'
def tMakeS (C : Addr) (sp : Sp) (E : L2.St → XK) (t : TA) : TE := fun σ H Q => t σ H fun vs H1 => ∀ x dx, H1 x = none → H1 dx = none → dx ≠ x → sp (.ref x :: vs) (upd (upd H1 dx (.own x)) x (.ins C dx [])) (fun v H2 => v = .non ∧ Q (.ref x) H2) (E σ)
theorem pe_makeS (M : Mk X.K C f) (F : FnOk X.prog X.w X.K X.mg X.base CX k f fd ps sp) (hr : Room (k + 1) X.A) (hg : Gl X x) (hm : X.mg x = some (.ref C)) (hb : Binds X.K fd ps []) (hx : ∀ σ, PassesAt CX X σ (E σ))
    (ha : PA X (e :: es) t) (hdb : (x == ("__debug__" : Str)) = false := by decide) (he : starEach (e :: es) X.env = (false, eval e X.env) :: starEach es X.env := by rfl) (hpl : (backTo pos (starEach es X.env)).any (·.1) = false := by rfl) :
    PE X (.Call (.Name x p) (e :: es) [] pos) (tMakeS C sp E t) := by
  refine ⟨fun pins s σ H Q I h => ?_⟩
  refine wpAny_Call_Name_kw (ld_glob I hg hm ?_ hdb)
  refine PySem.W.callWith_K (h₀ := X.base) I.ok.mod.kin M.kp (thn (ha.run pos pins s σ H _ I h) fun us s1 ⟨vs, H1, I1, r, q⟩ => ⟨I1.kIn, ?_⟩) he hpl
  exact run_makeS M F hr hb (hx σ) I1 r q
def tSMethS (sp : Sp) (E : L2.St → XK) (t : TA) : TE := fun σ H Q => t σ H fun vs H2 => sp vs H2 Q (E σ)
theorem pe_smethS (hmx : X.mg x = some (.ref C)) (r : ClX.CRead X.K C mc) (c : SMet X.K C mc m g) (F : FnOk X.prog X.w X.K X.mg X.base CX k g fd ps sp) (hr : Room k X.A) (hb : Binds X.K fd ps []) (hx : ∀ σ, PassesAt CX X σ (E σ)) (ha : PA X (e :: es) t) (hg : Gl X x := by rfl) (hdb : (x == ("__debug__" : Str)) = false := by decide)
    (hst : starEach (e :: es) X.env = (false, eval e X.env) :: starEach es X.env := by rfl) (hpl : (backTo pos (starEach es X.env)).any (·.1) = false := by rfl)
    (ht : eval (.Call (.Attribute (.Name x p) m apos) (e :: es) [] pos) X.env = (do
      let ov ← eval (.Name x p) X.env
      standAt apos.atName
      let (f, first) ← holding [ov] (getMethod ov m pl)
      callWith pos f first (backTo pos (starEach (e :: es) X.env)) (backToKw pos (keywordEach [] X.env))) := by rfl) :
    PE X (.Call (.Attribute (.Name x p) m apos) (e :: es) [] pos) (tSMethS sp E t) := by
  obtain ⟨q, at_, ⟨rest, hp⟩, hk⟩ := c.ex
  refine ⟨fun pins s σ H Q I h => ?_⟩
  refine PySem.W.methodCall_KW (pl := pl) (ld_glob I hg hmx ?_ hdb) ht
  refine PySem.W.method_cls I.kIn r.ga (PySem.W.cls_bind I.kIn r.rd at_ ?_)
  refine wpAny_call (PySem.W.sm_get (s := { s with toks := s.toks + 1 }) I.kIn hp (PySem.W.handed_on rfl ?_))
  refine PySem.W.callWith_K (f := .ref g) (first := []) (h₀ := X.base) I.ok.mod.kin hk (thn (ha.run pos pins _ σ H _ (I.tok _) h) fun us s1 ⟨vs, H1, I1, r1, q1⟩ => ⟨I1.kIn, ?_⟩) hst hpl
  exact run_fnS F hr hb (hx σ) I1 r1 q1
theorem pe_smeth0 (hmx : X.mg x = some (.ref C)) (r : ClX.CRead X.K C mc) (c : SMet X.K C mc m g) {E : XK} (F : FnOk X.prog X.w X.K X.mg X.base CX k g fd ps sp) (hr : Room k X.A) (hb : Binds X.K fd ps []) (hx : Passes CX X E) (hg : Gl X x := by rfl) (hdb : (x == ("__debug__" : Str)) = false := by decide)
    (ht : eval (.Call (.Attribute (.Name x p) m apos) [] [] pos) X.env = (do
      let ov ← eval (.Name x p) X.env
      standAt apos.atName
      let (f, first) ← holding [ov] (getMethod ov m pl)
      callWith pos f first (backTo pos (starEach [] X.env)) (backToKw pos (keywordEach [] X.env))) := by rfl) :
    PE X (.Call (.Attribute (.Name x p) m apos) [] [] pos) (fun σ H Q => sp [] H Q E) := by
  obtain ⟨q, at_, ⟨rest, hp⟩, hk⟩ := c.ex
  refine ⟨fun pins s σ H Q I h => ?_⟩
  refine PySem.W.methodCall_KW (pl := pl) (ld_glob I hg hmx ?_ hdb) ht
  refine PySem.W.method_cls I.kIn r.ga (PySem.W.cls_bind I.kIn r.rd at_ ?_)
  refine wpAny_call (PySem.W.sm_get (s := { s with toks := s.toks + 1 }) I.kIn hp (PySem.W.handed_on rfl ?_))
  exact PySem.W.callWith_K0 (first := []) (I.tok (s.toks + 1)).kIn hk (run_fn (us := []) (vs := []) F hr hb .nil hx (I.tok (s.toks + 1)) .nil h)
end
/-! ### isinstance(e, (c1, c2, ..)), e the exception that the suite holds -/
def rIsET (K : PySem.W.Frag) (D a : Addr) : List V → Hp → VK → Prop := fun xs H Q => ∃ (tp : Addr) (cs : List V) (us : List Value) (b : Bool), xs = [.ref a, .ref tp] ∧ H tp = some (.tup cs) ∧ Paired ClsV cs us ∧ PySem.W.kitAny K (.ref D) us = some b ∧ Q (.bl b) H
theorem call_isET {X : Cx} {a D : Addr} {oe : Obj} {pn : List (Addr × Obj)} (C : ExcC X.K D) (hz : Zc (.ref D) none oe) (hf : ∃ vs, oe.data = .fields vs) : CallR (X.suite a ((a, oe) :: pn)) (.builtin "isinstance") (rIsET X.K D a) := by
  intro pins s σ H xs us Q I r h
  obtain ⟨tp, cs, ws, b, rfl, hT, k, e, q⟩ := h
  cases r with
  | cons rx rr =>
    cases rr with
    | cons rt rr =>
      cases rr
      cases rx
      cases rt
      obtain ⟨hget, _⟩ := I.pin (a, oe) (List.mem_append.mpr (.inl List.mem_cons_self))
      obtain ⟨vs, hv⟩ := hf
      have J : PySem.W.InstAt s.heap a oe D none := by
        obtain ⟨oc, od, oda, osl⟩ := oe
        obtain ⟨h1, h2⟩ := hz
        dsimp only at h1 h2 hv
        subst h1 h2 hv
        exact ⟨hget, rfl, rfl, trivial⟩
      obtain ⟨_, its, rv, o, h1, h2, n, h3⟩ := (show ObjOk X.prog X.w H s.heap tp (.tup cs) from I.hok tp _ hT)
      have e3 := ClsV.all k rv
      subst e3
      obtain ⟨oc, od, dt, sl⟩ := o
      simp only at h2 h3
      subst h2 h3
      exact PySem.W.kia_tup (PySem.W.handS_kitx_exc C.hg C.hk C.hs C.hd C.ha C.hn C.ht C.hm) I.kIn J h1 e (fun z => nomatch z) fun tk => ⟨.bl b, H, I.kept (t' := tk) fun _ _ z => z, rfl, q⟩
end Rg
namespace Rg
open PySem PySem.Spec PyProof.Rows L2
theorem op_inK {X : Cx} {K : PySem.W.Frag} (hK : X.K = K := by rfl) : OpR X (compareOp .In) (rIn K false) := by
  subst hK
  exact op_in_seq
theorem pg_tupK {X : Cx} {K : PySem.W.Frag} {es : List Expr} {k n : Nat} {pos : Pos} {t : TGs} (hc : X.calm = true) (h : PGs X es t) (hn : (assignEach es X.env).length = n := by rfl) (hst : (assignEach es X.env).findIdx? (·.1) = none := by rfl) (hK : X.K = K := by rfl) : PG X (.Tuple es k pos) (gTup K n t) := by
  subst hK
  exact pg_tup hc h hn hst
def tTru (K : PySem.W.Frag) (ta : TE) : TT := fun σ H Q => ta σ H fun x H' => ∃ k, TruV K x H' k ∧ Q k H'
theorem pt_truthK {X : Cx} {K : PySem.W.Frag} {a : Expr} {ta : TE} (ha : PE X a ta) (he : ∀ whole, isTrue a X.env whole = (do let v ← whole; standAt a.pos; holding [v] (truthy v))) (hK : X.K = K := by rfl) : PT X a (tTru K ta) := by
  subst hK
  exact pt_truth ha he
theorem op_notInK {X : Cx} {K : PySem.W.Frag} (hK : X.K = K := by rfl) : OpR X (compareOp .NotIn) (rIn K true) := by
  subst hK
  exact op_notIn_seq
end Rg
/-! ### all, any of a generator expression whose element calls one's own defs -/
namespace GxL
open PySem PySem.Spec PyProof.Rows L2
open Sem (wp)
/-- the state is the same but for the generators' table, what was drawn, the tokens -/
def Slept (s s' : Shared) : Prop := s'.os = s.os ∧ AllBare s'.gens ∧ s'.heap = s.heap
theorem Slept.trans {a b c : Shared} (x : Slept a b) (y : Slept b c) : Slept a c := ⟨y.1.trans x.1, y.2.1, y.2.2.trans x.2.2⟩
theorem bare_set {gs : Array GenState} {g : Nat} {x : GenState} (h : AllBare gs) (hx : x.bare = true) : AllBare (gs.setIfInBounds g x) := fun y hy => by
  obtain ⟨i, hi, rfl⟩ := Array.mem_iff_getElem.mp hy
  rw [Array.getElem_setIfInBounds (by simpa using hi)]
  split
  · exact hx
  · exact h _ (Array.getElem_mem _)
theorem Slept.set {s : Shared} {g : Nat} {x : GenState} (h : AllBare s.gens) (hx : x.bare = true) : Slept s (s.setGen g x) := ⟨rfl, bare_set h hx, rfl⟩
/-- the generator's frame, entered at s: its iterator's objects at fp -/
def genCx (X : Cx) (s : Shared) (H : Hp) (cenv : Env) (fp : List Addr) : Cx where
  prog := X.prog
  w := X.w
  K := X.K
  mg := X.mg
  base := X.base
  A := X.A.in1.in1.deeper cenv
  N := X.N
  s_0 := s
  H_0 := H
  env := cenv
  outer := X.stack
  stack := cenv :: X.stack
  ex := fp
  fn := fun _ => false
  calm := true
  pn := []
  xe := fun _ _ => False
/-- the generator's frame's environment over the def's -/
abbrev gEnv (X : Cx) (scope : Scope) (C : Addr) (code : Value) : Env := genEnv scope (cloFrom X.env.cells scope.names []) C code builtinsNs X.env
section
variable {X : Cx} {pins : List (Addr × Obj)} {σ : L2.St} {H H' : Hp} {s : Shared}
theorem slept_inv (I : Inv X pins σ H s) {s' : Shared} (h : Slept s s') : Inv X pins σ H s' := by
  refine I.call' (ch := []) h.1 (Un.kept fun b u e => by rw [h.2.2]; exact e) (by rw [h.2.2]; exact I.hok) h.2.1 fun b z => absurd z (by simp)
/-- a generator's scope -/
structure GSc (scope : Scope) : Prop where
  co : scope.isCoroutine = false
  cell : ∀ y ∈ scope.names, y.2 ≠ .cell
  dot : scope.names.lookup (".0" : Str) = some NameKind.local
def gscB (scope : Scope) : Bool := !scope.isCoroutine && (scope.names.all fun y => !decide (y.2 = .cell)) && decide (scope.names.lookup (".0" : Str) = some NameKind.local)
theorem gsc_by {scope : Scope} (h : gscB scope = true) : GSc scope := by
  unfold gscB at h
  simp only [Bool.and_eq_true, Bool.not_eq_true', decide_eq_true_eq, decide_eq_false_iff_not, List.all_eq_true] at h
  exact ⟨h.1.1, fun y hy => h.1.2 y hy, h.2⟩
theorem gen_start {scope : Scope} {own : List (Str × Nat)} {fp : List Addr} {code : Value} {m : Str → Option Value} {s5 : Shared} (I : Inv X pins σ H s) (ok : BlkOk X.N X.env.scope scope own) (S : GSc scope) (hN : X.N.Nodup) (hd : X.A.handled = none)
    (hfp : ∀ b ∈ fp, FpOk X pins H b ∧ b < s.heap.objs.size) (ho : s5.os = s.os) (hb : AllBare s5.gens) (hns : s5.heap.Ns s.heap.objs.size m) (kp : ∀ b o, s.heap.get? b = some o → s5.heap.get? b = some o) :
    Inv (genCx X s H (gEnv X scope s.heap.objs.size code) fp) [] (wipe σ (own.map (·.2))) H s5 := by
  have hfree : ∀ y ∈ scope.names, y.2 = .free → ∃ c, X.env.cells.lookup y.1 = some c := fun y hy e => by
    rcases ok.free y hy e with k | k
    · exact I.ok.has _ (.inl k)
    · exact I.ok.has _ (.inr k)
  have cm : ∀ {y c}, (cloFrom X.env.cells scope.names []).lookup y = some c → X.env.cells.lookup y = some c := fun {y c} e => by
    rcases cloFrom_mem (PySem.mem_of_lookup e) with hm | ⟨h1, h2⟩
    · cases hm
    · obtain ⟨c1, hc⟩ := hfree _ h1 rfl
      have hc : X.env.cells.lookup y = some c1 := hc
      have e2 : c = c1 := by
        rw [h2, hc] <;> rfl
      rw [e2]
      exact hc
  have look : ∀ {y}, scope.names.lookup y = some .free → ∃ c, (cloFrom X.env.cells scope.names []).lookup y = some c := fun {y} hl => by
    have hy : (y, NameKind.free) ∈ scope.names := PySem.mem_of_lookup hl
    exact mem_lookup (cloFrom_has (cells := X.env.cells) (acc := []) hy)
  have okB : (genCx X s H (gEnv X scope s.heap.objs.size code) fp).Ok := by
    refine ⟨I.ok.mod, ok.kind, I.ok.glob, rfl, Nat.le_refl _, fun y z c e1 e2 => I.ok.inj y z c (cm e1) (cm e2), fun y hy => ?_, fun y c z _ => ?_, fun _ => hd, Around.frames_deeper I.ok.frames, .inr ⟨rfl, rfl⟩, fun b hb => ⟨?_, fun y c e z => ?_⟩, I.bs, Nat.le_trans I.ok.bsz I.sz,
      fun b o e hb => ?_, fun b hb z => ?_, I.stack, I.stkFree⟩
    · have hy : scope.names.lookup y = some .cell ∨ scope.names.lookup y = some .free := hy
      rcases hy with hy | hy
      · exact absurd rfl (S.cell _ (PySem.mem_of_lookup hy))
      · exact look hy
    · have z : false = true := z
      cases z
    · exact Nat.ne_of_lt (hfp b hb).2
    · exact (hfp b hb).1.2.2.2.2.1 y c (cm e) z
    · rcases (hfp b hb).1.2.2.2.1 with z | z
      · exact I.ok.noex b o e z
      · exact absurd (Nat.lt_of_lt_of_le (Heap.lt_size e) (Nat.le_trans I.ok.bsz z)) (Nat.lt_irrefl _)
    · rcases List.mem_cons.mp (I.stkSub b z) with z | z
      · exact (hfp b hb).1.2.1 z
      · exact (hfp b hb).1.2.2.1 z
  refine ⟨okB, ho, hb, Un.kept kp, ⟨m, hns, fun i y av e1 e2 e3 => ?_⟩, fun y c e => ?_, I.hok.fresh (Nat.le_refl _), fun y c e => I.freeC y c (cm e), fun p hp => absurd (show p ∈ ([] : List (Addr × Obj)) ++ [] from hp) (by simp), I.hok.kept kp, by rw [wipe_length]; exact I.len⟩
  · obtain ⟨e2, hne⟩ := wipe_some e2
    have e3 : Vis scope y := e3
    have no : ∀ k, scope.names.lookup y = some k → ¬ (k = .local ∨ k = .cell) := fun k e hh => by
      rcases ok.own _ (PySem.mem_of_lookup e) hh with e' | e'
      · obtain ⟨p, hp, hpy⟩ := List.mem_map.mp e'
        have e3 := ok.ix p hp
        have : p.1 = y := hpy
        rw [this] at e3
        exact hne (List.mem_map.mpr ⟨p, hp, nodup_ix hN e3 e1⟩)
      · exact e' (List.mem_of_getElem? e1)
    rcases e3 with k | k | k
    · exact absurd (.inl rfl) (no _ k)
    · exact absurd (.inr rfl) (no _ k)
    · obtain ⟨m, hn, hl⟩ := I.loc
      have hvis : Vis X.env.scope y := (ok.free _ (PySem.mem_of_lookup k) rfl).elim (fun k => .inr (.inl k)) (fun k => .inr (.inr k))
      obtain ⟨w', r, q⟩ := hl i y av e1 e2 hvis
      obtain ⟨c2, h2⟩ := look k
      refine ⟨w', r, .inr ⟨.inr k, c2, h2, ?_⟩⟩
      have c1 := cm h2
      rcases q with ⟨k', _⟩ | ⟨_, c3, e', z⟩
      · have k' : X.env.scope.names.lookup y = some .local := k'
        rcases ok.free _ (PySem.mem_of_lookup k) rfl with k2 | k2 <;> rw [show X.env.scope.names.lookup y = _ from k2] at k' <;> cases k'
      · rw [c1] at e'
        cases e'
        exact z.keeps kp
  · obtain ⟨w', z⟩ := I.cell y c (cm e)
    exact ⟨w', z.keeps kp⟩
end
end GxL
namespace GxL
open PySem PySem.Spec PyProof.Rows L2
open Sem (wp)
theorem over_gen {A : Around} {elt tg iter : Expr} {ifs : List Expr} {scope : Scope} {pos : Pos} {it acc : Value} {env : Env} : A.over (.compLoop (.GeneratorExp elt [⟨tg, iter, ifs, 0⟩] scope pos) 0 it acc env) [] = A.deeper env := by
  first
    | rfl
    | (obtain ⟨hd, d, fr, gs, u⟩ := A; simp [Around.over, Around.deeper, marksOver, frameCount, unitsOf, envsOf, guardsOf, pushEnvs, pushGuards, Code.envs, Code.env?, Code.isFrame, Code.guards, Code.isGuard, Code.weight, Code.frames, Code.isCreation, Code.isCaller, Code.cUnits])
theorem over_gstart {A : Around} {elt tg iter : Expr} {ifs : List Expr} {scope : Scope} {pos : Pos} {it acc : Value} {env : Env} : A.over (.compStart (.GeneratorExp elt [⟨tg, iter, ifs, 0⟩] scope pos) 0 it acc env) [] = A.deeper env := by
  first
    | rfl
    | (obtain ⟨hd, d, fr, gs, u⟩ := A; simp [Around.over, Around.deeper, marksOver, frameCount, unitsOf, envsOf, guardsOf, pushEnvs, pushGuards, Code.envs, Code.env?, Code.isFrame, Code.guards, Code.isGuard, Code.weight, Code.frames, Code.isCreation, Code.isCaller, Code.cUnits])
/-- the whole turn's reading: c: all's true, any's false; W by the turn and a measure -/
def GTurn (c : Bool) (J : It) (g : TG) (tt : TT) (te : TE) (vs : List Nat) (σ : L2.St) (Q : VK) (W : Nat → Nat → Hp → Prop) : Prop :=
  ∀ i m H, W i m H → (J.stop i H ∧ Q (.bl c) H) ∨ (J.go i H ∧ ∃ Nx : Hp → Prop, (∀ H', Nx H' → ∃ m', m' < m ∧ W (i + 1) m' H') ∧ ∀ x H', J.yld i H x H' → g x (wipe σ vs) H' fun σ2 H2 => wipe σ2 vs = wipe σ vs ∧ tt σ2 H2 fun b H3 =>
    if b = true then te σ2 H3 fun y H4 => ∃ k, y = .bl k ∧ if k = c then Nx H4 else Q (.bl (!c)) H4 else Nx H3)
/-- the generator's end, its protocol -/
def gR (G : Cx) (pn : List (Addr × Obj)) (σ : L2.St) (Q : Hp → Prop) : GenEnd := fun _ _ r s₁ => r = .ok .next ∧ ∃ H', Inv G pn σ H' s₁ ∧ Q H'
def gY (G : Cx) (pn : List (Addr × Obj)) (σ : L2.St) (c : Bool) (Q : Hp → Prop) : Protocol := fun _ _ v s₁ kap => ∃ k H', v = .bool k ∧ Inv G pn σ H' s₁ ∧ if k = c then ∀ s'', Slept s₁ s'' → kap (.send .none) s'' else Q H'
section
variable {X : Cx}
theorem thnS {α : Type} {t : Sem α} {Q Q' : α → Shared → Prop} {M : Model} {A : Around} {E : Value → Shared → Prop} {s : Shared} (h : wpAny M A t Q (fun _ _ => False) s) (hQ : ∀ a s, Q a s → Q' a s) : wpAny M A t Q' E s := wpAny_mono h hQ fun _ _ z => False.elim z
theorem gen_seg {s3 : Shared} {H3 : Hp} {cenv : Env} {fp : List Addr} {it a : Addr} {ob : Obj} {tn : Nat → Heap → Prop} {J : It} {elt tg iter : Expr} {ifs : List Expr} {scope : Scope} {pos : Pos} {g : TG} {tt : TT} {te : TE} {vs : List Nat} {σ : L2.St} {c : Bool} {Q : VK} {W : Nat → Nat → Hp → Prop}
    (T : Turn X.prog X.w X.K tg J fp it tn) (hco : cenv.scope.isCoroutine = false) (ha : ∀ b ∈ fp, a ≠ b)
    (hg : PG (genCx X s3 H3 cenv fp) tg g) (ht : PTs (genCx X s3 H3 cenv fp) ifs tt) (he : PE (genCx X s3 H3 cenv fp) elt te) (turn : GTurn c J g tt te vs σ Q W) :
    ∀ (m n i : Nat) (s₀ s : Shared) (H : Hp), m < n → Inv (genCx X s3 H3 cenv fp) [(a, ob)] (wipe σ vs) H s → tn i s.heap → (∀ b ∈ fp, H b = none) → W i m H →
      Seg (model X.prog X.w) X.A.in1.in1 (gR (genCx X s3 H3 cenv fp) [(a, ob)] (wipe σ vs) (Q (.bl c))) (gY (genCx X s3 H3 cenv fp) [(a, ob)] (wipe σ vs) c (Q (.bl (!c)))) n s₀
        (.compLoop (.GeneratorExp elt [⟨tg, iter, ifs, 0⟩] scope pos) 0 (.ref it) .none cenv)
        ((model X.prog X.w).den (.compLoop (.GeneratorExp elt [⟨tg, iter, ifs, 0⟩] scope pos) 0 (.ref it) .none cenv)) [] s := by
  intro m
  induction m using Nat.strongRecOn with
  | ind m ih =>
  intro n i s₀ s H hmn I st nf w
  have stat : ∀ {σ' : L2.St} {H' : Hp} {s' : Shared}, Inv (genCx X s3 H3 cenv fp) [(a, ob)] σ' H' s' → (∀ b ∈ fp, H' b = none) → ∀ b ∈ fp, FpOk (genCx X s3 H3 cenv fp) [(a, ob)] H' b := fun {σ' H' s'} I' hn b hb =>
    ⟨hn b hb, (I'.ok.exf b hb).1, I'.ok.exfs b hb, .inl hb, fun x c e => (I'.ok.exf b hb).2 x c e, fun p hp => by
      have hp : p ∈ ([] : List (Addr × Obj)) ++ [(a, ob)] := hp
      simp at hp
      rw [hp]
      exact ha b hb⟩
  show Seg _ _ _ _ _ s₀ _ ((compTurn (.GeneratorExp elt [⟨tg, iter, ifs, 0⟩] scope pos) 0 (.ref it) .none cenv).onRaise (leaving cenv)) [] s
  rw [compTurn_gen, Sem.onRaise_eq_wrap]
  refine seg_bind_wrap (wpAny_standAt ?_)
  rcases turn i m H w with ⟨stop, qq⟩ | ⟨go, Nx, hNx, step⟩
  · have td := T.done (genCx X s3 H3 cenv fp) rfl rfl rfl rfl i [(a, ob)] s _ H (fun _ _ => False) I (stat I nf) st stop
    refine seg_bind_wrap ?_
    rw [over_gen]
    refine thnS td fun r s6 ⟨hr, I6⟩ => ?_
    subst hr
    exact seg_end (.ok .next) ⟨rfl, H, I6, qq⟩
  · have ti := T.item (genCx X s3 H3 cenv fp) rfl rfl rfl rfl i [(a, ob)] s _ H (fun _ _ => False) I (stat I nf) st go
    refine seg_bind_wrap ?_
    rw [over_gen]
    refine thnS ti fun r s6 ⟨u, hr, h6⟩ => ?_
    subst hr
    refine seg_bind_wrap ?_
    rw [over_gen]
    refine thnS h6 fun _ s7 ⟨x, H7, I7, r7, y7, st7, n7⟩ => ?_
    have I7' := I7.pinned (stat I7 n7) (T.obj _ _ st7)
    refine seg_bind_wrap ?_
    rw [over_gen]
    refine thnS (hg.run _ s7 _ H7 x u _ I7' r7 (step x H7 y7)) fun _ s8 ⟨σ8, H8, I8, hw8, q8⟩ => ?_
    refine seg_bind_wrap ?_
    rw [over_gen]
    refine thnS (ht.run _ s8 σ8 H8 _ I8 q8) fun b s9 ⟨H9, I9, q9⟩ => ?_
    -- the turn's end
    have fin : ∀ {s' : Shared} {H' : Hp}, Inv (genCx X s3 H3 cenv fp) ([(a, ob)] ++ pinsAt fp s7.heap) σ8 H' s' → Inv (genCx X s3 H3 cenv fp) [(a, ob)] (wipe σ vs) H' s' ∧ tn (i + 1) s'.heap ∧ ∀ b ∈ fp, H' b = none := fun {s' H'} I' => by
      have pin' : ∀ b ∈ fp, ∀ o, s7.heap.get? b = some o → s'.heap.get? b = some o ∧ H' b = none := fun b hb o e =>
        let z := I'.pin (b, o) (List.mem_append_right _ (List.mem_append_right _ (mem_pinsAt hb e)))
        ⟨z.1, z.2.1⟩
      have hl : (wipe σ vs).length = σ8.length := by rw [← hw8, wipe_length]
      refine ⟨(I'.unpinned (pins := [(a, ob)])).weak hl (fun j v e => ?_), T.keep _ _ _ st7 fun b hb o e => (pin' b hb o e).1, fun b hb => ?_⟩
      · rw [← hw8] at e
        exact (wipe_some e).1
      · obtain ⟨o, e, _⟩ := T.obj _ _ st7 b hb
        exact (pin' b hb o e).2
    cases b with
    | false =>
      simp only [Bool.false_eq_true, if_false] at q9 ⊢
      obtain ⟨m', hm, w'⟩ := hNx H9 q9
      obtain ⟨J1, J2, J3⟩ := fin I9
      exact seg_again rfl (ih m' hm n (i + 1) s₀ s9 H9 (by omega) J1 J2 J3 w')
    | true =>
      simp only [if_true] at q9 ⊢
      have hy : ∀ v, yieldOut cenv v = yieldValue v := fun v => by simp only [yieldOut, hco, Bool.false_eq_true, if_false]
      simp only [hy]
      rw [Sem.bind_eq_wrap', Sem.bind_eq_wrap', Sem.wrap_wrap, Sem.wrap_wrap]
      refine seg_wrap ?_
      rw [over_gen]
      refine thnS (he.run _ s9 σ8 H9 _ I9 q9) fun z s10 ⟨yv, H10, I10, r10, k, ek, q10⟩ => ?_
      subst ek
      obtain rfl : z = Value.bool k := r10
      obtain ⟨J1, J2, J3⟩ := fin I10
      obtain ⟨n', rfl⟩ : ∃ n', n = n' + 1 := by
        cases n with
        | succ n' => exact ⟨n', rfl⟩
        | zero => exact absurd hmn (Nat.not_lt_zero _)
      refine seg_at (seg_yield rfl rfl rfl ⟨k, H10, rfl, J1, ?_⟩)
      by_cases hk : k = c
      · rw [if_pos hk] at q10 ⊢
        intro s'' hs
        obtain ⟨m', hm, w'⟩ := hNx H10 q10
        exact seg_again rfl (ih m' hm n' (i + 1) s'' s'' H10 (by omega) (slept_inv J1 hs) (by rw [hs.2.2]; exact J2) J3 w')
      · rw [if_neg hk] at q10 ⊢
        exact q10
/-- the generator's start -/
theorem gen_seg0 {s3 : Shared} {H3 : Hp} {cenv : Env} {fp : List Addr} {it a : Addr} {ob : Obj} {tn : Nat → Heap → Prop} {J : It} {elt tg iter : Expr} {ifs : List Expr} {scope : Scope} {pos : Pos} {g : TG} {tt : TT} {te : TE} {vs : List Nat} {σ : L2.St} {c : Bool} {Q : VK} {W : Nat → Nat → Hp → Prop}
    (T : Turn X.prog X.w X.K tg J fp it tn) (hco : cenv.scope.isCoroutine = false) (ha : ∀ b ∈ fp, a ≠ b)
    (hg : PG (genCx X s3 H3 cenv fp) tg g) (ht : PTs (genCx X s3 H3 cenv fp) ifs tt) (he : PE (genCx X s3 H3 cenv fp) elt te) (turn : GTurn c J g tt te vs σ Q W)
    {m n : Nat} {s₀ s : Shared} {H : Hp} (hmn : m < n) (I : Inv (genCx X s3 H3 cenv fp) [(a, ob)] (wipe σ vs) H s) (st : tn 0 s.heap) (nf : ∀ b ∈ fp, H b = none) (w : W 0 m H) :
      Seg (model X.prog X.w) X.A.in1.in1 (gR (genCx X s3 H3 cenv fp) [(a, ob)] (wipe σ vs) (Q (.bl c))) (gY (genCx X s3 H3 cenv fp) [(a, ob)] (wipe σ vs) c (Q (.bl (!c)))) n s₀
        (.compStart (.GeneratorExp elt [⟨tg, iter, ifs, 0⟩] scope pos) 0 (.ref it) .none cenv)
        ((model X.prog X.w).den (.compStart (.GeneratorExp elt [⟨tg, iter, ifs, 0⟩] scope pos) 0 (.ref it) .none cenv)) [] s := by
  have loop := gen_seg (pos := pos) (iter := iter) (scope := scope) T hco ha hg ht he turn m n 0 s₀ s H hmn I st nf w
  show Seg _ _ _ _ _ s₀ _ ((compStart (.GeneratorExp elt [⟨tg, iter, ifs, 0⟩] scope pos) 0 (.ref it) .none cenv).onRaise (leaving cenv)) [] s
  unfold compStart
  rw [Sem.onRaise_eq_wrap]
  show Seg _ _ _ _ _ s₀ _ ((ask >>= _).wrap _ _ _ _) [] s
  refine seg_bind_wrap (wpAny_askSetting ?_)
  split
  · exact seg_again rfl loop
  · first
      | exact seg_bind_wrap (wpAny_rule (seg_bind_wrap (wpAny_standAt (seg_bind_wrap (T.self _ 0 s _ _ st (seg_again rfl loop))))))
      | (refine seg_bind_wrap (wpAny_rule ?_); show Seg _ _ _ _ _ s₀ _ ((standAt iter.pos >>= _).wrap _ _ _ _) [] s; exact seg_bind_wrap (wpAny_standAt (seg_bind_wrap (T.self _ 0 s _ _ st (seg_again rfl loop)))))
/-- the generator's object: its number gi -/
structure GOb (ob : Obj) (gi : Nat) : Prop where
  cls : ob.cls = .type "generator"
  data : ∃ nm qn : Value, ob.data = .fields #[.int gi 0, nm, qn]
  slots : ob.slots = #[]
theorem GOb.at {ob : Obj} {gi : Nat} (h : GOb ob gi) {hp : Heap} {a : Addr} (e : hp.get? a = some ob) : hp.IsGen a gi := by
  obtain ⟨nm, qn, hd⟩ := h.data
  exact ⟨ob, nm, qn, e, h.cls, hd, h.slots⟩
/-- the generator at a, ready to be walked: n bounds its turns -/
def GReady (X : Cx) (G : Cx) (a : Addr) (ob : Obj) (gi : Nat) (σ : L2.St) (c : Bool) (Qs Qb : Hp → Prop) (n : Nat) (s : Shared) : Prop :=
  s.heap.NoLimit ∧ AllBare s.gens ∧ s.heap.get? a = some ob ∧ ∃ gs, s.gens[gi]? = some gs ∧ ∀ s'', Slept s s'' → gs.Goes (model X.prog X.w) X.A.in1.in1 (gR G [(a, ob)] σ Qs) (gY G [(a, ob)] σ c Qb) n (.send .none) s''
/-- a turn of the consumer -/
theorem gen_next {G : Cx} {a : Addr} {ob : Obj} {gi : Nat} {σ : L2.St} {c : Bool} {Qs Qb : Hp → Prop} {n : Nat} {s : Shared} {E : Value → Shared → Prop} {Q' : Option Value → Shared → Prop} {k : Nat} (hr : Room k X.A)
    (hob : GOb ob gi) (R : GReady X G a ob gi σ c Qs Qb n s)
    (hend : ∀ s' H', Inv G [(a, ob)] σ H' s' → Qs H' → Q' none s')
    (hgo : ∀ n' s', n = n' + 1 → GReady X G a ob gi σ c Qs Qb n' s' → Q' (some (.bool c)) s')
    (hbr : ∀ s' H', Inv G [(a, ob)] σ H' s' → Qb H' → Q' (some (.bool (!c))) s') :
    wpAny (model X.prog X.w) X.A.in1 (pyNext (.ref a)) Q' E s := by
  obtain ⟨lim, bare, hG, gs, hgs, goes⟩ := R
  have hlt : gi < s.gens.size := (Array.getElem?_eq_some_iff.mp hgs).1
  refine GenW.wpAny_gsz (n := s.gens.size) (Nat.le_refl _) ?_
  refine wpAny_pyNext_genexpQ (A := X.A.in1) (P := fun _ _ s₁ => ∃ H', Inv G [(a, ob)] σ H' s₁ ∧ Qs H') hr.hd lim (by have := hr.dp; show X.A.depth < _; omega) (hob.at hG) hgs (goes _ (Slept.set bare rfl)) (fun v s₁ gs' hb hv => ?_) (fun s₁ hp h' hk => ?_)
  · intro hsz
    obtain ⟨kk, H', rfl, I', hk⟩ := hv
    by_cases e : kk = c
    · subst e
      rw [if_pos rfl] at hk
      have sl : Slept s₁ (s₁.setGen gi gs') := Slept.set I'.bare hb
      cases n with
      | zero => exact False.elim (hk s₁ ⟨rfl, I'.bare, rfl⟩)
      | succ n' =>
        have hlt' : gi < s₁.gens.size := by
          rw [GenW.setGen_size] at hsz
          exact Nat.lt_of_lt_of_le hlt hsz
        refine hgo n' _ rfl ⟨I'.nolimit, (slept_inv I' sl).bare, (I'.pin (a, ob) (List.mem_append_right _ (by simp))).1, gs', ?_, fun s'' hs => hk s'' (sl.trans hs)⟩
        simp [Shared.setGen, hlt']
    · rw [if_neg e] at hk
      have e2 : kk = !c := by cases kk <;> cases c <;> simp_all
      rw [e2]
      exact hbr _ H' (slept_inv I' (Slept.set I'.bare hb)) hk
  · intro _
    obtain ⟨H', I', q⟩ := hp
    have I2 := slept_inv I' (Slept.set (g := gi) (x := .finished) I'.bare rfl)
    exact hend _ H' (I2.kept (t' := (s₁.setGen gi .finished).toks) hk) q
/-- all's loop, any's loop -/
theorem all_loop {G : Cx} {a : Addr} {ob : Obj} {gi : Nat} {σ : L2.St} {Qs Qb : Hp → Prop} {k : Nat} {R : Result → Shared → Prop} (hr : Room k X.A) (hob : GOb ob gi)
    (hs : ∀ s' H', Inv G [(a, ob)] σ H' s' → Qs H' → R (.ok (.ret (.bool true))) s') (hb : ∀ s' H', Inv G [(a, ob)] σ H' s' → Qb H' → R (.ok (.ret (.bool false))) s') :
    ∀ (n : Nat) (s : Shared), GReady X G a ob gi σ true Qs Qb n s → codeAny (model X.prog X.w) X.A (.builtin "all.loop" ⟨[.ref a], []⟩) R s := by
  intro n
  induction n with
  | zero =>
    intro s g
    refine codeAny_builtin F.entry_all_loop ?_
    rw [Around.under_plainId F.plain_all_loop _]
    show wpAny _ X.A.in1 (pyNext (.ref a) >>= _) _ _ s
    refine wpAny_bind (gen_next hr hob g (fun s' H' I q => ?_) (fun n' s' e => by cases e) (fun s' H' I q => ?_))
    · exact wpAny_bind (wpAny_rule (wpAny_pure (hs s' H' I q)))
    · refine wpAny_bind (wpAny_holding (wpAny_truthy_bool ?_))
      refine wpAny_bind (wpAny_letGo ?_)
      simp only [Bool.not_true, Bool.false_eq_true, if_false]
      exact wpAny_bind (wpAny_rule (wpAny_pure (hb s' H' I q)))
  | succ n ih =>
    intro s g
    refine codeAny_builtin F.entry_all_loop ?_
    rw [Around.under_plainId F.plain_all_loop _]
    show wpAny _ X.A.in1 (pyNext (.ref a) >>= _) _ _ s
    refine wpAny_bind (gen_next hr hob g (fun s' H' I q => ?_) (fun n' s' e g' => ?_) (fun s' H' I q => ?_))
    · exact wpAny_bind (wpAny_rule (wpAny_pure (hs s' H' I q)))
    · cases e
      refine wpAny_bind (wpAny_holding (wpAny_truthy_bool ?_))
      refine wpAny_bind (wpAny_letGo ?_)
      simp only [if_true]
      exact wpAny_pure ⟨plainId_quiet F.plain_all_loop _, ih s' g'⟩
    · refine wpAny_bind (wpAny_holding (wpAny_truthy_bool ?_))
      refine wpAny_bind (wpAny_letGo ?_)
      simp only [Bool.not_true, Bool.false_eq_true, if_false]
      exact wpAny_bind (wpAny_rule (wpAny_pure (hb s' H' I q)))
theorem any_loop {G : Cx} {a : Addr} {ob : Obj} {gi : Nat} {σ : L2.St} {Qs Qb : Hp → Prop} {k : Nat} {R : Result → Shared → Prop} (hr : Room k X.A) (hob : GOb ob gi)
    (hs : ∀ s' H', Inv G [(a, ob)] σ H' s' → Qs H' → R (.ok (.ret (.bool false))) s') (hb : ∀ s' H', Inv G [(a, ob)] σ H' s' → Qb H' → R (.ok (.ret (.bool true))) s') :
    ∀ (n : Nat) (s : Shared), GReady X G a ob gi σ false Qs Qb n s → codeAny (model X.prog X.w) X.A (.builtin "any.loop" ⟨[.ref a], []⟩) R s := by
  intro n
  induction n with
  | zero =>
    intro s g
    refine codeAny_builtin F.entry_any_loop ?_
    rw [Around.under_plainId F.plain_any_loop _]
    show wpAny _ X.A.in1 (pyNext (.ref a) >>= _) _ _ s
    refine wpAny_bind (gen_next hr hob g (fun s' H' I q => ?_) (fun n' s' e => by cases e) (fun s' H' I q => ?_))
    · exact wpAny_bind (wpAny_rule (wpAny_pure (hs s' H' I q)))
    · refine wpAny_bind (wpAny_holding (wpAny_truthy_bool ?_))
      refine wpAny_bind (wpAny_letGo ?_)
      simp only [Bool.not_false, if_true]
      exact wpAny_bind (wpAny_rule (wpAny_pure (hb s' H' I q)))
  | succ n ih =>
    intro s g
    refine codeAny_builtin F.entry_any_loop ?_
    rw [Around.under_plainId F.plain_any_loop _]
    show wpAny _ X.A.in1 (pyNext (.ref a) >>= _) _ _ s
    refine wpAny_bind (gen_next hr hob g (fun s' H' I q => ?_) (fun n' s' e g' => ?_) (fun s' H' I q => ?_))
    · exact wpAny_bind (wpAny_rule (wpAny_pure (hs s' H' I q)))
    · cases e
      refine wpAny_bind (wpAny_holding (wpAny_truthy_bool ?_))
      refine wpAny_bind (wpAny_letGo ?_)
      simp only [Bool.false_eq_true, if_false]
      exact wpAny_pure ⟨plainId_quiet F.plain_any_loop _, ih s' g'⟩
    · refine wpAny_bind (wpAny_holding (wpAny_truthy_bool ?_))
      refine wpAny_bind (wpAny_letGo ?_)
      simp only [Bool.not_false, if_true]
      exact wpAny_bind (wpAny_rule (wpAny_pure (hb s' H' I q)))
end
end GxL
namespace GxL
open PySem PySem.Spec PyProof.Rows L2
open Sem (wp)
/-- all(..) (c: true), any(..) (c: false) of a generator expression; the def's table at P may have grown -/
def tGx (c : Bool) (P : Addr) (wi : TI) (g : TG) (tt : TT) (te : TE) (vs : List Nat) : TE := fun σ H Q => wi σ H fun J H1 => GxR.TabG H1 P ∧ ∀ H2, GxR.Tabbed P H1 H2 → ∃ W : Nat → Nat → Hp → Prop, (∃ m, W 0 m H2) ∧ GTurn c J g tt te vs σ Q W
section
variable {X : Cx}
theorem gen_made {cc P : Addr} {c : Bool} {elt tg iter : Expr} {ifs : List Expr} {scope : Scope} {own : List (Str × Nat)} {gpos : Pos} {wi : TI} {g : TG} {tt : TT} {te : TE} {k : Nat} {pins : List (Addr × Obj)} {s : Shared} {σ : L2.St} {H : Hp} {Q : VK} {Q' : Value → Shared → Prop}
    (hr : Room (k + 3) X.A) (TB : LamX.TabB X.base X.mg cc P) (hcode : X.env.code = .ref cc) (S : GSc scope) (ok : BlkOk X.N X.env.scope scope own) (hN : X.N.Nodup) (hi : PI X tg iter wi)
    (hg : ∀ (s : Shared) (H : Hp) (C : Addr) (code : Value) (fp : List Addr), PG (genCx X s H (gEnv X scope C code) fp) tg g) (ht : ∀ (s : Shared) (H : Hp) (C : Addr) (code : Value) (fp : List Addr), Room k (genCx X s H (gEnv X scope C code) fp).A → PTs (genCx X s H (gEnv X scope C code) fp) ifs tt)
    (he : ∀ (s : Shared) (H : Hp) (C : Addr) (code : Value) (fp : List Addr), Room k (genCx X s H (gEnv X scope C code) fp).A → PE (genCx X s H (gEnv X scope C code) fp) elt te) (hs : ∀ v, genFold iter X.env v = pure v)
    (I : Inv X pins σ H s) (h : tGx c P wi g tt te (own.map (·.2)) σ H Q)
    (hQ : ∀ (G : Cx) (a : Addr) (ob : Obj) (gi n : Nat) (s5 : Shared), GOb ob gi → GReady X G a ob gi (wipe σ (own.map (·.2))) c (Q (.bl c)) (Q (.bl (!c))) n s5 → (∀ s' H', Inv G [(a, ob)] (wipe σ (own.map (·.2))) H' s' → Inv X pins σ H' s') → Q' (.ref a) s5) :
    wpAny (model X.prog X.w) X.A (eval (.GeneratorExp elt [⟨tg, iter, ifs, 0⟩] scope gpos) X.env) Q' X.xe s := by
  have hfree : ∀ y ∈ scope.names, y.2 = .free → ∃ c, X.env.cells.lookup y.1 = some c := fun y hy e => by
    rcases ok.free y hy e with k | k
    · exact I.ok.has _ (.inl k)
    · exact I.ok.has _ (.inr k)
  refine wpAny_GeneratorExp_make S.co (closure_ok hfree) S.cell S.dot ok.kind (by have := hr.dp; omega) ?_ hs
  refine thn (hi.run pins s σ H _ I h) fun xv s1 h1 => thn h1 fun itv s2 h2 => ?_
  obtain ⟨it, fp, tn, J, H2, e, I2, T, st2, f2, ⟨ps, hP, hto⟩, q⟩ := h2
  subst e
  have hPs : s2.heap.get? P = some { cls := .none, data := .fields ps } := I2.hok P _ hP
  have cd : PySem.W.CodeHd s2.heap cc P := TB.code.keeps I2.bk
  have sz : ∀ b ∈ fp, b < s2.heap.objs.size := fun b hb => by
    obtain ⟨o, e, _⟩ := T.obj _ _ st2 b hb
    exact Heap.lt_size e
  have nfP : ∀ b ∈ fp, b ≠ P := fun b hb z => by
    have z1 := (f2 b hb).1
    rw [z, hP] at z1
    cases z1
  have cont : ∀ (code : Value) (h3 : Heap) (tk : Nat) (more : Array Value), Heap.ExtBut P s2.heap h3 → s2.heap.objs.size ≤ h3.objs.size → h3.get? P = some { cls := .none, data := .fields (ps ++ more) } → TriplesOk (ps ++ more).toList →
      wpAny (model X.prog X.w) X.A (builtinsFor X.env.globals X.env.builtins) (fun bi s₄ =>
        ∀ h', h'.Ns s₄.heap.objs.size (fun y => if y = ".0" then some (.ref it) else none) → Heap.SameBut s₄.heap.objs.size (s₄.heap.push { cls := .type "frame", data := .dict #[] }) h' →
          Q' (.ref h'.objs.size) { s₄ with
            gens := s₄.gens.push (.fresh (.compStart (.GeneratorExp elt [⟨tg, iter, ifs, 0⟩] scope gpos) 0 (.ref it) .none (genEnv scope (cloFrom X.env.cells scope.names []) s₄.heap.objs.size code bi X.env))),
            toks := s₄.toks + 1 + 1 + 1,
            heap := h'.push { cls := .type "generator", data := .fields #[.int s₄.gens.size 0, .str "<genexpr>" (s₄.toks + 1), .str (X.env.qual ++ "<genexpr>") (s₄.toks + 1 + 1)] } }) X.xe { s2 with heap := h3, toks := tk } := by
    intro code h3 tk more hx hsz hP3 ht3
    have I3 : Inv X pins σ (upd H2 P (.tbl (ps ++ more))) { s2 with heap := h3, gens := s2.gens, drawn := s2.drawn, toks := tk } := GxR.inv_tab I2 hP (fun b o hb e => hx b o hb e) hP3 I2.bare
    obtain ⟨bm, ob, e1, e2, e3, e4, e5, e6, e7, e8⟩ := TB.bm
    have keep3 : ∀ b u, b ≠ P → s2.heap.get? b = some u → h3.get? b = some u := fun b u hb e => hx b u hb e
    refine wpAny_builtinsFor (m := X.mg) (by rw [I2.ok.glob]; exact (I2.mod.glob.keeps I2.bk).extBut hx TB.gP) e1 e2 (keep3 _ _ e4 (I2.bk _ _ e5)) e6 e7 e8 ?_
    intro h' hns hsb
    obtain ⟨W, ⟨m0, w0⟩, turn⟩ := q (upd H2 P (.tbl (ps ++ more))) ⟨⟨ps ++ more, upd_same, ht3⟩, fun b hb => upd_ne hb⟩
    generalize hH3 : upd H2 P (.tbl (ps ++ more)) = H3 at I3 w0
    have n3 : ∀ b ∈ fp, H3 b = none := fun b hb => by rw [← hH3, upd_ne (nfP b hb)]; exact (f2 b hb).1
    generalize hs3 : ({ s2 with heap := h3, gens := s2.gens, drawn := s2.drawn, toks := tk } : Shared) = s3 at I3
    have es3 : ({ s2 with heap := h3, toks := tk } : Shared) = s3 := by rw [← hs3]
    have eh3 : h3 = s3.heap := by rw [← hs3]
    rw [show ({ s2 with heap := h3, toks := tk } : Shared).heap = s3.heap from by rw [es3]] at hns hsb
    have f3 : ∀ b ∈ fp, FpOk X pins H3 b ∧ b < s3.heap.objs.size := fun b hb => ⟨⟨n3 b hb, (f2 b hb).2⟩, by rw [← eh3]; exact Nat.lt_of_lt_of_le (sz b hb) hsz⟩
    have szh : h'.objs.size = s3.heap.objs.size + 1 := by rw [hsb.1, Heap.size_push]
    have kp' : ∀ b o, s3.heap.get? b = some o → h'.get? b = some o := fun b o e => hsb.extBut b o (Nat.ne_of_lt (Heap.lt_size e)) (Heap.get?_push_of_some _ e)
    generalize hob : ({ cls := .type "generator", data := .fields #[.int s3.gens.size 0, .str "<genexpr>" (s3.toks + 1), .str (X.env.qual ++ "<genexpr>") (s3.toks + 1 + 1)] } : Obj) = og
    have GO : GOb og s3.gens.size := by
      rw [← hob]
      exact ⟨rfl, ⟨_, _, rfl⟩, rfl⟩
    have kp5 : ∀ b o, s3.heap.get? b = some o → (h'.push og).get? b = some o := fun b o e => Heap.get?_push_of_some _ (kp' b o e)
    have ga : (h'.push og).get? h'.objs.size = some og := Heap.get?_push_size _ (by rw [← hob]; rfl)
    refine hQ (genCx X s3 H3 (gEnv X scope s3.heap.objs.size code) fp) h'.objs.size og s3.gens.size (m0 + 1) _ GO ?_ fun s' H' I' => ?_
    · generalize hs5 : ({ s3 with
            gens := s3.gens.push (.fresh (.compStart (.GeneratorExp elt [⟨tg, iter, ifs, 0⟩] scope gpos) 0 (.ref it) .none (genEnv scope (cloFrom X.env.cells scope.names []) s3.heap.objs.size code builtinsNs X.env))),
            toks := s3.toks + 1 + 1 + 1, heap := h'.push og } : Shared) = s5
      have eh5 : s5.heap = h'.push og := by rw [← hs5]
      have I5 : Inv (genCx X s3 H3 (gEnv X scope s3.heap.objs.size code) fp) [] (wipe σ (own.map (·.2))) H3 s5 :=
        gen_start I3 ok S hN hr.hd f3 (by rw [← hs5]) (by rw [← hs5]; exact I3.bare.push rfl) (by rw [eh5]; exact hns.push _) (by rw [eh5]; exact kp5)
      have I6 : Inv (genCx X s3 H3 (gEnv X scope s3.heap.objs.size code) fp) [(h'.objs.size, og)] (wipe σ (own.map (·.2))) H3 s5 := by
        refine I5.pins_of fun p hp => ?_
        have hp : p = (h'.objs.size, og) := by simpa using hp
        rw [hp]
        have hge : s3.heap.objs.size ≤ h'.objs.size := by omega
        refine ⟨by rw [eh5]; exact ga, I3.hok.fresh hge, ?_, fun z => ?_, fun v z => ?_⟩
        · show h'.objs.size ≠ s3.heap.objs.size
          omega
        · obtain ⟨_, o, ho, _⟩ := I5.ok.funs.mem z
          have ho : s3.heap.get? h'.objs.size = some o := ho
          exact absurd (Nat.lt_of_lt_of_le (Heap.lt_size ho) hge) (Nat.lt_irrefl _)
        · rw [← hob] at z
          cases z
      have st5 : tn 0 s5.heap := T.keep _ _ _ st2 fun b hb o e => by rw [eh5]; exact kp5 b o (by rw [← eh3]; exact keep3 b o (nfP b hb) e)
      have hgs : s5.gens[s3.gens.size]? = some (.fresh (.compStart (.GeneratorExp elt [⟨tg, iter, ifs, 0⟩] scope gpos) 0 (.ref it) .none (gEnv X scope s3.heap.objs.size code))) := by
        rw [← hs5]
        exact Array.getElem?_push_size ..
      refine ⟨I6.nolimit, I6.bare, by rw [eh5]; exact ga, _, hgs, fun s'' hsl => ⟨rfl, ?_⟩⟩
      have hab : ∀ b ∈ fp, h'.objs.size ≠ b := fun b hb z => by
        have h1 := (f3 b hb).2
        rw [← z] at h1
        have h1 : h'.objs.size < s3.heap.objs.size := h1
        omega
      exact gen_seg0 T S.co hab (hg _ _ _ _ _) (ht _ _ _ _ _ (hr.in1.in1.deeper _)) (he _ _ _ _ _ (hr.in1.in1.deeper _)) turn (Nat.lt_succ_self m0) (slept_inv I6 hsl) (by rw [hsl.2.2]; exact st5) n3 w0
    · exact I3.call' (ch := fp) I'.os I'.base I'.hok I'.bare fun b hb => ⟨(f3 b hb).1.2.2.2.1, (f3 b hb).1.2.1, (f3 b hb).1.2.2.2.2.1, (f3 b hb).1.2.2.2.2.2⟩
  refine ⟨I2.nolimit, ?_⟩
  cases hf : codeAmong gpos ps.toList with
  | none =>
    refine wpAny_genexprCodeX hcode (cd.code hPs hto) (cd.tab hPs) hf fun c' h' tk hx hge hlt hco' _ htab' _ => ?_
    obtain ⟨o1, vs, f1, tf, fl, tg, inF, tx, tt, op, _, _, _, _, _, _, _, _, _, htr, _⟩ := hco'
    exact cont _ h' tk _ hx (Nat.le_trans hge (Nat.le_of_lt hlt)) htab'.2 htr
  | some cv =>
    refine wpAny_genexprCode_hit hcode (cd.code hPs hto) hf ?_
    exact cont cv s2.heap s2.toks #[] (Heap.ExtBut.refl _ _) (Nat.le_refl _) (by simpa using hPs) (by simpa using hto)
/-- all(.. for .. in ..) -/
theorem pe_allG {cc P : Addr} {elt tg iter : Expr} {ifs : List Expr} {scope : Scope} {own : List (Str × Nat)} {p pos gpos : Pos} {wi : TI} {g : TG} {tt : TT} {te : TE} {k : Nat}
    (hr : Room (k + 3) X.A) (hgl : Gl X "all") (hm : X.mg "all" = none) (TB : LamX.TabB X.base X.mg cc P) (hcode : X.env.code = .ref cc) (S : GSc scope) (ok : BlkOk X.N X.env.scope scope own) (hN : X.N.Nodup) (hi : PI X tg iter wi)
    (hg : ∀ (s : Shared) (H : Hp) (C : Addr) (code : Value) (fp : List Addr), PG (genCx X s H (gEnv X scope C code) fp) tg g) (ht : ∀ (s : Shared) (H : Hp) (C : Addr) (code : Value) (fp : List Addr), Room k (genCx X s H (gEnv X scope C code) fp).A → PTs (genCx X s H (gEnv X scope C code) fp) ifs tt)
    (he : ∀ (s : Shared) (H : Hp) (C : Addr) (code : Value) (fp : List Addr), Room k (genCx X s H (gEnv X scope C code) fp).A → PE (genCx X s H (gEnv X scope C code) fp) elt te) (hb : bootBuiltins "all" = some (.builtin "all") := by rfl) (hs : ∀ v, genFold iter X.env v = pure v := by intro _; rfl)
    (hst : starEach [.GeneratorExp elt [⟨tg, iter, ifs, 0⟩] scope gpos] X.env = (false, eval (.GeneratorExp elt [⟨tg, iter, ifs, 0⟩] scope gpos) X.env) :: starEach [] X.env := by rfl) :
    PE X (.Call (.Name "all" p) [.GeneratorExp elt [⟨tg, iter, ifs, 0⟩] scope gpos] [] pos) (tGx true P wi g tt te (own.map (·.2))) := by
  refine ⟨fun pins s σ H Q I h => ?_⟩
  refine wpAny_Call_Name_kw (ld_blt I hgl hm hb ?_)
  refine PyProof.Rows.callWith_builtin1 ?_ hst (by rfl)
  rw [hst]
  show wpAny _ _ (spliced ((false, eval (.GeneratorExp elt [⟨tg, iter, ifs, 0⟩] scope gpos) X.env) :: backTo pos (starEach [] X.env))) _ _ s
  refine Calls.spliced_cons (gen_made hr TB hcode S ok hN hi hg ht he hs I h fun G a ob gi n s5 hob R back => ?_)
  refine Calls.spliced_nil ?_
  refine call_function_tree F.kind_all F.plain_all F.entry_all (F.args_all1 _) ?_
  unfold Builtin.«all»
  refine wpAny_bind (m := oneArg "all" _) (wpAny_pure ?_)
  refine wpAny_bind (wpAny_pyIter_gen (hob.at R.2.2.1) ?_)
  exact wpAny_pure ⟨plainId_quiet F.plain_all_loop _, all_loop hr hob (fun s' H' I' q => ⟨.bl true, H', back s' H' I', rfl, q⟩) (fun s' H' I' q => ⟨.bl false, H', back s' H' I', rfl, q⟩) n s5 R⟩
/-- any(.. for .. in ..) -/
theorem pe_anyG {cc P : Addr} {elt tg iter : Expr} {ifs : List Expr} {scope : Scope} {own : List (Str × Nat)} {p pos gpos : Pos} {wi : TI} {g : TG} {tt : TT} {te : TE} {k : Nat}
    (hr : Room (k + 3) X.A) (hgl : Gl X "any") (hm : X.mg "any" = none) (TB : LamX.TabB X.base X.mg cc P) (hcode : X.env.code = .ref cc) (S : GSc scope) (ok : BlkOk X.N X.env.scope scope own) (hN : X.N.Nodup) (hi : PI X tg iter wi)
    (hg : ∀ (s : Shared) (H : Hp) (C : Addr) (code : Value) (fp : List Addr), PG (genCx X s H (gEnv X scope C code) fp) tg g) (ht : ∀ (s : Shared) (H : Hp) (C : Addr) (code : Value) (fp : List Addr), Room k (genCx X s H (gEnv X scope C code) fp).A → PTs (genCx X s H (gEnv X scope C code) fp) ifs tt)
    (he : ∀ (s : Shared) (H : Hp) (C : Addr) (code : Value) (fp : List Addr), Room k (genCx X s H (gEnv X scope C code) fp).A → PE (genCx X s H (gEnv X scope C code) fp) elt te) (hs : ∀ v, genFold iter X.env v = pure v := by intro _; rfl)
    (hst : starEach [.GeneratorExp elt [⟨tg, iter, ifs, 0⟩] scope gpos] X.env = (false, eval (.GeneratorExp elt [⟨tg, iter, ifs, 0⟩] scope gpos) X.env) :: starEach [] X.env := by rfl) :
    PE X (.Call (.Name "any" p) [.GeneratorExp elt [⟨tg, iter, ifs, 0⟩] scope gpos] [] pos) (tGx false P wi g tt te (own.map (·.2))) := by
  refine ⟨fun pins s σ H Q I h => ?_⟩
  refine wpAny_Call_Name_kw (ld_blt I hgl hm boot_any ?_)
  refine PyProof.Rows.callWith_builtin1 ?_ hst (by rfl)
  rw [hst]
  show wpAny _ _ (spliced ((false, eval (.GeneratorExp elt [⟨tg, iter, ifs, 0⟩] scope gpos) X.env) :: backTo pos (starEach [] X.env))) _ _ s
  refine Calls.spliced_cons (gen_made hr TB hcode S ok hN hi hg ht he hs I h fun G a ob gi n s5 hob R back => ?_)
  refine Calls.spliced_nil ?_
  refine call_function_tree F.kind_any F.plain_any F.entry_any (F.args_any1 _) ?_
  unfold Builtin.«any»
  refine wpAny_bind (m := oneArg "any" _) (wpAny_pure ?_)
  refine wpAny_bind (wpAny_pyIter_gen (hob.at R.2.2.1) ?_)
  exact wpAny_pure ⟨plainId_quiet F.plain_any_loop _, any_loop hr hob (fun s' H' I' q => ⟨.bl false, H', back s' H' I', rfl, q⟩) (fun s' H' I' q => ⟨.bl true, H', back s' H' I', rfl, q⟩) n s5 R⟩
end
end GxL
namespace Rg
open PySem PySem.Spec PyProof.Rows L2
/-! ### tables of code objects: all the law's tables stand, all else is kept -/
def Tab (Ps : List Addr) (H : Hp) : Prop := ∀ p ∈ Ps, GxR.TabG H p
structure Tk (Ps : List Addr) (H H' : Hp) : Prop where
  tab : Tab Ps H'
  kp : Kp Ps H H'
section
variable {Ps : List Addr} {H H1 H2 : Hp} {a P : Addr} {o : HO}
theorem Tk.refl (t : Tab Ps H) : Tk Ps H H := ⟨t, .refl⟩
theorem Tk.trans (x : Tk Ps H H1) (y : Tk Ps H1 H2) : Tk Ps H H2 := ⟨y.tab, x.kp.trans y.kp⟩
theorem Tab.same (t : Tab Ps H) (s : Same H H1) : Tab Ps H1 := fun p hp => let ⟨ps, e, r⟩ := t p hp; ⟨ps, s _ _ e, r⟩
theorem Tk.of (t : Tab Ps H) (s : Same H H1) : Tk Ps H H1 := ⟨t.same s, .of s⟩
theorem Tk.same (x : Tk Ps H H1) (s : Same H1 H2) : Tk Ps H H2 := x.trans (.of x.tab s)
theorem Tab.new (t : Tab Ps H) (h : H a = none) : Tab Ps (upd H a o) := t.same (same_upd h)
theorem Tk.new (x : Tk Ps H H1) (h : H1 a = none) : Tk Ps H (upd H1 a o) := x.same (same_upd h)
theorem Tab.ne (t : Tab Ps H) (hp : P ∈ Ps) (h : H a = some o) (n : ∀ ps, o ≠ .tbl ps) : a ≠ P := fun z => by
  obtain ⟨ps, e, _⟩ := t P hp
  rw [z, e] at h
  exact n ps (Option.some.inj h).symm
theorem Tab.nin (t : Tab Ps H) (h : H a = some o) (n : ∀ ps, o ≠ .tbl ps) : a ∉ Ps := fun z => t.ne z h n rfl
theorem Tab.ninN (t : Tab Ps H) (h : H a = none) : a ∉ Ps := fun z => by
  obtain ⟨ps, e, _⟩ := t a z
  rw [h] at e
  cases e
/-- what is no table is kept -/
theorem Tk.at (x : Tk Ps H H1) (t : Tab Ps H) (h : H a = some o) (n : ∀ ps, o ≠ .tbl ps := by intro _ z; cases z) : H1 a = some o := x.kp a o h (t.nin h n)
theorem Tk.at' (x : Tk Ps H H1) (h : H a = some o) (n : a ∉ Ps) : H1 a = some o := x.kp a o h n
theorem Tk.free (x : Tk Ps H H1) (h : H1 a = none) : H a = none := x.kp.free (x.tab.ninN h) h
theorem Tab.upd (t : Tab Ps H) (h : H a = some o) (n : ∀ ps, o ≠ .tbl ps) {u : HO} : Tab Ps (upd H a u) := fun p hp => by
  obtain ⟨ps, e, r⟩ := t p hp
  exact ⟨ps, by rw [upd_ne (t.ne hp h n).symm]; exact e, r⟩
/-- one table has grown -/
theorem Tk.tabbed (t : Tab Ps H) (hp : P ∈ Ps) (h : GxR.Tabbed P H H1) : Tk Ps H H1 := by
  refine ⟨fun p q => ?_, fun x o e n => by rw [h.2 x fun z => n (z ▸ hp)]; exact e⟩
  by_cases z : p = P
  · rw [z]; exact h.1
  · obtain ⟨ps, e, r⟩ := t p q
    exact ⟨ps, by rw [h.2 p z]; exact e, r⟩
end
/-! ### all, any: the forms one uses -/
theorem gx_by {c : Bool} {J : It} {g : TG} {tt : TT} {te : TE} {vs : List Nat} {σ : L2.St} {Q : VK} {H2 : Hp} (n : Nat) (Pv : Nat → Hp → Prop) (h0 : Pv 0 H2) (hgo : ∀ i H, i < n → Pv i H → J.go i H) (hstop : ∀ H, Pv n H → J.stop n H)
    (hs : ∀ i x H H', i < n → Pv i H → J.yld i H x H' → g x (wipe σ vs) H' fun σ2 H2 => wipe σ2 vs = wipe σ vs ∧ tt σ2 H2 fun b H3 => if b = true then te σ2 H3 fun y H4 => ∃ k, y = .bl k ∧ if k = c then Pv (i + 1) H4 else Q (.bl (!c)) H4 else Pv (i + 1) H3)
    (hd : ∀ H, Pv n H → Q (.bl c) H) : ∃ W : Nat → Nat → Hp → Prop, (∃ m, W 0 m H2) ∧ GxL.GTurn c J g tt te vs σ Q W := by
  refine ⟨fun i m H => m = n - i ∧ i ≤ n ∧ Pv i H, ⟨n, by simp, Nat.zero_le _, h0⟩, ?_⟩
  rintro i m H ⟨rfl, hi, p⟩
  by_cases hlt : i < n
  · exact .inr ⟨hgo i H hlt p, Pv (i + 1), fun H' p' => ⟨n - (i + 1), by omega, rfl, hlt, p'⟩, fun x H' y => hs i x H H' hlt p y⟩
  · have e : i = n := by omega
    subst e
    exact .inl ⟨hstop H p, hd H p⟩
/-- over a list -/
theorem gx_list {K : PySem.W.Frag} {a : Addr} {xs : List V} {c : Bool} {g : TG} {tt : TT} {te : TE} {vs : List Nat} {σ : L2.St} {Q : VK} {H2 : Hp} (Pv : Nat → Hp → Prop) (h0 : Pv 0 H2) (hl : ∀ i H, i ≤ xs.length → Pv i H → SqL K H a xs)
    (hs : ∀ i x H, xs[i]? = some x → Pv i H → g x (wipe σ vs) H fun σ2 H2 => wipe σ2 vs = wipe σ vs ∧ tt σ2 H2 fun b H3 => if b = true then te σ2 H3 fun y H4 => ∃ k, y = .bl k ∧ if k = c then Pv (i + 1) H4 else Q (.bl (!c)) H4 else Pv (i + 1) H3)
    (hd : ∀ H, Pv xs.length H → Q (.bl c) H) : ∃ W : Nat → Nat → Hp → Prop, (∃ m, W 0 m H2) ∧ GxL.GTurn c (Itl K a) g tt te vs σ Q W := by
  refine gx_by xs.length Pv h0 (fun i H hi p => ⟨xs, xs[i], hl i H (Nat.le_of_lt hi) p, by simp [hi]⟩) (fun H p => ⟨xs, hl _ H (Nat.le_refl _) p, Nat.le_refl _⟩) (fun i x H H' hi p y => ?_) hd
  obtain ⟨e, y⟩ := y
  subst e
  exact hs i x _ (y xs (hl i _ (Nat.le_of_lt hi) p)) p
/-- over a tuple -/
theorem gx_tup {K : PySem.W.Frag} {a : Addr} {xs : List V} {c : Bool} {g : TG} {tt : TT} {te : TE} {vs : List Nat} {σ : L2.St} {Q : VK} {H2 : Hp} (Pv : Nat → Hp → Prop) (h0 : Pv 0 H2) (hl : ∀ i H, i ≤ xs.length → Pv i H → SqT K H a xs)
    (hs : ∀ i x H, xs[i]? = some x → Pv i H → g x (wipe σ vs) H fun σ2 H2 => wipe σ2 vs = wipe σ vs ∧ tt σ2 H2 fun b H3 => if b = true then te σ2 H3 fun y H4 => ∃ k, y = .bl k ∧ if k = c then Pv (i + 1) H4 else Q (.bl (!c)) H4 else Pv (i + 1) H3)
    (hd : ∀ H, Pv xs.length H → Q (.bl c) H) : ∃ W : Nat → Nat → Hp → Prop, (∃ m, W 0 m H2) ∧ GxL.GTurn c (Itt K a) g tt te vs σ Q W := by
  refine gx_by xs.length Pv h0 (fun i H hi p => ⟨xs, xs[i], hl i H (Nat.le_of_lt hi) p, by simp [hi]⟩) (fun H p => ⟨xs, hl _ H (Nat.le_refl _) p, Nat.le_refl _⟩) (fun i x H H' hi p y => ?_) hd
  obtain ⟨e, y⟩ := y
  subst e
  exact hs i x _ (y xs (hl i _ (Nat.le_of_lt hi) p)) p
/-- over the signs of a text -/
theorem gx_str {x : Str} {c : Bool} {g : TG} {tt : TT} {te : TE} {vs : List Nat} {σ : L2.St} {Q : VK} {H2 : Hp} (Pv : Nat → Hp → Prop) (h0 : Pv 0 H2)
    (hs : ∀ i s H, x.cps[i]? = some s → Pv i H → g (.str ⟨#[s]⟩) (wipe σ vs) H fun σ2 H2 => wipe σ2 vs = wipe σ vs ∧ tt σ2 H2 fun b H3 => if b = true then te σ2 H3 fun y H4 => ∃ k, y = .bl k ∧ if k = c then Pv (i + 1) H4 else Q (.bl (!c)) H4 else Pv (i + 1) H3)
    (hd : ∀ H, Pv x.cps.size H → Q (.bl c) H) : ∃ W : Nat → Nat → Hp → Prop, (∃ m, W 0 m H2) ∧ GxL.GTurn c (Its x) g tt te vs σ Q W := by
  refine gx_by x.cps.size Pv h0 (fun i H hi p => hi) (fun H p => Nat.le_refl _) (fun i v H H' hi p y => ?_) hd
  obtain ⟨rfl, s, e, rfl⟩ := y
  exact hs i s _ e p
/-- a test of every item by a Bool, nothing changed but the tables: all(f(x) for x in xs), any(..) -/
def allB (c : Bool) {α : Type} (f : α → Bool) (xs : List α) : Bool := if c = true then xs.all f else xs.any f
/-! ### a def whose code object is known -/
section
variable {P : Program} {w : World} {K : PySem.W.Frag} {mg : Str → Option Value} {base : Heap}
theorem fun_okC {x qual : Str} {st : Stmt} {f cc : Addr} {fd : FuncData} {N ps : List Str} {k : Nat} {sp : Sp} (F : Fun K x qual st f fd) (hc : fd.code = .ref cc) (S : FnScope N ps (defScope st)) (len : ∀ vs H Q E, sp vs H Q E → vs.length = ps.length)
    (hbody : ∀ (A : Around) (outer : List Env) (s : Shared) (H : Hp) (vs : List V) (Q : VK) (E : XK), Room k (A.deeper (envOfC qual (defScope st) s.heap.objs.size f (.ref cc))) → sp vs H Q E →
      ∃ t, PSs (cxOf CX0 P w K mg base N qual (defScope st) f (.ref cc) A outer s H E).nox (defBody st) t ∧ t { nx := fun _ H' => Q .non H', rt := Q } (start N vs) H) : FnOk P w K mg base CX0 (k + 1) f fd ps sp := by
  obtain ⟨oc, od, kV, doc, pm, an, cdv, ct, osl, rfl, lk, hcd⟩ := F.ex
  obtain rfl : cdv = .ref cc := hc
  refine fn_of lk hcd S len fun A outer s H vs Q E hr hsp => ?_
  obtain ⟨t, h, q⟩ := hbody A outer s H vs Q E hr hsp
  exact ⟨t, h.nox, q⟩
end
/-! ### the end: a top def's table is empty at the law's entry -/
def TabsOf (q : Program) (mg : Str → Option Value) (h : Heap) : Prop := ∀ d ∈ recsOf q, ∃ a o fd c P, mg d.name = some (.ref a) ∧ h.get? a = some o ∧ o.data = .func fd ∧ fd.code = .ref c ∧ h.IsCode c P #[] ∧ h.TableAt c P #[]
theorem tab_of {q : Program} {K : PySem.W.Frag} {mg : Str → Option Value} {h : Heap} {x : Str} {a c P : Addr} {oc : Value} {od : Option Addr} {osl : Array (Option Value)} {fd : FuncData} (T : TabsOf q mg h) (KX : K.In h) (hx : (recsOf q).any (fun d => d.name == x) = true)
    (hm : mg x = some (.ref a)) (lk : K.lookup a = some ⟨oc, od, .func fd, osl⟩) (hc : fd.code = .ref c) (hh : PySem.W.codeHdIn K c P = true) : h.get? P = some { cls := .none, data := .fields #[] } := by
  obtain ⟨d, hd, e⟩ := List.any_eq_true.mp hx
  have e : d.name = x := by simpa using e
  obtain ⟨a', o, fd', c', P', m1, m2, m3, m4, m5, m6⟩ := T d hd
  rw [e, hm] at m1
  cases m1
  rw [KX _ _ lk] at m2
  cases m2
  cases m3
  rw [hc] at m4
  cases m4
  obtain ⟨o1, vs, _, _, _, _, _, _, _, g1, g2, g3, g4, _⟩ := PySem.W.codeHd_of_K KX hh
  obtain ⟨⟨o2, vs2, f1, f2, f3, f4⟩, f5⟩ := m6
  rw [g1] at f1
  cases f1
  rw [g3] at f3
  cases f3
  rw [g4] at f4
  cases f4
  exact f5
theorem walk_ofG {l : PySem.W.OpenLaw} {n k : Nat} {q : Program} {loose : List Str} {XP : (Str → Option Value) → Heap → Prop} {YP : World → Heap → Prop} {d : DefRec} {K : Params → PySem.W.Frag} {CX : World → CXT} {x : Str}
    (hn : l.most = some n) (hn2 : n ≤ sizeLine) (hdf : d.params.defaults = []) (hr : Room k callerA) (hY : ∀ (w : World) (h : Heap), YP w h → (K w.params).In h)
    (F : ∀ (w : World) (mg : Str → Option Value) (fa : Addr) (h : Heap), TabsOf q mg h → YP w h → (K w.params).In h → h.Ns mainGlobals mg → mg d.name = some (.ref fa) → LamX.LawAtS l w (K w.params) (CX w) k n x mg fa h)
    (hCX : ∀ (w : World) (H : Hp) (s : Shared) (e : Value) (s' : Shared), CX w [] H s (fun _ _ _ => False) e s' → False) :
    PySem.W.WalkO q loose XP YP l.row.toRowW d [] (fun f vs => PySem.call f vs) := by
  refine Att.attach_callB hn hdf fun w s₀ s₁ mg mb fa o pm cd doc a vs ns G Y ho hd hcd hmg hobj hints hlen hbits hg => ?_
  have KX := hY w _ Y
  obtain ⟨fd, cs, sp, hT, nT, C, hb, hsp, hF⟩ := F w mg fa _ G.T.tab Y KX G.T.g hmg
  exact LamX.law_callTs KX G.T.g G.T.b G.T.builtins G.T.nolimit hg hT nT C G.T.bmain hobj hints (Nat.le_trans hlen hn2) hr hF hb (fun H hH hS => hsp H a ns hlen hbits hH hS) fun H e s' => hCX w H s₁ e s'
end Rg
namespace Rg
open PySem PySem.Spec PyProof.Rows L2
/-! ### x is True, x is not False: bools told by value -/
theorem op_isV {X : Cx} : OpR X (compareOp .Is) (fun x y H Q => ∃ a c, x = .bl a ∧ y = .bl c ∧ Q (.bl (decide (a = c))) H) := by
  intro pins s σ H x y v u Q I rx ry h
  obtain ⟨a, c, rfl, rfl, q⟩ := h
  cases rx
  cases ry
  by_cases e : a = c
  · subst e
    rw [decide_eq_true rfl] at q
    exact wpAny_is_self rfl ⟨.bl true, H, I, rfl, q⟩
  · rw [decide_eq_false e] at q
    exact wpAny_is_other rfl (fun z => e (by injection z)) ⟨.bl false, H, I, rfl, q⟩
theorem op_notV {X : Cx} : OpR X (compareOp .IsNot) (fun x y H Q => ∃ a c, x = .bl a ∧ y = .bl c ∧ Q (.bl (!decide (a = c))) H) := by
  intro pins s σ H x y v u Q I rx ry h
  obtain ⟨a, c, rfl, rfl, q⟩ := h
  cases rx
  cases ry
  by_cases e : a = c
  · subst e
    rw [decide_eq_true rfl] at q
    exact wpAny_isNot_self rfl ⟨.bl false, H, I, rfl, q⟩
  · rw [decide_eq_false e] at q
    exact wpAny_isNot_other rfl (fun z => e (by injection z)) ⟨.bl true, H, I, rfl, q⟩
theorem take_snoc {α : Type} {l : List α} {i : Nat} {c : α} (h : l[i]? = some c) : l.take (i + 1) = l.take i ++ [c] := by
  rw [List.take_succ, h]
  rfl
theorem atN {α : Type} {xs : List α} {z : Int} {j : Nat} {v : α} (e : z = (j : Int)) (h : xs[j]? = some v) : atI xs z = some v := by
  subst e
  exact atI_nat h
theorem S_at {l : List Nat} {i c : Nat} (h : (SX.S l).cps[i]? = some c) : l[i]? = some c := by simpa using h
/-! ### a loop over the signs of a text -/
theorem for_str {x : Str} {g : TG} {tb : TS} {D : Ends} {σ : L2.St} {H : Hp} (Pv : Nat → L2.St → Hp → Prop) (h0 : Pv 0 σ H)
    (hs : ∀ i s σ H, x.cps[i]? = some s → Pv i σ H → g (.str ⟨#[s]⟩) σ H fun σ2 H2 => tb { D with nx := Pv (i + 1), ct := Pv (i + 1), bk := D.nx } σ2 H2) (hd : ∀ σ H, Pv x.cps.size σ H → D.nx σ H) :
    ∃ W : Nat → Nat → L2.St → Hp → Prop, (∃ m, W 0 m σ H) ∧ ∀ i m σ H, W i m σ H →
      ((Its x).stop i H ∧ D.nx σ H) ∨ ((Its x).go i H ∧ ∃ N : L2.St → Hp → Prop, (∀ σ' H', N σ' H' → ∃ m', m' < m ∧ W (i + 1) m' σ' H') ∧ ∀ v H', (Its x).yld i H v H' → g v σ H' fun σ2 H2 => tb { D with nx := N, ct := N, bk := D.nx } σ2 H2) := by
  refine ⟨fun i m σ H => m = x.cps.size - i ∧ i ≤ x.cps.size ∧ Pv i σ H, ⟨x.cps.size, by simp, Nat.zero_le _, h0⟩, ?_⟩
  rintro i m σ H ⟨rfl, hi, p⟩
  by_cases hlt : i < x.cps.size
  · refine .inr ⟨hlt, Pv (i + 1), fun σ' H' p' => ⟨x.cps.size - (i + 1), by omega, rfl, hlt, p'⟩, fun v H' y => ?_⟩
    obtain ⟨rfl, s, e, rfl⟩ := y
    exact hs i s σ _ e p
  · have e : i = x.cps.size := by omega
    subst e
    exact .inl ⟨Nat.le_refl _, hd σ H p⟩
end Rg
namespace Rg
open PySem PySem.Spec PyProof.Rows L2
/-! ### t[lo:hi], the whole of t: t itself -/
section
variable {prog : Program} {w : World} {A : Around} {E : Value → Shared → Prop} {s : Shared}
theorem getItem_tuple_all {t sl : Addr} {items : Array Value} {vl vu : Value} {lo hi : Option Int} {Q : Value → Shared → Prop} (ht : IsTup s.heap t items) (hs : s.heap.IsSliceOf sl vl vu .none) (pl : IsPart vl lo) (pu : IsPart vu hi)
    (hw : HT.sIx items.size 0 lo = 0 ∧ HT.sIx items.size items.size hi = items.size) (h : Q (.ref t) s) : wpAny (model prog w) A (getItem (.ref t) (.ref sl)) Q E s := by
  obtain ⟨os, hos, hcs, hds⟩ := id hs
  have hTs : s.TypeIs (.ref sl) "slice" := ⟨os, hos, hcs⟩
  unfold getItem
  try with_reducible refine wpAny_holding ?_
  first | refine wpAny_bind (wpAny_pure ?_) | skip
  refine wpAny_bind (wpAny_sequenceKey ht.typeIs (by decide) ?_)
  refine wpAny_bind (wpAny_callSpecial?_slot (name := Str.ofString "__getitem__") ht.typeIs PyProof.Rows.slot_tuple_getitem
    (wpAny_call_entry PyProof.Rows.slot_tuple_getitem ht.typeIs entry_tuple_getitem ?_ (args_tuple_getitem _ _)))
  show wpAny _ _ (Builtin.Tuple.tupleItemsOf (.ref t) >>= _) _ _ s
  refine wpAny_bind (tupleItemsOf_ ht ?_)
  refine wpAny_bind (wpAny_typeOf hTs ?_)
  rw [if_pos (by decide)]
  refine wpAny_bind (HT.sliceApplied_gen hs pl pu ?_)
  have hyes : (((HT.sIx items.size 0 lo : Nat) : Int) == 0 && (1 : Int) == 1 && (HT.sIx items.size items.size hi - HT.sIx items.size 0 lo) == items.size) = true := by
    rw [hw.1, hw.2]
    simp
  show wpAny _ _ (if (((HT.sIx items.size 0 lo : Nat) : Int) == 0 && (1 : Int) == 1 && (HT.sIx items.size items.size hi - HT.sIx items.size 0 lo) == items.size) = true then _ else _) _ _ s
  rw [if_pos hyes]
  refine wpAny_bind (m := Builtin.Tuple.tupleIsExact _) ?_
  unfold Builtin.Tuple.tupleIsExact
  refine wpAny_bind (wpAny_typeOf ht.typeIs (wpAny_pure ?_))
  show wpAny _ _ (if ((Value.type "tuple" == Value.type "tuple") = true) then _ else _) _ _ s
  rw [if_pos (by decide)]
  refine wpAny_bind (wpAny_rule (wpAny_pure ?_))
  exact ⟨_, rfl, wpAny_pure h⟩
end
/-- the whole of a tuple, by values -/
def rSlTA (K : PySem.W.Frag) : V → Option Int → Option Int → Hp → VK → Prop := fun x lo hi H Q => ∃ a xs, x = .ref a ∧ SqT K H a xs ∧ HT.sIx xs.length 0 lo = 0 ∧ HT.sIx xs.length xs.length hi = xs.length ∧ Q (.ref a) H
theorem sl_tupA {X : Cx} : SlR X (rSlTA X.K) := by
  intro pins s σ H x v vl vu lo hi sl Q I rx hs pl pu h
  obtain ⟨a, xs, rfl, hx, h1, h2, q⟩ := h
  cases rx
  obtain ⟨its, r, ht, hz⟩ := I.tuple hx
  have hlen : its.toArray.size = xs.length := by rw [List.size_toArray]; exact r.length.symm
  refine ⟨"tuple", _, PyProof.Rows.slot_tuple_getitem.lookup, ht.typeIs, ?_⟩
  exact getItem_tuple_all ht hs pl pu (by rw [hlen]; exact ⟨h1, h2⟩) ⟨.ref a, H, I, rfl, q⟩
theorem ixN_at {n : Nat} {z : Int} {i : Nat} (e : z = i) (h : i < n) : ixN n z = some i := by
  subst e
  exact Evl.ixN_nat h
theorem pe_ixTK {X : Cx} {K : PySem.W.Frag} {a b : Expr} {pos : Pos} {ta tb : TE} (ha : PE X a ta) (hb : PE X b tb) (hs : PlainIx b) (hK : X.K = K := by rfl) : PE X (.Subscript a b pos) (tOp (rIxT K) ta tb) := by
  subst hK
  exact pe_ix ix_tup ha hb hs
theorem op_repTK {X : Cx} {K : PySem.W.Frag} (hK : X.K = K := by rfl) : OpR X (binaryOp .Mult) (rRepT K) := by
  subst hK
  exact op_repT
/-! ### what is kept -/
section
variable {K : PySem.W.Frag} {Ps : List Addr} {H H1 : Hp} {a : Addr} {xs : List V}
theorem sameT (e : Same H H1) (h : SqT K H a xs) : SqT K H1 a xs := by
  rcases h with (h | ⟨o, h⟩) | h
  · exact .inl (.inl (e _ _ h))
  · exact .inl (.inr ⟨o, e _ _ h⟩)
  · exact .inr h
theorem Tk.seqT (k : Tk Ps H H1) (t : Tab Ps H) (h : SqT K H a xs) : SqT K H1 a xs := by
  rcases h with (h | ⟨o, h⟩) | h
  · exact .inl (.inl (k.at t h))
  · exact .inl (.inr ⟨o, k.at t h⟩)
  · exact .inr h
theorem Tk.seqL (k : Tk Ps H H1) (t : Tab Ps H) (h : SqL K H a xs) : SqL K H1 a xs := by
  rcases h with (h | ⟨o, h⟩) | h
  · exact .inl (.inl (k.at t h))
  · exact .inl (.inr ⟨o, k.at t h⟩)
  · exact .inr h
/-- what was new is written again -/
theorem Tk.put {o u : HO} (k : Tk Ps H H1) (h : H a = none) (e : H1 a = some o) (n : ∀ ps, o ≠ .tbl ps := by intro _ z; cases z) : Tk Ps H (upd H1 a u) := ⟨k.tab.upd e n, fun b v eb nb => by
  rw [upd_ne (ne_of_none eb h)]
  exact k.kp b v eb nb⟩
theorem tyT (h : SqT K H a xs) : TyX K H (.ref a) (.type "tuple") := by
  rcases h with (h | ⟨o, h⟩) | ⟨o, its, n, e, c, _⟩
  · exact .base (.tup h)
  · exact .fTuple h
  · exact .kTuple e c
end
/-! ### all, any over zip -/
theorem gx_zipL {K : PySem.W.Frag} {a b : Addr} {xs ys : List V} {c : Bool} {g : TG} {tt : TT} {te : TE} {vs : List Nat} {σ : L2.St} {Q : VK} {H2 : Hp} (hl : ys.length ≤ xs.length) (Pv : Nat → Hp → Prop) (h0 : Pv 0 H2) (hq : ∀ i H, Pv i H → SqL K H a xs ∧ SqL K H b ys)
    (hs : ∀ i x y T H, xs[i]? = some x → ys[i]? = some y → Pv i H → H T = none → g (.ref T) (wipe σ vs) (upd H T (.tup [x, y])) fun σ2 H2 => wipe σ2 vs = wipe σ vs ∧ tt σ2 H2 fun b H3 => if b = true then te σ2 H3 fun y H4 => ∃ k, y = .bl k ∧ if k = c then Pv (i + 1) H4 else Q (.bl (!c)) H4 else Pv (i + 1) H3)
    (hd : ∀ H, Pv ys.length H → Q (.bl c) H) : ∃ W : Nat → Nat → Hp → Prop, (∃ m, W 0 m H2) ∧ GxL.GTurn c (Itz K a b) g tt te vs σ Q W := by
  refine gx_by ys.length Pv h0 (fun i H hi p => ?_) (fun H p => ⟨xs, ys, (hq _ H p).1, (hq _ H p).2, .inr (Nat.le_refl _)⟩) (fun i x H H' hi p y => ?_) hd
  · exact ⟨xs, ys, xs[i], ys[i], (hq i H p).1, (hq i H p).2, List.getElem?_eq_getElem (by omega), List.getElem?_eq_getElem hi⟩
  · obtain ⟨T, x', y', rfl, hT, rfl, f1, f2⟩ := y
    exact hs i x' y' T H (f1 xs (hq i H p).1) (f2 ys (hq i H p).2) p hT
theorem gx_zipT {K : PySem.W.Frag} {a b : Addr} {xs ys : List V} {c : Bool} {g : TG} {tt : TT} {te : TE} {vs : List Nat} {σ : L2.St} {Q : VK} {H2 : Hp} (hl : ys.length ≤ xs.length) (Pv : Nat → Hp → Prop) (h0 : Pv 0 H2) (hq : ∀ i H, Pv i H → SqT K H a xs ∧ SqT K H b ys)
    (hs : ∀ i x y T H, xs[i]? = some x → ys[i]? = some y → Pv i H → H T = none → g (.ref T) (wipe σ vs) (upd H T (.tup [x, y])) fun σ2 H2 => wipe σ2 vs = wipe σ vs ∧ tt σ2 H2 fun b H3 => if b = true then te σ2 H3 fun y H4 => ∃ k, y = .bl k ∧ if k = c then Pv (i + 1) H4 else Q (.bl (!c)) H4 else Pv (i + 1) H3)
    (hd : ∀ H, Pv ys.length H → Q (.bl c) H) : ∃ W : Nat → Nat → Hp → Prop, (∃ m, W 0 m H2) ∧ GxL.GTurn c (RZ.ItzT K a b) g tt te vs σ Q W := by
  refine gx_by ys.length Pv h0 (fun i H hi p => ?_) (fun H p => ⟨xs, ys, (hq _ H p).1, (hq _ H p).2, .inr (Nat.le_refl _)⟩) (fun i x H H' hi p y => ?_) hd
  · exact ⟨xs, ys, xs[i], ys[i], (hq i H p).1, (hq i H p).2, List.getElem?_eq_getElem (by omega), List.getElem?_eq_getElem hi⟩
  · obtain ⟨T, x', y', rfl, hT, rfl, f1, f2⟩ := y
    exact hs i x' y' T H (f1 xs (hq i H p).1) (f2 ys (hq i H p).2) p hT
end Rg
namespace K45
open PySem PySem.Spec PyProof.Rows L2 Rg
def top (i : Nat) : Stmt := PySem.Challenge.pw_lotsandties_k45_marks_found.main.body.getD i (.Pass ⟨0, 0, 0, 0⟩)
abbrev s_is_number : Stmt := top 27
abbrev s_is_cell : Stmt := top 28
abbrev s_is_block : Stmt := top 29
abbrev s_is_cell_row : Stmt := top 30
abbrev s_is_ascending : Stmt := top 31
abbrev s_is_pair : Stmt := top 36
abbrev s_are_pairs : Stmt := top 37
abbrev s_are_revokes : Stmt := top 38
abbrev s_is_record : Stmt := top 39
abbrev s_fits_plan : Stmt := top 40
abbrev s_found_marks : Stmt := top 42
abbrev s_is_place : Stmt := top 45
abbrev s_is_content : Stmt := top 46
abbrev s_Lfeed : Stmt := top 49
abbrev s_Lpick : Stmt := top 50
abbrev s_Lrecord : Stmt := top 51
abbrev s_Ldue : Stmt := top 52
abbrev s_Lsame : Stmt := top 53
abbrev s_Lagrees : Stmt := top 54
abbrev s_law : Stmt := top 55
abbrev s_Plan___init__ : Stmt := inClass (top 23) 6
abbrev s_Disk___init__ : Stmt := inClass (top 47) 0
abbrev s_Disk_issue : Stmt := inClass (top 47) 3
abbrev s_Disk_busy : Stmt := inClass (top 47) 4
abbrev s_Disk_sure : Stmt := inClass (top 47) 6
abbrev s_Disk_move_head : Stmt := inClass (top 47) 8
abbrev s_Disk__put : Stmt := inClass (top 47) 12
theorem sc_is_number : FnScope ["value", "least", "most"] ["value", "least", "most"] (defScope s_is_number) := ⟨rfl, rfl, rfl, by decide +kernel, rfl, by decide +kernel, by decide +kernel⟩
theorem sc_is_cell : FnScope ["value"] ["value"] (defScope s_is_cell) := ⟨rfl, rfl, rfl, by decide +kernel, rfl, by decide +kernel, by decide +kernel⟩
theorem sc_is_block : FnScope ["value"] ["value"] (defScope s_is_block) := ⟨rfl, rfl, rfl, by decide +kernel, rfl, by decide +kernel, by decide +kernel⟩
theorem sc_is_cell_row : FnScope ["value", "cell"] ["value"] (defScope s_is_cell_row) := ⟨rfl, rfl, rfl, by decide +kernel, rfl, by decide +kernel, by decide +kernel⟩
theorem sc_is_ascending : FnScope ["numbers", "low", "high"] ["numbers"] (defScope s_is_ascending) := ⟨rfl, rfl, rfl, by decide +kernel, rfl, by decide +kernel, by decide +kernel⟩
theorem sc_is_pair : FnScope ["value"] ["value"] (defScope s_is_pair) := ⟨rfl, rfl, rfl, by decide +kernel, rfl, by decide +kernel, by decide +kernel⟩
theorem sc_are_pairs : FnScope ["value", "pair"] ["value"] (defScope s_are_pairs) := ⟨rfl, rfl, rfl, by decide +kernel, rfl, by decide +kernel, by decide +kernel⟩
theorem sc_are_revokes : FnScope ["value", "block"] ["value"] (defScope s_are_revokes) := ⟨rfl, rfl, rfl, by decide +kernel, rfl, by decide +kernel, by decide +kernel⟩
theorem sc_is_record : FnScope ["record"] ["record"] (defScope s_is_record) := ⟨rfl, rfl, rfl, by decide +kernel, rfl, by decide +kernel, by decide +kernel⟩
theorem sc_fits_plan : FnScope ["record", "plan", "block", "slot"] ["record", "plan"] (defScope s_fits_plan) := ⟨rfl, rfl, rfl, by decide +kernel, rfl, by decide +kernel, by decide +kernel⟩
theorem sc_found_marks : FnScope ["disk", "slots", "slot", "record", "marks", "lot"] ["disk"] (defScope s_found_marks) := ⟨rfl, rfl, rfl, by decide +kernel, rfl, by decide +kernel, by decide +kernel⟩
theorem sc_is_place : FnScope ["plan", "place"] ["plan", "place"] (defScope s_is_place) := ⟨rfl, rfl, rfl, by decide +kernel, rfl, by decide +kernel, by decide +kernel⟩
theorem sc_is_content : FnScope ["plan", "place", "what"] ["plan", "place", "what"] (defScope s_is_content) := ⟨rfl, rfl, rfl, by decide +kernel, rfl, by decide +kernel, by decide +kernel⟩
theorem sc_Lfeed : FnScope ["_law_script", "_law_feed_here", "_law_cell", "_law_rest", "_law_k"] ["_law_script"] (defScope s_Lfeed) := ⟨rfl, rfl, rfl, by decide +kernel, rfl, by decide +kernel, by decide +kernel⟩
theorem sc_Lpick : FnScope ["_law_feed_here", "_law_limit"] ["_law_feed_here", "_law_limit"] (defScope s_Lpick) := ⟨rfl, rfl, rfl, by decide +kernel, rfl, by decide +kernel, by decide +kernel⟩
theorem sc_Lrecord : FnScope ["_law_feed_here", "_law_lot", "_law_block", "_law_kind"] ["_law_feed_here", "_law_lot"] (defScope s_Lrecord) := ⟨rfl, rfl, rfl, by decide +kernel, rfl, by decide +kernel, by decide +kernel⟩
theorem sc_Ldue : FnScope ["_law_log", "_law_head", "_law_due_here", "_law_k", "_law_slots", "_law_slot", "_law_record_here"] ["_law_log", "_law_head"] (defScope s_Ldue) := ⟨rfl, rfl, rfl, by decide +kernel, rfl, by decide +kernel, by decide +kernel⟩
theorem sc_Lsame : FnScope ["_law_found", "_law_due_here", "_law_k", "_law_pair"] ["_law_found", "_law_due_here"] (defScope s_Lsame) := ⟨rfl, rfl, rfl, by decide +kernel, rfl, by decide +kernel, by decide +kernel⟩
theorem sc_Lagrees : FnScope ["_law_disk", "_law_log", "_law_head", "_law_due_here", "_law_found"] ["_law_disk", "_law_log", "_law_head"] (defScope s_Lagrees) := ⟨rfl, rfl, rfl, by decide +kernel, rfl, by decide +kernel, by decide +kernel⟩
theorem sc_law : FnScope ["_law_script", "_law_feed_here", "_law_disk", "_law_head", "_law_log", "_law_slot", "_law_k", "_law_lot", "_law_record_here", "_law_free", "_law_number"] ["_law_script"] (defScope s_law) := ⟨rfl, rfl, rfl, by decide +kernel, rfl, by decide +kernel, by decide +kernel⟩
theorem sc_Plan___init__ : FnScope ["self", "blocks", "nodes", "slots"] ["self", "blocks", "nodes", "slots"] (defScope s_Plan___init__) := ⟨rfl, rfl, rfl, by decide +kernel, rfl, by decide +kernel, by decide +kernel⟩
theorem sc_Disk___init__ : FnScope ["self", "plan", "_"] ["self", "plan"] (defScope s_Disk___init__) := ⟨rfl, rfl, rfl, by decide +kernel, rfl, by decide +kernel, by decide +kernel⟩
theorem sc_Disk_issue : FnScope ["self", "place", "what"] ["self", "place", "what"] (defScope s_Disk_issue) := ⟨rfl, rfl, rfl, by decide +kernel, rfl, by decide +kernel, by decide +kernel⟩
theorem sc_Disk_busy : FnScope ["self", "place", "taken", "_"] ["self", "place"] (defScope s_Disk_busy) := ⟨rfl, rfl, rfl, by decide +kernel, rfl, by decide +kernel, by decide +kernel⟩
theorem sc_Disk_sure : FnScope ["self", "number", "place", "what"] ["self", "number"] (defScope s_Disk_sure) := ⟨rfl, rfl, rfl, by decide +kernel, rfl, by decide +kernel, by decide +kernel⟩
theorem sc_Disk_move_head : FnScope ["self", "p"] ["self", "p"] (defScope s_Disk_move_head) := ⟨rfl, rfl, rfl, by decide +kernel, rfl, by decide +kernel, by decide +kernel⟩
theorem sc_Disk__put : FnScope ["self", "place", "what", "kind", "at"] ["self", "place", "what"] (defScope s_Disk__put) := ⟨rfl, rfl, rfl, by decide +kernel, rfl, by decide +kernel, by decide +kernel⟩

structure Tx (K : PySem.W.Frag) (mg : Str → Option Value) where
  f_is_number : Addr
  fd_is_number : FuncData
  F_is_number : Fun K "is_number" "is_number" s_is_number f_is_number fd_is_number
  mg_is_number : mg "is_number" = some (.ref f_is_number)
  f_is_cell : Addr
  fd_is_cell : FuncData
  F_is_cell : Fun K "is_cell" "is_cell" s_is_cell f_is_cell fd_is_cell
  mg_is_cell : mg "is_cell" = some (.ref f_is_cell)
  f_is_block : Addr
  fd_is_block : FuncData
  F_is_block : Fun K "is_block" "is_block" s_is_block f_is_block fd_is_block
  mg_is_block : mg "is_block" = some (.ref f_is_block)
  f_is_cell_row : Addr
  fd_is_cell_row : FuncData
  F_is_cell_row : Fun K "is_cell_row" "is_cell_row" s_is_cell_row f_is_cell_row fd_is_cell_row
  mg_is_cell_row : mg "is_cell_row" = some (.ref f_is_cell_row)
  cc_is_cell_row : Addr
  P_is_cell_row : Addr
  code_is_cell_row : fd_is_cell_row.code = .ref cc_is_cell_row
  ch_is_cell_row : PySem.W.codeHdIn K cc_is_cell_row P_is_cell_row = true
  cn_is_cell_row : K.lookup P_is_cell_row = none
  f_is_ascending : Addr
  fd_is_ascending : FuncData
  F_is_ascending : Fun K "is_ascending" "is_ascending" s_is_ascending f_is_ascending fd_is_ascending
  mg_is_ascending : mg "is_ascending" = some (.ref f_is_ascending)
  cc_is_ascending : Addr
  P_is_ascending : Addr
  code_is_ascending : fd_is_ascending.code = .ref cc_is_ascending
  ch_is_ascending : PySem.W.codeHdIn K cc_is_ascending P_is_ascending = true
  cn_is_ascending : K.lookup P_is_ascending = none
  f_is_pair : Addr
  fd_is_pair : FuncData
  F_is_pair : Fun K "_is_pair" "_is_pair" s_is_pair f_is_pair fd_is_pair
  mg_is_pair : mg "_is_pair" = some (.ref f_is_pair)
  f_are_pairs : Addr
  fd_are_pairs : FuncData
  F_are_pairs : Fun K "_are_pairs" "_are_pairs" s_are_pairs f_are_pairs fd_are_pairs
  mg_are_pairs : mg "_are_pairs" = some (.ref f_are_pairs)
  cc_are_pairs : Addr
  P_are_pairs : Addr
  code_are_pairs : fd_are_pairs.code = .ref cc_are_pairs
  ch_are_pairs : PySem.W.codeHdIn K cc_are_pairs P_are_pairs = true
  cn_are_pairs : K.lookup P_are_pairs = none
  f_are_revokes : Addr
  fd_are_revokes : FuncData
  F_are_revokes : Fun K "_are_revokes" "_are_revokes" s_are_revokes f_are_revokes fd_are_revokes
  mg_are_revokes : mg "_are_revokes" = some (.ref f_are_revokes)
  cc_are_revokes : Addr
  P_are_revokes : Addr
  code_are_revokes : fd_are_revokes.code = .ref cc_are_revokes
  ch_are_revokes : PySem.W.codeHdIn K cc_are_revokes P_are_revokes = true
  cn_are_revokes : K.lookup P_are_revokes = none
  f_is_record : Addr
  fd_is_record : FuncData
  F_is_record : Fun K "is_record" "is_record" s_is_record f_is_record fd_is_record
  mg_is_record : mg "is_record" = some (.ref f_is_record)
  f_fits_plan : Addr
  fd_fits_plan : FuncData
  F_fits_plan : Fun K "fits_plan" "fits_plan" s_fits_plan f_fits_plan fd_fits_plan
  mg_fits_plan : mg "fits_plan" = some (.ref f_fits_plan)
  cc_fits_plan : Addr
  P_fits_plan : Addr
  code_fits_plan : fd_fits_plan.code = .ref cc_fits_plan
  ch_fits_plan : PySem.W.codeHdIn K cc_fits_plan P_fits_plan = true
  cn_fits_plan : K.lookup P_fits_plan = none
  f_found_marks : Addr
  fd_found_marks : FuncData
  F_found_marks : Fun K "found_marks" "found_marks" s_found_marks f_found_marks fd_found_marks
  mg_found_marks : mg "found_marks" = some (.ref f_found_marks)
  f_is_place : Addr
  fd_is_place : FuncData
  F_is_place : Fun K "_is_place" "_is_place" s_is_place f_is_place fd_is_place
  mg_is_place : mg "_is_place" = some (.ref f_is_place)
  f_is_content : Addr
  fd_is_content : FuncData
  F_is_content : Fun K "_is_content" "_is_content" s_is_content f_is_content fd_is_content
  mg_is_content : mg "_is_content" = some (.ref f_is_content)
  f_Lfeed : Addr
  fd_Lfeed : FuncData
  F_Lfeed : Fun K "_law_feed" "_law_feed" s_Lfeed f_Lfeed fd_Lfeed
  mg_Lfeed : mg "_law_feed" = some (.ref f_Lfeed)
  f_Lpick : Addr
  fd_Lpick : FuncData
  F_Lpick : Fun K "_law_pick" "_law_pick" s_Lpick f_Lpick fd_Lpick
  mg_Lpick : mg "_law_pick" = some (.ref f_Lpick)
  f_Lrecord : Addr
  fd_Lrecord : FuncData
  F_Lrecord : Fun K "_law_record" "_law_record" s_Lrecord f_Lrecord fd_Lrecord
  mg_Lrecord : mg "_law_record" = some (.ref f_Lrecord)
  f_Ldue : Addr
  fd_Ldue : FuncData
  F_Ldue : Fun K "_law_due" "_law_due" s_Ldue f_Ldue fd_Ldue
  mg_Ldue : mg "_law_due" = some (.ref f_Ldue)
  f_Lsame : Addr
  fd_Lsame : FuncData
  F_Lsame : Fun K "_law_same" "_law_same" s_Lsame f_Lsame fd_Lsame
  mg_Lsame : mg "_law_same" = some (.ref f_Lsame)
  f_Lagrees : Addr
  fd_Lagrees : FuncData
  F_Lagrees : Fun K "_law_agrees" "_law_agrees" s_Lagrees f_Lagrees fd_Lagrees
  mg_Lagrees : mg "_law_agrees" = some (.ref f_Lagrees)
  f_law : Addr
  fd_law : FuncData
  F_law : Fun K "law" "law" s_law f_law fd_law
  mg_law : mg "law" = some (.ref f_law)
  f_Plan___init__ : Addr
  fd_Plan___init__ : FuncData
  F_Plan___init__ : Fun K "__init__" "Plan.__init__" s_Plan___init__ f_Plan___init__ fd_Plan___init__
  f_Disk___init__ : Addr
  fd_Disk___init__ : FuncData
  F_Disk___init__ : Fun K "__init__" "Disk.__init__" s_Disk___init__ f_Disk___init__ fd_Disk___init__
  f_Disk_issue : Addr
  fd_Disk_issue : FuncData
  F_Disk_issue : Fun K "issue" "Disk.issue" s_Disk_issue f_Disk_issue fd_Disk_issue
  f_Disk_busy : Addr
  fd_Disk_busy : FuncData
  F_Disk_busy : Fun K "busy" "Disk.busy" s_Disk_busy f_Disk_busy fd_Disk_busy
  cc_Disk_busy : Addr
  P_Disk_busy : Addr
  code_Disk_busy : fd_Disk_busy.code = .ref cc_Disk_busy
  ch_Disk_busy : PySem.W.codeHdIn K cc_Disk_busy P_Disk_busy = true
  cn_Disk_busy : K.lookup P_Disk_busy = none
  f_Disk_sure : Addr
  fd_Disk_sure : FuncData
  F_Disk_sure : Fun K "sure" "Disk.sure" s_Disk_sure f_Disk_sure fd_Disk_sure
  f_Disk_move_head : Addr
  fd_Disk_move_head : FuncData
  F_Disk_move_head : Fun K "move_head" "Disk.move_head" s_Disk_move_head f_Disk_move_head fd_Disk_move_head
  f_Disk__put : Addr
  fd_Disk__put : FuncData
  F_Disk__put : Fun K "_put" "Disk._put" s_Disk__put f_Disk__put fd_Disk__put
  C_Plan : Addr
  mg_Plan : mg "Plan" = some (.ref C_Plan)
  cl_Plan : Cls K C_Plan
  na_Plan_blocks : NoAttr K C_Plan "blocks"
  na_Plan_nodes : NoAttr K C_Plan "nodes"
  na_Plan_slots : NoAttr K C_Plan "slots"
  na_Plan_maps : NoAttr K C_Plan "maps"
  na_Plan_first_node : NoAttr K C_Plan "first_node"
  na_Plan_first_data : NoAttr K C_Plan "first_data"
  mk_Plan : Mk K C_Plan f_Plan___init__
  mc_Plan : Value
  cr_Plan : ClX.CRead K C_Plan mc_Plan
  cv_Plan_WIDTH : ∃ u, ClX.CVal K C_Plan mc_Plan "WIDTH" (.int 8) u
  con_Plan_WIDTH : ∃ u, Con K C_Plan "WIDTH" (.int 8) u
  C_Disk : Addr
  mg_Disk : mg "Disk" = some (.ref C_Disk)
  cl_Disk : Cls K C_Disk
  na_Disk_plan : NoAttr K C_Disk "plan"
  na_Disk_home : NoAttr K C_Disk "home"
  na_Disk_log : NoAttr K C_Disk "log"
  na_Disk_head : NoAttr K C_Disk "head"
  na_Disk_last : NoAttr K C_Disk "last"
  na_Disk__pending : NoAttr K C_Disk "_pending"
  mk_Disk : Mk K C_Disk f_Disk___init__
  m_Disk_issue : Meth K C_Disk "issue" f_Disk_issue
  m_Disk_busy : Meth K C_Disk "busy" f_Disk_busy
  m_Disk_sure : Meth K C_Disk "sure" f_Disk_sure
  m_Disk_move_head : Meth K C_Disk "move_head" f_Disk_move_head
  m_Disk__put : Meth K C_Disk "_put" f_Disk__put
  c_LEAST_BLOCKS : ∃ t, mg "LEAST_BLOCKS" = some (.int 8 t)
  c_MOST_BLOCKS : ∃ t, mg "MOST_BLOCKS" = some (.int 64 t)
  c_LEAST_NODES : ∃ t, mg "LEAST_NODES" = some (.int 2 t)
  c_MOST_NODES : ∃ t, mg "MOST_NODES" = some (.int 16 t)
  c_MOST_SLOTS : ∃ t, mg "MOST_SLOTS" = some (.int 200 t)
  c_LEAST_DATA : ∃ t, mg "LEAST_DATA" = some (.int 2 t)
  c_FIRST_MAP : ∃ t, mg "FIRST_MAP" = some (.int 2 t)
  c_CELL_MOST : ∃ t, mg "CELL_MOST" = some (.int 999999999 t)
  c_BLOCK_MOST : ∃ t, mg "BLOCK_MOST" = some (.int 63 t)
  c_MOST_LOT : ∃ t, mg "MOST_LOT" = some (.int 999999 t)
  c_MOST_SLOT : ∃ t, mg "MOST_SLOT" = some (.int 199 t)
  c_MOST_HEAD : ∃ t, mg "MOST_HEAD" = some (.int 999999 t)
  c_NO_SLOT : ∃ t, mg "NO_SLOT" = some (.int (-1) t)
  b_abs : mg "abs" = none
  b_all : mg "all" = none
  b_any : mg "any" = none
  b_bool : mg "bool" = none
  b_enumerate : mg "enumerate" = none
  b_int : mg "int" = none
  b_isinstance : mg "isinstance" = none
  b_len : mg "len" = none
  b_list : mg "list" = none
  b_max : mg "max" = none
  b_range : mg "range" = none
  b_tuple : mg "tuple" = none
  b_zip : mg "zip" = none
/-- the defs that make generators: their tables -/
structure TBs {K : PySem.W.Frag} {mg : Str → Option Value} (T : Tx K mg) (base : Heap) : Prop where
  t_is_cell_row : LamX.TabB base mg T.cc_is_cell_row T.P_is_cell_row
  t_is_ascending : LamX.TabB base mg T.cc_is_ascending T.P_is_ascending
  t_are_pairs : LamX.TabB base mg T.cc_are_pairs T.P_are_pairs
  t_are_revokes : LamX.TabB base mg T.cc_are_revokes T.P_are_revokes
  t_fits_plan : LamX.TabB base mg T.cc_fits_plan T.P_fits_plan
  t_Disk_busy : LamX.TabB base mg T.cc_Disk_busy T.P_Disk_busy
def Tx.Ps {K : PySem.W.Frag} {mg : Str → Option Value} (T : Tx K mg) : List Addr := [T.P_is_cell_row, T.P_is_ascending, T.P_are_pairs, T.P_are_revokes, T.P_fits_plan, T.P_Disk_busy]
theorem Tx.in_is_cell_row {K : PySem.W.Frag} {mg : Str → Option Value} (T : Tx K mg) : T.P_is_cell_row ∈ T.Ps := by simp [Tx.Ps]
theorem Tx.in_is_ascending {K : PySem.W.Frag} {mg : Str → Option Value} (T : Tx K mg) : T.P_is_ascending ∈ T.Ps := by simp [Tx.Ps]
theorem Tx.in_are_pairs {K : PySem.W.Frag} {mg : Str → Option Value} (T : Tx K mg) : T.P_are_pairs ∈ T.Ps := by simp [Tx.Ps]
theorem Tx.in_are_revokes {K : PySem.W.Frag} {mg : Str → Option Value} (T : Tx K mg) : T.P_are_revokes ∈ T.Ps := by simp [Tx.Ps]
theorem Tx.in_fits_plan {K : PySem.W.Frag} {mg : Str → Option Value} (T : Tx K mg) : T.P_fits_plan ∈ T.Ps := by simp [Tx.Ps]
theorem Tx.in_Disk_busy {K : PySem.W.Frag} {mg : Str → Option Value} (T : Tx K mg) : T.P_Disk_busy ∈ T.Ps := by simp [Tx.Ps]

section
variable {P : Program} {w : World} {K : PySem.W.Frag} {mg : Str → Option Value} {base : Heap}
theorem b_is_number (T : Tx K mg) : Binds K T.fd_is_number ["value", "least", "most"] [] := T.F_is_number.binds (ps := ["value", "least", "most"]) fun _ _ _ _ _ _ us hl => match us, hl with | [_, _, _], _ => rfl
theorem b_is_cell (T : Tx K mg) : Binds K T.fd_is_cell ["value"] [] := T.F_is_cell.binds (ps := ["value"]) fun _ _ _ _ _ _ us hl => match us, hl with | [_], _ => rfl
theorem b_is_block (T : Tx K mg) : Binds K T.fd_is_block ["value"] [] := T.F_is_block.binds (ps := ["value"]) fun _ _ _ _ _ _ us hl => match us, hl with | [_], _ => rfl
theorem b_is_cell_row (T : Tx K mg) : Binds K T.fd_is_cell_row ["value"] [] := T.F_is_cell_row.binds (ps := ["value"]) fun _ _ _ _ _ _ us hl => match us, hl with | [_], _ => rfl
theorem b_is_ascending (T : Tx K mg) : Binds K T.fd_is_ascending ["numbers"] [] := T.F_is_ascending.binds (ps := ["numbers"]) fun _ _ _ _ _ _ us hl => match us, hl with | [_], _ => rfl
theorem b_is_pair (T : Tx K mg) : Binds K T.fd_is_pair ["value"] [] := T.F_is_pair.binds (ps := ["value"]) fun _ _ _ _ _ _ us hl => match us, hl with | [_], _ => rfl
theorem b_are_pairs (T : Tx K mg) : Binds K T.fd_are_pairs ["value"] [] := T.F_are_pairs.binds (ps := ["value"]) fun _ _ _ _ _ _ us hl => match us, hl with | [_], _ => rfl
theorem b_are_revokes (T : Tx K mg) : Binds K T.fd_are_revokes ["value"] [] := T.F_are_revokes.binds (ps := ["value"]) fun _ _ _ _ _ _ us hl => match us, hl with | [_], _ => rfl
theorem b_is_record (T : Tx K mg) : Binds K T.fd_is_record ["record"] [] := T.F_is_record.binds (ps := ["record"]) fun _ _ _ _ _ _ us hl => match us, hl with | [_], _ => rfl
theorem b_fits_plan (T : Tx K mg) : Binds K T.fd_fits_plan ["record", "plan"] [] := T.F_fits_plan.binds (ps := ["record", "plan"]) fun _ _ _ _ _ _ us hl => match us, hl with | [_, _], _ => rfl
theorem b_found_marks (T : Tx K mg) : Binds K T.fd_found_marks ["disk"] [] := T.F_found_marks.binds (ps := ["disk"]) fun _ _ _ _ _ _ us hl => match us, hl with | [_], _ => rfl
theorem b_is_place (T : Tx K mg) : Binds K T.fd_is_place ["plan", "place"] [] := T.F_is_place.binds (ps := ["plan", "place"]) fun _ _ _ _ _ _ us hl => match us, hl with | [_, _], _ => rfl
theorem b_is_content (T : Tx K mg) : Binds K T.fd_is_content ["plan", "place", "what"] [] := T.F_is_content.binds (ps := ["plan", "place", "what"]) fun _ _ _ _ _ _ us hl => match us, hl with | [_, _, _], _ => rfl
theorem b_Lfeed (T : Tx K mg) : Binds K T.fd_Lfeed ["_law_script"] [] := T.F_Lfeed.binds (ps := ["_law_script"]) fun _ _ _ _ _ _ us hl => match us, hl with | [_], _ => rfl
theorem b_Lpick (T : Tx K mg) : Binds K T.fd_Lpick ["_law_feed_here", "_law_limit"] [] := T.F_Lpick.binds (ps := ["_law_feed_here", "_law_limit"]) fun _ _ _ _ _ _ us hl => match us, hl with | [_, _], _ => rfl
theorem b_Lrecord (T : Tx K mg) : Binds K T.fd_Lrecord ["_law_feed_here", "_law_lot"] [] := T.F_Lrecord.binds (ps := ["_law_feed_here", "_law_lot"]) fun _ _ _ _ _ _ us hl => match us, hl with | [_, _], _ => rfl
theorem b_Ldue (T : Tx K mg) : Binds K T.fd_Ldue ["_law_log", "_law_head"] [] := T.F_Ldue.binds (ps := ["_law_log", "_law_head"]) fun _ _ _ _ _ _ us hl => match us, hl with | [_, _], _ => rfl
theorem b_Lsame (T : Tx K mg) : Binds K T.fd_Lsame ["_law_found", "_law_due_here"] [] := T.F_Lsame.binds (ps := ["_law_found", "_law_due_here"]) fun _ _ _ _ _ _ us hl => match us, hl with | [_, _], _ => rfl
theorem b_Lagrees (T : Tx K mg) : Binds K T.fd_Lagrees ["_law_disk", "_law_log", "_law_head"] [] := T.F_Lagrees.binds (ps := ["_law_disk", "_law_log", "_law_head"]) fun _ _ _ _ _ _ us hl => match us, hl with | [_, _, _], _ => rfl
theorem b_law (T : Tx K mg) : Binds K T.fd_law ["_law_script"] [] := T.F_law.binds (ps := ["_law_script"]) fun _ _ _ _ _ _ us hl => match us, hl with | [_], _ => rfl
theorem b_Disk___init__ (T : Tx K mg) : Binds K T.fd_Disk___init__ ["self", "plan"] [] := T.F_Disk___init__.binds (ps := ["self", "plan"]) fun _ _ _ _ _ _ us hl => match us, hl with | [_, _], _ => rfl
theorem b_Disk_issue (T : Tx K mg) : Binds K T.fd_Disk_issue ["self", "place", "what"] [] := T.F_Disk_issue.binds (ps := ["self", "place", "what"]) fun _ _ _ _ _ _ us hl => match us, hl with | [_, _, _], _ => rfl
theorem b_Disk_busy (T : Tx K mg) : Binds K T.fd_Disk_busy ["self", "place"] [] := T.F_Disk_busy.binds (ps := ["self", "place"]) fun _ _ _ _ _ _ us hl => match us, hl with | [_, _], _ => rfl
theorem b_Disk_sure (T : Tx K mg) : Binds K T.fd_Disk_sure ["self", "number"] [] := T.F_Disk_sure.binds (ps := ["self", "number"]) fun _ _ _ _ _ _ us hl => match us, hl with | [_, _], _ => rfl
theorem b_Disk_move_head (T : Tx K mg) : Binds K T.fd_Disk_move_head ["self", "p"] [] := T.F_Disk_move_head.binds (ps := ["self", "p"]) fun _ _ _ _ _ _ us hl => match us, hl with | [_, _], _ => rfl
theorem b_Disk__put (T : Tx K mg) : Binds K T.fd_Disk__put ["self", "place", "what"] [] := T.F_Disk__put.binds (ps := ["self", "place", "what"]) fun _ _ _ _ _ _ us hl => match us, hl with | [_, _, _], _ => rfl
end
end K45
namespace K45
open PySem PySem.Spec PyProof.Rows L2 Rg
section
variable {P : Program} {w : World} {K : PySem.W.Frag} {mg : Str → Option Value} {base : Heap}
/-! ### _law_pick -/
def sp_Lpick : Sp := fun vs H Q _ => ∃ (p : Addr) (fs : List Int) (lim : Int), vs = [.ref p, .int lim] ∧ H p = some (.lst (fs.map V.int)) ∧ 0 < lim ∧
  ∀ (r : Int) (fs' : List Int), 0 ≤ r → r < lim → fs'.length ≤ fs.length → Q (.int r) (upd H p (.lst (fs'.map V.int)))
theorem ok_Lpick (T : Tx K mg) : FnOk P w K mg base CX0 1 T.f_Lpick T.fd_Lpick ["_law_feed_here", "_law_limit"] sp_Lpick := by
  refine T.F_Lpick.ok sc_Lpick (fun vs H Q E h => ?_) (fun cdv A outer s H vs Q E hr h => ?_)
  · obtain ⟨p, fs, lim, rfl, _⟩ := h
    rfl
  · obtain ⟨p, fs, lim, rfl, hp, hl, k⟩ := h
    refine ⟨_, (pss_cons (ps_if (pt_cmpR op_eq (pe_callB call_len_seq rfl T.b_len (by decide +kernel) (pa_cons (pv 0) pa_nil)) pe_int (nomark _))
        (pss_one (ps_ret pe_int))
        pss_nil)
      (pss_one (ps_ret (pe_op op_mod (pe_callTy call_int1 rfl T.b_int (by decide +kernel) (pa_cons (pe_bm PySem.F.plainAttrs_list PySem.F.slot_list_pop PySem.F.type_list_pop mt_popAt (pv 0) (pa_cons pe_int pa_nil)) pa_nil)) (pv 1))))), ?_⟩
    refine ⟨_, rfl, p, fs.map V.int, rfl, .inl (.inl (.inl hp)), rfl, _, rfl, ite2 (fun e => ?_) (fun e => ?_)⟩
    · have := k 0 fs (Int.le_refl _) hl (Nat.le_refl _)
      rw [upd_id hp] at this
      exact this
    · cases fs with
      | nil => exact absurd (decide_eq_true rfl) e
      | cons x r =>
        refine ⟨.ref p, rfl, .inl ⟨rfl, _, .inl (.inl hp)⟩, p, _, 0, 0, .int x, rfl, rfl, hp, by decide, by decide, ?_, rfl, .inl ⟨x, rfl, ?_⟩⟩
        · rw [List.length_map]; simp [seqIndex?]
        · refine ⟨.int lim, rfl, _, _, rfl, rfl, hl, ?_⟩
          exact k _ r (Int.emod_nonneg _ (by omega)) (Int.emod_lt_of_pos _ hl) (by simp)

/-! ### _law_feed -/
def sp_Lfeed (K : PySem.W.Frag) : Sp := fun vs H Q _ => ∃ (a : Addr) (ns : List Int), vs = [.ref a] ∧ SqL K H a (ns.map V.int) ∧ ns.length ≤ 63 ∧
  ∀ (H' : Hp) (p : Addr) (fs : List Int), Same H H' → H p = none → H' p = some (.lst (fs.map V.int)) → fs.length ≤ 5000 → Q (.ref p) H'
theorem ok_Lfeed (T : Tx K mg) : FnOk P w K mg base CX0 1 T.f_Lfeed T.fd_Lfeed ["_law_script"] (sp_Lfeed K) := by
  refine T.F_Lfeed.ok sc_Lfeed (fun vs H Q E h => ?_) (fun cdv A outer s H vs Q E hr h => ?_)
  · obtain ⟨_, _, rfl, _⟩ := h; rfl
  · obtain ⟨a, ns, rfl, hS, hlen, k⟩ := h
    refine ⟨_, (pss_cons (ps_set (i := 1) sc_Lfeed.nd rfl (.inl rfl) (pe_lst pa_nil))
      (pss_cons (ps_for PassesOwn.never rfl (pi_list (pv 0)) (pg_name (i := 2) sc_Lfeed.nd rfl (.inl rfl))
        (pss_cons (ps_set (i := 3) sc_Lfeed.nd rfl (.inl rfl) (pe_callB call_abs rfl T.b_abs (by decide +kernel) (pa_cons (pv 2) pa_nil)))
        (Evl.pss_cut (ps_if (pt_cmpR op_lt (pv 3) (pe_op op_pow pe_int pe_int) (nomark _))
          (pss_cons (ps_set (i := 3) sc_Lfeed.nd rfl (.inl rfl) (pe_op op_mod (pe_callTy call_int1 rfl T.b_int (by decide +kernel) (pa_cons (pe_op op_add (pe_op op_mul (pv 3) pe_int) pe_int) pa_nil)) pe_int))
          (pss_cons (ps_expr (pe_bm PySem.F.plainAttrs_list PySem.F.slot_list_append PySem.F.type_list_append mt_append (pv 1) (pa_cons (pe_op op_mod (pe_callTy call_int1 rfl T.b_int (by decide +kernel) (pa_cons (pe_op op_add (pe_op op_mul (pv 3) pe_int) pe_int) pa_nil)) pe_int) pa_nil)))
          (pss_one (ps_set (i := 3) sc_Lfeed.nd rfl (.inl rfl) pe_int))))
          pss_nil)
        (pss_one (ps_for PassesOwn.never rfl (pi_range1 rfl T.b_range (pa_cons pe_int pa_nil)) (pg_name (i := 4) sc_Lfeed.nd rfl (.inl rfl))
          (pss_one (ps_if (pt_cmpR op_gt (pv 3) pe_int (nomark _))
            (pss_cons (ps_expr (pe_bm PySem.F.plainAttrs_list PySem.F.slot_list_append PySem.F.type_list_append mt_append (pv 1) (pa_cons (pe_op op_mod (pe_callTy call_int1 rfl T.b_int (by decide +kernel) (pa_cons (pv 3) pa_nil)) pe_int) pa_nil)))
            (pss_one (ps_set (i := 3) sc_Lfeed.nd rfl (.inl rfl) (pe_op op_fdiv (pv 3) pe_int))))
            pss_nil)))))))
      (pss_one (ps_ret (pv 1))))), ?_⟩
    refine ⟨Nat.zero_le _, fun p np => ?_⟩
    have s0 : Same H (upd H p (.lst [])) := same_upd np
    have npa : ∀ H2, SqL K H2 a (ns.map V.int) → True := fun _ _ => trivial
    refine ⟨_, rfl, a, rfl, ⟨_, s0.seq hS⟩, for_list (K := K) (a := a) (xs := ns.map V.int) (fun i σ H2 => ∃ (fs : List Int) (v2 v3 v4 : Option V), σ = [some (.ref a), some (.ref p), v2, v3, v4] ∧ H2 = upd H p (.lst (fs.map V.int)) ∧ fs.length ≤ 61 * i)
      ⟨[], none, none, none, rfl, rfl, Nat.zero_le _⟩ (fun i σ H2 _ ⟨_, _, _, _, _, e, _⟩ => by rw [e]; exact (same_upd np).seq hS) ?_ ?_⟩
    · rintro i y σ H2 hi ⟨fs, v2, v3, v4, rfl, rfl, hl⟩
      have hil : i < 63 := by
        have := (List.getElem?_eq_some_iff.mp hi).1
        rw [List.length_map] at this
        omega
      obtain ⟨z, rfl⟩ : ∃ z, y = V.int z := by
        rw [List.getElem?_map] at hi
        cases e : ns[i]? with
        | none => rw [e] at hi; cases hi
        | some z => rw [e] at hi; exact ⟨z, (Option.some.inj hi).symm⟩
      refine ⟨_, rfl, z, rfl, ?_⟩
      refine ⟨fun σ' H' => ∃ (fs : List Int) (R : Int) (v4 : Option V), σ' = [some (.ref a), some (.ref p), some (.int z), some (.int R), v4] ∧ H' = upd H p (.lst (fs.map V.int)) ∧ 0 ≤ R ∧ fs.length ≤ 61 * i + 1, ?_, ?_⟩
      · have hz : 0 ≤ (if z < 0 then -z else z) := by split <;> omega
        refine ⟨_, rfl, _, _, rfl, rfl, ⟨by decide, by decide, by decide⟩, _, _, rfl, rfl, _, rfl, ite2 (fun e => ?_) (fun e => ?_)⟩
        · have e1 : (if z < 0 then -z else z) < 10 ^ 18 := of_decide_eq_true e
          refine ⟨_, rfl, _, _, rfl, rfl, .inl ⟨by omega, by omega⟩, _, _, rfl, rfl, .inl ⟨_, rfl, _, _, rfl, rfl, (by show (0 : Int) < _; decide), ?_⟩⟩
          refine ⟨.ref p, rfl, .inl ⟨rfl, _, .inl (.inl upd_same)⟩, _, rfl, _, _, rfl, rfl, .inr ⟨by decide, by decide⟩, _, _, rfl, rfl, .inl ⟨_, rfl, _, _, rfl, rfl, (by show (0 : Int) < _; decide), p, _, _, rfl, rfl, upd_same, ?_, ?_⟩⟩
          · rw [List.length_map]; exact Nat.lt_of_lt_of_le (Nat.lt_succ_of_le hl) (by unfold sizeLine; omega)
          · exact ⟨fs ++ [_], 0, v4, rfl, upd_app, Int.le_refl _, by rw [List.length_append]; simp; omega⟩
        · exact ⟨fs, _, v4, rfl, rfl, hz, by omega⟩
      · rintro σ' H' ⟨fs, R, v4, rfl, rfl, hR, hl⟩
        refine ⟨60, rfl, by decide, by decide, for_range (lo := 0) (n := 60) (fun j σ' H' => ∃ (fs : List Int) (R : Int) (v4 : Option V), σ' = [some (.ref a), some (.ref p), some (.int z), some (.int R), v4] ∧ H' = upd H p (.lst (fs.map V.int)) ∧ 0 ≤ R ∧ fs.length ≤ 61 * i + 1 + j)
          ⟨fs, R, v4, rfl, rfl, hR, hl⟩ ?_ ?_⟩
        · rintro j σ' H' hj ⟨fs, R, v4, rfl, rfl, hR, hl⟩
          refine ⟨_, rfl, _, _, rfl, rfl, _, rfl, ite2 (fun e => ?_) (fun e => ?_)⟩
          · refine ⟨.ref p, rfl, .inl ⟨rfl, _, .inl (.inl upd_same)⟩, _, rfl, .inl ⟨_, rfl, _, _, rfl, rfl, (by show (0 : Int) < _; decide), p, _, _, rfl, rfl, upd_same, ?_, ?_⟩⟩
            · rw [List.length_map]; exact Nat.lt_of_lt_of_le (Nat.lt_succ_of_le hl) (by unfold sizeLine; omega)
            · refine ⟨_, rfl, _, _, rfl, rfl, ⟨by decide, by decide⟩, fs ++ [_], _, _, rfl, upd_app, Int.ediv_nonneg hR (by decide), by rw [List.length_append]; simp; omega⟩
          · exact ⟨fs, R, _, rfl, rfl, hR, by omega⟩
        · rintro σ' H' ⟨fs, R, v4, rfl, rfl, hR, hl⟩
          exact ⟨fs, _, _, _, rfl, rfl, by omega⟩
    · rintro σ H2 ⟨fs, v2, v3, v4, rfl, rfl, hl⟩
      rw [List.length_map] at hl
      exact ⟨_, rfl, k _ p fs (same_upd np) np upd_same (by omega)⟩
end
end K45
namespace K45
open PySem PySem.Spec PyProof.Rows L2 Rg
section
variable {P : Program} {w : World} {K : PySem.W.Frag} {mg : Str → Option Value} {base : Heap}
/-! ### plans -/
def planF (b n s : Int) : List (Str × V) := [("blocks", .int b), ("nodes", .int n), ("slots", .int s), ("maps", .int ((b + 8 - 1) / 8)), ("first_node", .int (2 + (b + 8 - 1) / 8)), ("first_data", .int (2 + (b + 8 - 1) / 8 + n))]
structure PlanAt (C : Addr) (H : Hp) (p : Addr) (b n s : Int) : Prop where
  ob : ∃ dx, H p = some (.ins C dx (planF b n s))
  b1 : 8 ≤ b
  b2 : b ≤ 64
  n1 : 2 ≤ n
  n2 : n ≤ 16
  s1 : b < s
  s2 : s ≤ 200
  d : 2 ≤ b - (2 + (b + 8 - 1) / 8 + n)
theorem PlanAt.same {C : Addr} {H H' : Hp} {p : Addr} {b n s : Int} (e : Same H H') (h : PlanAt C H p b n s) : PlanAt C H' p b n s :=
  let ⟨dx, z⟩ := h.ob
  ⟨⟨dx, e _ _ z⟩, h.b1, h.b2, h.n1, h.n2, h.s1, h.s2, h.d⟩
theorem PlanAt.of {C : Addr} {H H' : Hp} {p : Addr} {b n s : Int} (h : PlanAt C H p b n s) (e : ∀ o, H p = some o → H' p = some o) : PlanAt C H' p b n s :=
  let ⟨dx, z⟩ := h.ob
  ⟨⟨dx, e _ z⟩, h.b1, h.b2, h.n1, h.n2, h.s1, h.s2, h.d⟩
def sp_Plan_init (C : Addr) : Sp := fun vs H Q _ => ∃ (p dx : Addr) (b n s : Int), vs = [.ref p, .int b, .int n, .int s] ∧ H p = some (.ins C dx []) ∧ 8 ≤ b ∧ b ≤ 64 ∧ 2 ≤ n ∧ n ≤ 16 ∧ b < s ∧ s ≤ 200 ∧ 2 ≤ b - (2 + (b + 8 - 1) / 8 + n) ∧
  Q .non (upd H p (.ins C dx (planF b n s)))
theorem ok_Plan_init (T : Tx K mg) : FnOk P w K mg base CX0 1 T.f_Plan___init__ T.fd_Plan___init__ ["self", "blocks", "nodes", "slots"] (sp_Plan_init T.C_Plan) := by
  refine T.F_Plan___init__.ok sc_Plan___init__ (fun vs H Q E h => ?_) (fun cdv A outer s H vs Q E hr h => ?_)
  · obtain ⟨_, _, _, _, _, rfl, _⟩ := h; rfl
  · obtain ⟨p, dx, b, n, sl, rfl, hp, h1, h2, h3, h4, h5, h6, h7, k⟩ := h
    refine ⟨_, (pss_cons (ps_if (pt_not (pt_chain op_le op_le (pe_gc T.c_LEAST_BLOCKS) (pv 1) (pe_gc T.c_MOST_BLOCKS)))
        (pss_one ps_never)
        pss_nil)
      (pss_cons (ps_if (pt_not (pt_chain op_le op_le (pe_gc T.c_LEAST_NODES) (pv 2) (pe_gc T.c_MOST_NODES)))
        (pss_one ps_never)
        pss_nil)
      (pss_cons (ps_if (pt_not (pt_chain op_lt op_le (pv 1) (pv 3) (pe_gc T.c_MOST_SLOTS)))
        (pss_one ps_never)
        pss_nil)
      (pss_cons (ps_fld (pv 0) (pv 1) rfl)
      (pss_cons (ps_fld (pv 0) (pv 2) rfl)
      (pss_cons (ps_fld (pv 0) (pv 3) rfl)
      (pss_cons (ps_fld (pv 0) (pe_op op_fdiv (pe_op op_sub (pe_op op_add (pv 1) (pe_con (pv 0) rfl)) pe_int) (pe_con (pv 0) rfl)) rfl)
      (pss_cons (ps_fld (pv 0) (pe_op op_add (pe_gc T.c_FIRST_MAP) (pe_fld (pv 0) rfl)) rfl)
      (pss_cons (ps_fld (pv 0) (pe_op op_add (pe_fld (pv 0) rfl) (pv 2)) rfl)
      (pss_one (ps_if (pt_cmpR op_lt (pe_op op_sub (pv 1) (pe_fld (pv 0) rfl)) (pe_gc T.c_LEAST_DATA) (nomark _))
        (pss_one ps_never)
        pss_nil))))))))))), ?_⟩
    obtain ⟨uW, cW⟩ := T.con_Plan_WIDTH
    refine ⟨_, rfl, _, _, rfl, rfl, _, rfl, ?_⟩
    rw [decide_eq_true h1]
    refine iteT ⟨_, _, rfl, rfl, _, rfl, ?_⟩
    rw [decide_eq_true h2]
    refine iteF ⟨_, rfl, _, _, rfl, rfl, _, rfl, ?_⟩
    rw [decide_eq_true h3]
    refine iteT ⟨_, _, rfl, rfl, _, rfl, ?_⟩
    rw [decide_eq_true h4]
    refine iteF ⟨_, rfl, _, rfl, _, _, rfl, rfl, _, rfl, ?_⟩
    rw [decide_eq_true h5]
    refine iteT ⟨_, _, rfl, rfl, _, rfl, ?_⟩
    rw [decide_eq_true h6]
    refine iteF ⟨_, rfl, _, rfl, p, _, dx, _, rfl, hp, T.cl_Plan, T.na_Plan_blocks, (by show 0 < 1000; decide), ?_⟩
    refine ⟨_, rfl, _, rfl, p, _, dx, _, rfl, upd_same, T.cl_Plan, T.na_Plan_nodes, (by show 1 < 1000; decide), ?_⟩
    refine ⟨_, rfl, _, rfl, p, _, dx, _, rfl, upd_same, T.cl_Plan, T.na_Plan_slots, (by show 2 < 1000; decide), ?_⟩
    refine ⟨_, rfl, _, rfl, p, _, dx, _, _, _, rfl, upd_same, T.cl_Plan, cW, rfl, _, _, rfl, rfl, _, _, rfl, rfl, _, rfl, p, _, dx, _, _, _, rfl, upd_same, T.cl_Plan, cW, rfl, _, _, rfl, rfl, ⟨by decide, by decide⟩, ?_⟩
    refine ⟨_, rfl, p, _, dx, _, rfl, upd_same, T.cl_Plan, T.na_Plan_maps, (by show 3 < 1000; decide), ?_⟩
    refine ⟨_, rfl, p, _, dx, _, _, rfl, upd_same, T.cl_Plan, T.na_Plan_maps, rfl, _, _, rfl, rfl, _, rfl, p, _, dx, _, rfl, upd_same, T.cl_Plan, T.na_Plan_first_node, (by show 4 < 1000; decide), ?_⟩
    refine ⟨_, rfl, p, _, dx, _, _, rfl, upd_same, T.cl_Plan, T.na_Plan_first_node, rfl, _, rfl, _, _, rfl, rfl, _, rfl, p, _, dx, _, rfl, upd_same, T.cl_Plan, T.na_Plan_first_data, (by show 5 < 1000; decide), ?_⟩
    refine ⟨_, rfl, _, rfl, p, _, dx, _, _, rfl, upd_same, T.cl_Plan, T.na_Plan_first_data, rfl, _, _, rfl, rfl, _, _, rfl, rfl, _, rfl, ?_⟩
    rw [decide_eq_false (by omega)]
    refine iteF ?_
    rw [upd_upd, upd_upd, upd_upd, upd_upd, upd_upd]
    exact k
/-- the call Plan(b, nodes=n, slots=s) -/
theorem kb_Plan (T : Tx K mg) : KBn K T.fd_Plan___init__ ["self", "blocks", "nodes", "slots"] 2 ["nodes", "slots"] (fun us ws => us ++ ws) (fun us ws => us ++ ws) := by
  obtain ⟨oc, od, kV, doc, pm, an, cdv, ct, osl, e, lk, hcd⟩ := T.F_Plan___init__.ex
  refine ⟨fun s us ws _ l1 l2 => ?_, fun r1 r2 => r1.append r2⟩
  rw [e]
  match us, ws, l1, l2 with
  | [_, _], [_, _], _, _ => exact .of_eq rfl
end
end K45
namespace K45
open PySem PySem.Spec PyProof.Rows L2 Rg
/-! ### records -/
inductive Rec where
  | copy (lot x : Int) (c : List Int)
  | mark (lot : Int) (ps : List (Int × Int)) (rs : List Int)
def Rec.lot : Rec → Int
  | .copy l _ _ => l
  | .mark l _ _ => l
/-- eight cells -/
structure Cells (c : List Int) : Prop where
  len : c.length = 8
  ok : ∀ i ∈ c, 0 ≤ i ∧ i ≤ 999999999
def Asc (l : List Int) : Prop := ∀ i x y, l[i]? = some x → l[i + 1]? = some y → x < y
/-- a record that fits a plan of b blocks and s slots -/
def Fit (b s : Int) : Rec → Prop
  | .copy l x c => 1 ≤ l ∧ l ≤ 999999 ∧ 0 ≤ x ∧ x ≤ 63 ∧ x < b ∧ Cells c
  | .mark l ps rs => 1 ≤ l ∧ l ≤ 999999 ∧ ps.length ≤ 64 ∧ rs.length ≤ 64 ∧ (∀ p ∈ ps, 0 ≤ p.1 ∧ p.1 ≤ 63 ∧ p.1 < b ∧ -1 ≤ p.2 ∧ p.2 ≤ 199 ∧ p.2 < s) ∧ Asc (ps.map (·.1)) ∧ (∀ r ∈ rs, 0 ≤ r ∧ r ≤ 63 ∧ r < b) ∧ Asc rs
/-- pairs stand at pp -/
def PairsAt (K : PySem.W.Frag) (H : Hp) (pp : Addr) (ps : List (Int × Int)) : Prop :=
  ∃ qs : List Addr, SqT K H pp (qs.map V.ref) ∧ qs.length = ps.length ∧ ∀ (i : Nat) (q : Addr) (p : Int × Int), qs[i]? = some q → ps[i]? = some p → SqT K H q [.int p.1, .int p.2]
def RecAt (K : PySem.W.Frag) (H : Hp) (a : Addr) : Rec → Prop
  | .copy l x c => ∃ pc, SqT K H a [.str "copy", .int l, .int x, .ref pc] ∧ SqT K H pc (c.map V.int)
  | .mark l ps rs => ∃ pp pr, SqT K H a [.str "mark", .int l, .ref pp, .ref pr] ∧ PairsAt K H pp ps ∧ SqT K H pr (rs.map V.int)
section
variable {K : PySem.W.Frag} {Ps : List Addr} {H H1 : Hp} {a : Addr} {r : Rec}
theorem PairsAt.by {pp : Addr} {ps : List (Int × Int)} (h : PairsAt K H pp ps) (f : ∀ b xs, SqT K H b xs → SqT K H1 b xs) : PairsAt K H1 pp ps := by
  obtain ⟨qs, h1, h2, h3⟩ := h
  exact ⟨qs, f _ _ h1, h2, fun i q p e1 e2 => f _ _ (h3 i q p e1 e2)⟩
theorem RecAt.by (h : RecAt K H a r) (f : ∀ b xs, SqT K H b xs → SqT K H1 b xs) : RecAt K H1 a r := by
  cases r with
  | copy l x c => obtain ⟨pc, h1, h2⟩ := h; exact ⟨pc, f _ _ h1, f _ _ h2⟩
  | mark l ps rs => obtain ⟨pp, pr, h1, h2, h3⟩ := h; exact ⟨pp, pr, f _ _ h1, h2.by f, f _ _ h3⟩
theorem RecAt.same (h : RecAt K H a r) (e : Same H H1) : RecAt K H1 a r := h.by fun _ _ => sameT e
theorem RecAt.tk (h : RecAt K H a r) (t : Tab Ps H) (k : Tk Ps H H1) : RecAt K H1 a r := h.by fun _ _ => k.seqT t
theorem PairsAt.tk {pp : Addr} {ps : List (Int × Int)} (h : PairsAt K H pp ps) (t : Tab Ps H) (k : Tk Ps H H1) : PairsAt K H1 pp ps := h.by fun _ _ => k.seqT t
end
section
variable {P : Program} {w : World} {K : PySem.W.Frag} {mg : Str → Option Value} {base : Heap}
def sp_is_number : Sp := fun vs H Q _ => ∃ i lo hi : Int, vs = [.int i, .int lo, .int hi] ∧ Q (.bl (decide (lo ≤ i ∧ i ≤ hi))) H
theorem ok_is_number (T : Tx K mg) : FnOk P w K mg base CX0 1 T.f_is_number T.fd_is_number ["value", "least", "most"] sp_is_number := by
  refine T.F_is_number.ok sc_is_number (fun vs H Q E h => ?_) (fun cdv A outer s H vs Q E hr h => ?_)
  · obtain ⟨_, _, _, rfl, _⟩ := h; rfl
  · obtain ⟨i, lo, hi, rfl, k⟩ := h
    refine ⟨_, (pss_one (ps_ret (pe_and (pe_callB call_isi rfl T.b_isinstance (by decide +kernel) (pa_cons (pv 0) (pa_cons (pe_bltn (v := .ty "int") rfl T.b_int (by decide +kernel) rfl) pa_nil))) (pe_and (pe_not (pe_callB call_isi rfl T.b_isinstance (by decide +kernel) (pa_cons (pv 0) (pa_cons (pe_bltn (v := .ty "bool") rfl T.b_bool (by decide +kernel) rfl) pa_nil)))) (pe_one (pe_chain op_le op_le (pv 1) (pv 0) (pv 2))))))), ?_⟩
    refine ⟨_, rfl, _, _, _, _, true, rfl, .ty _, .base (.int _), kit_ty (by decide +kernel), _, rfl, iteT ⟨_, rfl, _, _, _, _, false, rfl, .ty _, .base (.int _), kit_ty (by decide +kernel), _, rfl, _, rfl, iteT ⟨_, rfl, _, rfl, _, _, rfl, rfl, _, rfl, ite2 (fun h1 => ?_) fun h1 => ?_⟩⟩⟩
    · have h1 := of_decide_eq_true h1
      refine ⟨_, rfl, _, _, rfl, rfl, ?_⟩
      rw [show decide (lo ≤ i ∧ i ≤ hi) = decide (i ≤ hi) by simp [h1]] at k
      exact k
    · have h1 : ¬ lo ≤ i := fun z => h1 (decide_eq_true z)
      rw [show decide (lo ≤ i ∧ i ≤ hi) = false by simp [h1]] at k
      exact k
def sp_is_in (lo hi : Int) : Sp := fun vs H Q _ => ∃ i : Int, vs = [.int i] ∧ Q (.bl (decide (lo ≤ i ∧ i ≤ hi))) H
theorem ok_is_cell (T : Tx K mg) : FnOk P w K mg base CX0 2 T.f_is_cell T.fd_is_cell ["value"] (sp_is_in 0 999999999) := by
  refine T.F_is_cell.ok sc_is_cell (fun vs H Q E h => ?_) (fun cdv A outer s H vs Q E hr h => ?_)
  · obtain ⟨_, rfl, _⟩ := h; rfl
  · obtain ⟨i, rfl, k⟩ := h
    refine ⟨_, (pss_one (ps_ret (pe_call (ok_is_number T) hr rfl T.mg_is_number T.F_is_number.kp (b_is_number T) .nil pass0 (pa_cons (pv 0) (pa_cons pe_int (pa_cons (pe_gc T.c_CELL_MOST) pa_nil)))))), ?_⟩
    exact ⟨_, rfl, i, 0, 999999999, rfl, k⟩
theorem ok_is_block (T : Tx K mg) : FnOk P w K mg base CX0 2 T.f_is_block T.fd_is_block ["value"] (sp_is_in 0 63) := by
  refine T.F_is_block.ok sc_is_block (fun vs H Q E h => ?_) (fun cdv A outer s H vs Q E hr h => ?_)
  · obtain ⟨_, rfl, _⟩ := h; rfl
  · obtain ⟨i, rfl, k⟩ := h
    refine ⟨_, (pss_one (ps_ret (pe_call (ok_is_number T) hr rfl T.mg_is_number T.F_is_number.kp (b_is_number T) .nil pass0 (pa_cons (pv 0) (pa_cons pe_int (pa_cons (pe_gc T.c_BLOCK_MOST) pa_nil)))))), ?_⟩
    exact ⟨_, rfl, i, 0, 63, rfl, k⟩
def sp_is_cell_row (K : PySem.W.Frag) (Ps : List Addr) : Sp := fun vs H Q _ => ∃ (a : Addr) (c : List Int), vs = [.ref a] ∧ SqT K H a (c.map V.int) ∧ Cells c ∧ Tab Ps H ∧ ∀ H', Tk Ps H H' → Q (.bl true) H'
theorem ok_is_cell_row (T : Tx K mg) (B : TBs T base) : FnOk P w K mg base CX0 6 T.f_is_cell_row T.fd_is_cell_row ["value"] (sp_is_cell_row K T.Ps) := by
  refine fun_okC T.F_is_cell_row T.code_is_cell_row sc_is_cell_row (fun vs H Q E h => ?_) (fun A outer s H vs Q E hr h => ?_)
  · obtain ⟨_, _, rfl, _⟩ := h; rfl
  · obtain ⟨a, c, rfl, hS, hc, ht, k⟩ := h
    refine ⟨_, (pss_one (ps_ret (pe_and (pe_callB call_isiT rfl T.b_isinstance (by decide +kernel) (pa_cons (pv 0) (pa_cons (pe_tup (pa_cons (pe_bltn (v := .ty "list") rfl T.b_list (by decide +kernel) rfl) (pa_cons (pe_bltn (v := .ty "tuple") rfl T.b_tuple (by decide +kernel) rfl) pa_nil))) pa_nil))) (pe_and (pe_cmpR op_eq (pe_callB call_len_seq rfl T.b_len (by decide +kernel) (pa_cons (pv 0) pa_nil)) (pe_cv T.mg_Plan T.cr_Plan T.cv_Plan_WIDTH) (nomark _)) (pe_one (GxL.pe_allG (k := 2) (own := [("cell", 1)]) (g := gName 1) (tt := tYes) hr rfl T.b_all B.t_is_cell_row rfl (GxL.gsc_by (by decide +kernel)) (blkOk_by (N := ["value", "cell"]) (sc := defScope s_is_cell_row) (by decide +kernel)) sc_is_cell_row.nd (pi_tup (pv 0)) (fun _ _ _ _ _ => pg_name (i := 1) sc_is_cell_row.nd rfl (Or.inl rfl)) (fun _ _ _ _ _ _ => pts_nil) (fun _ _ _ _ _ hr2 => pe_call (ok_is_cell T) hr2 rfl T.mg_is_cell T.F_is_cell.kp (b_is_cell T) .nil pass0 (pa_cons (pv 1) pa_nil)))))))), ?_⟩
    refine ⟨_, rfl, (by show 2 ≤ sizeLine; decide), fun t nt => ?_⟩
    have st := same_upd (o := .tup [.ty "list", .ty "tuple"]) nt
    have e0 := upd_same (H := H) (a := t) (o := .tup [.ty "list", .ty "tuple"])
    have t0 := Tk.of ht st
    generalize upd H t (.tup [.ty "list", .ty "tuple"]) = H1 at st e0 t0 ⊢
    have hS1 := sameT st hS
    refine ⟨_, t, _, _, _, true, rfl, e0, .cons (.ty _) (.cons (.ty _) .nil), tyT hS1, kitAny_cons (b := false) (kit_ty (by decide +kernel)) (fun _ => kitAny_cons (b := true) (kit_ty (by decide +kernel)) (fun z => by cases z) (fun _ => rfl)) (fun z => by cases z), _, rfl, iteT ?_⟩
    refine ⟨_, rfl, a, _, rfl, .inr hS1, rfl, _, rfl, ?_⟩
    rw [List.length_map, hc.len, dec_iv, decide_eq_true (by decide)]
    refine iteT ⟨_, rfl, a, rfl, ⟨_, hS1⟩, t0.tab _ T.in_is_cell_row, fun H2 hT => gx_tup (K := K) (a := a) (xs := c.map V.int) (fun i H3 => Tk T.Ps H1 H3) (Tk.tabbed t0.tab T.in_is_cell_row hT) (fun i H3 _ kk => kk.seqT t0.tab hS1) (fun i y H3 hi kk => ?_) fun H3 kk => k H3 (t0.trans kk)⟩
    rw [List.getElem?_map] at hi
    obtain ⟨x, hx, rfl⟩ := Option.map_eq_some_iff.mp hi
    have hb := hc.ok x (List.mem_of_getElem? hx)
    refine ⟨rfl, yes_ ⟨_, rfl, x, rfl, _, rfl, ?_⟩⟩
    rw [decide_eq_true (show 0 ≤ x ∧ x ≤ 999999999 from hb), if_pos rfl]
    exact kk
end
end K45
namespace K45
open PySem PySem.Spec PyProof.Rows L2 Rg
theorem cut1 (xs : List V) : cutV xs (some (1 : Int)) none = xs.drop 1 := by
  unfold cutV
  rw [HT.sIx_none]
  have e : HT.sIx xs.length 0 (some (1 : Int)) = min 1 xs.length := HT.sIx_nat _ _ 1
  rw [e]
  rcases xs with _ | ⟨x, r⟩
  · rfl
  · show ((x :: r).drop (min 1 (r.length + 1))).take (r.length + 1 - min 1 (r.length + 1)) = r
    rw [Nat.min_eq_left (by omega)]
    show r.take (r.length + 1 - 1) = r
    rw [Nat.add_sub_cancel, List.take_length]
section
variable {P : Program} {w : World} {K : PySem.W.Frag} {mg : Str → Option Value} {base : Heap}
def sp_is_ascending (K : PySem.W.Frag) (Ps : List Addr) : Sp := fun vs H Q _ => ∃ (a : Addr) (l : List Int), vs = [.ref a] ∧ (SqL K H a (l.map V.int) ∨ SqT K H a (l.map V.int)) ∧ Asc l ∧ Tab Ps H ∧ ∀ H', Tk Ps H H' → Q (.bl true) H'
theorem ok_is_ascending (T : Tx K mg) (B : TBs T base) : FnOk P w K mg base CX0 4 T.f_is_ascending T.fd_is_ascending ["numbers"] (sp_is_ascending K T.Ps) := by
  refine fun_okC T.F_is_ascending T.code_is_ascending sc_is_ascending (fun vs H Q E h => ?_) (fun A outer s H vs Q E hr h => ?_)
  · obtain ⟨_, _, rfl, _⟩ := h; rfl
  · obtain ⟨a, l, rfl, hS, hc, ht, k⟩ := h
    refine ⟨_, (pss_one (ps_ret (GxL.pe_allG (k := 0) (own := [("low", 1), ("high", 2)]) (g := _) (tt := tYes) hr rfl T.b_all B.t_is_ascending rfl (GxL.gsc_by (by decide +kernel)) (blkOk_by (N := ["numbers", "low", "high"]) (sc := defScope s_is_ascending) (by decide +kernel)) sc_is_ascending.nd (RZ.pi_zipA rfl T.b_zip (pa_cons (pv 0) (pa_cons (pe_slice (SlR.or sl_list (SlR.or sl_tup sl_tupA)) (pv 0) (po_some pe_int) po_none) pa_nil)))
      (fun _ _ _ _ _ => pg_tupK (K := K) (n := 2) rfl (pgs_cons (pg_name (i := 1) sc_is_ascending.nd rfl (.inl rfl)) (pgs_cons (pg_name (i := 2) sc_is_ascending.nd rfl (.inl rfl)) pgs_nil))) (fun _ _ _ _ _ _ => pts_nil) (fun _ _ _ _ _ _ => pe_cmpR op_lt (pv 1) (pv 2) (nomark _))))), ?_⟩
    -- a turn
    have turn : ∀ (H1 H3 : Hp) (i : Nat) (x y : V) (q : Addr), Tk T.Ps H1 H3 → (l.map V.int)[i]? = some x → ((l.map V.int).drop 1)[i]? = some y → H3 q = none →
        ∃ u v : Int, x = .int u ∧ y = .int v ∧ u < v ∧ Tk T.Ps H1 (upd H3 q (.tup [x, y])) := fun H1 H3 i x y q kk hx hy hq => by
      rw [List.getElem?_map] at hx
      rw [List.getElem?_drop, List.getElem?_map, Nat.add_comm] at hy
      obtain ⟨u, hu, rfl⟩ := Option.map_eq_some_iff.mp hx
      obtain ⟨v, hv, rfl⟩ := Option.map_eq_some_iff.mp hy
      exact ⟨u, v, rfl, rfl, hc i u v hu hv, kk.new hq⟩
    rcases hS with hS | hS
    · refine ⟨_, rfl, _, rfl, _, rfl, .inl ⟨a, _, rfl, hS, fun p np => ?_⟩⟩
      rw [cut1]
      have st := same_upd (o := .lst ((l.map V.int).drop 1)) np
      have e0 := upd_same (H := H) (a := p) (o := .lst ((l.map V.int).drop 1))
      have t0 := Tk.of ht st
      generalize upd H p (.lst ((l.map V.int).drop 1)) = H1 at st e0 t0 ⊢
      have hS1 := st.seq hS
      refine ⟨a, p, _, _, rfl, .inl ⟨hS1, .of e0, t0.tab _ T.in_is_ascending, fun H2 hT => gx_zipL (K := K) (a := a) (b := p) (xs := l.map V.int) (ys := (l.map V.int).drop 1) (by rw [List.length_drop]; omega) (fun i H3 => Tk T.Ps H1 H3) (Tk.tabbed t0.tab T.in_is_ascending hT)
        (fun i H3 kk => ⟨kk.seqL t0.tab hS1, kk.seqL t0.tab (.of e0)⟩) (fun i x y q H3 hx hy kk hq => ?_) fun H3 kk => k H3 (t0.trans kk)⟩⟩
      obtain ⟨u, v, rfl, rfl, hlt, k2⟩ := turn H1 H3 i x y q kk hx hy hq
      refine ⟨q, _, rfl, .of upd_same, rfl, _, _, rfl, _, _, rfl, rfl, rfl, yes_ ⟨_, rfl, _, rfl, _, _, rfl, rfl, _, rfl, ?_⟩⟩
      rw [decide_eq_true hlt, if_pos rfl]
      exact k2
    · have walk : ∀ (p : Addr) (H1 : Hp), Tk T.Ps H H1 → SqT K H1 a (l.map V.int) → SqT K H1 p ((l.map V.int).drop 1) → ∀ σ : L2.St, σ = [some (.ref a), none, none] →
          GxR.TabG H1 T.P_is_ascending ∧ ∀ H2, GxR.Tabbed T.P_is_ascending H1 H2 → ∃ W : Nat → Nat → Hp → Prop, (∃ m, W 0 m H2) ∧ GxL.GTurn true (RZ.ItzT K a p) (gTup K 2 (gCons (gName 1) (gCons (gName 2) gNil))) tYes (tOp (rI0 fun i j => .bl (decide (i < j))) (tVar 1) (tVar 2)) [1, 2] σ Q W := by
        intro p H1 t0 hS1 e0 σ hσ
        subst hσ
        refine ⟨t0.tab _ T.in_is_ascending, fun H2 hT => gx_zipT (K := K) (a := a) (b := p) (xs := l.map V.int) (ys := (l.map V.int).drop 1) (by rw [List.length_drop]; omega) (fun i H3 => Tk T.Ps H1 H3) (Tk.tabbed t0.tab T.in_is_ascending hT)
          (fun i H3 kk => ⟨kk.seqT t0.tab hS1, kk.seqT t0.tab e0⟩) (fun i x y q H3 hx hy kk hq => ?_) fun H3 kk => k H3 (t0.trans kk)⟩
        obtain ⟨u, v, rfl, rfl, hlt, k2⟩ := turn H1 H3 i x y q kk hx hy hq
        refine ⟨q, _, rfl, .of upd_same, rfl, _, _, rfl, _, _, rfl, rfl, rfl, yes_ ⟨_, rfl, _, rfl, _, _, rfl, rfl, _, rfl, ?_⟩⟩
        rw [decide_eq_true hlt, if_pos rfl]
        exact k2
      by_cases hl : l = []
      · subst hl
        refine ⟨_, rfl, _, rfl, _, rfl, .inr (.inr ⟨a, _, rfl, hS, rfl, rfl, ?_⟩)⟩
        exact ⟨a, a, _, _, rfl, .inr ⟨hS, hS, walk a H (.refl ht) hS hS _ rfl⟩⟩
      · refine ⟨_, rfl, _, rfl, _, rfl, .inr (.inl ⟨a, _, rfl, hS, fun z => ?_, fun p np => ?_⟩)⟩
        · have e : HT.sIx (l.map V.int).length 0 (some (1 : Int)) = min 1 (l.map V.int).length := HT.sIx_nat _ _ 1
          have z1 := z.1
          rw [e, List.length_map] at z1
          have : l.length ≠ 0 := fun q => hl (List.length_eq_zero_iff.mp q)
          omega
        · rw [cut1]
          have st := same_upd (o := .tup ((l.map V.int).drop 1)) np
          have e0 := upd_same (H := H) (a := p) (o := .tup ((l.map V.int).drop 1))
          have t0 := Tk.of ht st
          generalize upd H p (.tup ((l.map V.int).drop 1)) = H1 at st e0 t0 ⊢
          exact ⟨a, p, _, _, rfl, .inr ⟨sameT st hS, .of e0, walk p H1 t0 (sameT st hS) (.of e0) _ rfl⟩⟩
end
end K45
namespace K45
open PySem PySem.Spec PyProof.Rows L2 Rg
structure PrOk (p : Int × Int) : Prop where
  b : 0 ≤ p.1 ∧ p.1 ≤ 63
  s : -1 ≤ p.2 ∧ p.2 ≤ 199
section
variable {P : Program} {w : World} {K : PySem.W.Frag} {mg : Str → Option Value} {base : Heap}
def sp_is_pair (K : PySem.W.Frag) : Sp := fun vs H Q _ => ∃ (a : Addr) (p : Int × Int), vs = [.ref a] ∧ SqT K H a [.int p.1, .int p.2] ∧ PrOk p ∧ Q (.bl true) H
theorem ok_is_pair (T : Tx K mg) : FnOk P w K mg base CX0 3 T.f_is_pair T.fd_is_pair ["value"] (sp_is_pair K) := by
  refine T.F_is_pair.ok sc_is_pair (fun vs H Q E h => ?_) (fun cdv A outer s H vs Q E hr h => ?_)
  · obtain ⟨_, _, rfl, _⟩ := h; rfl
  · obtain ⟨a, p, rfl, hS, hp, k⟩ := h
    have hr1 := hr.mono (show 1 ≤ 2 by decide)
    refine ⟨_, (pss_cons (ps_if (PW.pt (pw_or (pt_not (pt_val (pe_callB call_isi rfl T.b_isinstance (by decide +kernel) (pa_cons (pv 0) (pa_cons (pe_bltn (v := .ty "tuple") rfl T.b_tuple (by decide +kernel) rfl) pa_nil))))) (pw_or1 (pt_cmpR op_ne (pe_callB call_len_seq rfl T.b_len (by decide +kernel) (pa_cons (pv 0) pa_nil)) pe_int (nomark _)))))
        (pss_one (ps_ret pe_bl))
        pss_nil)
      (pss_one (ps_ret (pe_and (pe_call (ok_is_block T) hr rfl T.mg_is_block T.F_is_block.kp (b_is_block T) .nil pass0 (pa_cons (pe_ix ix_tup (pv 0) pe_int (fun _ _ => rfl)) pa_nil)) (pe_one (pe_call (ok_is_number T) hr1 rfl T.mg_is_number T.F_is_number.kp (b_is_number T) .nil pass0 (pa_cons (pe_ix ix_tup (pv 0) pe_int (fun _ _ => rfl)) (pa_cons (pe_gc T.c_NO_SLOT) (pa_cons (pe_gc T.c_MOST_SLOT) pa_nil))))))))), ?_⟩
    refine ⟨_, rfl, _, _, _, _, true, rfl, .ty _, tyT hS, kit_ty (by decide +kernel), _, rfl, iteF ⟨_, rfl, a, _, rfl, .inr hS, rfl, _, rfl, iteF ?_⟩⟩
    refine ⟨_, rfl, a, _, 0, .int p.1, rfl, rfl, hS, rfl, p.1, rfl, _, rfl, ?_⟩
    rw [decide_eq_true hp.b]
    refine iteT ⟨_, rfl, a, _, 1, .int p.2, rfl, rfl, hS, rfl, p.2, -1, 199, rfl, ?_⟩
    rw [decide_eq_true hp.s]
    exact k
def sp_are_pairs (K : PySem.W.Frag) (Ps : List Addr) : Sp := fun vs H Q _ => ∃ (a : Addr) (ps : List (Int × Int)), vs = [.ref a] ∧ PairsAt K H a ps ∧ ps.length ≤ 64 ∧ (∀ p ∈ ps, PrOk p) ∧ Asc (ps.map (·.1)) ∧ Tab Ps H ∧ ∀ H', Tk Ps H H' → Q (.bl true) H'
theorem ok_are_pairs (T : Tx K mg) (B : TBs T base) : FnOk P w K mg base CX0 7 T.f_are_pairs T.fd_are_pairs ["value"] (sp_are_pairs K T.Ps) := by
  refine fun_okC T.F_are_pairs T.code_are_pairs sc_are_pairs (fun vs H Q E h => ?_) (fun A outer s H vs Q E hr h => ?_)
  · obtain ⟨_, _, rfl, _⟩ := h; rfl
  · obtain ⟨a, ps, rfl, hS, hz, hp, hc, ht, k⟩ := h
    have hr4 := hr.mono (show 4 ≤ 6 by decide)
    refine ⟨_, (pss_cons (ps_if (PW.pt (pw_or (pt_not (pt_val (pe_callB call_isi rfl T.b_isinstance (by decide +kernel) (pa_cons (pv 0) (pa_cons (pe_bltn (v := .ty "tuple") rfl T.b_tuple (by decide +kernel) rfl) pa_nil))))) (pw_or1 (pt_not (pt_val (GxL.pe_allG (k := 3) (own := [("pair", 1)]) (g := gName 1) (tt := tYes) hr rfl T.b_all B.t_are_pairs rfl (GxL.gsc_by (by decide +kernel)) (blkOk_by (N := ["value", "pair"]) (sc := defScope s_are_pairs) (by decide +kernel)) sc_are_pairs.nd (pi_tup (pv 0)) (fun _ _ _ _ _ => pg_name (i := 1) sc_are_pairs.nd rfl (Or.inl rfl)) (fun _ _ _ _ _ _ => pts_nil) (fun _ _ _ _ _ hr2 => pe_call (ok_is_pair T) hr2 rfl T.mg_is_pair T.F_is_pair.kp (b_is_pair T) .nil pass0 (pa_cons (pv 1) pa_nil))))))))
        (pss_one (ps_ret pe_bl))
        pss_nil)
      (pss_one (ps_ret (pe_call (ok_is_ascending T B) hr4 rfl T.mg_is_ascending T.F_is_ascending.kp (b_is_ascending T) .nil pass0 (pa_cons (pe_lc rfl (own := [("pair", 1)]) (g := gName 1) (tt := tYes) sc_are_pairs.nd (pi_tup (pv 0)) (blkOk_by (N := ["value", "pair"]) (sc := defScope s_are_pairs) (by decide +kernel)) (fun _ _ _ _ _ => pg_name (i := 1) sc_are_pairs.nd rfl (Or.inl rfl)) (fun _ _ _ _ _ => pts_nil) (fun _ _ _ _ _ => (pe_ixTK (K := K) (pv 1) pe_int (fun _ _ => rfl)))) pa_nil))))), ?_⟩
    obtain ⟨qs, h1, h2, h3⟩ := hS
    have at_ : ∀ (i : Nat) (y : V), (qs.map V.ref)[i]? = some y → ∃ q p, y = .ref q ∧ qs[i]? = some q ∧ ps[i]? = some p := fun i y hi => by
      rw [List.getElem?_map] at hi
      obtain ⟨q, hq, rfl⟩ := Option.map_eq_some_iff.mp hi
      have hlt := (List.getElem?_eq_some_iff.mp hq).1
      exact ⟨q, ps[i], rfl, hq, List.getElem?_eq_getElem (by omega)⟩
    refine ⟨_, rfl, _, _, _, _, true, rfl, .ty _, tyT h1, kit_ty (by decide +kernel), _, rfl, iteF ?_⟩
    refine ⟨_, rfl, a, rfl, ⟨_, h1⟩, ht _ T.in_are_pairs, fun H2 hT => gx_tup (K := K) (a := a) (xs := qs.map V.ref) (fun i H3 => Tk T.Ps H H3) (Tk.tabbed ht T.in_are_pairs hT) (fun i H3 _ kk => kk.seqT ht h1) (fun i y H3 hi kk => ?_) fun H3 kk => ?_⟩
    · obtain ⟨q, p, rfl, e1, e2⟩ := at_ i y hi
      refine ⟨rfl, yes_ ⟨_, rfl, q, p, rfl, kk.seqT ht (h3 i q p e1 e2), hp p (List.mem_of_getElem? e2), _, rfl, ?_⟩⟩
      rw [if_pos rfl]
      exact kk
    · refine ⟨_, rfl, iteF ?_⟩
      have h1' := kk.seqT ht h1
      refine ⟨_, rfl, a, rfl, ⟨_, h1'⟩, fun D hD => ?_⟩
      refine lc_tup (K := K) (a := a) (xs := qs.map V.ref) (fun i H4 => Tk T.Ps H3 H4 ∧ H4 D = some (.lst (((ps.map (·.1)).take i).map V.int))) ⟨(Tk.refl kk.tab).new hD, upd_same⟩ (fun i H4 _ ⟨k4, _⟩ => k4.seqT kk.tab h1') ?_ ?_
      · rintro i y H4 hi ⟨k4, eD⟩
        obtain ⟨q, p, rfl, e1, e2⟩ := at_ i y hi
        refine ⟨rfl, yes_ ⟨_, rfl, q, _, 0, .int p.1, rfl, rfl, k4.seqT kk.tab (kk.seqT ht (h3 i q p e1 e2)), rfl, ?_⟩⟩
        refine ⟨_, eD, ?_, k4.put hD eD, ?_⟩
        · rw [List.length_map, List.length_take, List.length_map]
          exact Nat.lt_of_le_of_lt (show min i ps.length ≤ 64 by omega) (by decide)
        · rw [upd_same, take_snoc (c := p.1) (by rw [List.getElem?_map, e2]; rfl), List.map_append]
          rfl
      · rintro H4 ⟨k4, eD⟩
        rw [List.take_of_length_le (by simp [h2])] at eD
        exact ⟨D, _, rfl, .inl (.of eD), hc, k4.tab, fun H5 k5 => k H5 (kk.trans (k4.trans k5))⟩
def sp_are_revokes (K : PySem.W.Frag) (Ps : List Addr) : Sp := fun vs H Q _ => ∃ (a : Addr) (rs : List Int), vs = [.ref a] ∧ SqT K H a (rs.map V.int) ∧ (∀ r ∈ rs, 0 ≤ r ∧ r ≤ 63) ∧ Asc rs ∧ Tab Ps H ∧ ∀ H', Tk Ps H H' → Q (.bl true) H'
theorem ok_are_revokes (T : Tx K mg) (B : TBs T base) : FnOk P w K mg base CX0 6 T.f_are_revokes T.fd_are_revokes ["value"] (sp_are_revokes K T.Ps) := by
  refine fun_okC T.F_are_revokes T.code_are_revokes sc_are_revokes (fun vs H Q E h => ?_) (fun A outer s H vs Q E hr h => ?_)
  · obtain ⟨_, _, rfl, _⟩ := h; rfl
  · obtain ⟨a, rs, rfl, hS, hp, hc, ht, k⟩ := h
    have hr4 := hr.mono (show 4 ≤ 5 by decide)
    refine ⟨_, (pss_one (ps_ret (pe_and (pe_callB call_isi rfl T.b_isinstance (by decide +kernel) (pa_cons (pv 0) (pa_cons (pe_bltn (v := .ty "tuple") rfl T.b_tuple (by decide +kernel) rfl) pa_nil))) (pe_and (GxL.pe_allG (k := 2) (own := [("block", 1)]) (g := gName 1) (tt := tYes) hr rfl T.b_all B.t_are_revokes rfl (GxL.gsc_by (by decide +kernel)) (blkOk_by (N := ["value", "block"]) (sc := defScope s_are_revokes) (by decide +kernel)) sc_are_revokes.nd (pi_tup (pv 0)) (fun _ _ _ _ _ => pg_name (i := 1) sc_are_revokes.nd rfl (Or.inl rfl)) (fun _ _ _ _ _ _ => pts_nil) (fun _ _ _ _ _ hr2 => pe_call (ok_is_block T) hr2 rfl T.mg_is_block T.F_is_block.kp (b_is_block T) .nil pass0 (pa_cons (pv 1) pa_nil))) (pe_one (pe_call (ok_is_ascending T B) hr4 rfl T.mg_is_ascending T.F_is_ascending.kp (b_is_ascending T) .nil pass0 (pa_cons (pv 0) pa_nil))))))), ?_⟩
    refine ⟨_, rfl, _, _, _, _, true, rfl, .ty _, tyT hS, kit_ty (by decide +kernel), _, rfl, iteT ?_⟩
    refine ⟨_, rfl, a, rfl, ⟨_, hS⟩, ht _ T.in_are_revokes, fun H2 hT => gx_tup (K := K) (a := a) (xs := rs.map V.int) (fun i H3 => Tk T.Ps H H3) (Tk.tabbed ht T.in_are_revokes hT) (fun i H3 _ kk => kk.seqT ht hS) (fun i y H3 hi kk => ?_) fun H3 kk => ⟨_, rfl, iteT ⟨_, rfl, a, rs, rfl, .inr (kk.seqT ht hS), hc, kk.tab, fun H4 k4 => k H4 (kk.trans k4)⟩⟩⟩
    rw [List.getElem?_map] at hi
    obtain ⟨x, hx, rfl⟩ := Option.map_eq_some_iff.mp hi
    refine ⟨rfl, yes_ ⟨_, rfl, x, rfl, _, rfl, ?_⟩⟩
    rw [decide_eq_true (show 0 ≤ x ∧ x ≤ 63 from hp x (List.mem_of_getElem? hx)), if_pos rfl]
    exact kk
def sp_is_record (K : PySem.W.Frag) (Ps : List Addr) (b s : Int) : Sp := fun vs H Q _ => ∃ (a : Addr) (r : Rec), vs = [.ref a] ∧ RecAt K H a r ∧ Fit b s r ∧ Tab Ps H ∧ ∀ H', Tk Ps H H' → Q (.bl true) H'
theorem ok_is_record (T : Tx K mg) (B : TBs T base) (b sl : Int) : FnOk P w K mg base CX0 8 T.f_is_record T.fd_is_record ["record"] (sp_is_record K T.Ps b sl) := by
  refine T.F_is_record.ok sc_is_record (fun vs H Q E h => ?_) (fun cdv A outer s H vs Q E hr h => ?_)
  · obtain ⟨_, _, rfl, _⟩ := h; rfl
  · obtain ⟨a, r, rfl, hR, hf, ht, k⟩ := h
    have hr1 := hr.mono (show 1 ≤ 7 by decide)
    have hr2 := hr.mono (show 2 ≤ 7 by decide)
    have hr6 := hr.mono (show 6 ≤ 7 by decide)
    refine ⟨_, (pss_cons (ps_if (PW.pt (pw_or (pt_not (pt_val (pe_callB call_isi rfl T.b_isinstance (by decide +kernel) (pa_cons (pv 0) (pa_cons (pe_bltn (v := .ty "tuple") rfl T.b_tuple (by decide +kernel) rfl) pa_nil))))) (pw_or (pt_cmpR op_ne (pe_callB call_len_seq rfl T.b_len (by decide +kernel) (pa_cons (pv 0) pa_nil)) pe_int (nomark _)) (pw_or1 (pt_not (pt_val (pe_call (ok_is_number T) hr1 rfl T.mg_is_number T.F_is_number.kp (b_is_number T) .nil pass0 (pa_cons (pe_ix ix_tup (pv 0) pe_int (fun _ _ => rfl)) (pa_cons pe_int (pa_cons (pe_gc T.c_MOST_LOT) pa_nil))))))))))
        (pss_one (ps_ret pe_bl))
        pss_nil)
      (pss_cons (ps_if (pt_cmpR op_eq (pe_ix ix_tup (pv 0) pe_int (fun _ _ => rfl)) pe_str (nomark _))
        (pss_one (ps_ret (pe_and (pe_call (ok_is_block T) hr2 rfl T.mg_is_block T.F_is_block.kp (b_is_block T) .nil pass0 (pa_cons (pe_ix ix_tup (pv 0) pe_int (fun _ _ => rfl)) pa_nil)) (pe_and (pe_callB call_isi rfl T.b_isinstance (by decide +kernel) (pa_cons (pe_ix ix_tup (pv 0) pe_int (fun _ _ => rfl)) (pa_cons (pe_bltn (v := .ty "tuple") rfl T.b_tuple (by decide +kernel) rfl) pa_nil))) (pe_one (pe_call (ok_is_cell_row T B) hr6 rfl T.mg_is_cell_row T.F_is_cell_row.kp (b_is_cell_row T) .nil pass0 (pa_cons (pe_ix ix_tup (pv 0) pe_int (fun _ _ => rfl)) pa_nil)))))))
        pss_nil)
      (pss_one (ps_ret (pe_and (pe_cmpR op_eq (pe_ix ix_tup (pv 0) pe_int (fun _ _ => rfl)) pe_str (nomark _)) (pe_and (pe_call (ok_are_pairs T B) hr rfl T.mg_are_pairs T.F_are_pairs.kp (b_are_pairs T) .nil pass0 (pa_cons (pe_ix ix_tup (pv 0) pe_int (fun _ _ => rfl)) pa_nil)) (pe_one (pe_call (ok_are_revokes T B) hr6 rfl T.mg_are_revokes T.F_are_revokes.kp (b_are_revokes T) .nil pass0 (pa_cons (pe_ix ix_tup (pv 0) pe_int (fun _ _ => rfl)) pa_nil))))))))), ?_⟩
    cases r with
    | copy lot x c =>
      obtain ⟨pc, h1, h2⟩ := hR
      obtain ⟨f1, f2, f3, f4, f5, f6⟩ := hf
      refine ⟨_, rfl, _, _, _, _, true, rfl, .ty _, tyT h1, kit_ty (by decide +kernel), _, rfl, iteF ⟨_, rfl, a, _, rfl, .inr h1, rfl, _, rfl, iteF ?_⟩⟩
      refine ⟨_, rfl, a, _, 1, .int lot, rfl, rfl, h1, rfl, lot, 1, 999999, rfl, _, rfl, ?_⟩
      rw [decide_eq_true (show 1 ≤ lot ∧ lot ≤ 999999 from ⟨f1, f2⟩)]
      refine iteF ⟨_, rfl, a, _, 0, .str "copy", rfl, rfl, h1, rfl, rfl, _, rfl, iteT ?_⟩
      refine ⟨_, rfl, a, _, 2, .int x, rfl, rfl, h1, rfl, x, rfl, _, rfl, ?_⟩
      rw [decide_eq_true (show 0 ≤ x ∧ x ≤ 63 from ⟨f3, f4⟩)]
      refine iteT ⟨_, rfl, a, _, 3, .ref pc, rfl, rfl, h1, rfl, _, _, _, _, true, rfl, .ty _, tyT h2, kit_ty (by decide +kernel), _, rfl, iteT ?_⟩
      exact ⟨_, rfl, a, _, 3, .ref pc, rfl, rfl, h1, rfl, pc, c, rfl, h2, f6, ht, k⟩
    | mark lot ps rs =>
      obtain ⟨pp, pr, h1, h2, h3⟩ := hR
      obtain ⟨f1, f2, f3, f4, f5, f6, f7, f8⟩ := hf
      refine ⟨_, rfl, _, _, _, _, true, rfl, .ty _, tyT h1, kit_ty (by decide +kernel), _, rfl, iteF ⟨_, rfl, a, _, rfl, .inr h1, rfl, _, rfl, iteF ?_⟩⟩
      refine ⟨_, rfl, a, _, 1, .int lot, rfl, rfl, h1, rfl, lot, 1, 999999, rfl, _, rfl, ?_⟩
      rw [decide_eq_true (show 1 ≤ lot ∧ lot ≤ 999999 from ⟨f1, f2⟩)]
      refine iteF ⟨_, rfl, a, _, 0, .str "mark", rfl, rfl, h1, rfl, rfl, _, rfl, iteF ?_⟩
      refine ⟨_, rfl, a, _, 0, .str "mark", rfl, rfl, h1, rfl, rfl, _, rfl, iteT ?_⟩
      refine ⟨_, rfl, a, _, 2, .ref pp, rfl, rfl, h1, rfl, pp, ps, rfl, h2, f3, fun p hp => ⟨⟨(f5 p hp).1, (f5 p hp).2.1⟩, (f5 p hp).2.2.2.1, (f5 p hp).2.2.2.2.1⟩, f6, ht, fun H1 k1 => ⟨_, rfl, iteT ?_⟩⟩
      exact ⟨_, rfl, a, _, 3, .ref pr, rfl, rfl, k1.seqT ht h1, rfl, pr, rs, rfl, k1.seqT ht h3, fun r hr => ⟨(f7 r hr).1, (f7 r hr).2.1⟩, f8, k1.tab, fun H2 k2 => k H2 (k1.trans k2)⟩
end
end K45
namespace K45
open PySem PySem.Spec PyProof.Rows L2 Rg
theorem PlanAt.tk {C : Addr} {Ps : List Addr} {H H' : Hp} {p : Addr} {b n s : Int} (h : PlanAt C H p b n s) (t : Tab Ps H) (k : Tk Ps H H') : PlanAt C H' p b n s :=
  let ⟨dx, z⟩ := h.ob
  h.of fun o e => by rw [z] at e; cases e; exact k.at t z
/-- a place of a disk, by its tuple -/
inductive Plc where
  | home (at_ : Int) | log (at_ : Int)
def PlcAt (K : PySem.W.Frag) (H : Hp) (a : Addr) : Plc → Prop
  | .home i => SqT K H a [.str "home", .int i]
  | .log i => SqT K H a [.str "log", .int i]
def Rng (b s : Int) : Plc → Prop
  | .home i => 0 ≤ i ∧ i ≤ b - 1
  | .log i => 0 ≤ i ∧ i ≤ s - 1
/-- what may stand at a place -/
def WhatAt (K : PySem.W.Frag) (H : Hp) (a : Addr) (b s : Int) : Plc → Prop
  | .home i => 0 ≤ i ∧ i ≤ b - 1 ∧ ∃ c, SqT K H a (c.map V.int) ∧ Cells c
  | .log i => 0 ≤ i ∧ i ≤ s - 1 ∧ ∃ r, RecAt K H a r ∧ Fit b s r
section
variable {K : PySem.W.Frag} {Ps : List Addr} {H H1 : Hp} {a : Addr} {q : Plc} {b s : Int}
theorem PlcAt.by (h : PlcAt K H a q) (f : ∀ b xs, SqT K H b xs → SqT K H1 b xs) : PlcAt K H1 a q := by
  cases q with
  | home i => exact f _ _ h
  | log i => exact f _ _ h
theorem WhatAt.by (h : WhatAt K H a b s q) (f : ∀ b xs, SqT K H b xs → SqT K H1 b xs) : WhatAt K H1 a b s q := by
  cases q with
  | home i => obtain ⟨h1, h2, c, h3, h4⟩ := h; exact ⟨h1, h2, c, f _ _ h3, h4⟩
  | log i => obtain ⟨h1, h2, r, h3, h4⟩ := h; exact ⟨h1, h2, r, h3.by f, h4⟩
theorem WhatAt.rng (h : WhatAt K H a b s q) : Rng b s q := by
  cases q with
  | home i => exact ⟨h.1, h.2.1⟩
  | log i => exact ⟨h.1, h.2.1⟩
theorem WhatAt.tup (h : WhatAt K H a b s q) : ∃ xs, SqT K H a xs := by
  cases q with
  | home i => obtain ⟨h1, h2, c, h3, h4⟩ := h; exact ⟨_, h3⟩
  | log i =>
    obtain ⟨h1, h2, r, h3, h4⟩ := h
    cases r with
    | copy l x c => obtain ⟨pc, e, _⟩ := h3; exact ⟨_, e⟩
    | mark l ps rs => obtain ⟨pp, pr, e, _⟩ := h3; exact ⟨_, e⟩
theorem PlcAt.tup (h : PlcAt K H a q) : ∃ xs, SqT K H a xs := by
  cases q with
  | home i => exact ⟨_, h⟩
  | log i => exact ⟨_, h⟩
end
section
variable {P : Program} {w : World} {K : PySem.W.Frag} {mg : Str → Option Value} {base : Heap}
def sp_fits_plan (K : PySem.W.Frag) (CP : Addr) (Ps : List Addr) : Sp := fun vs H Q _ => ∃ (a p : Addr) (b n s : Int) (r : Rec), vs = [.ref a, .ref p] ∧ RecAt K H a r ∧ Fit b s r ∧ PlanAt CP H p b n s ∧ Tab Ps H ∧ ∀ H', Tk Ps H H' → Q (.bl true) H'
theorem ok_fits_plan (T : Tx K mg) (B : TBs T base) : FnOk P w K mg base CX0 4 T.f_fits_plan T.fd_fits_plan ["record", "plan"] (sp_fits_plan K T.C_Plan T.Ps) := by
  refine fun_okC T.F_fits_plan T.code_fits_plan sc_fits_plan (fun vs H Q E h => ?_) (fun A outer s H vs Q E hr h => ?_)
  · obtain ⟨_, _, _, _, _, _, rfl, _⟩ := h; rfl
  · obtain ⟨a, p, b, n, sl, r, rfl, hR, hf, hP, ht, k⟩ := h
    refine ⟨_, (pss_cons (ps_if (pt_cmpR op_eq (pe_ix ix_tup (pv 0) pe_int (fun _ _ => rfl)) pe_str (nomark _))
        (pss_one (ps_ret (pe_cmpR op_lt (pe_ix ix_tup (pv 0) pe_int (fun _ _ => rfl)) (pe_fld (pv 1) rfl) (nomark _))))
        pss_nil)
      (pss_cons (ps_if (pt_not (pt_val (GxL.pe_allG (k := 0) (own := [("block", 2), ("slot", 3)]) (g := _) (tt := tYes) hr rfl T.b_all B.t_fits_plan rfl (GxL.gsc_by (by decide +kernel)) (blkOk_by (N := ["record", "plan", "block", "slot"]) (sc := defScope s_fits_plan) (by decide +kernel)) sc_fits_plan.nd (pi_tup (pe_ix ix_tup (pv 0) pe_int (fun _ _ => rfl)))
          (fun _ _ _ _ _ => pg_tupK (K := K) (n := 2) rfl (pgs_cons (pg_name (i := 2) sc_fits_plan.nd rfl (.inl rfl)) (pgs_cons (pg_name (i := 3) sc_fits_plan.nd rfl (.inl rfl)) pgs_nil))) (fun _ _ _ _ _ _ => pts_nil) (fun _ _ _ _ _ _ => pe_and (pe_cmpR op_lt (pv 2) (pe_fldK (K := K) (pv 1) rfl) (nomark _)) (pe_one (pe_cmpR op_lt (pv 3) (pe_fldK (K := K) (pv 1) rfl) (nomark _)))))))
        (pss_one (ps_ret pe_bl))
        pss_nil)
      (pss_one (ps_ret (GxL.pe_allG (k := 0) (own := [("block", 2)]) (g := gName 2) (tt := tYes) hr rfl T.b_all B.t_fits_plan rfl (GxL.gsc_by (by decide +kernel)) (blkOk_by (N := ["record", "plan", "block", "slot"]) (sc := defScope s_fits_plan) (by decide +kernel)) sc_fits_plan.nd (pi_tup (pe_ix ix_tup (pv 0) pe_int (fun _ _ => rfl)))
          (fun _ _ _ _ _ => pg_name (i := 2) sc_fits_plan.nd rfl (Or.inl rfl)) (fun _ _ _ _ _ _ => pts_nil) (fun _ _ _ _ _ _ => pe_cmpR op_lt (pv 2) (pe_fldK (K := K) (pv 1) rfl) (nomark _))))))), ?_⟩
    obtain ⟨dx, hpo⟩ := hP.ob
    cases r with
    | copy lot x c =>
      obtain ⟨pc, h1, h2⟩ := hR
      obtain ⟨f1, f2, f3, f4, f5, f6⟩ := hf
      refine ⟨_, rfl, a, _, 0, .str "copy", rfl, rfl, h1, rfl, rfl, _, rfl, iteT ?_⟩
      refine ⟨_, rfl, a, _, 2, .int x, rfl, rfl, h1, rfl, _, rfl, p, _, _, _, _, rfl, hpo, T.cl_Plan, T.na_Plan_blocks, rfl, _, _, rfl, rfl, ?_⟩
      show Q (.bl (decide (x < b))) H
      rw [decide_eq_true f5]
      exact k H (.refl ht)
    | mark lot ps rs =>
      obtain ⟨pp, pr, h1, ⟨qs, g1, g2, g3⟩, h3⟩ := hR
      obtain ⟨f1, f2, f3, f4, f5, f6, f7, f8⟩ := hf
      refine ⟨_, rfl, a, _, 0, .str "mark", rfl, rfl, h1, rfl, rfl, _, rfl, iteF ?_⟩
      refine ⟨_, rfl, a, _, 2, .ref pp, rfl, rfl, h1, rfl, pp, rfl, ⟨_, g1⟩, ht _ T.in_fits_plan, fun H2 hT => gx_tup (K := K) (a := pp) (xs := qs.map V.ref) (fun i H3 => Tk T.Ps H H3) (Tk.tabbed ht T.in_fits_plan hT) (fun i H3 _ kk => kk.seqT ht g1) (fun i y H3 hi kk => ?_) fun H3 kk => ⟨_, rfl, iteF ?_⟩⟩
      · rw [List.getElem?_map] at hi
        obtain ⟨q, hq, rfl⟩ := Option.map_eq_some_iff.mp hi
        have hlt := (List.getElem?_eq_some_iff.mp hq).1
        have e2 : ps[i]? = some ps[i] := List.getElem?_eq_getElem (by omega)
        have hb := f5 _ (List.mem_of_getElem? e2)
        refine ⟨q, _, rfl, kk.seqT ht (g3 i q _ hq e2), rfl, _, _, rfl, _, _, rfl, rfl, rfl, yes_ ?_⟩
        refine ⟨_, rfl, _, rfl, p, _, _, _, _, rfl, kk.at ht hpo, T.cl_Plan, T.na_Plan_blocks, rfl, _, _, rfl, rfl, _, rfl, ?_⟩
        rw [decide_eq_true hb.2.2.1]
        refine iteT ⟨_, rfl, _, rfl, p, _, _, _, _, rfl, kk.at ht hpo, T.cl_Plan, T.na_Plan_slots, rfl, _, _, rfl, rfl, _, rfl, ?_⟩
        rw [decide_eq_true hb.2.2.2.2.2, if_pos rfl]
        exact kk
      · refine ⟨_, rfl, a, _, 3, .ref pr, rfl, rfl, kk.seqT ht h1, rfl, pr, rfl, ⟨_, kk.seqT ht h3⟩, kk.tab _ T.in_fits_plan, fun H4 hT => gx_tup (K := K) (a := pr) (xs := rs.map V.int) (fun i H5 => Tk T.Ps H H5) (kk.trans (Tk.tabbed kk.tab T.in_fits_plan hT)) (fun i H3 _ kk => kk.seqT ht h3) (fun i y H3 hi kk => ?_) fun H3 kk => k H3 kk⟩
        rw [List.getElem?_map] at hi
        obtain ⟨x, hx, rfl⟩ := Option.map_eq_some_iff.mp hi
        refine ⟨rfl, yes_ ⟨_, rfl, _, rfl, p, _, _, _, _, rfl, kk.at ht hpo, T.cl_Plan, T.na_Plan_blocks, rfl, _, _, rfl, rfl, _, rfl, ?_⟩⟩
        rw [decide_eq_true (f7 x (List.mem_of_getElem? hx)).2.2, if_pos rfl]
        exact kk
def sp_is_place (K : PySem.W.Frag) (CP : Addr) : Sp := fun vs H Q _ => ∃ (p a : Addr) (b n s : Int) (q : Plc), vs = [.ref p, .ref a] ∧ PlcAt K H a q ∧ Rng b s q ∧ PlanAt CP H p b n s ∧ Q (.bl true) H
theorem ok_is_place (T : Tx K mg) : FnOk P w K mg base CX0 2 T.f_is_place T.fd_is_place ["plan", "place"] (sp_is_place K T.C_Plan) := by
  refine T.F_is_place.ok sc_is_place (fun vs H Q E h => ?_) (fun cdv A outer s H vs Q E hr h => ?_)
  · obtain ⟨_, _, _, _, _, _, rfl, _⟩ := h; rfl
  · obtain ⟨p, a, b, n, sl, q, rfl, hq, hb, hP, k⟩ := h
    refine ⟨_, (pss_cons (ps_if (PW.pt (pw_or (pt_not (pt_val (pe_callB call_isi rfl T.b_isinstance (by decide +kernel) (pa_cons (pv 1) (pa_cons (pe_bltn (v := .ty "tuple") rfl T.b_tuple (by decide +kernel) rfl) pa_nil))))) (pw_or1 (pt_cmpR op_ne (pe_callB call_len_seq rfl T.b_len (by decide +kernel) (pa_cons (pv 1) pa_nil)) pe_int (nomark _)))))
        (pss_one (ps_ret pe_bl))
        pss_nil)
      (pss_cons (ps_if (pt_cmpR op_eq (pe_ix ix_tup (pv 1) pe_int (fun _ _ => rfl)) pe_str (nomark _))
        (pss_one (ps_ret (pe_call (ok_is_number T) hr rfl T.mg_is_number T.F_is_number.kp (b_is_number T) .nil pass0 (pa_cons (pe_ix ix_tup (pv 1) pe_int (fun _ _ => rfl)) (pa_cons pe_int (pa_cons (pe_op op_sub (pe_fld (pv 0) rfl) pe_int) pa_nil))))))
        pss_nil)
      (pss_one (ps_ret (pe_and (pe_cmpR op_eq (pe_ix ix_tup (pv 1) pe_int (fun _ _ => rfl)) pe_str (nomark _)) (pe_one (pe_call (ok_is_number T) hr rfl T.mg_is_number T.F_is_number.kp (b_is_number T) .nil pass0 (pa_cons (pe_ix ix_tup (pv 1) pe_int (fun _ _ => rfl)) (pa_cons pe_int (pa_cons (pe_op op_sub (pe_fld (pv 0) rfl) pe_int) pa_nil)))))))))), ?_⟩
    obtain ⟨dx, hpo⟩ := hP.ob
    cases q with
    | home i =>
      have hq : SqT K H a [.str "home", .int i] := hq
      refine ⟨_, rfl, _, _, _, _, true, rfl, .ty _, tyT hq, kit_ty (by decide +kernel), _, rfl, iteF ⟨_, rfl, a, _, rfl, .inr hq, rfl, _, rfl, iteF ?_⟩⟩
      refine ⟨_, rfl, a, _, 0, .str "home", rfl, rfl, hq, rfl, rfl, _, rfl, iteT ?_⟩
      refine ⟨_, rfl, a, _, 1, .int i, rfl, rfl, hq, rfl, _, rfl, p, _, _, _, _, rfl, hpo, T.cl_Plan, T.na_Plan_blocks, rfl, _, _, rfl, rfl, i, 0, _, rfl, ?_⟩
      rw [decide_eq_true (show 0 ≤ i ∧ i ≤ b - 1 from hb)]
      exact k
    | log i =>
      have hq : SqT K H a [.str "log", .int i] := hq
      refine ⟨_, rfl, _, _, _, _, true, rfl, .ty _, tyT hq, kit_ty (by decide +kernel), _, rfl, iteF ⟨_, rfl, a, _, rfl, .inr hq, rfl, _, rfl, iteF ?_⟩⟩
      refine ⟨_, rfl, a, _, 0, .str "log", rfl, rfl, hq, rfl, rfl, _, rfl, iteF ?_⟩
      refine ⟨_, rfl, a, _, 0, .str "log", rfl, rfl, hq, rfl, rfl, _, rfl, iteT ?_⟩
      refine ⟨_, rfl, a, _, 1, .int i, rfl, rfl, hq, rfl, _, rfl, p, _, _, _, _, rfl, hpo, T.cl_Plan, T.na_Plan_slots, rfl, _, _, rfl, rfl, i, 0, _, rfl, ?_⟩
      rw [decide_eq_true (show 0 ≤ i ∧ i ≤ sl - 1 from hb)]
      exact k
def sp_is_content (K : PySem.W.Frag) (CP : Addr) (Ps : List Addr) : Sp := fun vs H Q _ => ∃ (p a u : Addr) (b n s : Int) (q : Plc), vs = [.ref p, .ref a, .ref u] ∧ PlcAt K H a q ∧ WhatAt K H u b s q ∧ PlanAt CP H p b n s ∧ Tab Ps H ∧ ∀ H', Tk Ps H H' → Q (.bl true) H'
theorem ok_is_content (T : Tx K mg) (B : TBs T base) : FnOk P w K mg base CX0 9 T.f_is_content T.fd_is_content ["plan", "place", "what"] (sp_is_content K T.C_Plan T.Ps) := by
  refine T.F_is_content.ok sc_is_content (fun vs H Q E h => ?_) (fun cdv A outer s H vs Q E hr h => ?_)
  · obtain ⟨_, _, _, _, _, _, _, rfl, _⟩ := h; rfl
  · obtain ⟨p, a, u, b, n, sl, q, rfl, hq, hw, hP, ht, k⟩ := h
    have hr6 := hr.mono (show 6 ≤ 8 by decide)
    have hr4 := hr.mono (show 4 ≤ 8 by decide)
    refine ⟨_, (pss_cons (ps_if (pt_cmpR op_eq (pe_ix ix_tup (pv 1) pe_int (fun _ _ => rfl)) pe_str (nomark _))
        (pss_one (ps_ret (pe_call (ok_is_cell_row T B) hr6 rfl T.mg_is_cell_row T.F_is_cell_row.kp (b_is_cell_row T) .nil pass0 (pa_cons (pv 2) pa_nil))))
        pss_nil)
      (pss_one (ps_ret (pe_and (pe_call (ok_is_record T B b sl) hr rfl T.mg_is_record T.F_is_record.kp (b_is_record T) .nil pass0 (pa_cons (pv 2) pa_nil)) (pe_one (pe_call (ok_fits_plan T B) hr4 rfl T.mg_fits_plan T.F_fits_plan.kp (b_fits_plan T) .nil pass0 (pa_cons (pv 2) (pa_cons (pv 0) pa_nil)))))))), ?_⟩
    cases q with
    | home i =>
      have hq : SqT K H a [.str "home", .int i] := hq
      obtain ⟨h1, h2, c, h3, h4⟩ := hw
      refine ⟨_, rfl, a, _, 0, .str "home", rfl, rfl, hq, rfl, rfl, _, rfl, iteT ?_⟩
      exact ⟨_, rfl, u, c, rfl, h3, h4, ht, k⟩
    | log i =>
      have hq : SqT K H a [.str "log", .int i] := hq
      obtain ⟨h1, h2, r, h3, h4⟩ := hw
      refine ⟨_, rfl, a, _, 0, .str "log", rfl, rfl, hq, rfl, rfl, _, rfl, iteF ?_⟩
      refine ⟨_, rfl, u, r, rfl, h3, h4, ht, fun H1 k1 => ⟨_, rfl, iteT ?_⟩⟩
      exact ⟨_, rfl, _, rfl, u, p, b, n, sl, r, rfl, h3.tk ht k1, h4, hP.tk ht k1, k1.tab, fun H2 k2 => k H2 (k1.trans k2)⟩
end
end K45
namespace K45
open PySem PySem.Spec PyProof.Rows L2 Rg
/-! ### disks -/
structure DA where
  p : Addr
  ho : Addr
  lg : Addr
  pd : Addr
def dskF (A : DA) (hd la : Int) : List (Str × V) := [("plan", .ref A.p), ("home", .ref A.ho), ("log", .ref A.lg), ("head", .int hd), ("last", .int la), ("_pending", .ref A.pd)]
structure DAt (CD CP : Addr) (H : Hp) (d : Addr) (A : DA) (b n s hd la : Int) (hs gs : List V) (kv : List (Key × V)) : Prop where
  ob : ∃ dx, H d = some (.ins CD dx (dskF A hd la))
  pl : PlanAt CP H A.p b n s
  ho : H A.ho = some (.lst hs)
  lg : H A.lg = some (.lst gs)
  pd : H A.pd = some (.dK kv)
  pne : A.p ≠ d
  hne : A.ho ≠ A.lg
  hl : (hs.length : Int) = b
  gl : (gs.length : Int) = s
section
variable {CD CP : Addr} {Ps : List Addr} {H H' : Hp} {d : Addr} {A : DA} {b n s hd la : Int} {hs gs : List V} {kv : List (Key × V)}
theorem DAt.by (h : DAt CD CP H d A b n s hd la hs gs kv) (f : ∀ a o, H a = some o → (∀ ps, o ≠ .tbl ps) → H' a = some o) : DAt CD CP H' d A b n s hd la hs gs kv :=
  let ⟨dx, z⟩ := h.ob
  let ⟨px, y⟩ := h.pl.ob
  ⟨⟨dx, f _ _ z (by intro _ z; cases z)⟩, h.pl.of fun o e => by rw [y] at e; cases e; exact f _ _ y (by intro _ z; cases z), f _ _ h.ho (by intro _ z; cases z), f _ _ h.lg (by intro _ z; cases z), f _ _ h.pd (by intro _ z; cases z), h.pne, h.hne, h.hl, h.gl⟩
theorem DAt.tk (h : DAt CD CP H d A b n s hd la hs gs kv) (t : Tab Ps H) (k : Tk Ps H H') : DAt CD CP H' d A b n s hd la hs gs kv := h.by fun _ _ e q => k.at t e q
theorem DAt.same (h : DAt CD CP H d A b n s hd la hs gs kv) (e : Same H H') : DAt CD CP H' d A b n s hd la hs gs kv := h.by fun _ _ z _ => e _ _ z
/-- the numbers are written -/
theorem DAt.num (h : DAt CD CP H d A b n s hd la hs gs kv) {dx : Addr} (hd' la' : Int) : DAt CD CP (upd H d (.ins CD dx (dskF A hd' la'))) d A b n s hd' la' hs gs kv := by
  obtain ⟨dz, z⟩ := h.ob
  obtain ⟨px, y⟩ := h.pl.ob
  have n1 : A.ho ≠ d := ne_of h.ho z (by intro q; cases q)
  have n2 : A.lg ≠ d := ne_of h.lg z (by intro q; cases q)
  have n3 : A.pd ≠ d := ne_of h.pd z (by intro q; cases q)
  exact ⟨⟨dx, upd_same⟩, h.pl.of fun o e => by rw [upd_ne h.pne]; exact e, by rw [upd_ne n1]; exact h.ho, by rw [upd_ne n2]; exact h.lg, by rw [upd_ne n3]; exact h.pd, h.pne, h.hne, h.hl, h.gl⟩
theorem DAt.pend (h : DAt CD CP H d A b n s hd la hs gs kv) (kv' : List (Key × V)) : DAt CD CP (upd H A.pd (.dK kv')) d A b n s hd la hs gs kv' := by
  obtain ⟨dz, z⟩ := h.ob
  obtain ⟨px, y⟩ := h.pl.ob
  have n1 : d ≠ A.pd := ne_of z h.pd (by intro q; cases q)
  have n2 : A.p ≠ A.pd := ne_of y h.pd (by intro q; cases q)
  have n3 : A.ho ≠ A.pd := ne_of h.ho h.pd (by intro q; cases q)
  have n4 : A.lg ≠ A.pd := ne_of h.lg h.pd (by intro q; cases q)
  exact ⟨⟨dz, by rw [upd_ne n1]; exact z⟩, h.pl.of fun o e => by rw [upd_ne n2]; exact e, by rw [upd_ne n3]; exact h.ho, by rw [upd_ne n4]; exact h.lg, upd_same, h.pne, h.hne, h.hl, h.gl⟩
theorem DAt.setL (h : DAt CD CP H d A b n s hd la hs gs kv) (i : Nat) (v : V) : DAt CD CP (upd H A.lg (.lst (gs.set i v))) d A b n s hd la hs (gs.set i v) kv := by
  obtain ⟨dz, z⟩ := h.ob
  obtain ⟨px, y⟩ := h.pl.ob
  have n1 : d ≠ A.lg := ne_of z h.lg (by intro q; cases q)
  have n2 : A.p ≠ A.lg := ne_of y h.lg (by intro q; cases q)
  have n4 : A.pd ≠ A.lg := ne_of h.pd h.lg (by intro q; cases q)
  exact ⟨⟨dz, by rw [upd_ne n1]; exact z⟩, h.pl.of fun o e => by rw [upd_ne n2]; exact e, by rw [upd_ne h.hne]; exact h.ho, upd_same, by rw [upd_ne n4]; exact h.pd, h.pne, h.hne, h.hl, by rw [List.length_set]; exact h.gl⟩
theorem DAt.setH (h : DAt CD CP H d A b n s hd la hs gs kv) (i : Nat) (v : V) : DAt CD CP (upd H A.ho (.lst (hs.set i v))) d A b n s hd la (hs.set i v) gs kv := by
  obtain ⟨dz, z⟩ := h.ob
  obtain ⟨px, y⟩ := h.pl.ob
  have n1 : d ≠ A.ho := ne_of z h.ho (by intro q; cases q)
  have n2 : A.p ≠ A.ho := ne_of y h.ho (by intro q; cases q)
  have n4 : A.pd ≠ A.ho := ne_of h.pd h.ho (by intro q; cases q)
  exact ⟨⟨dz, by rw [upd_ne n1]; exact z⟩, h.pl.of fun o e => by rw [upd_ne n2]; exact e, upd_same, by rw [upd_ne h.hne.symm]; exact h.lg, by rw [upd_ne n4]; exact h.pd, h.pne, h.hne, by rw [List.length_set]; exact h.hl, h.gl⟩
end
section
variable {P : Program} {w : World} {K : PySem.W.Frag} {mg : Str → Option Value} {base : Heap}
/-- nothing pends: no place is busy -/
def sp_busy (CD CP : Addr) (Ps : List Addr) : Sp := fun vs H Q _ => ∃ (d : Addr) (v : V) (A : DA) (b n s hd la : Int) (hs gs : List V), vs = [.ref d, v] ∧ DAt CD CP H d A b n s hd la hs gs [] ∧ Tab Ps H ∧ ∀ H', Tk Ps H H' → Q (.bl false) H'
theorem ok_busy (T : Tx K mg) (B : TBs T base) : FnOk P w K mg base CX0 4 T.f_Disk_busy T.fd_Disk_busy ["self", "place"] (sp_busy T.C_Disk T.C_Plan T.Ps) := by
  refine fun_okC T.F_Disk_busy T.code_Disk_busy sc_Disk_busy (fun vs H Q E h => ?_) (fun A outer s H vs Q E hr h => ?_)
  · obtain ⟨_, _, _, _, _, _, _, _, _, _, rfl, _⟩ := h; rfl
  · obtain ⟨d, v, A, b, n, sl, hd, la, hs, gs, rfl, D, ht, k⟩ := h
    refine ⟨_, (pss_one (ps_ret (pe_lock (GxL.pe_anyG (k := 0) (own := [("taken", 2), ("_", 3)]) (g := _) (tt := tYes) hr rfl T.b_any B.t_Disk_busy rfl (GxL.gsc_by (by decide +kernel)) (blkOk_by (N := ["self", "place", "taken", "_"]) (sc := defScope s_Disk_busy) (by decide +kernel)) sc_Disk_busy.nd (pi_values (pe_fld (pv 0) rfl))
      (fun _ _ _ _ _ => pg_tupK (K := K) (n := 2) rfl (pgs_cons (pg_name (i := 2) sc_Disk_busy.nd rfl (.inl rfl)) (pgs_cons (pg_name (i := 3) sc_Disk_busy.nd rfl (.inl rfl)) pgs_nil))) (fun _ _ _ _ _ _ => pts_nil) (fun _ _ _ _ _ _ => pe_cmpR op_eq (pv 1) (pv 2) (nomark _)))))), ?_⟩
    obtain ⟨dx, ho⟩ := D.ob
    have n1 : d ≠ A.pd := ne_of ho D.pd (by intro q; cases q)
    refine ⟨A.pd, _, D.pd, trivial, fun od => ?_⟩
    have t1 : Tab T.Ps (upd H A.pd (.frz od (.dK []))) := ht.upd D.pd (by intro _ q; cases q)
    refine ⟨_, rfl, d, _, _, _, _, rfl, by rw [upd_ne n1]; exact ho, T.cl_Disk, T.na_Disk__pending, rfl, A.pd, od, [], rfl, upd_same, t1 _ T.in_Disk_busy, fun H2 hT => ?_⟩
    have np : A.pd ≠ T.P_Disk_busy := ht.ne T.in_Disk_busy D.pd (by intro _ q; cases q)
    have e2 : H2 A.pd = some (.frz od (.dK [])) := by rw [hT.2 _ np]; exact upd_same
    refine gx_by 0 (fun _ H3 => H3 = H2) rfl (fun i H3 hi _ => absurd hi (Nat.not_lt_zero _)) (fun H3 e => ?_) (fun i _ _ _ hi => absurd hi (Nat.not_lt_zero _)) (fun H3 e => ?_)
    · subst e
      exact ⟨e2, Nat.le_refl _⟩
    · subst e
      refine ⟨e2, k _ ⟨?_, fun x o hx nx => ?_⟩⟩
      · exact (Tk.tabbed t1 T.in_Disk_busy hT).tab.upd e2 (by intro _ q; cases q)
      · by_cases z : x = A.pd
        · rw [z, upd_same, ← D.pd, ← z]
          exact hx
        · rw [upd_ne z, hT.2 x fun q => nx (q ▸ T.in_Disk_busy), upd_ne z]
          exact hx
def sp_move_head (CD CP : Addr) : Sp := fun vs H Q _ => ∃ (d : Addr) (m : Int) (A : DA) (b n s hd la : Int) (hs gs : List V) (kv : List (Key × V)) (dx : Addr), vs = [.ref d, .int m] ∧ H d = some (.ins CD dx (dskF A hd la)) ∧ DAt CD CP H d A b n s hd la hs gs kv ∧ 0 ≤ m ∧ m ≤ 999999 ∧ Q .non (upd H d (.ins CD dx (dskF A m la)))
theorem ok_move_head (T : Tx K mg) : FnOk P w K mg base CX0 2 T.f_Disk_move_head T.fd_Disk_move_head ["self", "p"] (sp_move_head T.C_Disk T.C_Plan) := by
  refine T.F_Disk_move_head.ok sc_Disk_move_head (fun vs H Q E h => ?_) (fun cdv A outer s H vs Q E hr h => ?_)
  · obtain ⟨_, _, _, _, _, _, _, _, _, _, _, _, rfl, _⟩ := h; rfl
  · obtain ⟨d, m, A, b, n, sl, hd, la, hs, gs, kv, dx, rfl, ho, D, h0, h1, k⟩ := h
    refine ⟨_, (pss_cons (ps_if (pt_not (pt_val (pe_call (ok_is_number T) hr rfl T.mg_is_number T.F_is_number.kp (b_is_number T) .nil pass0 (pa_cons (pv 1) (pa_cons pe_int (pa_cons (pe_gc T.c_MOST_HEAD) pa_nil))))))
        (pss_one ps_never)
        pss_nil)
      (pss_one (ps_fld (pv 0) (pv 1) rfl))), ?_⟩
    refine ⟨_, rfl, m, 0, 999999, rfl, _, rfl, ?_⟩
    rw [decide_eq_true (show 0 ≤ m ∧ m ≤ 999999 from ⟨h0, h1⟩)]
    exact iteF ⟨_, rfl, _, rfl, d, _, _, _, rfl, ho, T.cl_Disk, T.na_Disk_head, by show 6 < 1000; decide, k⟩
/-- a place takes what is put there -/
def sp_put (CD CP : Addr) (K : PySem.W.Frag) : Sp := fun vs H Q _ => ∃ (d a : Addr) (v : V) (A : DA) (b n s hd la : Int) (hs gs : List V) (kv : List (Key × V)) (q : Plc), vs = [.ref d, .ref a, v] ∧ DAt CD CP H d A b n s hd la hs gs kv ∧ PlcAt K H a q ∧ match q with
  | .home i => 0 ≤ i ∧ i ≤ b - 1 ∧ Q .non (upd H A.ho (.lst (hs.set i.toNat v)))
  | .log i => 0 ≤ i ∧ i ≤ s - 1 ∧ Q .non (upd H A.lg (.lst (gs.set i.toNat v)))
theorem ok_put (T : Tx K mg) : FnOk P w K mg base CX0 1 T.f_Disk__put T.fd_Disk__put ["self", "place", "what"] (sp_put T.C_Disk T.C_Plan K) := by
  refine T.F_Disk__put.ok sc_Disk__put (fun vs H Q E h => ?_) (fun cdv A outer s H vs Q E hr h => ?_)
  · obtain ⟨_, _, _, _, _, _, _, _, _, _, _, _, _, rfl, _⟩ := h; rfl
  · obtain ⟨d, a, v, A, b, n, sl, hd, la, hs, gs, kv, q, rfl, D, hq, k⟩ := h
    refine ⟨_, (pss_cons (ps_asg (pv 1) (pg_tup rfl (pgs_cons (pg_name (i := 3) sc_Disk__put.nd rfl (.inl rfl)) (pgs_cons (pg_name (i := 4) sc_Disk__put.nd rfl (.inl rfl)) pgs_nil))))
      (pss_one (ps_if (pt_cmpR op_eq (pv 3) pe_str (nomark _))
        (pss_one (ps_asg (pv 2) (pg_sub (pe_fld (pv 0) rfl) (pv 4) set_list)))
        (pss_one (ps_asg (pv 2) (pg_sub (pe_fld (pv 0) rfl) (pv 4) set_list)))))), ?_⟩
    obtain ⟨dx, ho⟩ := D.ob
    cases q with
    | home i =>
      have hq : SqT K H a [.str "home", .int i] := hq
      obtain ⟨h0, h1, k⟩ := k
      have := D.hl
      refine ⟨_, rfl, a, _, rfl, hq, rfl, _, _, rfl, _, _, rfl, rfl, _, rfl, rfl, _, rfl, iteT ?_⟩
      exact ⟨_, rfl, _, rfl, d, _, _, _, _, rfl, ho, T.cl_Disk, T.na_Disk_home, rfl, _, rfl, A.ho, hs, i, i.toNat, rfl, rfl, D.ho, ixN_at (by omega) (by omega), k⟩
    | log i =>
      have hq : SqT K H a [.str "log", .int i] := hq
      obtain ⟨h0, h1, k⟩ := k
      have := D.gl
      refine ⟨_, rfl, a, _, rfl, hq, rfl, _, _, rfl, _, _, rfl, rfl, _, rfl, rfl, _, rfl, iteF ?_⟩
      exact ⟨_, rfl, _, rfl, d, _, _, _, _, rfl, ho, T.cl_Disk, T.na_Disk_log, rfl, _, rfl, A.lg, gs, i, i.toNat, rfl, rfl, D.lg, ixN_at (by omega) (by omega), k⟩
end
end K45
namespace K45
open PySem PySem.Spec PyProof.Rows L2 Rg
section
variable {P : Program} {w : World} {K : PySem.W.Frag} {mg : Str → Option Value} {base : Heap}
/-- nothing pends; a good write is taken -/
def sp_issue (CD CP : Addr) (K : PySem.W.Frag) (Ps : List Addr) : Sp := fun vs H Q _ => ∃ (d a u : Addr) (A : DA) (b n s hd la : Int) (hs gs : List V) (q : Plc), vs = [.ref d, .ref a, .ref u] ∧ DAt CD CP H d A b n s hd la hs gs [] ∧ PlcAt K H a q ∧ WhatAt K H u b s q ∧ Tab Ps H ∧
  ∀ (H' : Hp) (t : Addr), Tab Ps H' → Kp (d :: A.pd :: Ps) H H' → DAt CD CP H' d A b n s hd (la + 1) hs gs [(Sum.inl (la + 1), .ref t)] → H' t = some (.tup [.ref a, .ref u]) → Q (.int (la + 1)) H'
theorem ok_issue (T : Tx K mg) (B : TBs T base) : FnOk P w K mg base CX0 10 T.f_Disk_issue T.fd_Disk_issue ["self", "place", "what"] (sp_issue T.C_Disk T.C_Plan K T.Ps) := by
  refine T.F_Disk_issue.ok sc_Disk_issue (fun vs H Q E h => ?_) (fun cdv A outer s H vs Q E hr h => ?_)
  · obtain ⟨_, _, _, _, _, _, _, _, _, _, _, _, rfl, _⟩ := h; rfl
  · obtain ⟨d, a, u, A, b, n, sl, hd, la, hs, gs, q, rfl, D, hq, hw, ht, k⟩ := h
    have hr2 := hr.mono (show 2 ≤ 9 by decide)
    have hr4 := hr.mono (show 4 ≤ 9 by decide)
    refine ⟨_, (pss_cons (ps_if (PW.pt (pw_or (pt_not (pt_val (pe_call (ok_is_place T) hr2 rfl T.mg_is_place T.F_is_place.kp (b_is_place T) .nil pass0 (pa_cons (pe_fld (pv 0) rfl) (pa_cons (pv 1) pa_nil))))) (pw_or1 (pt_not (pt_val (pe_call (ok_is_content T B) hr rfl T.mg_is_content T.F_is_content.kp (b_is_content T) .nil pass0 (pa_cons (pe_fld (pv 0) rfl) (pa_cons (pv 1) (pa_cons (pv 2) pa_nil)))))))))
        (pss_one ps_never)
        pss_nil)
      (pss_cons (ps_if (pt_val (pe_meth (pv 0) T.cl_Disk T.m_Disk_busy (ok_busy T B) hr4 (b_Disk_busy T) .nil pass0 (pa_cons (pv 1) pa_nil)))
        (pss_one ps_never)
        pss_nil)
      (pss_cons (ps_fldaug (pv 0) pe_int in_add)
      (pss_cons (ps_dput (hu_of hr) (pe_fld (pv 0) rfl) (pe_fld (pv 0) rfl) (pe_tup (pa_cons (pv 1) (pa_cons (pe_tupleOf rfl T.b_tuple (pv 2)) pa_nil))) rfl)
      (pss_one (ps_ret (pe_fld (pv 0) rfl))))))), ?_⟩
    obtain ⟨dx, ho⟩ := D.ob
    refine ⟨_, rfl, d, _, _, _, _, rfl, ho, T.cl_Disk, T.na_Disk_plan, rfl, _, rfl, A.p, a, b, n, sl, q, rfl, hq, hw.rng, D.pl, _, rfl, iteF ?_⟩
    refine ⟨_, rfl, d, _, _, _, _, rfl, ho, T.cl_Disk, T.na_Disk_plan, rfl, _, rfl, _, rfl, A.p, a, u, b, n, sl, q, rfl, hq, hw, D.pl, ht, fun H1 k1 => ⟨_, rfl, iteF ?_⟩⟩
    have D1 := D.tk ht k1
    refine ⟨_, rfl, d, _, _, rfl, k1.at ht ho, rfl, _, rfl, d, _, A, b, n, sl, hd, la, hs, gs, rfl, D1, k1.tab, fun H2 k2 => ⟨_, rfl, iteF ?_⟩⟩
    have D2 := D1.tk k1.tab k2
    have k12 := k1.trans k2
    have ho2 := k12.at ht ho
    have hw2 := hw.by (H1 := H2) fun _ _ => k12.seqT ht
    obtain ⟨xs, hT⟩ := hw2.tup
    refine ⟨_, rfl, d, _, _, _, _, rfl, ho2, T.cl_Disk, T.na_Disk_last, rfl, la, 1, rfl, rfl, _, _, ho2, by show 6 < 1000; decide, ?_⟩
    have D3 : DAt T.C_Disk T.C_Plan (upd H2 d (.ins T.C_Disk dx (dskF A hd (la + 1)))) d A b n sl hd (la + 1) hs gs [] := D2.num hd (la + 1)
    have T3 : Tab T.Ps (upd H2 d (.ins T.C_Disk dx (dskF A hd (la + 1)))) := k12.tab.upd ho2 (by intro _ z; cases z)
    have K3 : Kp (d :: A.pd :: T.Ps) H (upd H2 d (.ins T.C_Disk dx (dskF A hd (la + 1)))) := fun x o hx nx => by
      rw [upd_ne fun z => nx (by simp [z])]
      exact k12.kp x o hx fun z => nx (by simp [z])
    have hT3 : SqT K (upd H2 d (.ins T.C_Disk dx (dskF A hd (la + 1)))) u xs := by
      rcases hT with (e | ⟨o, e⟩) | e
      · exact .inl (.inl (by rw [upd_ne (ne_of e ho2 (by intro z; cases z))]; exact e))
      · exact .inl (.inr ⟨o, by rw [upd_ne (ne_of e ho2 (by intro z; cases z))]; exact e⟩)
      · exact .inr e
    have o3 := upd_same (H := H2) (a := d) (o := .ins T.C_Disk dx (dskF A hd (la + 1)))
    show tSeq _ _ _ _ (upd H2 d (.ins T.C_Disk dx (dskF A hd (la + 1))))
    generalize upd H2 d (.ins T.C_Disk dx (dskF A hd (la + 1))) = H3 at D3 T3 K3 hT3 o3 ⊢
    refine ⟨_, rfl, _, rfl, .inr ⟨u, xs, rfl, hT3, ?_⟩⟩
    refine ⟨by show 2 ≤ sizeLine; decide, fun t nt => ?_⟩
    have D4 := D3.same (same_upd (o := .tup [.ref a, .ref u]) nt)
    have T4 := T3.new (o := .tup [.ref a, .ref u]) nt
    have o4 : upd H3 t (.tup [.ref a, .ref u]) d = _ := (upd_ne (ne_of_none o3 nt)).trans o3
    have t4 := upd_same (H := H3) (a := t) (o := .tup [.ref a, .ref u])
    have K4 : Kp (d :: A.pd :: T.Ps) H (upd H3 t (.tup [.ref a, .ref u])) := K3.new nt
    generalize upd H3 t (.tup [.ref a, .ref u]) = H4 at D4 T4 o4 t4 K4 ⊢
    refine ⟨_, rfl, d, _, _, _, _, rfl, o4, T.cl_Disk, T.na_Disk__pending, rfl, _, rfl, d, _, _, _, _, rfl, o4, T.cl_Disk, T.na_Disk_last, rfl, A.pd, _, rfl, DPut.k (k := Sum.inl (la + 1)) D4.pd (by decide), ?_⟩
    have D5 := D4.pend [(Sum.inl (la + 1), .ref t)]
    have nd : d ≠ A.pd := ne_of o4 D4.pd (by intro z; cases z)
    refine ⟨_, rfl, d, _, _, _, _, rfl, by rw [upd_ne nd]; exact o4, T.cl_Disk, T.na_Disk_last, rfl, ?_⟩
    refine k _ t (T4.upd D4.pd (by intro _ z; cases z)) (K4.own (by simp)) D5 ?_
    rw [upd_ne (ne_of t4 D4.pd (by intro z; cases z))]
    exact t4
end
end K45
namespace K45
open PySem PySem.Spec PyProof.Rows L2 Rg
def putH (q : Plc) (v : V) (hs : List V) : List V := match q with
  | .home i => hs.set i.toNat v
  | .log _ => hs
def putG (q : Plc) (v : V) (gs : List V) : List V := match q with
  | .home _ => gs
  | .log i => gs.set i.toNat v
def zer8 : List V := [.int 0, .int 0, .int 0, .int 0, .int 0, .int 0, .int 0, .int 0]
section
variable {P : Program} {w : World} {K : PySem.W.Frag} {mg : Str → Option Value} {base : Heap}
def sp_sure (CD CP : Addr) (K : PySem.W.Frag) (Ps : List Addr) : Sp := fun vs H Q _ => ∃ (d a u t : Addr) (m : Int) (A : DA) (b n s hd la : Int) (hs gs : List V) (q : Plc), vs = [.ref d, .int m] ∧ DAt CD CP H d A b n s hd la hs gs [(Sum.inl m, .ref t)] ∧ H t = some (.tup [.ref a, .ref u]) ∧ PlcAt K H a q ∧ Rng b s q ∧ Tab Ps H ∧
  ∀ H' : Hp, Tab Ps H' → Kp [A.pd, A.ho, A.lg] H H' → DAt CD CP H' d A b n s hd la (putH q (.ref u) hs) (putG q (.ref u) gs) [] → Q .non H'
theorem ok_sure (T : Tx K mg) : FnOk P w K mg base CX0 2 T.f_Disk_sure T.fd_Disk_sure ["self", "number"] (sp_sure T.C_Disk T.C_Plan K T.Ps) := by
  refine T.F_Disk_sure.ok sc_Disk_sure (fun vs H Q E h => ?_) (fun cdv A outer s H vs Q E hr h => ?_)
  · obtain ⟨_, _, _, _, _, _, _, _, _, _, _, _, _, _, rfl, _⟩ := h; rfl
  · obtain ⟨d, a, u, t, m, A, b, n, sl, hd, la, hs, gs, q, rfl, D, et, hq, rg, ht, k⟩ := h
    refine ⟨_, (pss_cons (ps_if (pt_cmp (pc_dnotin (hu_of hr) (pv 1) (pe_fld (pv 0) rfl)) rfl)
        (pss_one ps_never)
        pss_nil)
      (pss_cons (ps_asg (pe_dpop1 (pe_fld (pv 0) rfl) (pv 1) ⟨rfl, rfl, rfl, rfl⟩) (pg_tup rfl (pgs_cons (pg_name (i := 2) sc_Disk_sure.nd rfl (.inl rfl)) (pgs_cons (pg_name (i := 3) sc_Disk_sure.nd rfl (.inl rfl)) pgs_nil))))
      (pss_one (ps_expr (pe_meth (pv 0) T.cl_Disk T.m_Disk__put (ok_put T) hr (b_Disk__put T) .nil pass0 (pa_cons (pv 2) (pa_cons (pv 3) pa_nil))))))), ?_⟩
    obtain ⟨dx, ho⟩ := D.ob
    have ev : valV [((Sum.inl m : Key), V.ref t)] (Sum.inl m) = some (.ref t) := valV_pos rfl
    have ed : dropK [((Sum.inl m : Key), V.ref t)] (Sum.inl m) = [] := by simp [dropK]
    refine ⟨_, rfl, _, rfl, d, _, _, _, _, rfl, ho, T.cl_Disk, T.na_Disk__pending, rfl, A.pd, some (.ref t), rfl, ?_, _, rfl, iteF ?_⟩
    · rw [← ev]
      exact DGet.k (k := Sum.inl m) D.pd
    refine ⟨_, rfl, d, _, _, _, _, rfl, ho, T.cl_Disk, T.na_Disk__pending, rfl, A.pd, rfl, .inl ⟨_, .inl D.pd⟩, _, rfl, _, Sum.inl m, .ref t, D.pd, rfl, ev, ?_⟩
    rw [ed]
    have D1 := D.pend []
    have nd : d ≠ A.pd := ne_of ho D.pd (by intro z; cases z)
    have nt : t ≠ A.pd := ne_of et D.pd (by intro z; cases z)
    have hq1 : PlcAt K (upd H A.pd (.dK [])) a q := hq.by fun c xs h => by
      rcases h with (e | ⟨o, e⟩) | e
      · exact .inl (.inl (by rw [upd_ne (ne_of e D.pd (by intro z; cases z))]; exact e))
      · exact .inl (.inr ⟨o, by rw [upd_ne (ne_of e D.pd (by intro z; cases z))]; exact e⟩)
      · exact .inr e
    refine ⟨t, _, rfl, .of (by rw [upd_ne nt]; exact et), rfl, _, _, rfl, _, _, rfl, rfl, _, rfl, d, _, _, rfl, by rw [upd_ne nd]; exact ho, rfl, _, rfl, _, rfl, d, a, _, A, b, n, sl, hd, la, hs, gs, [], q, rfl, D1, hq1, ?_⟩
    have T1 : Tab T.Ps (upd H A.pd (.dK [])) := ht.upd D.pd (by intro _ z; cases z)
    cases q with
    | home i =>
      exact ⟨rg.1, rg.2, k _ (T1.upd D1.ho (by intro _ z; cases z)) ((Kp.refl.own (by simp)).own (by simp)) (D1.setH i.toNat (.ref u))⟩
    | log i =>
      exact ⟨rg.1, rg.2, k _ (T1.upd D1.lg (by intro _ z; cases z)) ((Kp.refl.own (by simp)).own (by simp)) (D1.setL i.toNat (.ref u))⟩
def sp_Disk_init (CD CP : Addr) : Sp := fun vs H Q _ => ∃ (d dx p : Addr) (b n s : Int), vs = [.ref d, .ref p] ∧ H d = some (.ins CD dx []) ∧ PlanAt CP H p b n s ∧ p ≠ d ∧
  ∀ (H' : Hp) (A : DA) (ts : List Addr), A.p = p → Kp [d] H H' → H A.ho = none → H A.lg = none → DAt CD CP H' d A b n s 0 0 (ts.map V.ref) (List.replicate s.toNat .non) [] → (∀ t ∈ ts, H' t = some (.tup zer8)) → Q .non H'
theorem ok_Disk_init (T : Tx K mg) : FnOk P w K mg base CX0 1 T.f_Disk___init__ T.fd_Disk___init__ ["self", "plan"] (sp_Disk_init T.C_Disk T.C_Plan) := by
  refine T.F_Disk___init__.ok sc_Disk___init__ (fun vs H Q E h => ?_) (fun cdv A outer s H vs Q E hr h => ?_)
  · obtain ⟨_, _, _, _, _, _, rfl, _⟩ := h; rfl
  · obtain ⟨d, dx, p, b, n, sl, rfl, ho, hP, npd, k⟩ := h
    refine ⟨_, (pss_cons (ps_fld (pv 0) (pv 1) rfl)
      (pss_cons (ps_fld (pv 0) (pe_lc rfl (own := [("_", 2)]) (g := gName 2) (tt := tYes) sc_Disk___init__.nd (pi_range1 rfl T.b_range (pa_cons (pe_fld (pv 1) rfl) pa_nil)) (blkOk_by (N := ["self", "plan", "_"]) (sc := defScope s_Disk___init__) (by decide +kernel)) (fun _ _ _ _ _ => pg_name (i := 2) sc_Disk___init__.nd rfl (Or.inl rfl)) (fun _ _ _ _ _ => pts_nil) (fun _ _ _ _ _ => (pe_op (op_repTK (K := K)) (pe_tup (pa_cons pe_int pa_nil)) (pe_cv T.mg_Plan T.cr_Plan T.cv_Plan_WIDTH)))) rfl)
      (pss_cons (ps_fld (pv 0) (pe_lc rfl (own := [("_", 2)]) (g := gName 2) (tt := tYes) sc_Disk___init__.nd (pi_range1 rfl T.b_range (pa_cons (pe_fld (pv 1) rfl) pa_nil)) (blkOk_by (N := ["self", "plan", "_"]) (sc := defScope s_Disk___init__) (by decide +kernel)) (fun _ _ _ _ _ => pg_name (i := 2) sc_Disk___init__.nd rfl (Or.inl rfl)) (fun _ _ _ _ _ => pts_nil) (fun _ _ _ _ _ => pe_non)) rfl)
      (pss_cons (ps_fld (pv 0) pe_int rfl)
      (pss_cons (ps_fld (pv 0) pe_int rfl)
      (pss_one (ps_fld (pv 0) pe_dnewK rfl))))))), ?_⟩
    obtain ⟨px, hpo⟩ := hP.ob
    have hb0 : 8 ≤ b := hP.b1
    have hb1 : b ≤ 64 := hP.b2
    have hs0 : b < sl := hP.s1
    have hs1 : sl ≤ 200 := hP.s2
    refine ⟨_, rfl, _, rfl, d, _, _, _, rfl, ho, T.cl_Disk, T.na_Disk_plan, by show 0 < 1000; decide, ?_⟩
    have o1 := upd_same (H := H) (a := d) (o := .ins T.C_Disk dx [("plan", .ref p)])
    have p1 : upd H d (.ins T.C_Disk dx [("plan", .ref p)]) p = _ := (upd_ne npd).trans hpo
    have k1 : Kp [d] H (upd H d (.ins T.C_Disk dx [("plan", .ref p)])) := Kp.refl.own1
    show tSeq _ _ _ _ (upd H d (.ins T.C_Disk dx [("plan", .ref p)]))
    generalize upd H d (.ins T.C_Disk dx [("plan", .ref p)]) = H1 at o1 p1 k1 ⊢
    -- the home places
    refine ⟨_, rfl, p, _, _, _, _, rfl, p1, T.cl_Plan, T.na_Plan_blocks, rfl, b, rfl, by omega, by omega, fun D nD => ?_⟩
    refine lc_range (lo := 0) (n := b.toNat) (fun i H2 => ∃ ts : List Addr, ts.length = i ∧ H2 D = some (.lst (ts.map V.ref)) ∧ (∀ t ∈ ts, H2 t = some (.tup zer8)) ∧ Same H1 H2) ⟨[], rfl, upd_same, by simp, same_upd nD⟩ ?_ ?_
    · rintro i H2 hi ⟨ts, h1, h2, h3, S2⟩
      refine ⟨rfl, yes_ ⟨by show 1 ≤ sizeLine; decide, fun t0 nt0 => ⟨t0, 8, _, rfl, rfl, .of upd_same, by simp, by decide, by decide, by decide, fun t nt => ?_⟩⟩⟩
      have e0 : (List.replicate (8 : Int).toNat [V.int 0]).flatten = zer8 := by decide
      rw [e0]
      have nDt0 : D ≠ t0 := ne_of_none h2 nt0
      have eD : upd (upd H2 t0 (.tup [.int 0])) t (.tup zer8) D = some (.lst (ts.map V.ref)) := by
        rw [upd_ne (ne_of_none (by rw [upd_ne nDt0]; exact h2) nt), upd_ne nDt0]
        exact h2
      refine ⟨_, eD, ?_, ts ++ [t], by simp [h1], ?_, fun x hx => ?_, fun x o hx => ?_⟩
      · rw [List.length_map, h1]
        exact Nat.lt_of_lt_of_le (show i < 64 by omega) (by decide)
      · rw [upd_same, List.map_append]
        rfl
      · have key : ∀ y, (upd (upd H2 t0 (.tup [.int 0])) t (.tup zer8)) y = some (.tup zer8) → upd (upd (upd H2 t0 (.tup [.int 0])) t (.tup zer8)) D (.lst (ts.map V.ref ++ [.ref t])) y = some (.tup zer8) := fun y ey => by
          rw [upd_ne fun z => by rw [z, eD] at ey; cases ey]
          exact ey
        rcases List.mem_append.mp hx with z | z
        · refine key x ?_
          have ex := h3 x z
          have n1 : x ≠ t0 := ne_of_none ex nt0
          rw [upd_ne (ne_of_none (by rw [upd_ne n1]; exact ex) nt), upd_ne n1]
          exact ex
        · have : x = t := by simpa using z
          exact key x (by rw [this]; exact upd_same)
      · have hx2 := S2 x o hx
        have n1 : x ≠ t0 := ne_of_none hx2 nt0
        rw [upd_ne (ne_of_none hx nD), upd_ne (ne_of_none (by rw [upd_ne n1]; exact hx2) nt), upd_ne n1]
        exact hx2
    rintro H2 ⟨ts, l2, e2, z2, S2⟩
    have o2 := S2 _ _ o1
    have p2 := S2 _ _ p1
    have nDd : D ≠ d := ne_of e2 o2 (by intro z; cases z)
    have zd : ∀ t ∈ ts, t ≠ d := fun t ht => ne_of (z2 t ht) o2 (by intro z; cases z)
    refine ⟨_, rfl, d, _, _, _, rfl, o2, T.cl_Disk, T.na_Disk_home, by show 1 < 1000; decide, ?_⟩
    have o3 := upd_same (H := H2) (a := d) (o := .ins T.C_Disk dx [("plan", .ref p), ("home", .ref D)])
    have p3 : upd H2 d (.ins T.C_Disk dx [("plan", .ref p), ("home", .ref D)]) p = _ := (upd_ne npd).trans p2
    have e3 : upd H2 d (.ins T.C_Disk dx [("plan", .ref p), ("home", .ref D)]) D = _ := (upd_ne nDd).trans e2
    have z3 : ∀ t ∈ ts, upd H2 d (.ins T.C_Disk dx [("plan", .ref p), ("home", .ref D)]) t = some (.tup zer8) := fun t ht => (upd_ne (zd t ht)).trans (z2 t ht)
    have k3 : Kp [d] H (upd H2 d (.ins T.C_Disk dx [("plan", .ref p), ("home", .ref D)])) := (k1.same S2).own1
    show tSeq _ _ _ _ (upd H2 d (.ins T.C_Disk dx [("plan", .ref p), ("home", .ref D)]))
    generalize upd H2 d (.ins T.C_Disk dx [("plan", .ref p), ("home", .ref D)]) = H3 at o3 p3 e3 z3 k3 ⊢
    -- the log
    refine ⟨_, rfl, p, _, _, _, _, rfl, p3, T.cl_Plan, T.na_Plan_slots, rfl, sl, rfl, by omega, by omega, fun G nG => ?_⟩
    refine lc_range (lo := 0) (n := sl.toNat) (fun i H4 => H4 = upd H3 G (.lst (List.replicate i .non))) rfl ?_ ?_
    · rintro i H4 hi rfl
      refine ⟨rfl, yes_ ⟨_, upd_same, ?_, ?_⟩⟩
      · rw [List.length_replicate]
        exact Nat.lt_of_lt_of_le (show i < 200 by omega) (by decide)
      · rw [upd_upd, List.replicate_succ']
    rintro H4 e4
    have S4 : Same H3 H4 := by rw [e4]; exact same_upd nG
    have g4 : H4 G = some (.lst (List.replicate sl.toNat .non)) := by rw [e4]; exact upd_same
    have o4 := S4 _ _ o3
    have p4 := S4 _ _ p3
    have d4 := S4 _ _ e3
    have nGd : G ≠ d := ne_of g4 o4 (by intro z; cases z)
    have nDG : D ≠ G := ne_of_none e3 nG
    refine ⟨_, rfl, d, _, _, _, rfl, o4, T.cl_Disk, T.na_Disk_log, by show 2 < 1000; decide, ?_⟩
    refine ⟨_, rfl, d, _, _, _, rfl, upd_same, T.cl_Disk, T.na_Disk_head, by show 3 < 1000; decide, ?_⟩
    refine ⟨_, rfl, d, _, _, _, rfl, upd_same, T.cl_Disk, T.na_Disk_last, by show 4 < 1000; decide, fun pd npd2 => ?_⟩
    rw [upd_upd, upd_upd] at npd2 ⊢
    have nPd : pd ≠ d := fun z => by rw [z, upd_same] at npd2; cases npd2
    have npd3 : H4 pd = none := by rw [upd_ne nPd] at npd2; exact npd2
    refine ⟨_, rfl, d, _, _, _, rfl, by rw [upd_ne nPd.symm]; exact upd_same, T.cl_Disk, T.na_Disk__pending, by show 5 < 1000; decide, ?_⟩
    rw [upd_comm nPd.symm, upd_upd]
    refine k _ ⟨p, D, G, pd⟩ ts rfl ?_ (k1.free (by simpa using nDd) nD) (k3.free (by simpa using nGd) nG) ⟨⟨dx, upd_same⟩, hP.of fun o e => ?_, ?_, ?_, ?_, npd, nDG, ?_, ?_⟩ fun t ht => ?_
    · exact (((k3.same S4).new npd3).own1 (p := d))
    · rw [hpo] at e
      cases e
      rw [upd_ne npd, upd_ne (ne_of_none p4 npd3)]
      exact p4
    · show upd _ d _ D = _
      rw [upd_ne nDd, upd_ne (ne_of_none d4 npd3)]
      exact d4
    · show upd _ d _ G = _
      rw [upd_ne nGd, upd_ne (ne_of_none g4 npd3)]
      exact g4
    · show upd _ d _ pd = _
      rw [upd_ne nPd, upd_same]
    · rw [List.length_map, l2]
      omega
    · rw [List.length_replicate]
      omega
    · have := S4 _ _ (z3 t ht)
      rw [upd_ne (zd t ht), upd_ne (ne_of_none this npd3)]
      exact this
end
end K45
namespace K45
open PySem PySem.Spec PyProof.Rows L2 Rg
/-! ### the log as a list of records with their places -/
abbrev LogL : Type := List (Option (Addr × Rec))
def gV : Option (Addr × Rec) → V
  | none => .non
  | some (a, _) => .ref a
/-- its records stand, fit, and their lots are at most M -/
def LogAt (K : PySem.W.Frag) (H : Hp) (b s M : Int) (lg : LogL) : Prop := ∀ (i : Nat) (a : Addr) (r : Rec), lg[i]? = some (some (a, r)) → RecAt K H a r ∧ Fit b s r ∧ r.lot ≤ M
theorem LogAt.same {K : PySem.W.Frag} {H H' : Hp} {b s M : Int} {lg : LogL} (h : LogAt K H b s M lg) (e : Same H H') : LogAt K H' b s M lg := fun i a r q => ⟨(h i a r q).1.same e, (h i a r q).2⟩
theorem LogAt.tk {K : PySem.W.Frag} {Ps : List Addr} {H H' : Hp} {b s M : Int} {lg : LogL} (h : LogAt K H b s M lg) (t : Tab Ps H) (k : Tk Ps H H') : LogAt K H' b s M lg := fun i a r q => ⟨(h i a r q).1.tk t k, (h i a r q).2⟩
def isMk (L : Int) : Option (Addr × Rec) → Bool
  | some (_, .mark l _ _) => decide (l = L)
  | _ => false
/-- the first slot that holds a mark of lot L -/
def fm (lg : LogL) (L : Int) : Option Nat := lg.findIdx? (isMk L)
theorem fm_some {lg : LogL} {L : Int} {j : Nat} (h : fm lg L = some j) : ∃ a ps rs, lg[j]? = some (some (a, .mark L ps rs)) := by
  unfold fm at h
  rw [List.findIdx?_eq_some_iff_getElem] at h
  obtain ⟨hj, hp, _⟩ := h
  rw [List.getElem?_eq_getElem hj]
  cases e : lg[j] with
  | none => rw [e] at hp; cases hp
  | some q =>
    obtain ⟨a, r⟩ := q
    rw [e] at hp
    cases r with
    | copy l x c => cases hp
    | mark l ps rs =>
      have : l = L := of_decide_eq_true hp
      subst this
      exact ⟨a, ps, rs, rfl⟩
theorem fm_snoc (lg : LogL) (x : Option (Addr × Rec)) (L : Int) : fm (lg ++ [x]) L = match fm lg L with
    | some j => some j
    | none => if isMk L x = true then some lg.length else none := by
  unfold fm
  rw [List.findIdx?_append]
  cases e : List.findIdx? (isMk L) lg with
  | some j => rfl
  | none =>
    show (List.findIdx? (isMk L) [x]).map (· + lg.length) = _
    by_cases h : isMk L x = true
    · rw [if_pos h, List.findIdx?_cons, if_pos h]
      simp
    · rw [if_neg h, List.findIdx?_cons, if_neg h]
      rfl
/-- the marks from lot L on: their slots and records -/
inductive Due (lg : LogL) : Int → List (Nat × Addr) → Prop
  | nil {L : Int} : fm lg L = none → Due lg L []
  | cons {L : Int} {j : Nat} {a : Addr} {r : Rec} {ds : List (Nat × Addr)} : fm lg L = some j → lg[j]? = some (some (a, r)) → Due lg (L + 1) ds → Due lg L ((j, a) :: ds)
theorem due_ex {K : PySem.W.Frag} {H : Hp} {b s M : Int} {lg : LogL} (hl : LogAt K H b s M lg) : ∀ (n : Nat) (L : Int), M + 1 - L ≤ (n : Int) → ∃ ds, Due lg L ds ∧ ds.length ≤ n
  | 0, L, h => ⟨[], .nil (by
      cases e : fm lg L with
      | none => rfl
      | some j =>
        obtain ⟨a, ps, rs, q⟩ := fm_some e
        have := (hl j a _ q).2.2
        have : L ≤ M := this
        omega), Nat.le_refl _⟩
  | n + 1, L, h => by
    cases e : fm lg L with
    | none => exact ⟨[], .nil e, Nat.zero_le _⟩
    | some j =>
      obtain ⟨a, ps, rs, q⟩ := fm_some e
      obtain ⟨ds, h1, h2⟩ := due_ex hl n (L + 1) (by omega)
      exact ⟨(j, a) :: ds, .cons e q h1, by simp only [List.length_cons]; omega⟩
theorem Due.drop {lg : LogL} {L : Int} {ds : List (Nat × Addr)} (h : Due lg L ds) : ∀ k : Nat, k ≤ ds.length → Due lg (L + k) (ds.drop k) := by
  intro k
  induction k with
  | zero => intro _; simpa using h
  | succ k ih =>
    intro hk
    have q := ih (by omega)
    obtain ⟨⟨j, a⟩, e⟩ : ∃ d, ds.drop k = d :: ds.drop (k + 1) := ⟨ds[k]'(by omega), List.drop_eq_getElem_cons (by omega)⟩
    rw [e] at q
    cases q with
    | cons h1 h2 h3 =>
      rw [show L + ((k + 1 : Nat) : Int) = L + (k : Int) + 1 by omega]
      exact h3
/-- tuples of slots and records stand at ts -/
def MksAt (H : Hp) (ts : List Addr) (ds : List (Nat × Addr)) : Prop := ts.length = ds.length ∧ ∀ (i : Nat) (t : Addr) (p : Nat × Addr), ts[i]? = some t → ds[i]? = some p → H t = some (.tup [.int (p.1 : Int), .ref p.2])
theorem MksAt.same {H H' : Hp} {ts : List Addr} {ds : List (Nat × Addr)} (h : MksAt H ts ds) (e : Same H H') : MksAt H' ts ds := ⟨h.1, fun i t p a b => e _ _ (h.2 i t p a b)⟩
theorem MksAt.snoc {H : Hp} {ts : List Addr} {ds : List (Nat × Addr)} {t : Addr} {p : Nat × Addr} (h : MksAt H ts ds) (e : H t = some (.tup [.int (p.1 : Int), .ref p.2])) : MksAt H (ts ++ [t]) (ds ++ [p]) := by
  refine ⟨by simp [h.1], fun i u q a b => ?_⟩
  by_cases hi : i < ts.length
  · rw [List.getElem?_append_left hi] at a
    rw [List.getElem?_append_left (by rw [← h.1]; exact hi)] at b
    exact h.2 i u q a b
  · have h0 : ts.length ≤ i := Nat.le_of_not_lt hi
    rw [List.getElem?_append_right h0] at a
    rw [List.getElem?_append_right (by rw [← h.1]; exact h0), ← h.1] at b
    cases hk : i - ts.length with
    | zero =>
      rw [hk] at a b
      cases a
      cases b
      exact e
    | succ m =>
      rw [hk] at a
      simp at a
end K45
namespace K45
open PySem PySem.Spec PyProof.Rows L2 Rg
section
variable {P : Program} {w : World} {K : PySem.W.Frag} {mg : Str → Option Value} {base : Heap}
def sp_found_marks (CD CP : Addr) (K : PySem.W.Frag) : Sp := fun vs H Q _ => ∃ (d : Addr) (A : DA) (b n s hd la M : Int) (hs : List V) (lg : LogL) (kv : List (Key × V)) (ds : List (Nat × Addr)), vs = [.ref d] ∧ DAt CD CP H d A b n s hd la hs (lg.map gV) kv ∧ LogAt K H b s M lg ∧ Due lg (hd + 1) ds ∧ ds.length ≤ 1000 ∧ s ≤ 1000 ∧ 0 ≤ hd ∧ hd ≤ 999999 ∧
  ∀ (H' : Hp) (q : Addr) (ts : List Addr), Same H H' → H q = none → H' q = some (.lst (ts.map V.ref)) → MksAt H' ts ds → Q (.ref q) H'
theorem ok_found_marks (T : Tx K mg) : FnOk P w K mg base CX0 1 T.f_found_marks T.fd_found_marks ["disk"] (sp_found_marks T.C_Disk T.C_Plan K) := by
  refine T.F_found_marks.ok sc_found_marks (fun vs H Q E h => ?_) (fun cdv A outer s H vs Q E hr h => ?_)
  · obtain ⟨_, _, _, _, _, _, _, _, _, _, _, _, rfl, _⟩ := h; rfl
  · obtain ⟨d, A, b, n, sl, hd, la, M, hs, lg, kv0, ds, rfl, D, hL, hD, hdl, hsl, hd0, hd1, k⟩ := h
    refine ⟨_, (pss_cons (ps_set (i := 1) sc_found_marks.nd rfl (.inl rfl) pe_dnewK)
      (pss_cons (ps_for PassesOwn.never rfl (pi_enumA rfl T.b_enumerate (pa_cons (pe_fld (pv 0) rfl) pa_nil)) (pg_tup rfl (pgs_cons (pg_name (i := 2) sc_found_marks.nd rfl (.inl rfl)) (pgs_cons (pg_name (i := 3) sc_found_marks.nd rfl (.inl rfl)) pgs_nil)))
        (pss_one (ps_if (PW.pt (pw_and (pt_cmpR op_notN (pv 3) pe_non (nomark _)) (pw_and (pt_cmpR op_eq (pe_ix ix_tup (pv 3) pe_int (fun _ _ => rfl)) pe_str (nomark _)) (pw_and1 (pt_cmp (pc_dnotin (hu_of hr) (pe_ix ix_tup (pv 3) pe_int (fun _ _ => rfl)) (pv 1)) rfl)))))
          (pss_one (ps_dput (hu_of hr) (pv 1) (pe_ix ix_tup (pv 3) pe_int (fun _ _ => rfl)) (pv 2) rfl))
          pss_nil)))
      (pss_cons (ps_set (i := 4) sc_found_marks.nd rfl (.inl rfl) (pe_lst pa_nil))
      (pss_cons (ps_set (i := 5) sc_found_marks.nd rfl (.inl rfl) (pe_op op_add (pe_fld (pv 0) rfl) pe_int))
      (pss_cons (ps_while PassesOwn.never (pt_cmp (pc_din (hu_of hr) (pv 5) (pv 1)) rfl)
        (pss_cons (ps_expr (pe_bm PySem.F.plainAttrs_list PySem.F.slot_list_append PySem.F.type_list_append mt_append (pv 4) (pa_cons (pe_tup (pa_cons (pe_dget (hu_of hr) (pv 1) (pv 5) (fun _ _ => rfl)) (pa_cons (pe_ix ix_list (pe_fld (pv 0) rfl) (pe_dget (hu_of hr) (pv 1) (pv 5) (fun _ _ => rfl)) (fun _ _ => rfl)) pa_nil))) pa_nil)))
        (pss_one (ps_aug (i := 5) sc_found_marks.nd rfl (.inl rfl) pe_int ip_add))))
      (pss_one (ps_ret (pv 4)))))))), ?_⟩
    obtain ⟨dx, ho⟩ := D.ob
    have lgl : (lg.length : Int) = sl := by have := D.gl; rw [List.length_map] at this; exact this
    intro p np
    have st0 := same_upd (o := .dK []) np
    have e0 := upd_same (H := H) (a := p) (o := .dK [])
    refine ⟨_, rfl, d, _, _, _, _, rfl, st0 _ _ ho, T.cl_Disk, T.na_Disk_log, rfl, A.lg, lg.map gV, rfl, .inl (st0 _ _ D.lg), fun J hJ => ?_⟩
    rw [List.length_map] at hJ
    refine for_it hJ (fun i σ H2 => ∃ (v2 v3 : Option V) (kv : List (Key × V)), σ = [some (.ref d), some (.ref p), v2, v3, none, none] ∧ Same H H2 ∧ H2 p = some (.dK kv) ∧ kv.length ≤ i ∧ ∀ L : Int, valV kv (Sum.inl L) = (fm (lg.take i) L).map fun j => V.int (j : Int))
      ⟨none, none, [], rfl, st0, e0, Nat.le_refl _, fun L => rfl⟩ (fun i σ H2 _ ⟨_, _, _, _, S2, _⟩ => (S2 _ _ D.lg).trans (st0 _ _ D.lg).symm) ?_ ?_
    · rintro i x σ H2 H2' hi ⟨v2, v3, kv, rfl, S2, ep, hkl, hkv⟩ ⟨t, x1, x2, rfl, nt, rfl, e1, e2⟩
      cases e1
      have hlt : i < lg.length := hi
      have hx : lg[i]? = some lg[i] := List.getElem?_eq_getElem hlt
      have e2 : gV lg[i] = x2 := by
        have e2 : (lg.map gV)[i]? = some x2 := e2
        rw [List.getElem?_map, hx] at e2
        exact Option.some.inj e2
      subst e2
      have st2 := same_upd (o := .tup [.int (i : Int), gV lg[i]]) nt
      have S3 : Same H (upd H2 t (.tup [.int (i : Int), gV lg[i]])) := S2.trans st2
      have ep3 := st2 _ _ ep
      have et3 := upd_same (H := H2) (a := t) (o := .tup [.int (i : Int), gV lg[i]])
      generalize upd H2 t (.tup [.int (i : Int), gV lg[i]]) = H3 at S3 ep3 et3 ⊢
      have tk : lg.take (i + 1) = lg.take i ++ [lg[i]] := take_snoc hx
      have tl : (lg.take i).length = i := by rw [List.length_take]; omega
      -- where no mark comes in
      have skip : (∀ L : Int, isMk L lg[i] = true → ∃ j, fm (lg.take i) L = some j) → ∀ L : Int, valV kv (Sum.inl L) = (fm (lg.take (i + 1)) L).map fun j => V.int (j : Int) := fun h L => by
        rw [hkv L, tk, fm_snoc]
        cases q : fm (lg.take i) L with
        | some j => rfl
        | none =>
          by_cases z : isMk L lg[i] = true
          · obtain ⟨j, hj⟩ := h L z
            rw [hj] at q
            cases q
          · simp [z]
      refine ⟨t, _, rfl, .of et3, rfl, _, _, rfl, _, _, rfl, rfl, ?_⟩
      cases q : lg[i] with
      | none =>
        refine ⟨_, rfl, rfl, _, rfl, iteF ⟨_, _, kv, rfl, S3, ep3, by omega, skip fun L z => ?_⟩⟩
        rw [q] at z
        cases z
      | some ar =>
        obtain ⟨ra, r⟩ := ar
        have hr1 := hL i ra r (by rw [hx, q])
        have hR := hr1.1.same S3
        refine ⟨_, rfl, rfl, _, rfl, iteT ?_⟩
        cases r with
        | copy lot x c =>
          obtain ⟨pc, h1, h2⟩ := hR
          refine ⟨_, rfl, ra, _, 0, .str "copy", rfl, rfl, h1, rfl, rfl, _, rfl, iteF ⟨_, _, kv, rfl, S3, ep3, by omega, skip fun L z => ?_⟩⟩
          rw [q] at z
          cases z
        | mark lot ps rs =>
          obtain ⟨pp, pr, h1, h2, h3⟩ := hR
          refine ⟨_, rfl, ra, _, 0, .str "mark", rfl, rfl, h1, rfl, rfl, _, rfl, iteT ?_⟩
          refine ⟨_, rfl, ra, _, 1, .int lot, rfl, rfl, h1, rfl, _, rfl, p, _, rfl, DGet.k (k := Sum.inl lot) ep3, _, rfl, ?_⟩
          rw [hkv lot]
          cases f : fm (lg.take i) lot with
          | some j =>
            refine iteF ⟨_, _, kv, rfl, S3, ep3, by omega, skip fun L z => ?_⟩
            rw [q] at z
            have : lot = L := of_decide_eq_true z
            subst this
            exact ⟨j, f⟩
          | none =>
            refine iteT ⟨_, rfl, _, rfl, _, rfl, ra, _, 1, .int lot, rfl, rfl, h1, rfl, p, _, rfl, DPut.k (k := Sum.inl lot) ep3 ?_, _, _, putK kv (Sum.inl lot) (.int (i : Int)), rfl, ?_, upd_same, ?_, fun L => ?_⟩
            · exact Nat.lt_of_le_of_lt (show kv.length ≤ 1000 by omega) (by decide)
            · exact fun y o hy => by
                rw [upd_ne (ne_of_none hy np)]
                exact S3 y o hy
            · have := length_putK kv (Sum.inl lot) (.int (i : Int))
              omega
            · rw [valV_put, hkv L, tk, fm_snoc, q]
              by_cases z : L = lot
              · subst z
                rw [if_pos rfl, f]
                simp [isMk, tl]
              · rw [if_neg fun y => z (Sum.inl.inj y)]
                have : isMk L (some (ra, .mark lot ps rs)) = false := decide_eq_false fun y => z y.symm
                cases g : fm (lg.take i) L with
                | some j => rfl
                | none => simp [this]
    rintro σ H2 ⟨v2, v3, kv, rfl, S2, ep, hkl, hkv⟩
    rw [List.take_length] at hkv
    refine ⟨Nat.zero_le _, fun m nm => ?_⟩
    have nmH : H m = none := by
      cases q : H m with
      | none => rfl
      | some o => rw [S2 _ _ q] at nm; cases nm
    have s3 := same_upd (o := .lst []) nm
    refine ⟨_, rfl, d, _, _, _, _, rfl, s3 _ _ (S2 _ _ ho), T.cl_Disk, T.na_Disk_head, rfl, _, _, rfl, rfl, ?_⟩
    refine ⟨fun mm σ H4 => ∃ (k : Nat) (ts : List Addr), mm = ds.length - k ∧ k ≤ ds.length ∧ σ = [some (.ref d), some (.ref p), v2, v3, some (.ref m), some (.int (hd + 1 + (k : Int)))] ∧ Same H H4 ∧ H4 p = some (.dK kv) ∧ H4 m = some (.lst (ts.map V.ref)) ∧ MksAt H4 ts (ds.take k),
      ⟨ds.length, 0, [], rfl, Nat.zero_le _, ?_, S2.trans s3, s3 _ _ ep, upd_same, rfl, fun i t p a _ => by simp at a⟩, ?_⟩
    · show [_, _, _, _, _, some (V.int (hd + 1))] = _
      rw [show hd + 1 + ((0 : Nat) : Int) = hd + 1 by omega]
    rintro mm σ H4 ⟨kk, ts, rfl, hk, rfl, S4, e4, em, hM⟩
    have hdr := hD.drop kk hk
    refine ⟨_, rfl, _, rfl, p, _, rfl, DGet.k (k := Sum.inl (hd + 1 + (kk : Int))) e4, _, rfl, ?_⟩
    have hv := hkv (hd + 1 + (kk : Int))
    cases f : fm lg (hd + 1 + (kk : Int)) with
    | none =>
      rw [f] at hv
      rw [hv]
      have e : kk = ds.length := by
        cases hdr' : ds.drop kk with
        | nil =>
          have := congrArg List.length hdr'
          rw [List.length_drop, List.length_nil] at this
          omega
        | cons c r =>
          rw [hdr'] at hdr
          cases hdr with
          | cons g _ _ =>
            rw [f] at g
            cases g
      rw [e, List.take_length] at hM
      exact iteF ⟨_, rfl, k H4 m ts S4 nmH em hM⟩
    | some j =>
      rw [f] at hv
      rw [hv]
      cases hdr' : ds.drop kk with
      | nil =>
        rw [hdr'] at hdr
        cases hdr with
        | nil g =>
          rw [f] at g
          cases g
      | cons c r =>
        rw [hdr'] at hdr
        have hlt : kk < ds.length := by
          have := congrArg List.length hdr'
          rw [List.length_drop, List.length_cons] at this
          omega
        cases hdr with
        | @cons _ j' ra rr _ g1 g2 g3 =>
          rw [f] at g1
          cases g1
          have hc : ds[kk]? = some (j, ra) := by
            have := congrArg List.head? hdr'
            rw [List.head?_drop] at this
            exact this
          have hj : j < lg.length := (List.getElem?_eq_some_iff.mp g2).1
          have hg : (lg.map gV)[j]? = some (.ref ra) := by
            rw [List.getElem?_map, g2]
            rfl
          have gd : DGet H4 p (.int (hd + 1 + (kk : Int))) (some (.int (j : Int))) := by
            have := DGet.k (k := Sum.inl (hd + 1 + (kk : Int))) e4
            rw [hv] at this
            exact this
          refine iteT ⟨fun σ' H' => ∃ (ts : List Addr), σ' = [some (.ref d), some (.ref p), v2, v3, some (.ref m), some (.int (hd + 1 + ((kk + 1 : Nat) : Int)))] ∧ Same H H' ∧ H' p = some (.dK kv) ∧ H' m = some (.lst (ts.map V.ref)) ∧ MksAt H' ts (ds.take (kk + 1)), fun σ' H' ⟨ts, h1, h2, h3, h4, h5⟩ => ⟨ds.length - (kk + 1), by omega, kk + 1, ts, rfl, hlt, h1, h2, h3, h4, h5⟩, ?_⟩
          refine ⟨_, rfl, .inl ⟨rfl, _, .inl (.inl em)⟩, _, rfl, _, rfl, p, _, rfl, gd, ?_⟩
          refine ⟨_, rfl, d, _, _, _, _, rfl, S4 _ _ ho, T.cl_Disk, T.na_Disk_log, rfl, _, rfl, _, rfl, p, _, rfl, gd, A.lg, _, _, _, rfl, rfl, .of (S4 _ _ D.lg), atN (j := j) rfl hg, ?_⟩
          refine ⟨by show 2 ≤ sizeLine; decide, fun t nt => ?_⟩
          have s5 := same_upd (o := .tup [.int (j : Int), .ref ra]) nt
          have et := upd_same (H := H4) (a := t) (o := .tup [.int (j : Int), .ref ra])
          generalize upd H4 t (.tup [.int (j : Int), .ref ra]) = H5 at s5 et ⊢
          have em5 := s5 _ _ em
          refine ⟨m, _, _, rfl, rfl, em5, ?_, ?_⟩
          · rw [List.length_map, hM.1, List.length_take]
            exact Nat.lt_of_le_of_lt (show min kk ds.length ≤ 1000 by omega) (by decide)
          refine ⟨_, rfl, _, _, rfl, rfl, ts ++ [t], ?_, fun y o hy => ?_, ?_, ?_, ?_⟩
          · show [_, _, _, _, _, some (V.int (hd + 1 + (kk : Int) + 1))] = _
            rw [show hd + 1 + ((kk + 1 : Nat) : Int) = hd + 1 + (kk : Int) + 1 by omega]
          · rw [upd_ne (ne_of_none hy nmH)]
            exact s5 _ _ (S4 y o hy)
          · rw [upd_ne (ne_of (s5 _ _ e4) em5 (by intro z; cases z))]
            exact s5 _ _ e4
          · rw [upd_same, List.map_append]
            rfl
          · have h5 : MksAt H5 (ts ++ [t]) (ds.take kk ++ [(j, ra)]) := (hM.same s5).snoc et
            rw [take_snoc hc]
            refine ⟨h5.1, fun i u q a b => ?_⟩
            have := h5.2 i u q a b
            rw [upd_ne (ne_of this em5 (by intro z; cases z))]
            exact this
end
end K45
namespace K45
open PySem PySem.Spec PyProof.Rows L2 Rg
/-! ### records compared -/
def dIt (c : List Int) : PyData := .tuple (c.map PyData.int)
def dPr (p : Int × Int) : PyData := .tuple [.int p.1, .int p.2]
def dR : Rec → PyData
  | .copy l x c => .tuple [.str "copy", .int l, .int x, dIt c]
  | .mark l ps rs => .tuple [.str "mark", .int l, .tuple (ps.map dPr), dIt rs]
theorem r_canI : ∀ ns : List Int, PyData.canLayAll0 (ns.map PyData.int) = true
  | [] => rfl
  | n :: ns => by
    show (PyData.canLay0 (.int n) && PyData.canLayAll0 (ns.map PyData.int)) = true
    rw [r_canI ns]
    rfl
theorem r_depI : ∀ ns : List Int, PyData.depthAll (ns.map PyData.int) = 0
  | [] => rfl
  | n :: ns => by
    show max (PyData.depth (.int n)) (PyData.depthAll (ns.map PyData.int)) = 0
    rw [r_depI ns]
    rfl
theorem r_canP : ∀ ps : List (Int × Int), PyData.canLayAll0 (ps.map dPr) = true
  | [] => rfl
  | p :: ps => by
    show (PyData.canLay0 (dPr p) && PyData.canLayAll0 (ps.map dPr)) = true
    rw [r_canP ps]
    rfl
theorem r_depP : ∀ ps : List (Int × Int), PyData.depthAll (ps.map dPr) ≤ 1
  | [] => Nat.zero_le _
  | p :: ps => by
    show max (PyData.depth (dPr p)) (PyData.depthAll (ps.map dPr)) ≤ 1
    have := r_depP ps
    have : PyData.depth (dPr p) = 1 := rfl
    omega
theorem canR (r : Rec) : PyData.canLay0 (dR r) = true := by
  cases r with
  | copy l x c =>
    show (PyData.canLay0 (.str "copy") && (PyData.canLay0 (.int l) && (PyData.canLay0 (.int x) && (PyData.canLayAll0 (c.map PyData.int) && true)))) = true
    rw [r_canI, show PyData.canLay0 (.str "copy") = true by decide +kernel]
    rfl
  | mark l ps rs =>
    show (PyData.canLay0 (.str "mark") && (PyData.canLay0 (.int l) && (PyData.canLayAll0 (ps.map dPr) && (PyData.canLayAll0 (rs.map PyData.int) && true)))) = true
    rw [r_canI, r_canP, show PyData.canLay0 (.str "mark") = true by decide +kernel]
    rfl
theorem depR (r : Rec) : PyData.depth (dR r) ≤ 3 := by
  cases r with
  | copy l x c =>
    show max (PyData.depth (.str "copy")) (max (PyData.depth (.int l)) (max (PyData.depth (.int x)) (max (PyData.depthAll (c.map PyData.int) + 1) 0))) + 1 ≤ 3
    rw [r_depI]
    show max 0 (max 0 (max 0 (max 1 0))) + 1 ≤ 3
    decide
  | mark l ps rs =>
    show max (PyData.depth (.str "mark")) (max (PyData.depth (.int l)) (max (PyData.depthAll (ps.map dPr) + 1) (max (PyData.depthAll (rs.map PyData.int) + 1) 0))) + 1 ≤ 3
    rw [r_depI]
    have := r_depP ps
    show max 0 (max 0 (max (PyData.depthAll (ps.map dPr) + 1) (max 1 0))) + 1 ≤ 3
    omega
theorem shR (r : Rec) : SeqAt.shaped (dR r) = true := by
  unfold SeqAt.shaped
  rw [canR r, Bool.true_and]
  exact decide_eq_true (Nat.le_trans (depR r) (by decide))
theorem eqR (r : Rec) : PyData.eqv (dR r) (dR r) = true := SeqAt.eqv_refl _ (canR r)
section
variable {K : PySem.W.Frag} {H : Hp}
theorem r_dpAllI : ∀ ns : List Int, DpAll K H (ns.map V.int) (ns.map PyData.int)
  | [] => .nil
  | n :: ns => .cons (.int n) (r_dpAllI ns)
theorem r_dpAllP : ∀ (qs : List Addr) (ps : List (Int × Int)), qs.length = ps.length → (∀ (i : Nat) (q : Addr) (p : Int × Int), qs[i]? = some q → ps[i]? = some p → SqT K H q [.int p.1, .int p.2]) → DpAll K H (qs.map V.ref) (ps.map dPr)
  | [], [], _, _ => .nil
  | q :: qs, p :: ps, hl, h => .cons (.tup (h 0 q p rfl rfl) (.cons (.int _) (.cons (.int _) .nil))) (r_dpAllP qs ps (by simpa using hl) fun i q p a b => h (i + 1) q p (by simpa using a) (by simpa using b))
  | [], _ :: _, hl, _ => by simp at hl
  | _ :: _, [], hl, _ => by simp at hl
theorem dpR {a : Addr} {r : Rec} (h : RecAt K H a r) : Dp K H (.ref a) (dR r) := by
  cases r with
  | copy l x c =>
    obtain ⟨pc, h1, h2⟩ := h
    exact .tup h1 (.cons (.str _) (.cons (.int _) (.cons (.int _) (.cons (.tup h2 (r_dpAllI c)) .nil))))
  | mark l ps rs =>
    obtain ⟨pp, pr, h1, ⟨qs, g1, g2, g3⟩, h3⟩ := h
    exact .tup h1 (.cons (.str _) (.cons (.int _) (.cons (.tup g1 (r_dpAllP qs ps g2 g3)) (.cons (.tup h3 (r_dpAllI rs)) .nil))))
end
/-! ### a log compared with itself -/
def dO : Option (Addr × Rec) → PyData
  | none => .none
  | some (_, r) => dR r
theorem canO (x : Option (Addr × Rec)) : PyData.canLay0 (dO x) = true := by
  cases x with
  | none => rfl
  | some p => exact canR p.2
theorem depO (x : Option (Addr × Rec)) : PyData.depth (dO x) ≤ 3 := by
  cases x with
  | none => exact Nat.zero_le _
  | some p => exact depR p.2
theorem canL : ∀ lg : LogL, PyData.canLayAll0 (lg.map dO) = true
  | [] => rfl
  | x :: lg => by
    show (PyData.canLay0 (dO x) && PyData.canLayAll0 (lg.map dO)) = true
    rw [canO, canL lg]
    rfl
theorem depL : ∀ lg : LogL, PyData.depthAll (lg.map dO) ≤ 3
  | [] => Nat.zero_le _
  | x :: lg => by
    show max (PyData.depth (dO x)) (PyData.depthAll (lg.map dO)) ≤ 3
    have := depO x
    have := depL lg
    omega
theorem shL (lg : LogL) : SeqAt.shaped (.list (lg.map dO)) = true := by
  unfold SeqAt.shaped
  rw [Bool.and_eq_true]
  refine ⟨canL lg, decide_eq_true ?_⟩
  show PyData.depthAll (lg.map dO) + 1 ≤ 64
  have := depL lg
  omega
theorem eqL (lg : LogL) : PyData.eqv (.list (lg.map dO)) (.list (lg.map dO)) = true := SeqAt.eqv_refl _ (canL lg)
theorem dpAllL {K : PySem.W.Frag} {H : Hp} : ∀ lg : LogL, (∀ x ∈ lg, ∀ a r, x = some (a, r) → RecAt K H a r) → DpAll K H (lg.map gV) (lg.map dO)
  | [], _ => .nil
  | x :: lg, h => by
    refine .cons ?_ (dpAllL lg fun y hy => h y (List.mem_cons_of_mem _ hy))
    cases x with
    | none => exact .non
    | some p => exact dpR (h _ List.mem_cons_self p.1 p.2 rfl)
theorem LogAt.dp {K : PySem.W.Frag} {H : Hp} {b s M : Int} {lg : LogL} {q : Addr} (h : LogAt K H b s M lg) (e : SqL K H q (lg.map gV)) : Dp K H (.ref q) (.list (lg.map dO)) := by
  refine .lst e (dpAllL lg fun x hx a r ex => ?_)
  obtain ⟨i, hi⟩ := List.getElem?_of_mem hx
  exact (h i a r (by rw [hi, ex])).1
end K45
namespace K45
open PySem PySem.Spec PyProof.Rows L2 Rg
section
variable {P : Program} {w : World} {K : PySem.W.Frag} {mg : Str → Option Value} {base : Heap}
/-- a record of the lot comes; the feed is at p -/
def sp_Lrecord (K : PySem.W.Frag) : Sp := fun vs H Q _ => ∃ (p : Addr) (fs : List Int) (lot : Int), vs = [.ref p, .int lot] ∧ H p = some (.lst (fs.map V.int)) ∧ 1 ≤ lot ∧ lot ≤ 9 ∧
  ∀ (H' : Hp) (a : Addr) (r : Rec) (fs' : List Int), Kp [p] H H' → H' p = some (.lst (fs'.map V.int)) → RecAt K H' a r → Fit 24 30 r → r.lot = lot → Q (.ref a) H'
theorem ok_Lrecord (T : Tx K mg) : FnOk P w K mg base CX0 2 T.f_Lrecord T.fd_Lrecord ["_law_feed_here", "_law_lot"] (sp_Lrecord K) := by
  refine T.F_Lrecord.ok sc_Lrecord (fun vs H Q E h => ?_) (fun cdv A outer s H vs Q E hr h => ?_)
  · obtain ⟨_, _, _, rfl, _⟩ := h; rfl
  · obtain ⟨p, fs, lot, rfl, hp, l1, l9, k⟩ := h
    refine ⟨_, (pss_cons (ps_set (i := 2) sc_Lrecord.nd rfl (.inl rfl) (pe_op op_add pe_int (pe_call (ok_Lpick T) hr rfl T.mg_Lpick T.F_Lpick.kp (b_Lpick T) .nil pass0 (pa_cons (pv 0) (pa_cons pe_int pa_nil)))))
      (pss_cons (ps_set (i := 3) sc_Lrecord.nd rfl (.inl rfl) (pe_call (ok_Lpick T) hr rfl T.mg_Lpick T.F_Lpick.kp (b_Lpick T) .nil pass0 (pa_cons (pv 0) (pa_cons pe_int pa_nil))))
      (pss_cons (ps_if (pt_cmpR op_eq (pv 3) pe_int (nomark _))
        (pss_one (ps_ret (pe_tup (pa_cons pe_str (pa_cons (pv 1) (pa_cons (pv 2) (pa_cons (pe_tup (pa_cons (pv 1) (pa_cons (pv 2) (pa_cons pe_int (pa_cons pe_int (pa_cons pe_int (pa_cons pe_int (pa_cons pe_int (pa_cons (pe_call (ok_Lpick T) hr rfl T.mg_Lpick T.F_Lpick.kp (b_Lpick T) .nil pass0 (pa_cons (pv 0) (pa_cons pe_int pa_nil))) pa_nil))))))))) pa_nil)))))))
        pss_nil)
      (pss_cons (ps_if (pt_cmpR op_eq (pv 3) pe_int (nomark _))
        (pss_one (ps_ret (pe_tup (pa_cons pe_str (pa_cons (pv 1) (pa_cons (pe_tup (pa_cons (pe_tup (pa_cons (pv 2) (pa_cons (pe_un un_neg pe_int) pa_nil))) pa_nil)) (pa_cons (pe_tup pa_nil) pa_nil)))))))
        pss_nil)
      (pss_cons (ps_if (pt_cmpR op_eq (pv 3) pe_int (nomark _))
        (pss_one (ps_ret (pe_tup (pa_cons pe_str (pa_cons (pv 1) (pa_cons (pe_tup (pa_cons (pe_tup (pa_cons pe_int (pa_cons pe_int pa_nil))) (pa_cons (pe_tup (pa_cons (pv 2) (pa_cons (pe_call (ok_Lpick T) hr rfl T.mg_Lpick T.F_Lpick.kp (b_Lpick T) .nil pass0 (pa_cons (pv 0) (pa_cons pe_int pa_nil))) pa_nil))) pa_nil))) (pa_cons (pe_tup (pa_cons (pv 2) pa_nil)) pa_nil)))))))
        pss_nil)
      (pss_one (ps_ret (pe_tup (pa_cons pe_str (pa_cons (pv 1) (pa_cons (pe_tup pa_nil) (pa_cons (pe_tup pa_nil) pa_nil)))))))))))), ?_⟩
    have small : ∀ {n : Nat}, n ≤ 8 → n ≤ sizeLine := fun h => Nat.le_trans h (by decide)
    refine ⟨_, rfl, p, fs, 14, rfl, hp, by decide, fun r0 fs1 h0 h14 _ => ⟨_, _, rfl, rfl, ?_⟩⟩
    refine ⟨_, rfl, p, fs1, 4, rfl, upd_same, by decide, fun kd fs2 hk0 hk4 _ => ?_⟩
    rw [upd_upd]
    have k2 : Kp [p] H (upd H p (.lst (fs2.map V.int))) := Kp.refl.own1
    have p2 := upd_same (H := H) (a := p) (o := .lst (fs2.map V.int))
    show tSeq _ _ _ _ (upd H p (.lst (fs2.map V.int)))
    generalize upd H p (.lst (fs2.map V.int)) = H2 at k2 p2 ⊢
    have rg : ∀ {x : Int}, x = 10 + r0 → 0 ≤ x ∧ x ≤ 63 ∧ x < 24 := fun h => by omega
    refine ⟨_, rfl, rfl, _, rfl, ite2 (fun z => ?_) fun z => ?_⟩
    · refine ⟨_, rfl, _, rfl, _, rfl, _, rfl, _, rfl, p, fs2, 9, rfl, p2, by decide, fun v fs3 hv0 hv9 _ => ?_⟩
      have k3 := k2.own1 (o := .lst (fs3.map V.int))
      have p3 := upd_same (H := H2) (a := p) (o := .lst (fs3.map V.int))
      generalize upd H2 p (.lst (fs3.map V.int)) = H3 at k3 p3 ⊢
      refine ⟨small (Nat.le_of_ble_eq_true rfl), fun pc nc => ⟨small (Nat.le_of_ble_eq_true rfl), fun t nt => ?_⟩⟩
      have s4 := same_upd (o := .tup [.int lot, .int (10 + r0), .int 0, .int 0, .int 0, .int 0, .int 0, .int v]) nc
      have c4 := upd_same (H := H3) (a := pc) (o := .tup [.int lot, .int (10 + r0), .int 0, .int 0, .int 0, .int 0, .int 0, .int v])
      have s5 := same_upd (o := .tup [.str "copy", .int lot, .int (10 + r0), .ref pc]) nt
      refine k _ t (.copy lot (10 + r0) [lot, 10 + r0, 0, 0, 0, 0, 0, v]) fs3 ((k3.same s4).same s5) (s5 _ _ (s4 _ _ p3)) ⟨pc, .of upd_same, .of (s5 _ _ c4)⟩ ⟨l1, by omega, by omega, by omega, by omega, rfl, fun i hi => ?_⟩ rfl
      simp only [List.mem_cons, List.not_mem_nil, or_false] at hi
      rcases hi with rfl | rfl | rfl | rfl | rfl | rfl | rfl | rfl <;> omega
    refine ⟨_, rfl, rfl, _, rfl, ite2 (fun z => ?_) fun z => ?_⟩
    · refine ⟨_, rfl, _, rfl, _, rfl, small (Nat.le_of_ble_eq_true rfl), fun q nq => ⟨small (Nat.le_of_ble_eq_true rfl), fun pp npp => ⟨small (Nat.le_of_ble_eq_true rfl), fun pr npr => ⟨small (Nat.le_of_ble_eq_true rfl), fun t nt => ?_⟩⟩⟩⟩
      have s4 := same_upd (o := .tup [.int (10 + r0), .int (-1)]) nq
      have c4 := upd_same (H := H2) (a := q) (o := .tup [.int (10 + r0), .int (-1)])
      have s5 := same_upd (o := .tup [.ref q]) npp
      have c5 := upd_same (H := upd H2 q (.tup [.int (10 + r0), .int (-1)])) (a := pp) (o := .tup [.ref q])
      have s6 := same_upd (o := .tup []) npr
      have c6 := upd_same (H := upd (upd H2 q (.tup [.int (10 + r0), .int (-1)])) pp (.tup [.ref q])) (a := pr) (o := .tup [])
      have s7 := same_upd (o := .tup [.str "mark", .int lot, .ref pp, .ref pr]) nt
      refine k _ t (.mark lot [(10 + r0, -1)] []) fs2 ((((k2.same s4).same s5).same s6).same s7) (s7 _ _ (s6 _ _ (s5 _ _ (s4 _ _ p2)))) ⟨pp, pr, .of upd_same, ⟨[q], .of (s7 _ _ (s6 _ _ c5)), rfl, fun i u pr' a b => ?_⟩, .of (s7 _ _ c6)⟩ ⟨l1, by omega, Nat.le_of_ble_eq_true rfl, Nat.le_of_ble_eq_true rfl, fun p' hp' => ?_, fun i x y a b => ?_, fun _ h => by simp at h, fun i x y a => by simp at a⟩ rfl
      · cases i with
        | zero => cases a; cases b; exact .of (s7 _ _ (s6 _ _ (s5 _ _ c4)))
        | succ i => simp at a
      · have : p' = (10 + r0, -1) := by simpa using hp'
        subst this
        exact ⟨by show 0 ≤ 10 + r0; omega, by show 10 + r0 ≤ 63; omega, by show 10 + r0 < 24; omega, by show (-1 : Int) ≤ -1; decide, by show (-1 : Int) ≤ 199; decide, by show (-1 : Int) < 30; decide⟩
      · simp at b
    refine ⟨_, rfl, rfl, _, rfl, ite2 (fun z => ?_) fun z => ?_⟩
    · refine ⟨_, rfl, small (Nat.le_of_ble_eq_true rfl), fun q1 nq1 => ?_⟩
      have s3 := same_upd (o := .tup [.int 0, .int 3]) nq1
      have c3 := upd_same (H := H2) (a := q1) (o := .tup [.int 0, .int 3])
      have k3 := k2.same s3
      have p3 := s3 _ _ p2
      generalize upd H2 q1 (.tup [.int 0, .int 3]) = H3 at s3 c3 k3 p3 ⊢
      refine ⟨_, rfl, _, rfl, p, fs2, 30, rfl, p3, by decide, fun v fs3 hv0 hv30 _ => ?_⟩
      have nq1p : q1 ≠ p := ne_of c3 p3 (by intro z; cases z)
      have k4 := k3.own1 (o := .lst (fs3.map V.int))
      have p4 := upd_same (H := H3) (a := p) (o := .lst (fs3.map V.int))
      have d4 : upd H3 p (.lst (fs3.map V.int)) q1 = _ := (upd_ne nq1p).trans c3
      generalize upd H3 p (.lst (fs3.map V.int)) = H4 at k4 p4 d4 ⊢
      refine ⟨small (Nat.le_of_ble_eq_true rfl), fun q2 nq2 => ⟨small (Nat.le_of_ble_eq_true rfl), fun pp npp => ⟨_, rfl, small (Nat.le_of_ble_eq_true rfl), fun pr npr => ⟨small (Nat.le_of_ble_eq_true rfl), fun t nt => ?_⟩⟩⟩⟩
      have s5 := same_upd (o := .tup [.int (10 + r0), .int v]) nq2
      have c5 := upd_same (H := H4) (a := q2) (o := .tup [.int (10 + r0), .int v])
      have s6 := same_upd (o := .tup [.ref q1, .ref q2]) npp
      have c6 := upd_same (H := upd H4 q2 (.tup [.int (10 + r0), .int v])) (a := pp) (o := .tup [.ref q1, .ref q2])
      have s7 := same_upd (o := .tup [.int (10 + r0)]) npr
      have c7 := upd_same (H := upd (upd H4 q2 (.tup [.int (10 + r0), .int v])) pp (.tup [.ref q1, .ref q2])) (a := pr) (o := .tup [.int (10 + r0)])
      have s8 := same_upd (o := .tup [.str "mark", .int lot, .ref pp, .ref pr]) nt
      refine k _ t (.mark lot [(0, 3), (10 + r0, v)] [10 + r0]) fs3 ((((k4.same s5).same s6).same s7).same s8) (s8 _ _ (s7 _ _ (s6 _ _ (s5 _ _ p4)))) ⟨pp, pr, .of upd_same, ⟨[q1, q2], .of (s8 _ _ (s7 _ _ c6)), rfl, fun i u pr' a b => ?_⟩, .of (s8 _ _ c7)⟩ ⟨l1, by omega, Nat.le_of_ble_eq_true rfl, Nat.le_of_ble_eq_true rfl, fun p' hp' => ?_, fun i x y a b => ?_, fun y hy => ?_, fun i x y a b => ?_⟩ rfl
      · match i with
        | 0 => cases a; cases b; exact .of (s8 _ _ (s7 _ _ (s6 _ _ (s5 _ _ d4))))
        | 1 => cases a; cases b; exact .of (s8 _ _ (s7 _ _ (s6 _ _ c5)))
        | i + 2 => simp at a
      · simp only [List.mem_cons, List.not_mem_nil, or_false] at hp'
        rcases hp' with rfl | rfl
        · exact ⟨by decide, by decide, by decide, by decide, by decide, by decide⟩
        · exact ⟨by show 0 ≤ 10 + r0; omega, by show 10 + r0 ≤ 63; omega, by show 10 + r0 < 24; omega, by show -1 ≤ v; omega, by show v ≤ 199; omega, by show v < 30; omega⟩
      · match i with
        | 0 =>
          cases a; cases b
          show (0 : Int) < 10 + r0
          omega
        | i + 1 => simp at b
      · have : y = 10 + r0 := by simpa using hy
        omega
      · simp at b
    · refine ⟨_, rfl, small (Nat.le_of_ble_eq_true rfl), fun pp npp => ⟨small (Nat.le_of_ble_eq_true rfl), fun pr npr => ⟨small (Nat.le_of_ble_eq_true rfl), fun t nt => ?_⟩⟩⟩
      have s5 := same_upd (o := .tup []) npp
      have c5 := upd_same (H := H2) (a := pp) (o := .tup [])
      have s6 := same_upd (o := .tup []) npr
      have c6 := upd_same (H := upd H2 pp (.tup [])) (a := pr) (o := .tup [])
      have s7 := same_upd (o := .tup [.str "mark", .int lot, .ref pp, .ref pr]) nt
      refine k _ t (.mark lot [] []) fs2 (((k2.same s5).same s6).same s7) (s7 _ _ (s6 _ _ (s5 _ _ p2))) ⟨pp, pr, .of upd_same, ⟨[], .of (s7 _ _ (s6 _ _ c5)), rfl, fun i u pr' a => by simp at a⟩, .of (s7 _ _ c6)⟩ ⟨l1, by omega, by decide, by decide, fun _ h => by simp at h, fun i x y a => by simp at a, fun _ h => by simp at h, fun i x y a => by simp at a⟩ rfl
end
end K45
namespace K45
open PySem PySem.Spec PyProof.Rows L2 Rg
section
variable {P : Program} {w : World} {K : PySem.W.Frag} {mg : Str → Option Value} {base : Heap}
def sp_Ldue (K : PySem.W.Frag) : Sp := fun vs H Q _ => ∃ (lq : Addr) (hd b s M : Int) (lg : LogL) (ds : List (Nat × Addr)), vs = [.ref lq, .int hd] ∧ H lq = some (.lst (lg.map gV)) ∧ lg.length = 30 ∧ LogAt K H b s M lg ∧ Due lg (hd + 1) ds ∧ ds.length ≤ 39 ∧
  ∀ (H' : Hp) (q : Addr) (ts : List Addr), Same H H' → H q = none → H' q = some (.lst (ts.map V.ref)) → MksAt H' ts ds → Q (.ref q) H'
theorem ok_Ldue (T : Tx K mg) : FnOk P w K mg base CX0 1 T.f_Ldue T.fd_Ldue ["_law_log", "_law_head"] (sp_Ldue K) := by
  refine T.F_Ldue.ok sc_Ldue (fun vs H Q E h => ?_) (fun cdv A outer s H vs Q E hr h => ?_)
  · obtain ⟨_, _, _, _, _, _, _, rfl, _⟩ := h; rfl
  · obtain ⟨lq, hd, b, sl, M, lg, ds, rfl, hq, hl, hL, hD, h39, k⟩ := h
    refine ⟨_, (pss_cons (ps_set (i := 2) sc_Ldue.nd rfl (.inl rfl) (pe_lst pa_nil))
      (pss_cons (ps_for PassesOwn.never rfl (pi_range1 rfl T.b_range (pa_cons pe_int pa_nil)) (pg_name (i := 3) sc_Ldue.nd rfl (.inl rfl))
        (pss_cons (ps_set (i := 4) sc_Ldue.nd rfl (.inl rfl) (pe_lst pa_nil))
        (pss_cons (ps_for PassesOwn.never rfl (pi_range1 rfl T.b_range (pa_cons pe_int pa_nil)) (pg_name (i := 5) sc_Ldue.nd rfl (.inl rfl))
          (pss_cons (ps_set (i := 6) sc_Ldue.nd rfl (.inl rfl) (pe_ix ix_list (pv 0) (pv 5) (fun _ _ => rfl)))
          (pss_one (ps_if (PW.pt (pw_and (pt_cmpR op_notN (pv 6) pe_non (nomark _)) (pw_and (pt_cmpR op_eq (pe_ix ix_tup (pv 6) pe_int (fun _ _ => rfl)) pe_str (nomark _)) (pw_and1 (pt_cmpR op_eq (pe_ix ix_tup (pv 6) pe_int (fun _ _ => rfl)) (pe_op op_add (pe_op op_add (pv 1) pe_int) (pv 3)) (nomark _))))))
            (pss_one (ps_expr (pe_bm PySem.F.plainAttrs_list PySem.F.slot_list_append PySem.F.type_list_append mt_append (pv 4) (pa_cons (pv 5) pa_nil))))
            pss_nil))))
        (pss_cons (ps_if (pt_cmpR op_eq (pe_callB call_len_seq rfl T.b_len (by decide +kernel) (pa_cons (pv 4) pa_nil)) pe_int (nomark _))
          (pss_one (ps_ret (pv 2)))
          pss_nil)
        (pss_one (ps_expr (pe_bm PySem.F.plainAttrs_list PySem.F.slot_list_append PySem.F.type_list_append mt_append (pv 2) (pa_cons (pe_tup (pa_cons (pe_ix ix_list (pv 4) pe_int (fun _ _ => rfl)) (pa_cons (pe_ix ix_list (pv 0) (pe_ix ix_list (pv 4) pe_int (fun _ _ => rfl)) (fun _ _ => rfl)) pa_nil))) pa_nil))))))))
      (pss_one (ps_ret (pv 2))))), ?_⟩
    refine ⟨Nat.zero_le _, fun m nm => ?_⟩
    have s0 := same_upd (o := .lst []) nm
    refine ⟨40, rfl, by decide, by decide, for_range (lo := 0) (n := 40) (fun i σ H2 => ∃ (ts : List Addr) (v3 v4 v5 v6 : Option V), σ = [some (.ref lq), some (.int hd), some (.ref m), v3, v4, v5, v6] ∧ i ≤ ds.length ∧ Same H H2 ∧ H2 m = some (.lst (ts.map V.ref)) ∧ MksAt H2 ts (ds.take i))
      ⟨[], none, none, none, none, rfl, Nat.zero_le _, s0, upd_same, rfl, fun i t p a _ => by simp at a⟩ ?_ ?_⟩
    · rintro i σ H2 hi ⟨ts, v3, v4, v5, v6, rfl, hid, S2, em, hM⟩
      have hdr := hD.drop i hid
      refine ⟨Nat.zero_le _, fun sq nsq => ?_⟩
      have s3 := same_upd (o := .lst []) nsq
      have S3 := S2.trans s3
      have em3 := s3 _ _ em
      have nsqH : H sq = none := by
        cases q : H sq with
        | none => rfl
        | some o => rw [S2 _ _ q] at nsq; cases nsq
      have nmsq : m ≠ sq := ne_of_none em nsq
      refine ⟨30, rfl, by decide, by decide, for_range (lo := 0) (n := 30) (fun j σ H4 => ∃ (xs : List Nat) (v5 v6 : Option V), σ = [some (.ref lq), some (.int hd), some (.ref m), some (.int (0 + (i : Int))), some (.ref sq), v5, v6] ∧ H4 = upd H2 sq (.lst ((xs.map fun x : Nat => (x : Int)).map V.int)) ∧ xs.length ≤ j ∧ xs.head? = fm (lg.take j) (hd + 1 + (i : Int)))
        ⟨[], v5, v6, rfl, rfl, Nat.le_refl _, rfl⟩ ?_ ?_⟩
      · rintro j σ H4 hj ⟨xs, v5, v6, rfl, rfl, hxl, hxh⟩
        have hjl : j < lg.length := by omega
        have hx : lg[j]? = some lg[j] := List.getElem?_eq_getElem hjl
        have hg : (lg.map gV)[j]? = some (gV lg[j]) := by rw [List.getElem?_map, hx]; rfl
        have S4 : Same H (upd H2 sq (.lst ((xs.map fun x : Nat => (x : Int)).map V.int))) := S2.trans (same_upd nsq)
        have tk : lg.take (j + 1) = lg.take j ++ [lg[j]] := take_snoc hx
        have tl : (lg.take j).length = j := by rw [List.length_take]; omega
        have skip : isMk (hd + 1 + (i : Int)) lg[j] = false → xs.head? = fm (lg.take (j + 1)) (hd + 1 + (i : Int)) := fun z => by
          rw [tk, fm_snoc, ← hxh]
          cases xs.head? with
          | some y => rfl
          | none => simp [z]
        refine ⟨_, rfl, _, rfl, lq, _, _, _, rfl, rfl, .of (S4 _ _ hq), atN (j := j) (by omega) hg, ?_⟩
        cases q : lg[j] with
        | none =>
          refine ⟨_, rfl, rfl, _, rfl, iteF ⟨xs, _, _, rfl, rfl, by omega, skip (by rw [q]; rfl)⟩⟩
        | some ar =>
          obtain ⟨ra, r⟩ := ar
          have hR := (hL j ra r (by rw [hx, q])).1.same S4
          refine ⟨_, rfl, rfl, _, rfl, iteT ?_⟩
          cases r with
          | copy lot x c =>
            obtain ⟨pc, h1, h2⟩ := hR
            exact ⟨_, rfl, ra, _, 0, .str "copy", rfl, rfl, h1, rfl, rfl, _, rfl, iteF ⟨xs, _, _, rfl, rfl, by omega, skip (by rw [q]; rfl)⟩⟩
          | mark lot ps rs =>
            obtain ⟨pp, pr, h1, h2, h3⟩ := hR
            refine ⟨_, rfl, ra, _, 0, .str "mark", rfl, rfl, h1, rfl, rfl, _, rfl, iteT ?_⟩
            refine ⟨_, rfl, ra, _, 1, .int lot, rfl, rfl, h1, rfl, _, rfl, _, _, rfl, rfl, _, rfl, _, _, rfl, rfl, rfl, _, rfl, ?_⟩
            rw [dec_iv]
            refine ite2 (fun z => ?_) fun z => ?_
            · have z : lot = hd + 1 + (0 + (i : Int)) := of_decide_eq_true z
              refine ⟨_, rfl, .inl ⟨rfl, _, .inl (.inl upd_same)⟩, _, rfl, sq, _, _, rfl, rfl, upd_same, ?_, xs ++ [j], _, _, rfl, ?_, by simp; omega, ?_⟩
              · rw [List.length_map, List.length_map]
                exact Nat.lt_of_le_of_lt (show xs.length ≤ 30 by omega) (by decide)
              · rw [upd_upd, List.map_append, List.map_append]
                show _ = upd H2 sq (.lst (_ ++ [V.int (j : Int)]))
                rw [show (0 : Int) + (j : Int) = (j : Int) by omega]
              · rw [tk, fm_snoc, ← hxh, List.head?_append, q]
                have : isMk (hd + 1 + (i : Int)) (some (ra, .mark lot ps rs)) = true := decide_eq_true (by omega)
                cases xs.head? with
                | some y => rfl
                | none => simp [this, tl]
            · have z : ¬ lot = hd + 1 + (0 + (i : Int)) := fun y => z (decide_eq_true y)
              refine ⟨xs, _, _, rfl, rfl, by omega, skip ?_⟩
              rw [q]
              exact decide_eq_false fun y => z (by omega)
      · rintro σ H4 ⟨xs, v5, v6, rfl, rfl, hxl, hxh⟩
        rw [List.take_of_length_le (by omega)] at hxh
        have S4 : Same H2 (upd H2 sq (.lst ((xs.map fun x : Nat => (x : Int)).map V.int))) := same_upd nsq
        have e4 := upd_same (H := H2) (a := sq) (o := .lst ((xs.map fun x : Nat => (x : Int)).map V.int))
        generalize upd H2 sq (.lst ((xs.map fun x : Nat => (x : Int)).map V.int)) = H4 at S4 e4 ⊢
        refine ⟨_, rfl, sq, _, rfl, .inl (.of e4), rfl, _, rfl, ?_⟩
        rw [dec_iv, List.length_map, List.length_map]
        cases xs with
        | nil =>
          rw [decide_eq_true (show (([] : List Nat).length : Int) = 0 from rfl)]
          have f : fm lg (hd + 1 + (i : Int)) = none := hxh.symm
          have e : i = ds.length := by
            cases hdr' : ds.drop i with
            | nil =>
              have := congrArg List.length hdr'
              rw [List.length_drop, List.length_nil] at this
              omega
            | cons c r =>
              rw [hdr'] at hdr
              cases hdr with
              | cons g _ _ =>
                rw [f] at g
                cases g
          rw [e, List.take_length] at hM
          refine iteT ⟨_, rfl, k H4 m ts (S2.trans S4) ?_ (S4 _ _ em) (hM.same S4)⟩
          exact nm
        | cons j xr =>
          rw [decide_eq_false (show ¬ (((j :: xr).length : Nat) : Int) = 0 by simp; omega)]
          have f : fm lg (hd + 1 + (i : Int)) = some j := hxh.symm
          have lead : ∃ ra, ds[i]? = some (j, ra) ∧ (lg.map gV)[j]? = some (.ref ra) ∧ i < ds.length := by
            cases hdr' : ds.drop i with
            | nil =>
              rw [hdr'] at hdr
              cases hdr with
              | nil g =>
                rw [f] at g
                cases g
            | cons c r =>
              rw [hdr'] at hdr
              have hlt : i < ds.length := by
                have := congrArg List.length hdr'
                rw [List.length_drop, List.length_cons] at this
                omega
              cases hdr with
              | @cons _ j' ra rr _ g1 g2 g3 =>
                rw [f] at g1
                cases g1
                refine ⟨ra, ?_, by rw [List.getElem?_map, g2]; rfl, hlt⟩
                have := congrArg List.head? hdr'
                rw [List.head?_drop] at this
                exact this
          obtain ⟨ra, hc, hg, hlt⟩ := lead
          have em4 := S4 _ _ em
          have h0 : (((j :: xr).map fun x : Nat => (x : Int)).map V.int)[0]? = some (.int (j : Int)) := rfl
          refine iteF ⟨_, rfl, .inl ⟨rfl, _, .inl (.inl em4)⟩, _, rfl, sq, _, 0, _, rfl, rfl, .of e4, atN (j := 0) rfl h0, ?_⟩
          refine ⟨_, rfl, _, rfl, sq, _, 0, _, rfl, rfl, .of e4, atN (j := 0) rfl h0, lq, _, _, _, rfl, rfl, .of (S4 _ _ (S2 _ _ hq)), atN (j := j) rfl hg, ?_⟩
          refine ⟨by show 2 ≤ sizeLine; decide, fun t nt => ?_⟩
          have s5 := same_upd (o := .tup [.int (j : Int), .ref ra]) nt
          have et := upd_same (H := H4) (a := t) (o := .tup [.int (j : Int), .ref ra])
          generalize upd H4 t (.tup [.int (j : Int), .ref ra]) = H5 at s5 et ⊢
          have em5 := s5 _ _ em4
          refine ⟨m, _, _, rfl, rfl, em5, ?_, ts ++ [t], _, _, _, _, rfl, hlt, fun y o hy => ?_, ?_, ?_⟩
          · rw [List.length_map, hM.1, List.length_take]
            exact Nat.lt_of_le_of_lt (show min i ds.length ≤ 40 by omega) (by decide)
          · rw [upd_ne (ne_of_none hy nm)]
            exact s5 _ _ (S4 _ _ (S2 y o hy))
          · rw [upd_same, List.map_append]
            rfl
          · have h5 : MksAt H5 (ts ++ [t]) (ds.take i ++ [(j, ra)]) := ((hM.same S4).same s5).snoc et
            rw [take_snoc hc]
            refine ⟨h5.1, fun i u q a b => ?_⟩
            have := h5.2 i u q a b
            rw [upd_ne (ne_of this em5 (by intro z; cases z))]
            exact this
    · rintro σ H2 ⟨ts, v3, v4, v5, v6, rfl, hid, _⟩
      exact absurd hid (by omega)
end
end K45
namespace K45
open PySem PySem.Spec PyProof.Rows L2 Rg
theorem MksAt.at {H : Hp} {ts : List Addr} {ds : List (Nat × Addr)} (h : MksAt H ts ds) {i : Nat} (hi : i < ds.length) : ∃ (t : Addr) (p : Nat × Addr), ts[i]? = some t ∧ ds[i]? = some p ∧ H t = some (.tup [.int (p.1 : Int), .ref p.2]) ∧ p ∈ ds := by
  have e1 : ts[i]? = some (ts[i]'(by rw [h.1]; exact hi)) := List.getElem?_eq_getElem (by rw [h.1]; exact hi)
  have e2 : ds[i]? = some ds[i] := List.getElem?_eq_getElem hi
  exact ⟨_, _, e1, e2, h.2 i _ _ e1 e2, List.getElem_mem hi⟩
section
variable {P : Program} {w : World} {K : PySem.W.Frag} {mg : Str → Option Value} {base : Heap}
def sp_Lsame (K : PySem.W.Frag) : Sp := fun vs H Q _ => ∃ (f g : Addr) (ts us : List Addr) (ds : List (Nat × Addr)), vs = [.ref f, .ref g] ∧ H f = some (.lst (ts.map V.ref)) ∧ H g = some (.lst (us.map V.ref)) ∧ MksAt H ts ds ∧ MksAt H us ds ∧ (∀ p ∈ ds, ∃ r, RecAt K H p.2 r) ∧ ds.length ≤ 1000 ∧ Q (.bl true) H
theorem ok_Lsame (T : Tx K mg) : FnOk P w K mg base CX0 1 T.f_Lsame T.fd_Lsame ["_law_found", "_law_due_here"] (sp_Lsame K) := by
  refine T.F_Lsame.ok sc_Lsame (fun vs H Q E h => ?_) (fun cdv A outer s H vs Q E hr h => ?_)
  · obtain ⟨_, _, _, _, _, rfl, _⟩ := h; rfl
  · obtain ⟨f, g, ts, us, ds, rfl, ef, eg, h1, h2, hR, hz, k⟩ := h
    refine ⟨_, (pss_cons (ps_if (PW.pt (pw_or (pt_not (pt_val (pe_callB call_isi rfl T.b_isinstance (by decide +kernel) (pa_cons (pv 0) (pa_cons (pe_bltn (v := .ty "list") rfl T.b_list (by decide +kernel) rfl) pa_nil))))) (pw_or1 (pt_cmpR op_ne (pe_callB call_len_seq rfl T.b_len (by decide +kernel) (pa_cons (pv 0) pa_nil)) (pe_callB call_len_seq rfl T.b_len (by decide +kernel) (pa_cons (pv 1) pa_nil)) (nomark _)))))
        (pss_one (ps_ret pe_bl))
        pss_nil)
      (pss_cons (ps_for PassesOwn.never rfl (pi_range1 rfl T.b_range (pa_cons (pe_callB call_len_seq rfl T.b_len (by decide +kernel) (pa_cons (pv 1) pa_nil)) pa_nil)) (pg_name (i := 2) sc_Lsame.nd rfl (.inl rfl))
        (pss_cons (ps_set (i := 3) sc_Lsame.nd rfl (.inl rfl) (pe_ix ix_list (pv 0) (pv 2) (fun _ _ => rfl)))
        (pss_cons (ps_if (PW.pt (pw_or (pt_not (pt_val (pe_callB call_isi rfl T.b_isinstance (by decide +kernel) (pa_cons (pv 3) (pa_cons (pe_bltn (v := .ty "tuple") rfl T.b_tuple (by decide +kernel) rfl) pa_nil))))) (pw_or1 (pt_cmpR op_ne (pe_callB call_len_seq rfl T.b_len (by decide +kernel) (pa_cons (pv 3) pa_nil)) pe_int (nomark _)))))
          (pss_one (ps_ret pe_bl))
          pss_nil)
        (pss_cons (ps_if (PW.pt (pw_or (pt_not (pt_val (pe_callB call_isi rfl T.b_isinstance (by decide +kernel) (pa_cons (pe_ix ix_tup (pv 3) pe_int (fun _ _ => rfl)) (pa_cons (pe_bltn (v := .ty "int") rfl T.b_int (by decide +kernel) rfl) pa_nil))))) (pw_or (pt_val (pe_callB call_isi rfl T.b_isinstance (by decide +kernel) (pa_cons (pe_ix ix_tup (pv 3) pe_int (fun _ _ => rfl)) (pa_cons (pe_bltn (v := .ty "bool") rfl T.b_bool (by decide +kernel) rfl) pa_nil)))) (pw_or1 (pt_cmpR op_ne (pe_ix ix_tup (pv 3) pe_int (fun _ _ => rfl)) (pe_ix ix_tup (pe_ix ix_list (pv 1) (pv 2) (fun _ _ => rfl)) pe_int (fun _ _ => rfl)) (nomark _))))))
          (pss_one (ps_ret pe_bl))
          pss_nil)
        (pss_one (ps_if (PW.pt (pw_or (pt_not (pt_val (pe_callB call_isi rfl T.b_isinstance (by decide +kernel) (pa_cons (pe_ix ix_tup (pv 3) pe_int (fun _ _ => rfl)) (pa_cons (pe_bltn (v := .ty "tuple") rfl T.b_tuple (by decide +kernel) rfl) pa_nil))))) (pw_or1 (pt_cmpR (op_neD hr.units) (pe_ix ix_tup (pv 3) pe_int (fun _ _ => rfl)) (pe_ix ix_tup (pe_ix ix_list (pv 1) (pv 2) (fun _ _ => rfl)) pe_int (fun _ _ => rfl)) (nomark _)))))
          (pss_one (ps_ret pe_bl))
          pss_nil))))))
      (pss_one (ps_ret pe_bl)))), ?_⟩
    have l1 : (((ts.map V.ref).length : Nat) : Int) = ds.length := by rw [List.length_map, h1.1]
    have l2 : (((us.map V.ref).length : Nat) : Int) = ds.length := by rw [List.length_map, h2.1]
    refine ⟨_, rfl, _, _, _, _, true, rfl, .ty _, .base (.lst ef), kit_ty (by decide +kernel), _, rfl, iteF ⟨_, rfl, f, _, rfl, .inl (.of ef), _, rfl, g, _, rfl, .inl (.of eg), rfl, _, rfl, ?_⟩⟩
    rw [l1, l2, decide_eq_true rfl]
    refine iteF ⟨_, rfl, g, _, rfl, .inl (.of eg), ds.length, by rw [l2], by omega, by omega, for_range (lo := 0) (n := ds.length) (fun i σ H2 => ∃ v2 v3 : Option V, σ = [some (.ref f), some (.ref g), v2, v3] ∧ H2 = H) ⟨none, none, rfl, rfl⟩ ?_ ?_⟩
    · rintro i σ H2 hi ⟨v2, v3, rfl, rfl⟩
      obtain ⟨t, p, a1, a2, a3, a4⟩ := h1.at hi
      obtain ⟨u, p', b1, b2, b3, _⟩ := h2.at hi
      rw [a2] at b2
      cases b2
      obtain ⟨r, hr1⟩ := hR p a4
      have g1 : (ts.map V.ref)[i]? = some (.ref t) := by rw [List.getElem?_map, a1]; rfl
      have g2 : (us.map V.ref)[i]? = some (.ref u) := by rw [List.getElem?_map, b1]; rfl
      have T3 : SqT K H2 t [.int (p.1 : Int), .ref p.2] := .of a3
      have U3 : SqT K H2 u [.int (p.1 : Int), .ref p.2] := .of b3
      obtain ⟨xs, hxs⟩ : ∃ xs, SqT K H2 p.2 xs := by
        cases r with
        | copy l x c => obtain ⟨pc, e, _⟩ := hr1; exact ⟨_, e⟩
        | mark l ps rs => obtain ⟨pp, pr, e, _⟩ := hr1; exact ⟨_, e⟩
      refine ⟨_, rfl, _, rfl, f, _, _, _, rfl, rfl, .of ef, atN (j := i) (by omega) g1, ?_⟩
      refine ⟨_, rfl, _, _, _, _, true, rfl, .ty _, tyT T3, kit_ty (by decide +kernel), _, rfl, iteF ⟨_, rfl, t, _, rfl, .inr T3, rfl, _, rfl, iteF ?_⟩⟩
      refine ⟨_, rfl, t, _, 0, _, rfl, rfl, T3, rfl, _, _, _, _, true, rfl, .ty _, .base (.int _), kit_ty (by decide +kernel), _, rfl, iteF ?_⟩
      refine ⟨_, rfl, t, _, 0, _, rfl, rfl, T3, rfl, _, _, _, _, false, rfl, .ty _, .base (.int _), kit_ty (by decide +kernel), _, rfl, iteF ?_⟩
      refine ⟨_, rfl, t, _, 0, _, rfl, rfl, T3, rfl, _, rfl, _, rfl, g, _, _, _, rfl, rfl, .of eg, atN (j := i) (by omega) g2, u, _, 0, _, rfl, rfl, U3, rfl, rfl, _, rfl, ?_⟩
      rw [decide_eq_true rfl]
      refine iteF ⟨_, rfl, t, _, 1, _, rfl, rfl, T3, rfl, _, _, _, _, true, rfl, .ty _, tyT hxs, kit_ty (by decide +kernel), _, rfl, iteF ?_⟩
      refine ⟨_, rfl, t, _, 1, _, rfl, rfl, T3, rfl, _, rfl, _, rfl, g, _, _, _, rfl, rfl, .of eg, atN (j := i) (by omega) g2, u, _, 1, _, rfl, rfl, U3, rfl, _, _, dpR hr1, dpR hr1, shR r, shR r, _, rfl, ?_⟩
      rw [eqR]
      exact iteF ⟨_, _, rfl, rfl⟩
    · rintro σ H2 ⟨v2, v3, rfl, rfl⟩
      exact k
def sp_Lagrees (CD CP : Addr) (K : PySem.W.Frag) : Sp := fun vs H Q _ => ∃ (d lq : Addr) (A : DA) (hd la : Int) (hs : List V) (lg : LogL) (kv : List (Key × V)), vs = [.ref d, .ref lq, .int hd] ∧ DAt CD CP H d A 24 5 30 hd la hs (lg.map gV) kv ∧ H lq = some (.lst (lg.map gV)) ∧ LogAt K H 24 30 20 lg ∧ 0 ≤ hd ∧ hd ≤ 10 ∧ ∀ H', Same H H' → Q (.bl true) H'
theorem ok_Lagrees (T : Tx K mg) : FnOk P w K mg base CX0 2 T.f_Lagrees T.fd_Lagrees ["_law_disk", "_law_log", "_law_head"] (sp_Lagrees T.C_Disk T.C_Plan K) := by
  refine T.F_Lagrees.ok sc_Lagrees (fun vs H Q E h => ?_) (fun cdv A outer s H vs Q E hr h => ?_)
  · obtain ⟨_, _, _, _, _, _, _, _, rfl, _⟩ := h; rfl
  · obtain ⟨d, lq, A, hd, la, hs, lg, kv, rfl, D, hq, hL, h0, h10, k⟩ := h
    refine ⟨_, (pss_cons (ps_set (i := 3) sc_Lagrees.nd rfl (.inl rfl) (pe_call (ok_Ldue T) hr rfl T.mg_Ldue T.F_Ldue.kp (b_Ldue T) .nil pass0 (pa_cons (pv 1) (pa_cons (pv 2) pa_nil))))
      (pss_cons (ps_set (i := 4) sc_Lagrees.nd rfl (.inl rfl) (pe_call (ok_found_marks T) hr rfl T.mg_found_marks T.F_found_marks.kp (b_found_marks T) .nil pass0 (pa_cons (pv 0) pa_nil)))
      (pss_cons (ps_if (pt_not (pt_val (pe_call (ok_Lsame T) hr rfl T.mg_Lsame T.F_Lsame.kp (b_Lsame T) .nil pass0 (pa_cons (pv 4) (pa_cons (pv 3) pa_nil)))))
        (pss_one (ps_ret pe_bl))
        pss_nil)
      (pss_cons (ps_expr (pe_bm PySem.F.plainAttrs_list PySem.F.slot_list_append PySem.F.type_list_append mt_append (pv 4) (pa_cons (pe_tup (pa_cons pe_int (pa_cons (pe_tup (pa_cons pe_str (pa_cons (pe_op op_add (pe_op op_add (pv 2) (pe_callB call_len_seq rfl T.b_len (by decide +kernel) (pa_cons (pv 3) pa_nil))) pe_int) (pa_cons (pe_tup pa_nil) (pa_cons (pe_tup pa_nil) pa_nil))))) pa_nil))) pa_nil)))
      (pss_cons (ps_if (pt_not (pt_val (pe_call (ok_Lsame T) hr rfl T.mg_Lsame T.F_Lsame.kp (b_Lsame T) .nil pass0 (pa_cons (pe_call (ok_found_marks T) hr rfl T.mg_found_marks T.F_found_marks.kp (b_found_marks T) .nil pass0 (pa_cons (pv 0) pa_nil)) (pa_cons (pv 3) pa_nil)))))
        (pss_one (ps_ret pe_bl))
        pss_nil)
      (pss_one (ps_ret (pe_and (pe_cmpR (op_eqD hr.units) (pe_listof (K := K) (pe_fld (pv 0) rfl) T.b_list) (pv 1) (nomark _)) (pe_one (pe_cmpR op_eq (pe_fld (pv 0) rfl) (pv 2) (nomark _))))))))))), ?_⟩
    obtain ⟨ds, hD, hz⟩ := due_ex hL 30 (hd + 1) (by omega)
    have lgl : lg.length = 30 := by have := D.gl; rw [List.length_map] at this; omega
    have recs : ∀ {H' : Hp}, Same H H' → ∀ p ∈ ds, ∃ r, RecAt K H' p.2 r := fun {H'} S p hp => by
      have key : ∀ {L : Int} {es : List (Nat × Addr)}, Due lg L es → ∀ p ∈ es, ∃ r, RecAt K H' p.2 r := fun {L es} h => by
        induction h with
        | nil _ => intro p hp; cases hp
        | cons _ g _ ih =>
          intro p hp
          rcases List.mem_cons.mp hp with z | z
          · rw [z]
            exact ⟨_, (hL _ _ _ g).1.same S⟩
          · exact ih p z
      exact key hD p hp
    refine ⟨_, rfl, _, rfl, lq, hd, 24, 30, 20, lg, ds, rfl, hq, lgl, hL, hD, by omega, fun H1 q1 ts1 S1 n1 e1 m1 => ?_⟩
    refine ⟨_, rfl, d, A, 24, 5, 30, hd, la, 20, hs, lg, kv, ds, rfl, D.same S1, hL.same S1, hD, by omega, by omega, h0, by omega, fun H2 q2 ts2 S2 n2 e2 m2 => ?_⟩
    have S12 := S1.trans S2
    refine ⟨_, rfl, _, rfl, q2, q1, ts2, ts1, ds, rfl, e2, S2 _ _ e1, m2, m1.same S2, recs S12, by omega, _, rfl, iteF ?_⟩
    have n12 : q1 ≠ q2 := ne_of_none e1 n2
    refine ⟨_, rfl, .inl ⟨rfl, _, .inl (.inl e2)⟩, _, rfl, _, rfl, q1, _, rfl, .inl (.of (S2 _ _ e1)), _, _, rfl, rfl, _, _, rfl, rfl, Nat.zero_le _, fun a1 na1 => ⟨Nat.zero_le _, fun a2 na2 => ⟨by show 4 ≤ sizeLine; decide, fun a3 na3 => ⟨by show 2 ≤ sizeLine; decide, fun a4 na4 => ?_⟩⟩⟩⟩
    have s3 := (((same_upd (o := .tup []) na1).trans (same_upd (o := .tup []) na2)).trans (same_upd (o := .tup [.str (Str.ofString "mark"), (fun i j => V.int (i + j)) (hd + ((ts1.map V.ref).length : Int)) 1, .ref a1, .ref a2]) na3)).trans (same_upd (o := .tup [.int 0, .ref a3]) na4)
    refine ⟨q2, _, _, rfl, rfl, s3 _ _ e2, ?_, ?_⟩
    · rw [List.length_map, m2.1]
      exact Nat.lt_of_le_of_lt hz (by decide)
    have nq2H : H q2 = none := by
      cases q : H q2 with
      | none => rfl
      | some o => rw [S1 _ _ q] at n2; cases n2
    generalize upd (upd (upd (upd H2 a1 (.tup [])) a2 (.tup [])) a3 (.tup [.str (Str.ofString "mark"), (fun i j => V.int (i + j)) (hd + ((ts1.map V.ref).length : Int)) 1, .ref a1, .ref a2])) a4 (.tup [.int 0, .ref a3]) = Hx at s3 ⊢
    generalize (HO.lst (ts2.map V.ref ++ [V.ref a4])) = o
    have S5 : Same H (upd Hx q2 o) := fun u y hy => by
      rw [upd_ne (ne_of_none hy nq2H)]
      exact s3 _ _ (S2 _ _ (S1 _ _ hy))
    have e1' : upd Hx q2 o q1 = some (.lst (ts1.map V.ref)) := by
      rw [upd_ne n12]
      exact s3 _ _ (S2 _ _ e1)
    have m1' : MksAt (upd Hx q2 o) ts1 ds := ⟨m1.1, fun i t p a b => by
      have := m1.2 i t p a b
      rw [upd_ne (ne_of_none this n2)]
      exact s3 _ _ (S2 _ _ this)⟩
    generalize upd Hx q2 o = H5 at S5 e1' m1' ⊢
    refine ⟨_, rfl, d, A, 24, 5, 30, hd, la, 20, hs, lg, kv, ds, rfl, D.same S5, hL.same S5, hD, by omega, by omega, h0, by omega, fun H6 q6 ts6 S6 n6 e6 m6 => ?_⟩
    have S56 := S5.trans S6
    refine ⟨_, rfl, q6, q1, ts6, ts1, ds, rfl, e6, S6 _ _ e1', m6, m1'.same S6, recs S56, by omega, _, rfl, iteF ?_⟩
    have D6 := D.same S56
    obtain ⟨dx, ho⟩ := D6.ob
    refine ⟨_, rfl, d, _, _, _, _, rfl, ho, T.cl_Disk, T.na_Disk_log, rfl, A.lg, _, rfl, .inl (.of D6.lg), fun l nl => ?_⟩
    have s7 := same_upd (o := .lst (lg.map gV)) nl
    have e7 := upd_same (H := H6) (a := l) (o := .lst (lg.map gV))
    have S67 := S56.trans s7
    generalize upd H6 l (.lst (lg.map gV)) = H7 at s7 e7 S67 ⊢
    have hL7 := hL.same S67
    refine ⟨_, rfl, _, _, hL7.dp (.of e7), hL7.dp (.of (S67 _ _ hq)), shL lg, shL lg, _, rfl, ?_⟩
    rw [eqL]
    refine iteT ⟨_, rfl, d, _, _, _, _, rfl, s7 _ _ ho, T.cl_Disk, T.na_Disk_head, rfl, _, rfl, rfl, ?_⟩
    rw [decide_eq_true rfl]
    exact k H7 S67
end
end K45
namespace K45
open PySem PySem.Spec PyProof.Rows L2 Rg
/-! ### a disk, a feed and a log of one's own -/
section
variable {K : PySem.W.Frag} {CD CP : Addr} {Ps : List Addr} {H H' : Hp} {p d lq : Addr} {A : DA} {b n s hd la M : Int} {hs gs : List V} {lg : LogL} {kv : List (Key × V)}
def Isnt (H : Hp) (a : Addr) : Prop := ∃ o, H a = some o ∧ (∀ xs, o ≠ .tup xs) ∧ ∀ x u, o ≠ .frz x u
theorem seqT_kp {S : List Addr} (k : Kp S H H') (z : ∀ a ∈ S, Isnt H a) {a : Addr} {xs : List V} (h : SqT K H a xs) : SqT K H' a xs := by
  rcases h with (h | ⟨o, h⟩) | h
  · exact .inl (.inl (k _ _ h fun q => let ⟨o, e, n1, _⟩ := z a q; n1 xs (Option.some.inj (e.symm.trans h))))
  · exact .inl (.inr ⟨o, k _ _ h fun q => let ⟨u, e, _, n2⟩ := z a q; n2 _ _ (Option.some.inj (e.symm.trans h))⟩)
  · exact .inr h
theorem LogAt.kp {S : List Addr} (k : Kp S H H') (z : ∀ a ∈ S, Isnt H a) (h : LogAt K H b s M lg) : LogAt K H' b s M lg := fun i a r q => ⟨(h i a r q).1.by fun _ _ => seqT_kp k z, (h i a r q).2⟩
theorem LogAt.mono {M' : Int} (h : LogAt K H b s M lg) (le : M ≤ M') : LogAt K H b s M' lg := fun i a r q => ⟨(h i a r q).1, (h i a r q).2.1, Int.le_trans (h i a r q).2.2 le⟩
theorem LogAt.set (h : LogAt K H b s M lg) {a : Addr} {r : Rec} (e : RecAt K H a r) (f : Fit b s r) (m : r.lot ≤ M) (i : Nat) : LogAt K H b s M (lg.set i (some (a, r))) := fun j a' r' q => by
  rw [List.getElem?_set] at q
  by_cases z : i = j
  · rw [if_pos z] at q
    by_cases y : i < lg.length
    · rw [if_pos y] at q
      cases q
      exact ⟨e, f, m⟩
    · rw [if_neg y] at q
      cases q
  · rw [if_neg z] at q
    exact h j a' r' q
theorem DAt.keep (h : DAt CD CP H d A b n s hd la hs gs kv) (f : ∀ a ∈ [d, A.p, A.ho, A.lg, A.pd], ∀ o, H a = some o → H' a = some o) : DAt CD CP H' d A b n s hd la hs gs kv :=
  ⟨let ⟨dx, e⟩ := h.ob; ⟨dx, f _ (by simp) _ e⟩, h.pl.of (f _ (by simp)), f _ (by simp) _ h.ho, f _ (by simp) _ h.lg, f _ (by simp) _ h.pd, h.pne, h.hne, h.hl, h.gl⟩
structure Dk (K : PySem.W.Frag) (CD CP : Addr) (Ps : List Addr) (H : Hp) (p d lq : Addr) (A : DA) (b n s hd la M : Int) (hs : List V) (lg : LogL) (kv : List (Key × V)) : Prop where
  D : DAt CD CP H d A b n s hd la hs (lg.map gV) kv
  f : ∃ fs : List Int, H p = some (.lst (fs.map V.int))
  l : H lq = some (.lst (lg.map gV))
  L : LogAt K H b s M lg
  t : Tab Ps H
  n1 : p ≠ lq
  n2 : p ≠ A.ho
  n3 : p ≠ A.lg
  n4 : lq ≠ A.ho
  n5 : lq ≠ A.lg
theorem Dk.same (x : Dk K CD CP Ps H p d lq A b n s hd la M hs lg kv) (e : Same H H') : Dk K CD CP Ps H' p d lq A b n s hd la M hs lg kv :=
  ⟨x.D.same e, let ⟨fs, q⟩ := x.f; ⟨fs, e _ _ q⟩, e _ _ x.l, x.L.same e, x.t.same e, x.n1, x.n2, x.n3, x.n4, x.n5⟩
theorem Dk.mono (x : Dk K CD CP Ps H p d lq A b n s hd la M hs lg kv) {M' : Int} (le : M ≤ M') : Dk K CD CP Ps H p d lq A b n s hd la M' hs lg kv :=
  ⟨x.D, x.f, x.l, x.L.mono le, x.t, x.n1, x.n2, x.n3, x.n4, x.n5⟩
theorem isnt_lst {a : Addr} {xs : List V} (h : H a = some (.lst xs)) : Isnt H a := ⟨_, h, (by intro _ z; cases z), by intro _ _ z; cases z⟩
theorem isnt_ins {a C dx : Addr} {fs : List (Str × V)} (h : H a = some (.ins C dx fs)) : Isnt H a := ⟨_, h, (by intro _ z; cases z), by intro _ _ z; cases z⟩
theorem isnt_dK {a : Addr} (h : H a = some (.dK kv)) : Isnt H a := ⟨_, h, (by intro _ z; cases z), by intro _ _ z; cases z⟩
theorem isnt_tab (t : Tab Ps H) {a : Addr} (h : a ∈ Ps) : Isnt H a := let ⟨_, e, _⟩ := t a h; ⟨_, e, (by intro _ z; cases z), by intro _ _ z; cases z⟩
/-- the feed has gone on -/
theorem Dk.feed (x : Dk K CD CP Ps H p d lq A b n s hd la M hs lg kv) (k : Kp [p] H H') {fs : List Int} (e : H' p = some (.lst (fs.map V.int))) : Dk K CD CP Ps H' p d lq A b n s hd la M hs lg kv := by
  obtain ⟨fs0, e0⟩ := x.f
  obtain ⟨dx, ho⟩ := x.D.ob
  obtain ⟨px, hp⟩ := x.D.pl.ob
  have g : ∀ {a : Addr} {o : HO}, H a = some o → a ≠ p → H' a = some o := fun q z => k.at1 q z
  refine ⟨x.D.keep fun a ha o q => g q ?_, ⟨fs, e⟩, g x.l x.n1.symm, x.L.kp k (by simp only [List.mem_singleton]; rintro a rfl; exact isnt_lst e0), fun P hP => ?_, x.n1, x.n2, x.n3, x.n4, x.n5⟩
  · simp only [List.mem_cons, List.not_mem_nil, or_false] at ha
    rcases ha with rfl | rfl | rfl | rfl | rfl
    · exact ne_of ho e0 (by intro z; cases z)
    · exact ne_of hp e0 (by intro z; cases z)
    · exact x.n2.symm
    · exact x.n3.symm
    · exact ne_of x.D.pd e0 (by intro z; cases z)
  · obtain ⟨ps, e1, e2⟩ := x.t P hP
    exact ⟨ps, g e1 (ne_of e1 e0 (by intro z; cases z)), e2⟩
theorem Dk.pick (x : Dk K CD CP Ps H p d lq A b n s hd la M hs lg kv) (fs : List Int) : Dk K CD CP Ps (upd H p (.lst (fs.map V.int))) p d lq A b n s hd la M hs lg kv :=
  x.feed (Kp.refl.own1) (fs := fs) upd_same
/-- a write is pending -/
theorem Dk.issued (x : Dk K CD CP Ps H p d lq A b n s hd la M hs lg kv) {la' : Int} {kv' : List (Key × V)} (t : Tab Ps H') (k : Kp (d :: A.pd :: Ps) H H') (e : DAt CD CP H' d A b n s hd la' hs (lg.map gV) kv') : Dk K CD CP Ps H' p d lq A b n s hd la' M hs lg kv' := by
  obtain ⟨fs0, e0⟩ := x.f
  obtain ⟨dx, ho⟩ := x.D.ob
  have ni : ∀ {a : Addr} {xs : List V}, H a = some (.lst xs) → a ∉ d :: A.pd :: Ps := fun {a xs} h z => by
    rcases List.mem_cons.mp z with z | z
    · rw [z, ho] at h; cases h
    rcases List.mem_cons.mp z with z | z
    · rw [z, x.D.pd] at h; cases h
    · exact x.t.nin h (by intro _ z; cases z) z
  refine ⟨e, ⟨fs0, k _ _ e0 (ni e0)⟩, k _ _ x.l (ni x.l), x.L.kp k fun a h => ?_, t, x.n1, x.n2, x.n3, x.n4, x.n5⟩
  rcases List.mem_cons.mp h with z | z
  · rw [z]; exact isnt_ins ho
  rcases List.mem_cons.mp z with z | z
  · rw [z]; exact isnt_dK x.D.pd
  · exact isnt_tab x.t z
theorem Dk.isn (x : Dk K CD CP Ps H p d lq A b n s hd la M hs lg kv) : ∀ a ∈ d :: A.pd :: Ps, Isnt H a := fun a h => by
  obtain ⟨dx, ho⟩ := x.D.ob
  rcases List.mem_cons.mp h with z | z
  · rw [z]; exact isnt_ins ho
  rcases List.mem_cons.mp z with z | z
  · rw [z]; exact isnt_dK x.D.pd
  · exact isnt_tab x.t z
/-- a record is sure, and stands in the log of one's own too -/
theorem Dk.logged (x : Dk K CD CP Ps H p d lq A b n s hd la M hs lg kv) {kv' : List (Key × V)} {i : Nat} {u : Addr} {r : Rec} (t : Tab Ps H') (k : Kp [A.pd, A.ho, A.lg] H H') (e : DAt CD CP H' d A b n s hd la hs ((lg.map gV).set i (.ref u)) kv') (hr : RecAt K H u r) (hf : Fit b s r) (hm : r.lot ≤ M) :
    H' lq = some (.lst (lg.map gV)) ∧ Dk K CD CP Ps (upd H' lq (.lst ((lg.map gV).set i (.ref u)))) p d lq A b n s hd la M hs (lg.set i (some (u, r))) kv' := by
  obtain ⟨fs0, e0⟩ := x.f
  have hpd := x.D.pd
  have ni : ∀ {a : Addr} {xs : List V}, H a = some (.lst xs) → a ≠ A.ho → a ≠ A.lg → a ∉ [A.pd, A.ho, A.lg] := fun {a xs} h z1 z2 z => by
    simp only [List.mem_cons, List.not_mem_nil, or_false] at z
    rcases z with z | z | z
    · rw [z, hpd] at h; cases h
    · exact z1 z
    · exact z2 z
  have isn : ∀ a ∈ [A.pd, A.ho, A.lg], Isnt H a := fun a z => by
    simp only [List.mem_cons, List.not_mem_nil, or_false] at z
    rcases z with rfl | rfl | rfl
    · exact isnt_dK hpd
    · exact isnt_lst x.D.ho
    · exact isnt_lst x.D.lg
  have hl' := k _ _ x.l (ni x.l x.n4 x.n5)
  have hp' := k _ _ e0 (ni e0 x.n2 x.n3)
  have gs : (lg.set i (some (u, r))).map gV = (lg.map gV).set i (.ref u) := by rw [List.map_set]; rfl
  have k2 : Kp [lq] H' (upd H' lq (.lst ((lg.map gV).set i (.ref u)))) := Kp.refl.own1
  have L' : LogAt K H' b s M (lg.set i (some (u, r))) := (x.L.kp k isn).set (hr.by fun _ _ => seqT_kp k isn) hf hm i
  obtain ⟨dx, ho⟩ := e.ob
  obtain ⟨px, hp⟩ := e.pl.ob
  refine ⟨hl', ⟨?_, ⟨fs0, ?_⟩, ?_, L'.kp k2 (by simp only [List.mem_singleton]; rintro a rfl; exact isnt_lst hl'), t.upd hl' (by intro _ z; cases z), x.n1, x.n2, x.n3, x.n4, x.n5⟩⟩
  · rw [gs]
    refine e.keep fun a ha o q => k2.at1 q ?_
    simp only [List.mem_cons, List.not_mem_nil, or_false] at ha
    rcases ha with rfl | rfl | rfl | rfl | rfl
    · exact ne_of ho hl' (by intro z; cases z)
    · exact ne_of hp hl' (by intro z; cases z)
    · exact x.n4.symm
    · exact x.n5.symm
    · exact ne_of e.pd hl' (by intro z; cases z)
  · rw [upd_ne x.n1]; exact hp'
  · rw [upd_same, gs]
/-- the head has moved -/
theorem Dk.head (x : Dk K CD CP Ps H p d lq A b n s hd la M hs lg kv) {dx : Addr} (ho : H d = some (.ins CD dx (dskF A hd la))) (hd' : Int) : Dk K CD CP Ps (upd H d (.ins CD dx (dskF A hd' la))) p d lq A b n s hd' la M hs lg kv := by
  obtain ⟨fs0, e0⟩ := x.f
  have k : Kp [d] H (upd H d (.ins CD dx (dskF A hd' la))) := Kp.refl.own1
  exact ⟨x.D.num hd' la, ⟨fs0, k.at1 e0 (ne_of e0 ho (by intro z; cases z))⟩, k.at1 x.l (ne_of x.l ho (by intro z; cases z)), x.L.kp k (by simp only [List.mem_singleton]; rintro a rfl; exact isnt_ins ho), x.t.upd ho (by intro _ z; cases z), x.n1, x.n2, x.n3, x.n4, x.n5⟩
/-! ### slots that are free -/
def nFree (lg : LogL) : Nat := lg.countP Option.isNone
theorem nFree_set : ∀ (lg : LogL) (i : Nat) (x : Option (Addr × Rec)), nFree lg ≤ nFree (lg.set i x) + 1
  | [], _, _ => by simp [nFree]
  | y :: l, 0, x => by simp only [nFree, List.set_cons_zero, List.countP_cons]; split <;> split <;> omega
  | y :: l, i + 1, x => by
    have := nFree_set l i x
    simp only [nFree, List.set_cons_succ, List.countP_cons] at this ⊢
    omega
theorem free_ex (h : 0 < nFree lg) : ∃ j : Nat, lg[j]? = some none := by
  obtain ⟨x, hx, hn⟩ := List.countP_pos_iff.mp h
  obtain ⟨j, hj⟩ := List.getElem?_of_mem hx
  cases x with
  | none => exact ⟨j, hj⟩
  | some _ => cases hn
def isFree (lg : LogL) (j : Nat) : Bool := match lg[j]? with
  | some none => true
  | _ => false
theorem isFree_iff {j : Nat} : isFree lg j = true ↔ lg[j]? = some none := by
  unfold isFree
  cases lg[j]? with
  | none => simp
  | some o => cases o <;> simp
def frees (lg : LogL) (i : Nat) : List Nat := (List.range i).filter (isFree lg)
theorem frees_succ (i : Nat) : frees lg (i + 1) = if isFree lg i = true then frees lg i ++ [i] else frees lg i := by
  unfold frees
  rw [List.range_succ, List.filter_append]
  by_cases h : isFree lg i = true
  · rw [if_pos h, List.filter_cons, if_pos h]; rfl
  · rw [if_neg h, List.filter_cons, if_neg h]; simp
theorem frees_len (i : Nat) : (frees lg i).length ≤ i := Nat.le_trans (List.length_filter_le _ _) (by simp)
theorem frees_ok {i j : Nat} (h : j ∈ frees lg i) : j < i ∧ lg[j]? = some none := by
  have := List.mem_filter.mp h
  exact ⟨List.mem_range.mp this.1, isFree_iff.mp this.2⟩
/-! ### a mark of the first lot that is missing -/
theorem fm_of {L : Int} {k : Nat} {x : Option (Addr × Rec)} (h : lg[k]? = some x) (e : isMk L x = true) : fm lg L ≠ none := fun z => by
  unfold fm at z
  rw [List.findIdx?_eq_none_iff] at z
  have := z x (List.mem_of_getElem? h)
  rw [this] at e
  cases e
theorem due_pos {hd : Int} {ds ds' : List (Nat × Addr)} {i : Nat} {u : Addr} {ps : List (Int × Int)} {rs : List Int} (h : Due lg (hd + 1) ds) (hi : lg[i]? = some none) (h' : Due (lg.set i (some (u, .mark (hd + ds.length + 1) ps rs))) (hd + 1) ds') : 1 ≤ ds'.length := by
  have il : i < lg.length := (List.getElem?_eq_some_iff.mp hi).1
  cases h' with
  | cons _ _ _ => simp
  | nil z =>
    exfalso
    cases h with
    | nil y =>
      refine fm_of (k := i) (x := some (u, .mark (hd + (0 : Nat) + 1) ps rs)) ?_ ?_ z
      · rw [List.getElem?_set, if_pos rfl, if_pos il]; rfl
      · show decide _ = true
        rw [decide_eq_true]
        omega
    | @cons _ j _ _ _ y g _ =>
      obtain ⟨a', ps', rs', q⟩ := fm_some y
      refine fm_of (k := j) (x := some (a', .mark (hd + 1) ps' rs')) ?_ (decide_eq_true rfl) z
      · rw [List.getElem?_set, if_neg (fun w => by rw [w, q] at hi; cases hi)]
        exact q
end
end K45
namespace K45
open PySem PySem.Spec PyProof.Rows L2 Rg
def sp_law (K : PySem.W.Frag) (Ps : List Addr) : Sp := fun vs H Q _ => ∃ (a : Addr) (ns : List Int), vs = [.ref a] ∧ Tab Ps H ∧ SqL K H a (ns.map V.int) ∧ ns.length ≤ 63 ∧ ∀ H', Q (.bl true) H'
section
variable {P : Program} {w : World} {K : PySem.W.Frag} {mg : Str → Option Value} {base : Heap}
theorem ok_law (T : Tx K mg) (B : TBs T base) : FnOk P w K mg base CX0 11 T.f_law T.fd_law ["_law_script"] (sp_law K T.Ps) := by
  refine T.F_law.ok sc_law (fun vs H Q E h => ?_) (fun cdv A0 outer s H vs Q E hr h => ?_)
  · obtain ⟨_, _, rfl, _⟩ := h; rfl
  · obtain ⟨a, ns, rfl, ht, hS, hlen, k⟩ := h
    have hr1 := hr.mono (show 1 ≤ 10 by decide)
    have hr2 := hr.mono (show 2 ≤ 10 by decide)
    refine ⟨_, (pss_cons (ps_set (i := 1) sc_law.nd rfl (.inl rfl) (pe_call (ok_Lfeed T) hr1 rfl T.mg_Lfeed T.F_Lfeed.kp (b_Lfeed T) .nil pass0 (pa_cons (pv 0) pa_nil)))
      (pss_cons (ps_set (i := 2) sc_law.nd rfl (.inl rfl) (pe_make T.mk_Disk (ok_Disk_init T) hr2 rfl T.mg_Disk (b_Disk___init__ T) .nil pass0 (pa_cons (pe_makeK T.mk_Plan (ok_Plan_init T) hr2 rfl T.mg_Plan (kb_Plan T) pass0 (pa_cons pe_int pa_nil) (pk_cons pe_int (pk_cons pe_int pk_nil))) pa_nil)))
      (pss_cons (ps_set (i := 3) sc_law.nd rfl (.inl rfl) (pe_call (ok_Lpick T) hr1 rfl T.mg_Lpick T.F_Lpick.kp (b_Lpick T) .nil pass0 (pa_cons (pv 1) (pa_cons pe_int pa_nil))))
      (pss_cons (ps_expr (pe_meth (pv 2) T.cl_Disk T.m_Disk_move_head (ok_move_head T) hr2 (b_Disk_move_head T) .nil pass0 (pa_cons (pv 3) pa_nil)))
      (pss_cons (ps_set (i := 4) sc_law.nd rfl (.inr rfl) (pe_lc rfl (own := [("_law_slot", 5)]) (g := gName 5) (tt := tYes) sc_law.nd (pi_range1 rfl T.b_range (pa_cons pe_int pa_nil)) (blkOk_by (N := ["_law_script", "_law_feed_here", "_law_disk", "_law_head", "_law_log", "_law_slot", "_law_k", "_law_lot", "_law_record_here", "_law_free", "_law_number"]) (sc := defScope s_law) (by decide +kernel)) (fun _ _ _ _ _ => pg_name (i := 5) sc_law.nd rfl (Or.inl rfl)) (fun _ _ _ _ _ => pts_nil) (fun _ _ _ _ _ => pe_non)))
      (pss_cons (ps_for PassesOwn.never rfl (pi_range1 rfl T.b_range (pa_cons (pe_call (ok_Lpick T) hr1 rfl T.mg_Lpick T.F_Lpick.kp (b_Lpick T) .nil pass0 (pa_cons (pv 1) (pa_cons pe_int pa_nil))) pa_nil)) (pg_name (i := 6) sc_law.nd rfl (.inl rfl))
        (pss_cons (ps_set (i := 5) sc_law.nd rfl (.inl rfl) (pe_call (ok_Lpick T) hr1 rfl T.mg_Lpick T.F_Lpick.kp (b_Lpick T) .nil pass0 (pa_cons (pv 1) (pa_cons pe_int pa_nil))))
        (pss_cons (ps_set (i := 7) sc_law.nd rfl (.inl rfl) (pe_callB (call_max2 rfl) rfl T.b_max (by decide +kernel) (pa_cons pe_int (pa_cons (pe_op op_add (pv 3) (pe_call (ok_Lpick T) hr1 rfl T.mg_Lpick T.F_Lpick.kp (b_Lpick T) .nil pass0 (pa_cons (pv 1) (pa_cons pe_int pa_nil)))) pa_nil))))
        (pss_cons (ps_set (i := 8) sc_law.nd rfl (.inl rfl) (pe_call (ok_Lrecord T) hr2 rfl T.mg_Lrecord T.F_Lrecord.kp (b_Lrecord T) .nil pass0 (pa_cons (pv 1) (pa_cons (pv 7) pa_nil))))
        (pss_cons (ps_expr (pe_meth (pv 2) T.cl_Disk T.m_Disk_sure (ok_sure T) hr2 (b_Disk_sure T) .nil pass0 (pa_cons (pe_meth (pv 2) T.cl_Disk T.m_Disk_issue (ok_issue T B) hr (b_Disk_issue T) .nil pass0 (pa_cons (pe_tup (pa_cons pe_str (pa_cons (pv 5) pa_nil))) (pa_cons (pv 8) pa_nil))) pa_nil)))
        (pss_cons (ps_asg (pv 8) (pg_sub (pv 4) (pv 5) set_list))
        (pss_one (ps_if (pt_not (pt_val (pe_call (ok_Lagrees T) hr2 rfl T.mg_Lagrees T.F_Lagrees.kp (b_Lagrees T) .nil pass0 (pa_cons (pv 2) (pa_cons (pv 4) (pa_cons (pv 3) pa_nil))))))
          (pss_one (ps_ret pe_bl))
          pss_nil))))))))
      (pss_cons (ps_if (pt_not (pt_val (pe_call (ok_Lagrees T) hr2 rfl T.mg_Lagrees T.F_Lagrees.kp (b_Lagrees T) .nil pass0 (pa_cons (pv 2) (pa_cons (pv 4) (pa_cons (pv 3) pa_nil))))))
        (pss_one (ps_ret pe_bl))
        pss_nil)
      (pss_cons (ps_setLc (i := 9) (own := [("_law_slot", 5)]) (g := gName 5) (tt := _) rfl sc_law.nd rfl rfl (sw_true rfl rfl rfl (by decide +kernel)) (pi_range1 rfl T.b_range (pa_cons pe_int pa_nil)) (blkOk_by (N := ["_law_script", "_law_feed_here", "_law_disk", "_law_head", "_law_log", "_law_slot", "_law_k", "_law_lot", "_law_record_here", "_law_free", "_law_number"]) (sc := defScope s_law) (by decide +kernel)) (fun _ _ _ _ _ => pg_name (i := 5) sc_law.nd rfl (Or.inl rfl)) (fun _ _ _ _ _ => pts_one (pt_cmpR op_isN (pe_ixK (K := K) (pv 4) (pv 5) (fun _ _ => rfl)) pe_non (nomark _))) (fun _ _ _ _ _ => (pv 5)))
      (pss_cons (ps_set (i := 5) sc_law.nd rfl (.inl rfl) (pe_ix ix_list (pv 9) pe_int (fun _ _ => rfl)))
      (Evl.pss_cut (ps_if (pt_cmpR op_eq (pe_call (ok_Lpick T) hr1 rfl T.mg_Lpick T.F_Lpick.kp (b_Lpick T) .nil pass0 (pa_cons (pv 1) (pa_cons pe_int pa_nil))) pe_int (nomark _))
        (pss_one (ps_set (i := 5) sc_law.nd rfl (.inl rfl) (pe_ix ix_list (pv 9) (pe_un un_neg pe_int) (fun _ _ => rfl))))
        pss_nil)
      (pss_cons (ps_set (i := 8) sc_law.nd rfl (.inl rfl) (pe_tup (pa_cons pe_str (pa_cons (pe_op op_add (pe_op op_add (pv 3) (pe_callB call_len_seq rfl T.b_len (by decide +kernel) (pa_cons (pe_call (ok_Ldue T) hr1 rfl T.mg_Ldue T.F_Ldue.kp (b_Ldue T) .nil pass0 (pa_cons (pv 4) (pa_cons (pv 3) pa_nil))) pa_nil))) pe_int) (pa_cons (pe_tup (pa_cons (pe_tup (pa_cons pe_int (pa_cons (pv 5) pa_nil))) pa_nil)) (pa_cons (pe_tup pa_nil) pa_nil))))))
      (pss_cons (ps_set (i := 10) sc_law.nd rfl (.inl rfl) (pe_meth (pv 2) T.cl_Disk T.m_Disk_issue (ok_issue T B) hr (b_Disk_issue T) .nil pass0 (pa_cons (pe_tup (pa_cons pe_str (pa_cons (pv 5) pa_nil))) (pa_cons (pv 8) pa_nil))))
      (pss_cons (ps_if (pt_not (pt_val (pe_call (ok_Lagrees T) hr2 rfl T.mg_Lagrees T.F_Lagrees.kp (b_Lagrees T) .nil pass0 (pa_cons (pv 2) (pa_cons (pv 4) (pa_cons (pv 3) pa_nil))))))
        (pss_one (ps_ret pe_bl))
        pss_nil)
      (pss_cons (ps_expr (pe_meth (pv 2) T.cl_Disk T.m_Disk_sure (ok_sure T) hr2 (b_Disk_sure T) .nil pass0 (pa_cons (pv 10) pa_nil)))
      (pss_cons (ps_asg (pv 8) (pg_sub (pv 4) (pv 5) set_list))
      (pss_cons (ps_if (PW.pt (pw_or (pt_not (pt_val (pe_call (ok_Lagrees T) hr2 rfl T.mg_Lagrees T.F_Lagrees.kp (b_Lagrees T) .nil pass0 (pa_cons (pv 2) (pa_cons (pv 4) (pa_cons (pv 3) pa_nil)))))) (pw_or1 (pt_cmpR op_lt (pe_callB call_len_seq rfl T.b_len (by decide +kernel) (pa_cons (pe_call (ok_found_marks T) hr1 rfl T.mg_found_marks T.F_found_marks.kp (b_found_marks T) .nil pass0 (pa_cons (pv 2) pa_nil)) pa_nil)) pe_int (nomark _)))))
        (pss_one (ps_ret pe_bl))
        pss_nil)
      (pss_cons (ps_expr (pe_meth (pv 2) T.cl_Disk T.m_Disk_move_head (ok_move_head T) hr2 (b_Disk_move_head T) .nil pass0 (pa_cons (pe_op op_add (pv 3) pe_int) pa_nil)))
      (pss_one (ps_ret (pe_call (ok_Lagrees T) hr2 rfl T.mg_Lagrees T.F_Lagrees.kp (b_Lagrees T) .nil pass0 (pa_cons (pv 2) (pa_cons (pv 4) (pa_cons (pe_op op_add (pv 3) pe_int) pa_nil))))))))))))))))))))))), ?_⟩
    refine ⟨_, rfl, a, ns, rfl, hS, hlen, fun H1 p fs S1 np ep hf => ?_⟩
    refine ⟨rfl, rfl, fun px pdx npx npdx ned => ?_⟩
    refine ⟨px, pdx, 24, 5, 30, rfl, upd_same, by decide, by decide, by decide, by decide, by decide, by decide, by decide, ?_⟩
    have Pl : PlanAt T.C_Plan (upd (upd (upd H1 pdx (.own px)) px (.ins T.C_Plan pdx [])) px (.ins T.C_Plan pdx (planF 24 5 30))) px 24 5 30 :=
      ⟨⟨pdx, upd_same⟩, by decide, by decide, by decide, by decide, by decide, by decide, by decide⟩
    have s2 : Same H1 (upd (upd (upd H1 pdx (.own px)) px (.ins T.C_Plan pdx [])) px (.ins T.C_Plan pdx (planF 24 5 30))) := fun x o e => by
      rw [upd_ne (ne_of_none e npx), upd_ne (ne_of_none e npx), upd_ne (ne_of_none e npdx)]
      exact e
    generalize upd (upd (upd H1 pdx (.own px)) px (.ins T.C_Plan pdx [])) px (.ins T.C_Plan pdx (planF 24 5 30)) = H2 at Pl s2 ⊢
    have ep2 := s2 _ _ ep
    have t2 := (ht.same S1).same s2
    refine ⟨rfl, fun d ddx nd nddx ned2 => ?_⟩
    have s3 : Same H2 (upd (upd H2 ddx (.own d)) d (.ins T.C_Disk ddx [])) := fun x o e => by
      rw [upd_ne (ne_of_none e nd), upd_ne (ne_of_none e nddx)]
      exact e
    obtain ⟨pdx2, epx⟩ := Pl.ob
    refine ⟨d, ddx, px, 24, 5, 30, rfl, upd_same, Pl.same s3, ne_of_none epx nd, fun H3 A ts eA k3 fho flg D3 _ => ⟨rfl, ?_⟩⟩
    have k3' : Same H2 H3 := fun x o e => k3.at1 (s3 _ _ e) (ne_of_none e nd)
    have ep3 := k3' _ _ ep2
    have t3 := t2.same k3'
    have nh3 : p ≠ A.ho := ne_of_none (s3 _ _ ep2) fho
    have nl3 : p ≠ A.lg := ne_of_none (s3 _ _ ep2) flg
    clear k3 s3 s2 fho flg
    refine ⟨_, rfl, p, fs, 5, rfl, ep3, by decide, fun hd fs4 hd0 hd5 _ => ?_⟩
    have rep : (List.replicate 30 (none : Option (Addr × Rec))).map gV = List.replicate 30 .non := by simp [gV]
    obtain ⟨dx3, ho3⟩ := D3.ob
    have ndp : d ≠ p := ne_of ho3 ep3 (by intro z; cases z)
    have hlg3 := D3.lg
    have k4 : Kp [p] H3 (upd H3 p (.lst (fs4.map V.int))) := Kp.refl.own1
    have ho4 := k4.at1 ho3 ndp
    have D4 : DAt T.C_Disk T.C_Plan (upd H3 p (.lst (fs4.map V.int))) d A 24 5 30 0 0 (ts.map V.ref) (List.replicate 30 .non) [] := D3.keep fun x hx o q => k4.at1 q (by
      simp only [List.mem_cons, List.not_mem_nil, or_false] at hx
      obtain ⟨px3, hp3⟩ := D3.pl.ob
      rcases hx with rfl | rfl | rfl | rfl | rfl
      · exact ndp
      · exact ne_of hp3 ep3 (by intro z; cases z)
      · exact nh3.symm
      · exact nl3.symm
      · exact ne_of D3.pd ep3 (by intro z; cases z))
    have t4 : Tab T.Ps (upd H3 p (.lst (fs4.map V.int))) := t3.upd ep3 (by intro _ z; cases z)
    have ep4 : upd H3 p (.lst (fs4.map V.int)) p = some (.lst (fs4.map V.int)) := upd_same
    generalize upd H3 p (.lst (fs4.map V.int)) = H4 at ho4 D4 t4 ep4 ⊢
    refine ⟨_, rfl, d, _, _, rfl, ho4, rfl, _, rfl, d, hd, A, 24, 5, 30, 0, 0, ts.map V.ref, List.replicate 30 .non, [], dx3, rfl, ho4, D4, hd0, by omega, ?_⟩
    have D5 := D4.num hd 0 (dx := dx3)
    have t5 : Tab T.Ps (upd H4 d (.ins T.C_Disk dx3 (dskF A hd 0))) := t4.upd ho4 (by intro _ z; cases z)
    have ep5 : upd H4 d (.ins T.C_Disk dx3 (dskF A hd 0)) p = some (.lst (fs4.map V.int)) := by rw [upd_ne ndp.symm]; exact ep4
    generalize upd H4 d (.ins T.C_Disk dx3 (dskF A hd 0)) = H5 at D5 t5 ep5 ⊢
    -- the log of one's own
    refine ⟨30, rfl, by decide, by decide, fun G nG => ?_⟩
    refine lc_range (lo := 0) (n := 30) (fun i H' => H' = upd H5 G (.lst (List.replicate i .non))) rfl ?_ ?_
    · rintro i H' hi rfl
      refine ⟨rfl, yes_ ⟨_, upd_same, ?_, ?_⟩⟩
      · rw [List.length_replicate]
        exact Nat.lt_of_lt_of_le (show i < 200 by omega) (by decide)
      · rw [upd_upd, List.replicate_succ']
    rintro H6 rfl
    have s6 := same_upd (H := H5) (o := .lst (List.replicate 30 .non)) nG
    have X6 : Dk K T.C_Disk T.C_Plan T.Ps (upd H5 G (.lst (List.replicate 30 .non))) p d G A 24 5 30 hd 0 9 (ts.map V.ref) (List.replicate 30 none) [] := by
      refine ⟨by rw [rep]; exact D5.same s6, ⟨_, s6 _ _ ep5⟩, by rw [rep]; exact upd_same, fun i a r q => ?_, t5.same s6, ne_of_none ep5 nG, nh3, nl3, (ne_of_none D5.ho nG).symm, (ne_of_none D5.lg nG).symm⟩
      have := List.mem_of_getElem? q
      simp at this
    generalize upd H5 G (.lst (List.replicate 30 .non)) = H6 at X6 ⊢
    clear rep D5 t5 ep5 s6 D4 t4 ep4 ho4 k4 hlg3 ho3 D3 t3 ep3 ndp
    obtain ⟨fs6, e6⟩ := X6.f
    refine ⟨_, rfl, p, fs6, 15, rfl, e6, by decide, fun m fs7 hm0 hm15 _ => ?_⟩
    have X7 := X6.pick fs7
    generalize upd H6 p (.lst (fs7.map V.int)) = H7 at X7 ⊢
    have n30 : nFree (List.replicate 30 (none : Option (Addr × Rec))) = 30 := by decide
    refine ⟨m, rfl, by omega, by omega, ?_⟩
    refine for_range (lo := 0) (n := m.toNat) (fun i σ H' => ∃ (la : Int) (hs : List V) (lg : LogL) (v5 v6 v7 v8 : Option V), σ = [some (.ref a), some (.ref p), some (.ref d), some (.int hd), some (.ref G), v5, v6, v7, v8, none, none] ∧ Dk K T.C_Disk T.C_Plan T.Ps H' p d G A 24 5 30 hd la 9 hs lg [] ∧ 30 ≤ nFree lg + i)
      ⟨0, _, _, none, none, none, none, rfl, X7, by rw [n30]; omega⟩ ?_ ?_
    · clear X6 e6 X7
      rintro i σ H8 hi ⟨la, hs, lg, v5, v6, v7, v8, rfl, X8, hn⟩
      obtain ⟨f8, e8⟩ := X8.f
      refine ⟨_, rfl, p, f8, 30, rfl, e8, by decide, fun slot f9 hs0 hs30 _ => ?_⟩
      have X9 := X8.pick f9
      generalize upd H8 p (.lst (f9.map V.int)) = H9 at X9 ⊢
      clear X8 e8
      obtain ⟨f10, e10⟩ := X9.f
      refine ⟨_, rfl, _, rfl, p, f10, 6, rfl, e10, by decide, fun q f11 hq0 hq6 _ => ?_⟩
      have X10 := X9.pick f11
      generalize upd H9 p (.lst (f11.map V.int)) = H10 at X10 ⊢
      clear X9 e10
      refine ⟨_, _, rfl, rfl, ?_⟩
      refine ⟨1, hd + q, rfl, ?_⟩
      obtain ⟨lot, hlt, hl1, hl9⟩ : ∃ lot : Int, (if hd + q > 1 then hd + q else 1) = lot ∧ 1 ≤ lot ∧ lot ≤ 9 := ⟨_, rfl, by split <;> omega, by split <;> omega⟩
      rw [hlt]
      obtain ⟨f12, e12⟩ := X10.f
      refine ⟨_, rfl, _, rfl, p, f12, lot, rfl, e12, hl1, hl9, fun H11 u r f13 k11 e11 hru fit rl => ?_⟩
      have X11 := X10.feed k11 e11
      clear X10 e12 k11 e11
      obtain ⟨dx, ho⟩ := X11.D.ob
      refine ⟨_, rfl, d, _, _, rfl, ho, rfl, _, rfl, d, _, _, rfl, ho, rfl, _, rfl, by show 2 ≤ sizeLine; decide, fun t nt => ?_⟩
      have st := same_upd (o := .tup [.str "log", .int slot]) nt
      have X12 := X11.same st
      have hru2 := hru.same st
      have hq : PlcAt K (upd H11 t (.tup [.str "log", .int slot])) t (.log slot) := .of upd_same
      refine ⟨_, rfl, d, t, u, A, 24, 5, 30, hd, la, hs, lg.map gV, .log slot, rfl, X12.D, hq, ⟨hs0, by omega, r, hru2, fit⟩, X12.t, fun H13 wt t13 k13 D13 e13 => ?_⟩
      have X13 := X12.issued t13 k13 D13
      have hru3 := hru2.by fun _ _ => seqT_kp k13 X12.isn
      refine ⟨d, t, u, wt, la + 1, A, 24, 5, 30, hd, la + 1, hs, lg.map gV, .log slot, rfl, D13, e13, hq.by fun _ _ => seqT_kp k13 X12.isn, ⟨hs0, by omega⟩, t13, fun H14 t14 k14 D14 => ?_⟩
      have hsl : slot.toNat < (lg.map gV).length := by have := X13.D.gl; omega
      obtain ⟨e14, X14⟩ := X13.logged t14 k14 D14 hru3 fit (by omega)
      refine ⟨_, rfl, _, rfl, _, rfl, G, _, slot, slot.toNat, rfl, rfl, e14, ixN_at (by omega) hsl, ?_⟩
      generalize upd H14 G (.lst ((lg.map gV).set slot.toNat (.ref u))) = H15 at X14 ⊢
      clear X11 X12 X13 hru hru2 hru3 hq e13 e14 D13 D14 k13 k14 t13 t14 ho st nt
      refine ⟨_, rfl, _, rfl, _, rfl, d, G, A, hd, la + 1, _, _, _, rfl, X14.D, X14.l, X14.L.mono (by decide), hd0, by omega, fun H16 S16 => ⟨_, rfl, iteF ?_⟩⟩
      have := nFree_set lg slot.toNat (some (u, r))
      exact ⟨la + 1, _, _, _, _, _, _, rfl, X14.same S16, by omega⟩
    clear X6 e6 X7
    rintro σ H8 ⟨la, hs, lg, v5, v6, v7, v8, rfl, X8, hn⟩
    have hfr : 0 < nFree lg := by omega
    have lgl : lg.length = 30 := by have := X8.D.gl; rw [List.length_map] at this; omega
    refine ⟨_, rfl, _, rfl, _, rfl, d, G, A, hd, la, _, _, _, rfl, X8.D, X8.l, X8.L.mono (by decide), hd0, by omega, fun H9 S9 => ⟨_, rfl, iteF ?_⟩⟩
    have X9 := X8.same S9
    clear X8 S9
    refine ⟨30, rfl, by decide, by decide, fun F nF => ?_⟩
    refine lc_range (lo := 0) (n := 30) (fun i H' => H' = upd H9 F (.lst (((frees lg i).map fun x : Nat => (x : Int)).map V.int))) rfl ?_ ?_
    · rintro i H' hi rfl
      refine ⟨rfl, ?_⟩
      have hx : lg[i]? = some (lg[i]'(by omega)) := List.getElem?_eq_getElem (by omega)
      have hg : (lg.map gV)[i]? = some (gV (lg[i]'(by omega))) := by rw [List.getElem?_map, hx]; rfl
      have eG : upd H9 F (.lst (((frees lg i).map fun x : Nat => (x : Int)).map V.int)) G = some (.lst (lg.map gV)) := by rw [upd_ne (ne_of_none X9.l nF)]; exact X9.l
      refine ⟨_, rfl, _, rfl, G, _, _, _, rfl, rfl, .of eG, atN (j := i) (by omega) hg, rfl, _, rfl, ?_⟩
      cases hc : lg[i]'(by omega) with
      | none =>
        rw [hc] at hx
        rw [decide_eq_true (show gV none = V.non from rfl), if_pos rfl]
        refine ⟨_, rfl, _, upd_same, ?_, ?_⟩
        · rw [List.length_map, List.length_map]
          exact Nat.lt_of_le_of_lt (Nat.le_trans (frees_len i) (show i ≤ 30 by omega)) (by decide)
        · rw [upd_upd, frees_succ, if_pos (isFree_iff.mpr hx), List.map_append, List.map_append, Int.zero_add]
          rfl
      | some w =>
        rw [hc] at hx
        rw [decide_eq_false (show ¬ gV (some w) = V.non by intro z; cases z), if_neg (by decide), frees_succ, if_neg (fun z => by rw [isFree_iff.mp z] at hx; cases hx)]
    rintro H10 rfl
    have nFp : p ≠ F := let ⟨_, e⟩ := X9.f; ne_of_none e nF
    have X10 := X9.same (same_upd (o := .lst (((frees lg 30).map fun x : Nat => (x : Int)).map V.int)) nF)
    have eF : upd H9 F (.lst (((frees lg 30).map fun x : Nat => (x : Int)).map V.int)) F = some (.lst (((frees lg 30).map fun x : Nat => (x : Int)).map V.int)) := upd_same
    generalize upd H9 F (.lst (((frees lg 30).map fun x : Nat => (x : Int)).map V.int)) = H10 at X10 eF ⊢
    obtain ⟨j0, hj0⟩ := free_ex hfr
    have mj0 : j0 ∈ frees lg 30 := List.mem_filter.mpr ⟨List.mem_range.mpr (by have := (List.getElem?_eq_some_iff.mp hj0).1; omega), isFree_iff.mpr hj0⟩
    have fok : ∀ j ∈ frees lg 30, lg[j]? = some none := fun j h => (frees_ok h).2
    obtain ⟨x, xs, efl⟩ : ∃ x xs, frees lg 30 = x :: xs := by
      cases q : frees lg 30 with
      | nil => rw [q] at mj0; cases mj0
      | cons x xs => exact ⟨x, xs, rfl⟩
    have g0 : (((frees lg 30).map fun x : Nat => (x : Int)).map V.int)[0]? = some (.int (x : Int)) := by rw [efl]; rfl
    refine ⟨_, rfl, F, _, _, _, rfl, rfl, .of eF, atN (j := 0) rfl g0, ?_⟩
    refine ⟨fun σ H' => ∃ j : Nat, lg[j]? = some none ∧ σ = [some (.ref a), some (.ref p), some (.ref d), some (.int hd), some (.ref G), some (.int (j : Int)), v6, v7, v8, some (.ref F), none] ∧ Dk K T.C_Disk T.C_Plan T.Ps H' p d G A 24 5 30 hd la 9 hs lg [], ?_, ?_⟩
    · obtain ⟨f11, e11⟩ := X10.f
      refine ⟨_, rfl, p, f11, 2, rfl, e11, by decide, fun q f12 _ _ _ => ⟨rfl, _, rfl, ite2 (fun _ => ?_) (fun _ => ?_)⟩⟩
      · obtain ⟨ys, y, efy⟩ : ∃ ys y, frees lg 30 = ys ++ [y] := by
          rcases List.eq_nil_or_concat (frees lg 30) with z | ⟨ys, y, z⟩
          · rw [z] at mj0; cases mj0
          · exact ⟨ys, y, by rw [z, List.concat_eq_append]⟩
        have gl : atI (((frees lg 30).map fun x : Nat => (x : Int)).map V.int) (-1) = some (.int (y : Int)) := by rw [efy, List.map_append, List.map_append]; exact atI_last _ _
        refine ⟨_, rfl, _, rfl, F, _, _, _, rfl, rfl, .of (by rw [upd_ne nFp.symm]; exact eF), gl, ?_⟩
        exact ⟨y, fok y (by rw [efy]; simp), rfl, X10.pick f12⟩
      · exact ⟨x, fok x (by rw [efl]; simp), rfl, X10.pick f12⟩
    rintro σ H11 ⟨j, hj, rfl, X11⟩
    have jl : j < 30 := by have := (List.getElem?_eq_some_iff.mp hj).1; omega
    clear X9 X10 eF nF mj0 hj0 fok efl g0 nFp
    obtain ⟨ds, hD, hz⟩ := due_ex X11.L (9 - hd).toNat (hd + 1) (by omega)
    -- the mark
    refine ⟨_, rfl, _, rfl, _, rfl, G, hd, 24, 30, 9, lg, ds, rfl, X11.l, lgl, X11.L, hD, by omega, fun H12 q ts12 S12 n12 e12 m12 => ?_⟩
    have len12 : ((ts12.map V.ref).length : Int) = ds.length := by rw [List.length_map, m12.1]
    refine ⟨q, _, rfl, .inl (.of e12), _, _, rfl, rfl, _, _, rfl, rfl, ?_⟩
    rw [len12]
    refine ⟨_, rfl, by show 2 ≤ sizeLine; decide, fun a1 na1 => ⟨by show 1 ≤ sizeLine; decide, fun a2 na2 => ⟨Nat.zero_le _, fun a3 na3 => ⟨by show 4 ≤ sizeLine; decide, fun a4 na4 => ?_⟩⟩⟩⟩
    have X12 := X11.same S12
    have c1 := same_upd (o := .tup [.int 12, .int (j : Int)]) na1
    have c2 := same_upd (o := .tup [.ref a1]) na2
    have c3 := same_upd (o := .tup []) na3
    have c4 := same_upd (o := .tup [.str "mark", .int (hd + (ds.length : Int) + 1), .ref a2, .ref a3]) na4
    have hru : RecAt K (upd (upd (upd (upd H12 a1 (.tup [.int 12, .int (j : Int)])) a2 (.tup [.ref a1])) a3 (.tup [])) a4 (.tup [.str "mark", .int (hd + (ds.length : Int) + 1), .ref a2, .ref a3])) a4 (.mark (hd + (ds.length : Int) + 1) [(12, (j : Int))] []) :=
      ⟨a2, a3, .of upd_same, ⟨[a1], .of (c4 _ _ (c3 _ _ upd_same)), rfl, fun i q p e1 e2 => by
        cases i with
        | succ i => simp at e1
        | zero =>
          cases e1
          cases e2
          exact .of (c4 _ _ (c3 _ _ (c2 _ _ upd_same)))⟩, .of (c4 _ _ upd_same)⟩
    have X13 := (X12.same (((c1.trans c2).trans c3).trans c4)).mono (show (9 : Int) ≤ 10 by decide)
    have fit : Fit 24 30 (.mark (hd + (ds.length : Int) + 1) [(12, (j : Int))] []) := by
      refine ⟨by omega, by omega, (by show 1 ≤ 64; decide), (by show 0 ≤ 64; decide), fun p hp => ?_, fun i x y e1 e2 => ?_, fun r hr => (nomatch hr), fun i x y e1 e2 => by simp at e1⟩
      · have : p = (12, (j : Int)) := by simpa using hp
        rw [this]
        refine ⟨?_, ?_, ?_, ?_, ?_, ?_⟩ <;> dsimp only <;> omega
      · cases i <;> simp at e2
    have lot : (Rec.mark (hd + (ds.length : Int) + 1) [(12, (j : Int))] []).lot ≤ 10 := by show hd + (ds.length : Int) + 1 ≤ 10; omega
    refine (fun (z : ∀ Hx : Hp, Hx = upd (upd (upd (upd H12 a1 (.tup [.int 12, .int (j : Int)])) a2 (.tup [.ref a1])) a3 (.tup [])) a4 (.tup [.str "mark", .int (hd + (ds.length : Int) + 1), .ref a2, .ref a3]) → _) => z _ rfl) ?_
    intro H13 eH13
    rw [← eH13] at hru X13
    clear eH13 c1 c2 c3 c4 X12 X11 S12 n12 e12 m12
    obtain ⟨dx, ho⟩ := X13.D.ob
    refine ⟨_, rfl, d, _, _, rfl, ho, rfl, _, rfl, by show 2 ≤ sizeLine; decide, fun t nt => ?_⟩
    have st := same_upd (o := .tup [.str "log", .int (j : Int)]) nt
    have X14 := X13.same st
    have hru2 := hru.same st
    have hq : PlcAt K (upd H13 t (.tup [.str "log", .int (j : Int)])) t (.log (j : Int)) := .of upd_same
    refine ⟨_, rfl, d, t, a4, A, 24, 5, 30, hd, la, hs, lg.map gV, .log (j : Int), rfl, X14.D, hq, ⟨by omega, by omega, _, hru2, fit⟩, X14.t, fun H15 wt t15 k15 D15 e15 => ?_⟩
    have X15 := X14.issued t15 k15 D15
    have hru3 := hru2.by fun _ _ => seqT_kp k15 X14.isn
    have hq3 := hq.by fun _ _ => seqT_kp k15 X14.isn
    clear X13 X14 hru hru2 hq D15 k15 t15 ho st nt
    refine ⟨_, rfl, _, rfl, _, rfl, d, G, A, hd, la + 1, _, _, _, rfl, X15.D, X15.l, X15.L.mono (by decide), hd0, by omega, fun H16 S16 => ⟨_, rfl, iteF ?_⟩⟩
    have X16 := X15.same S16
    have hru4 := hru3.same S16
    have e16 := S16 _ _ e15
    have hq4 := hq3.by (H1 := H16) fun _ _ => sameT S16
    clear X15 hru3 hq3 e15 S16
    obtain ⟨dx, ho⟩ := X16.D.ob
    refine ⟨_, rfl, d, _, _, rfl, ho, rfl, _, rfl, d, t, a4, wt, la + 1, A, 24, 5, 30, hd, la + 1, hs, lg.map gV, .log (j : Int), rfl, X16.D, e16, hq4, ⟨by omega, by omega⟩, X16.t, fun H17 t17 k17 D17 => ?_⟩
    have hsl : j < (lg.map gV).length := by rw [List.length_map]; omega
    obtain ⟨e17, X17⟩ := X16.logged (i := j) t17 k17 D17 hru4 fit lot
    refine ⟨_, rfl, _, rfl, _, rfl, G, _, (j : Int), j, rfl, rfl, e17, ixN_at rfl hsl, ?_⟩
    generalize upd H17 G (.lst ((lg.map gV).set j (.ref a4))) = H18 at X17 ⊢
    clear X16 hru4 hq4 e16 D17 k17 t17 ho e17
    refine ⟨_, rfl, _, rfl, _, rfl, d, G, A, hd, la + 1, _, _, _, rfl, X17.D, X17.l, X17.L.mono (by decide), hd0, by omega, fun H19 S19 => ⟨_, rfl, iteF ?_⟩⟩
    have X19 := X17.same S19
    clear X17 S19
    obtain ⟨ds', hD', hz'⟩ := due_ex X19.L 10 (hd + 1) (by omega)
    have pos := due_pos hD hj hD'
    refine ⟨_, rfl, d, A, 24, 5, 30, hd, la + 1, 10, _, _, _, ds', rfl, X19.D, X19.L, hD', by omega, by decide, hd0, by omega, fun H20 q20 ts20 S20 n20 e20 m20 => ⟨q20, _, rfl, .inl (.of e20), _, _, rfl, rfl, _, rfl, ?_⟩⟩
    rw [decide_eq_false (by rw [List.length_map, m20.1]; omega)]
    refine iteF ?_
    have X20 := X19.same S20
    clear X19 S20
    obtain ⟨dx, ho⟩ := X20.D.ob
    refine ⟨_, rfl, d, _, _, rfl, ho, rfl, _, rfl, _, _, rfl, rfl, d, hd + 1, A, 24, 5, 30, hd, la + 1, hs, _, [], dx, rfl, ho, X20.D, by omega, by omega, ?_⟩
    have X21 := X20.head ho (hd + 1)
    exact ⟨_, rfl, _, rfl, _, rfl, _, _, rfl, rfl, d, G, A, hd + 1, la + 1, _, _, _, rfl, X21.D, X21.l, X21.L.mono (by decide), by omega, by omega, fun H22 _ => k H22⟩
end
end K45
open_top K45pre for PySem.Challenge.rw_lotsandties_k45_marks_found
namespace K45
open PySem PySem.Spec PyProof.Rows L2 Rg
theorem law_binds {K : PySem.W.Frag} {mg : Str → Option Value} (T : Tx K mg) (s : Shared) (v : Value) : BindsTo s T.fd_law ⟨[v], []⟩ [("_law_script", v)] := by
  obtain ⟨oc, od, kV, doc, pm, an, cdv, ct, osl, e, lk, hcd⟩ := T.F_law.ex
  rw [e]
  exact .of_eq rfl
/-- the tables of the code objects that stand written -/
def tabsK (K : PySem.W.Frag) : List Addr := K.filterMap fun p => match p.2 with
  | ⟨.type "code", _, .fields vs, _⟩ => (match (vs[11]? : Option Value) with
    | some (.ref P) => some P
    | _ => none)
  | _ => none
theorem look_mem {c : Addr} {o : Obj} : ∀ K : PySem.W.Frag, K.lookup c = some o → (c, o) ∈ K
  | [], h => by cases h
  | (a, u) :: K, h => by
    by_cases e : (c == a) = true
    · rw [List.lookup_cons, e] at h
      cases h
      rw [show c = a from beq_iff_eq.mp e]
      exact List.mem_cons_self
    · rw [List.lookup_cons, show (c == a) = false by simpa using e] at h
      exact List.mem_cons_of_mem _ (look_mem K h)
theorem tabs_all {K : PySem.W.Frag} {ts : List Addr} (h : (tabsK K).all (fun P => ts.contains P) = true) {c P : Addr} (e : PySem.W.codeHdIn K c P = true) : P ∈ ts := by
  have hp : P ∈ tabsK K := by
    unfold PySem.W.codeHdIn at e
    split at e
    · rename_i vs _ hk
      refine List.mem_filterMap.mpr ⟨_, look_mem K hk, ?_⟩
      simp only [Bool.and_eq_true] at e
      obtain ⟨⟨⟨⟨⟨e1, _⟩, _⟩, _⟩, _⟩, _⟩ := e
      split at e1
      · rename_i P' h11
        rw [show P' = P from beq_iff_eq.mp e1] at h11
        show (match (vs[11]? : Option Value) with | some (.ref P) => some P | _ => none) = some P
        rw [h11]
      · cases e1
    · cases e
  simpa using List.all_eq_true.mp h P hp
theorem fin_G {l : PySem.W.OpenLaw} {w : World} {K : PySem.W.Frag} {mg : Str → Option Value} {fa : Addr} {h : Heap} {ts : List Addr} (z : Nonempty (Tx K mg)) (hmg : mg "law" = some (.ref fa)) (KX : K.In h) (TT : ∀ P ∈ ts, h.get? P = some { cls := .none, data := .fields #[] }) (TK : ∀ {c P : Addr}, PySem.W.codeHdIn K c P = true → P ∈ ts) :
    LamX.LawAtS l w K L2.CX0 11 63 "_law_script" mg fa h := by
  obtain ⟨T⟩ := z
  have e : T.f_law = fa := Value.ref.inj (Option.some.inj (T.mg_law.symm.trans hmg))
  subst e
  refine ⟨T.fd_law, [(T.cc_is_cell_row, T.P_is_cell_row), (T.cc_is_ascending, T.P_is_ascending), (T.cc_are_pairs, T.P_are_pairs), (T.cc_are_revokes, T.P_are_revokes), (T.cc_fits_plan, T.P_fits_plan), (T.cc_Disk_busy, T.P_Disk_busy)], sp_law K T.Ps, List.forall_mem_cons.mpr ⟨TT _ (TK T.ch_is_cell_row), List.forall_mem_cons.mpr ⟨TT _ (TK T.ch_is_ascending), List.forall_mem_cons.mpr ⟨TT _ (TK T.ch_are_pairs), List.forall_mem_cons.mpr ⟨TT _ (TK T.ch_are_revokes), List.forall_mem_cons.mpr ⟨TT _ (TK T.ch_fits_plan), List.forall_mem_cons.mpr ⟨TT _ (TK T.ch_Disk_busy), fun _ z => nomatch z⟩⟩⟩⟩⟩⟩, List.forall_mem_cons.mpr ⟨T.cn_is_cell_row, List.forall_mem_cons.mpr ⟨T.cn_is_ascending, List.forall_mem_cons.mpr ⟨T.cn_are_pairs, List.forall_mem_cons.mpr ⟨T.cn_are_revokes, List.forall_mem_cons.mpr ⟨T.cn_fits_plan, List.forall_mem_cons.mpr ⟨T.cn_Disk_busy, fun _ z => nomatch z⟩⟩⟩⟩⟩⟩, List.forall_mem_cons.mpr ⟨PySem.W.codeHd_of_K KX T.ch_is_cell_row, List.forall_mem_cons.mpr ⟨PySem.W.codeHd_of_K KX T.ch_is_ascending, List.forall_mem_cons.mpr ⟨PySem.W.codeHd_of_K KX T.ch_are_pairs, List.forall_mem_cons.mpr ⟨PySem.W.codeHd_of_K KX T.ch_are_revokes, List.forall_mem_cons.mpr ⟨PySem.W.codeHd_of_K KX T.ch_fits_plan, List.forall_mem_cons.mpr ⟨PySem.W.codeHd_of_K KX T.ch_Disk_busy, fun _ z => nomatch z⟩⟩⟩⟩⟩⟩, fun s v => law_binds T s v, fun H a ns hl _ hT hS => ⟨a, ns, rfl, ?_, hS, hl, fun _ => rfl⟩, fun base _ _ TB => ok_law T ⟨TB (T.cc_is_cell_row, T.P_is_cell_row) (by simp), TB (T.cc_is_ascending, T.P_is_ascending) (by simp), TB (T.cc_are_pairs, T.P_are_pairs) (by simp), TB (T.cc_are_revokes, T.P_are_revokes) (by simp), TB (T.cc_fits_plan, T.P_fits_plan) (by simp), TB (T.cc_Disk_busy, T.P_Disk_busy) (by simp)⟩⟩
  exact List.forall_mem_cons.mpr ⟨⟨#[], hT (T.cc_is_cell_row, T.P_is_cell_row) (by simp), True.intro⟩, List.forall_mem_cons.mpr ⟨⟨#[], hT (T.cc_is_ascending, T.P_is_ascending) (by simp), True.intro⟩, List.forall_mem_cons.mpr ⟨⟨#[], hT (T.cc_are_pairs, T.P_are_pairs) (by simp), True.intro⟩, List.forall_mem_cons.mpr ⟨⟨#[], hT (T.cc_are_revokes, T.P_are_revokes) (by simp), True.intro⟩, List.forall_mem_cons.mpr ⟨⟨#[], hT (T.cc_fits_plan, T.P_fits_plan) (by simp), True.intro⟩, List.forall_mem_cons.mpr ⟨⟨#[], hT (T.cc_Disk_busy, T.P_Disk_busy) (by simp), True.intro⟩, fun _ z => nomatch z⟩⟩⟩⟩⟩⟩
theorem all_mk {w : World} {K : PySem.W.Frag} {h : Heap} {mg : Str → Option Value} (X : K.In h) (G : h.Ns mainGlobals mg)
    {a_is_number : Addr}
    {od_is_number an_is_number : Option Addr} {sl_is_number : Array (Option Value)} {oc_is_number kV_is_number dc_is_number pm_is_number cd_is_number ct_is_number : Value}
    (l_is_number : K.lookup a_is_number = some ⟨oc_is_number, od_is_number, .func (PySem.W.fnOf "is_number" "is_number" (defArgs s_is_number) (defBody s_is_number) (defScope s_is_number) .none kV_is_number dc_is_number pm_is_number an_is_number cd_is_number ct_is_number), sl_is_number⟩)
    (c_is_number : PySem.W.codeIn K cd_is_number "is_number" = true)
    (k_is_number : PySem.W.keepIn K (.ref a_is_number) = true)
    (g_is_number : PySem.W.nsIn K mainGlobals "is_number" = some (some (.ref a_is_number)))
    {a_is_cell : Addr}
    {od_is_cell an_is_cell : Option Addr} {sl_is_cell : Array (Option Value)} {oc_is_cell kV_is_cell dc_is_cell pm_is_cell cd_is_cell ct_is_cell : Value}
    (l_is_cell : K.lookup a_is_cell = some ⟨oc_is_cell, od_is_cell, .func (PySem.W.fnOf "is_cell" "is_cell" (defArgs s_is_cell) (defBody s_is_cell) (defScope s_is_cell) .none kV_is_cell dc_is_cell pm_is_cell an_is_cell cd_is_cell ct_is_cell), sl_is_cell⟩)
    (c_is_cell : PySem.W.codeIn K cd_is_cell "is_cell" = true)
    (k_is_cell : PySem.W.keepIn K (.ref a_is_cell) = true)
    (g_is_cell : PySem.W.nsIn K mainGlobals "is_cell" = some (some (.ref a_is_cell)))
    {a_is_block : Addr}
    {od_is_block an_is_block : Option Addr} {sl_is_block : Array (Option Value)} {oc_is_block kV_is_block dc_is_block pm_is_block cd_is_block ct_is_block : Value}
    (l_is_block : K.lookup a_is_block = some ⟨oc_is_block, od_is_block, .func (PySem.W.fnOf "is_block" "is_block" (defArgs s_is_block) (defBody s_is_block) (defScope s_is_block) .none kV_is_block dc_is_block pm_is_block an_is_block cd_is_block ct_is_block), sl_is_block⟩)
    (c_is_block : PySem.W.codeIn K cd_is_block "is_block" = true)
    (k_is_block : PySem.W.keepIn K (.ref a_is_block) = true)
    (g_is_block : PySem.W.nsIn K mainGlobals "is_block" = some (some (.ref a_is_block)))
    {a_is_cell_row : Addr}
    {od_is_cell_row an_is_cell_row : Option Addr} {sl_is_cell_row : Array (Option Value)} {oc_is_cell_row kV_is_cell_row dc_is_cell_row pm_is_cell_row cd_is_cell_row ct_is_cell_row : Value}
    (l_is_cell_row : K.lookup a_is_cell_row = some ⟨oc_is_cell_row, od_is_cell_row, .func (PySem.W.fnOf "is_cell_row" "is_cell_row" (defArgs s_is_cell_row) (defBody s_is_cell_row) (defScope s_is_cell_row) .none kV_is_cell_row dc_is_cell_row pm_is_cell_row an_is_cell_row cd_is_cell_row ct_is_cell_row), sl_is_cell_row⟩)
    (c_is_cell_row : PySem.W.codeIn K cd_is_cell_row "is_cell_row" = true)
    (k_is_cell_row : PySem.W.keepIn K (.ref a_is_cell_row) = true)
    (g_is_cell_row : PySem.W.nsIn K mainGlobals "is_cell_row" = some (some (.ref a_is_cell_row)))
    {ac_is_cell_row : Addr}
    (cc1_is_cell_row : cd_is_cell_row = .ref ac_is_cell_row)
    (ch1_is_cell_row : PySem.W.codeHdIn K ac_is_cell_row (He.tabOf K ac_is_cell_row) = true)
    (cn1_is_cell_row : K.lookup (He.tabOf K ac_is_cell_row) = none)
    {a_is_ascending : Addr}
    {od_is_ascending an_is_ascending : Option Addr} {sl_is_ascending : Array (Option Value)} {oc_is_ascending kV_is_ascending dc_is_ascending pm_is_ascending cd_is_ascending ct_is_ascending : Value}
    (l_is_ascending : K.lookup a_is_ascending = some ⟨oc_is_ascending, od_is_ascending, .func (PySem.W.fnOf "is_ascending" "is_ascending" (defArgs s_is_ascending) (defBody s_is_ascending) (defScope s_is_ascending) .none kV_is_ascending dc_is_ascending pm_is_ascending an_is_ascending cd_is_ascending ct_is_ascending), sl_is_ascending⟩)
    (c_is_ascending : PySem.W.codeIn K cd_is_ascending "is_ascending" = true)
    (k_is_ascending : PySem.W.keepIn K (.ref a_is_ascending) = true)
    (g_is_ascending : PySem.W.nsIn K mainGlobals "is_ascending" = some (some (.ref a_is_ascending)))
    {ac_is_ascending : Addr}
    (cc1_is_ascending : cd_is_ascending = .ref ac_is_ascending)
    (ch1_is_ascending : PySem.W.codeHdIn K ac_is_ascending (He.tabOf K ac_is_ascending) = true)
    (cn1_is_ascending : K.lookup (He.tabOf K ac_is_ascending) = none)
    {a_is_pair : Addr}
    {od_is_pair an_is_pair : Option Addr} {sl_is_pair : Array (Option Value)} {oc_is_pair kV_is_pair dc_is_pair pm_is_pair cd_is_pair ct_is_pair : Value}
    (l_is_pair : K.lookup a_is_pair = some ⟨oc_is_pair, od_is_pair, .func (PySem.W.fnOf "_is_pair" "_is_pair" (defArgs s_is_pair) (defBody s_is_pair) (defScope s_is_pair) .none kV_is_pair dc_is_pair pm_is_pair an_is_pair cd_is_pair ct_is_pair), sl_is_pair⟩)
    (c_is_pair : PySem.W.codeIn K cd_is_pair "_is_pair" = true)
    (k_is_pair : PySem.W.keepIn K (.ref a_is_pair) = true)
    (g_is_pair : PySem.W.nsIn K mainGlobals "_is_pair" = some (some (.ref a_is_pair)))
    {a_are_pairs : Addr}
    {od_are_pairs an_are_pairs : Option Addr} {sl_are_pairs : Array (Option Value)} {oc_are_pairs kV_are_pairs dc_are_pairs pm_are_pairs cd_are_pairs ct_are_pairs : Value}
    (l_are_pairs : K.lookup a_are_pairs = some ⟨oc_are_pairs, od_are_pairs, .func (PySem.W.fnOf "_are_pairs" "_are_pairs" (defArgs s_are_pairs) (defBody s_are_pairs) (defScope s_are_pairs) .none kV_are_pairs dc_are_pairs pm_are_pairs an_are_pairs cd_are_pairs ct_are_pairs), sl_are_pairs⟩)
    (c_are_pairs : PySem.W.codeIn K cd_are_pairs "_are_pairs" = true)
    (k_are_pairs : PySem.W.keepIn K (.ref a_are_pairs) = true)
    (g_are_pairs : PySem.W.nsIn K mainGlobals "_are_pairs" = some (some (.ref a_are_pairs)))
    {ac_are_pairs : Addr}
    (cc1_are_pairs : cd_are_pairs = .ref ac_are_pairs)
    (ch1_are_pairs : PySem.W.codeHdIn K ac_are_pairs (He.tabOf K ac_are_pairs) = true)
    (cn1_are_pairs : K.lookup (He.tabOf K ac_are_pairs) = none)
    {a_are_revokes : Addr}
    {od_are_revokes an_are_revokes : Option Addr} {sl_are_revokes : Array (Option Value)} {oc_are_revokes kV_are_revokes dc_are_revokes pm_are_revokes cd_are_revokes ct_are_revokes : Value}
    (l_are_revokes : K.lookup a_are_revokes = some ⟨oc_are_revokes, od_are_revokes, .func (PySem.W.fnOf "_are_revokes" "_are_revokes" (defArgs s_are_revokes) (defBody s_are_revokes) (defScope s_are_revokes) .none kV_are_revokes dc_are_revokes pm_are_revokes an_are_revokes cd_are_revokes ct_are_revokes), sl_are_revokes⟩)
    (c_are_revokes : PySem.W.codeIn K cd_are_revokes "_are_revokes" = true)
    (k_are_revokes : PySem.W.keepIn K (.ref a_are_revokes) = true)
    (g_are_revokes : PySem.W.nsIn K mainGlobals "_are_revokes" = some (some (.ref a_are_revokes)))
    {ac_are_revokes : Addr}
    (cc1_are_revokes : cd_are_revokes = .ref ac_are_revokes)
    (ch1_are_revokes : PySem.W.codeHdIn K ac_are_revokes (He.tabOf K ac_are_revokes) = true)
    (cn1_are_revokes : K.lookup (He.tabOf K ac_are_revokes) = none)
    {a_is_record : Addr}
    {od_is_record an_is_record : Option Addr} {sl_is_record : Array (Option Value)} {oc_is_record kV_is_record dc_is_record pm_is_record cd_is_record ct_is_record : Value}
    (l_is_record : K.lookup a_is_record = some ⟨oc_is_record, od_is_record, .func (PySem.W.fnOf "is_record" "is_record" (defArgs s_is_record) (defBody s_is_record) (defScope s_is_record) .none kV_is_record dc_is_record pm_is_record an_is_record cd_is_record ct_is_record), sl_is_record⟩)
    (c_is_record : PySem.W.codeIn K cd_is_record "is_record" = true)
    (k_is_record : PySem.W.keepIn K (.ref a_is_record) = true)
    (g_is_record : PySem.W.nsIn K mainGlobals "is_record" = some (some (.ref a_is_record)))
    {a_fits_plan : Addr}
    {od_fits_plan an_fits_plan : Option Addr} {sl_fits_plan : Array (Option Value)} {oc_fits_plan kV_fits_plan dc_fits_plan pm_fits_plan cd_fits_plan ct_fits_plan : Value}
    (l_fits_plan : K.lookup a_fits_plan = some ⟨oc_fits_plan, od_fits_plan, .func (PySem.W.fnOf "fits_plan" "fits_plan" (defArgs s_fits_plan) (defBody s_fits_plan) (defScope s_fits_plan) .none kV_fits_plan dc_fits_plan pm_fits_plan an_fits_plan cd_fits_plan ct_fits_plan), sl_fits_plan⟩)
    (c_fits_plan : PySem.W.codeIn K cd_fits_plan "fits_plan" = true)
    (k_fits_plan : PySem.W.keepIn K (.ref a_fits_plan) = true)
    (g_fits_plan : PySem.W.nsIn K mainGlobals "fits_plan" = some (some (.ref a_fits_plan)))
    {ac_fits_plan : Addr}
    (cc1_fits_plan : cd_fits_plan = .ref ac_fits_plan)
    (ch1_fits_plan : PySem.W.codeHdIn K ac_fits_plan (He.tabOf K ac_fits_plan) = true)
    (cn1_fits_plan : K.lookup (He.tabOf K ac_fits_plan) = none)
    {a_found_marks : Addr}
    {od_found_marks an_found_marks : Option Addr} {sl_found_marks : Array (Option Value)} {oc_found_marks kV_found_marks dc_found_marks pm_found_marks cd_found_marks ct_found_marks : Value}
    (l_found_marks : K.lookup a_found_marks = some ⟨oc_found_marks, od_found_marks, .func (PySem.W.fnOf "found_marks" "found_marks" (defArgs s_found_marks) (defBody s_found_marks) (defScope s_found_marks) .none kV_found_marks dc_found_marks pm_found_marks an_found_marks cd_found_marks ct_found_marks), sl_found_marks⟩)
    (c_found_marks : PySem.W.codeIn K cd_found_marks "found_marks" = true)
    (k_found_marks : PySem.W.keepIn K (.ref a_found_marks) = true)
    (g_found_marks : PySem.W.nsIn K mainGlobals "found_marks" = some (some (.ref a_found_marks)))
    {a_is_place : Addr}
    {od_is_place an_is_place : Option Addr} {sl_is_place : Array (Option Value)} {oc_is_place kV_is_place dc_is_place pm_is_place cd_is_place ct_is_place : Value}
    (l_is_place : K.lookup a_is_place = some ⟨oc_is_place, od_is_place, .func (PySem.W.fnOf "_is_place" "_is_place" (defArgs s_is_place) (defBody s_is_place) (defScope s_is_place) .none kV_is_place dc_is_place pm_is_place an_is_place cd_is_place ct_is_place), sl_is_place⟩)
    (c_is_place : PySem.W.codeIn K cd_is_place "_is_place" = true)
    (k_is_place : PySem.W.keepIn K (.ref a_is_place) = true)
    (g_is_place : PySem.W.nsIn K mainGlobals "_is_place" = some (some (.ref a_is_place)))
    {a_is_content : Addr}
    {od_is_content an_is_content : Option Addr} {sl_is_content : Array (Option Value)} {oc_is_content kV_is_content dc_is_content pm_is_content cd_is_content ct_is_content : Value}
    (l_is_content : K.lookup a_is_content = some ⟨oc_is_content, od_is_content, .func (PySem.W.fnOf "_is_content" "_is_content" (defArgs s_is_content) (defBody s_is_content) (defScope s_is_content) .none kV_is_content dc_is_content pm_is_content an_is_content cd_is_content ct_is_content), sl_is_content⟩)
    (c_is_content : PySem.W.codeIn K cd_is_content "_is_content" = true)
    (k_is_content : PySem.W.keepIn K (.ref a_is_content) = true)
    (g_is_content : PySem.W.nsIn K mainGlobals "_is_content" = some (some (.ref a_is_content)))
    {a_Lfeed : Addr}
    {od_Lfeed an_Lfeed : Option Addr} {sl_Lfeed : Array (Option Value)} {oc_Lfeed kV_Lfeed dc_Lfeed pm_Lfeed cd_Lfeed ct_Lfeed : Value}
    (l_Lfeed : K.lookup a_Lfeed = some ⟨oc_Lfeed, od_Lfeed, .func (PySem.W.fnOf "_law_feed" "_law_feed" (defArgs s_Lfeed) (defBody s_Lfeed) (defScope s_Lfeed) .none kV_Lfeed dc_Lfeed pm_Lfeed an_Lfeed cd_Lfeed ct_Lfeed), sl_Lfeed⟩)
    (c_Lfeed : PySem.W.codeIn K cd_Lfeed "_law_feed" = true)
    (k_Lfeed : PySem.W.keepIn K (.ref a_Lfeed) = true)
    (g_Lfeed : PySem.W.nsIn K mainGlobals "_law_feed" = some (some (.ref a_Lfeed)))
    {a_Lpick : Addr}
    {od_Lpick an_Lpick : Option Addr} {sl_Lpick : Array (Option Value)} {oc_Lpick kV_Lpick dc_Lpick pm_Lpick cd_Lpick ct_Lpick : Value}
    (l_Lpick : K.lookup a_Lpick = some ⟨oc_Lpick, od_Lpick, .func (PySem.W.fnOf "_law_pick" "_law_pick" (defArgs s_Lpick) (defBody s_Lpick) (defScope s_Lpick) .none kV_Lpick dc_Lpick pm_Lpick an_Lpick cd_Lpick ct_Lpick), sl_Lpick⟩)
    (c_Lpick : PySem.W.codeIn K cd_Lpick "_law_pick" = true)
    (k_Lpick : PySem.W.keepIn K (.ref a_Lpick) = true)
    (g_Lpick : PySem.W.nsIn K mainGlobals "_law_pick" = some (some (.ref a_Lpick)))
    {a_Lrecord : Addr}
    {od_Lrecord an_Lrecord : Option Addr} {sl_Lrecord : Array (Option Value)} {oc_Lrecord kV_Lrecord dc_Lrecord pm_Lrecord cd_Lrecord ct_Lrecord : Value}
    (l_Lrecord : K.lookup a_Lrecord = some ⟨oc_Lrecord, od_Lrecord, .func (PySem.W.fnOf "_law_record" "_law_record" (defArgs s_Lrecord) (defBody s_Lrecord) (defScope s_Lrecord) .none kV_Lrecord dc_Lrecord pm_Lrecord an_Lrecord cd_Lrecord ct_Lrecord), sl_Lrecord⟩)
    (c_Lrecord : PySem.W.codeIn K cd_Lrecord "_law_record" = true)
    (k_Lrecord : PySem.W.keepIn K (.ref a_Lrecord) = true)
    (g_Lrecord : PySem.W.nsIn K mainGlobals "_law_record" = some (some (.ref a_Lrecord)))
    {a_Ldue : Addr}
    {od_Ldue an_Ldue : Option Addr} {sl_Ldue : Array (Option Value)} {oc_Ldue kV_Ldue dc_Ldue pm_Ldue cd_Ldue ct_Ldue : Value}
    (l_Ldue : K.lookup a_Ldue = some ⟨oc_Ldue, od_Ldue, .func (PySem.W.fnOf "_law_due" "_law_due" (defArgs s_Ldue) (defBody s_Ldue) (defScope s_Ldue) .none kV_Ldue dc_Ldue pm_Ldue an_Ldue cd_Ldue ct_Ldue), sl_Ldue⟩)
    (c_Ldue : PySem.W.codeIn K cd_Ldue "_law_due" = true)
    (k_Ldue : PySem.W.keepIn K (.ref a_Ldue) = true)
    (g_Ldue : PySem.W.nsIn K mainGlobals "_law_due" = some (some (.ref a_Ldue)))
    {a_Lsame : Addr}
    {od_Lsame an_Lsame : Option Addr} {sl_Lsame : Array (Option Value)} {oc_Lsame kV_Lsame dc_Lsame pm_Lsame cd_Lsame ct_Lsame : Value}
    (l_Lsame : K.lookup a_Lsame = some ⟨oc_Lsame, od_Lsame, .func (PySem.W.fnOf "_law_same" "_law_same" (defArgs s_Lsame) (defBody s_Lsame) (defScope s_Lsame) .none kV_Lsame dc_Lsame pm_Lsame an_Lsame cd_Lsame ct_Lsame), sl_Lsame⟩)
    (c_Lsame : PySem.W.codeIn K cd_Lsame "_law_same" = true)
    (k_Lsame : PySem.W.keepIn K (.ref a_Lsame) = true)
    (g_Lsame : PySem.W.nsIn K mainGlobals "_law_same" = some (some (.ref a_Lsame)))
    {a_Lagrees : Addr}
    {od_Lagrees an_Lagrees : Option Addr} {sl_Lagrees : Array (Option Value)} {oc_Lagrees kV_Lagrees dc_Lagrees pm_Lagrees cd_Lagrees ct_Lagrees : Value}
    (l_Lagrees : K.lookup a_Lagrees = some ⟨oc_Lagrees, od_Lagrees, .func (PySem.W.fnOf "_law_agrees" "_law_agrees" (defArgs s_Lagrees) (defBody s_Lagrees) (defScope s_Lagrees) .none kV_Lagrees dc_Lagrees pm_Lagrees an_Lagrees cd_Lagrees ct_Lagrees), sl_Lagrees⟩)
    (c_Lagrees : PySem.W.codeIn K cd_Lagrees "_law_agrees" = true)
    (k_Lagrees : PySem.W.keepIn K (.ref a_Lagrees) = true)
    (g_Lagrees : PySem.W.nsIn K mainGlobals "_law_agrees" = some (some (.ref a_Lagrees)))
    {a_law : Addr}
    {od_law an_law : Option Addr} {sl_law : Array (Option Value)} {oc_law kV_law dc_law pm_law cd_law ct_law : Value}
    (l_law : K.lookup a_law = some ⟨oc_law, od_law, .func (PySem.W.fnOf "law" "law" (defArgs s_law) (defBody s_law) (defScope s_law) .none kV_law dc_law pm_law an_law cd_law ct_law), sl_law⟩)
    (c_law : PySem.W.codeIn K cd_law "law" = true)
    (k_law : PySem.W.keepIn K (.ref a_law) = true)
    (g_law : PySem.W.nsIn K mainGlobals "law" = some (some (.ref a_law)))
    {a_Plan___init__ : Addr}
    {od_Plan___init__ an_Plan___init__ : Option Addr} {sl_Plan___init__ : Array (Option Value)} {oc_Plan___init__ kV_Plan___init__ dc_Plan___init__ pm_Plan___init__ cd_Plan___init__ ct_Plan___init__ : Value}
    (l_Plan___init__ : K.lookup a_Plan___init__ = some ⟨oc_Plan___init__, od_Plan___init__, .func (PySem.W.fnOf "__init__" "Plan.__init__" (defArgs s_Plan___init__) (defBody s_Plan___init__) (defScope s_Plan___init__) .none kV_Plan___init__ dc_Plan___init__ pm_Plan___init__ an_Plan___init__ cd_Plan___init__ ct_Plan___init__), sl_Plan___init__⟩)
    (c_Plan___init__ : PySem.W.codeIn K cd_Plan___init__ "Plan.__init__" = true)
    (k_Plan___init__ : PySem.W.keepIn K (.ref a_Plan___init__) = true)
    {a_Disk___init__ : Addr}
    {od_Disk___init__ an_Disk___init__ : Option Addr} {sl_Disk___init__ : Array (Option Value)} {oc_Disk___init__ kV_Disk___init__ dc_Disk___init__ pm_Disk___init__ cd_Disk___init__ ct_Disk___init__ : Value}
    (l_Disk___init__ : K.lookup a_Disk___init__ = some ⟨oc_Disk___init__, od_Disk___init__, .func (PySem.W.fnOf "__init__" "Disk.__init__" (defArgs s_Disk___init__) (defBody s_Disk___init__) (defScope s_Disk___init__) .none kV_Disk___init__ dc_Disk___init__ pm_Disk___init__ an_Disk___init__ cd_Disk___init__ ct_Disk___init__), sl_Disk___init__⟩)
    (c_Disk___init__ : PySem.W.codeIn K cd_Disk___init__ "Disk.__init__" = true)
    (k_Disk___init__ : PySem.W.keepIn K (.ref a_Disk___init__) = true)
    {a_Disk_issue : Addr}
    {od_Disk_issue an_Disk_issue : Option Addr} {sl_Disk_issue : Array (Option Value)} {oc_Disk_issue kV_Disk_issue dc_Disk_issue pm_Disk_issue cd_Disk_issue ct_Disk_issue : Value}
    (l_Disk_issue : K.lookup a_Disk_issue = some ⟨oc_Disk_issue, od_Disk_issue, .func (PySem.W.fnOf "issue" "Disk.issue" (defArgs s_Disk_issue) (defBody s_Disk_issue) (defScope s_Disk_issue) .none kV_Disk_issue dc_Disk_issue pm_Disk_issue an_Disk_issue cd_Disk_issue ct_Disk_issue), sl_Disk_issue⟩)
    (c_Disk_issue : PySem.W.codeIn K cd_Disk_issue "Disk.issue" = true)
    (k_Disk_issue : PySem.W.keepIn K (.ref a_Disk_issue) = true)
    {a_Disk_busy : Addr}
    {od_Disk_busy an_Disk_busy : Option Addr} {sl_Disk_busy : Array (Option Value)} {oc_Disk_busy kV_Disk_busy dc_Disk_busy pm_Disk_busy cd_Disk_busy ct_Disk_busy : Value}
    (l_Disk_busy : K.lookup a_Disk_busy = some ⟨oc_Disk_busy, od_Disk_busy, .func (PySem.W.fnOf "busy" "Disk.busy" (defArgs s_Disk_busy) (defBody s_Disk_busy) (defScope s_Disk_busy) .none kV_Disk_busy dc_Disk_busy pm_Disk_busy an_Disk_busy cd_Disk_busy ct_Disk_busy), sl_Disk_busy⟩)
    (c_Disk_busy : PySem.W.codeIn K cd_Disk_busy "Disk.busy" = true)
    (k_Disk_busy : PySem.W.keepIn K (.ref a_Disk_busy) = true)
    {ac_Disk_busy : Addr}
    (cc1_Disk_busy : cd_Disk_busy = .ref ac_Disk_busy)
    (ch1_Disk_busy : PySem.W.codeHdIn K ac_Disk_busy (He.tabOf K ac_Disk_busy) = true)
    (cn1_Disk_busy : K.lookup (He.tabOf K ac_Disk_busy) = none)
    {a_Disk_sure : Addr}
    {od_Disk_sure an_Disk_sure : Option Addr} {sl_Disk_sure : Array (Option Value)} {oc_Disk_sure kV_Disk_sure dc_Disk_sure pm_Disk_sure cd_Disk_sure ct_Disk_sure : Value}
    (l_Disk_sure : K.lookup a_Disk_sure = some ⟨oc_Disk_sure, od_Disk_sure, .func (PySem.W.fnOf "sure" "Disk.sure" (defArgs s_Disk_sure) (defBody s_Disk_sure) (defScope s_Disk_sure) .none kV_Disk_sure dc_Disk_sure pm_Disk_sure an_Disk_sure cd_Disk_sure ct_Disk_sure), sl_Disk_sure⟩)
    (c_Disk_sure : PySem.W.codeIn K cd_Disk_sure "Disk.sure" = true)
    (k_Disk_sure : PySem.W.keepIn K (.ref a_Disk_sure) = true)
    {a_Disk_move_head : Addr}
    {od_Disk_move_head an_Disk_move_head : Option Addr} {sl_Disk_move_head : Array (Option Value)} {oc_Disk_move_head kV_Disk_move_head dc_Disk_move_head pm_Disk_move_head cd_Disk_move_head ct_Disk_move_head : Value}
    (l_Disk_move_head : K.lookup a_Disk_move_head = some ⟨oc_Disk_move_head, od_Disk_move_head, .func (PySem.W.fnOf "move_head" "Disk.move_head" (defArgs s_Disk_move_head) (defBody s_Disk_move_head) (defScope s_Disk_move_head) .none kV_Disk_move_head dc_Disk_move_head pm_Disk_move_head an_Disk_move_head cd_Disk_move_head ct_Disk_move_head), sl_Disk_move_head⟩)
    (c_Disk_move_head : PySem.W.codeIn K cd_Disk_move_head "Disk.move_head" = true)
    (k_Disk_move_head : PySem.W.keepIn K (.ref a_Disk_move_head) = true)
    {a_Disk__put : Addr}
    {od_Disk__put an_Disk__put : Option Addr} {sl_Disk__put : Array (Option Value)} {oc_Disk__put kV_Disk__put dc_Disk__put pm_Disk__put cd_Disk__put ct_Disk__put : Value}
    (l_Disk__put : K.lookup a_Disk__put = some ⟨oc_Disk__put, od_Disk__put, .func (PySem.W.fnOf "_put" "Disk._put" (defArgs s_Disk__put) (defBody s_Disk__put) (defScope s_Disk__put) .none kV_Disk__put dc_Disk__put pm_Disk__put an_Disk__put cd_Disk__put ct_Disk__put), sl_Disk__put⟩)
    (c_Disk__put : PySem.W.codeIn K cd_Disk__put "Disk._put" = true)
    (k_Disk__put : PySem.W.keepIn K (.ref a_Disk__put) = true)
    {aC_Plan : Addr}
    (g_Plan : PySem.W.nsIn K mainGlobals "Plan" = some (some (.ref aC_Plan)))
    (pg_Plan : PySem.W.plainGet K aC_Plan Str.empty = true)
    (hd_Plan : PySem.W.hasDictIn K aC_Plan = true)
    (po_Plan : PySem.W.plainOver K aC_Plan = true)
    (sa_Plan : PySem.W.findIn K (.ref aC_Plan) "__setattr__" = some (some (.builtin "object.__setattr__")))
    (n_Plan_blocks : PySem.W.findIn K (.ref aC_Plan) "blocks" = some none)
    (n_Plan_nodes : PySem.W.findIn K (.ref aC_Plan) "nodes" = some none)
    (n_Plan_slots : PySem.W.findIn K (.ref aC_Plan) "slots" = some none)
    (n_Plan_maps : PySem.W.findIn K (.ref aC_Plan) "maps" = some none)
    (n_Plan_first_node : PySem.W.findIn K (.ref aC_Plan) "first_node" = some none)
    (n_Plan_first_data : PySem.W.findIn K (.ref aC_Plan) "first_data" = some none)
    (mk1_Plan : PySem.W.makesIn K aC_Plan = true)
    (mk2_Plan : PySem.W.findIn K (.ref aC_Plan) "__init__" = some (some (.ref a_Plan___init__)))
    (mk3_Plan : PySem.W.isFn K (.ref a_Plan___init__) = true)
    (mk4_Plan : PySem.W.keepIn K (.ref aC_Plan) = true)
    {mcv_Plan : Value}
    (tp_Plan : PySem.W.typeIn K (.ref aC_Plan) = some mcv_Plan)
    (rd_Plan : PySem.W.readsIn K aC_Plan mcv_Plan = true)
    (ga_Plan : PySem.W.specialIn K (.ref aC_Plan) "__getattribute__" = some (some (.builtin "type.__getattribute__")))
    {tv_Plan_WIDTH : Tok}
    (v_Plan_WIDTH : PySem.W.findCls K (.ref aC_Plan) mcv_Plan "WIDTH" = some (.val (.int 8 tv_Plan_WIDTH)))
    {tc_Plan_WIDTH : Tok}
    (o_Plan_WIDTH : PySem.W.findIn K (.ref aC_Plan) "WIDTH" = some (some (.int 8 tc_Plan_WIDTH)))
    (og_Plan_WIDTH : PySem.W.specialIn K (.int 8 tc_Plan_WIDTH) "__get__" = some none)
    {aC_Disk : Addr}
    (g_Disk : PySem.W.nsIn K mainGlobals "Disk" = some (some (.ref aC_Disk)))
    (pg_Disk : PySem.W.plainGet K aC_Disk Str.empty = true)
    (hd_Disk : PySem.W.hasDictIn K aC_Disk = true)
    (po_Disk : PySem.W.plainOver K aC_Disk = true)
    (sa_Disk : PySem.W.findIn K (.ref aC_Disk) "__setattr__" = some (some (.builtin "object.__setattr__")))
    (n_Disk_plan : PySem.W.findIn K (.ref aC_Disk) "plan" = some none)
    (n_Disk_home : PySem.W.findIn K (.ref aC_Disk) "home" = some none)
    (n_Disk_log : PySem.W.findIn K (.ref aC_Disk) "log" = some none)
    (n_Disk_head : PySem.W.findIn K (.ref aC_Disk) "head" = some none)
    (n_Disk_last : PySem.W.findIn K (.ref aC_Disk) "last" = some none)
    (n_Disk__pending : PySem.W.findIn K (.ref aC_Disk) "_pending" = some none)
    (mk1_Disk : PySem.W.makesIn K aC_Disk = true)
    (mk2_Disk : PySem.W.findIn K (.ref aC_Disk) "__init__" = some (some (.ref a_Disk___init__)))
    (mk3_Disk : PySem.W.isFn K (.ref a_Disk___init__) = true)
    (mk4_Disk : PySem.W.keepIn K (.ref aC_Disk) = true)
    (m1_Disk_issue : PySem.W.findIn K (.ref aC_Disk) "issue" = some (some (.ref a_Disk_issue)))
    (m2_Disk_issue : PySem.W.isFn K (.ref a_Disk_issue) = true)
    (m1_Disk_busy : PySem.W.findIn K (.ref aC_Disk) "busy" = some (some (.ref a_Disk_busy)))
    (m2_Disk_busy : PySem.W.isFn K (.ref a_Disk_busy) = true)
    (m1_Disk_sure : PySem.W.findIn K (.ref aC_Disk) "sure" = some (some (.ref a_Disk_sure)))
    (m2_Disk_sure : PySem.W.isFn K (.ref a_Disk_sure) = true)
    (m1_Disk_move_head : PySem.W.findIn K (.ref aC_Disk) "move_head" = some (some (.ref a_Disk_move_head)))
    (m2_Disk_move_head : PySem.W.isFn K (.ref a_Disk_move_head) = true)
    (m1_Disk__put : PySem.W.findIn K (.ref aC_Disk) "_put" = some (some (.ref a_Disk__put)))
    (m2_Disk__put : PySem.W.isFn K (.ref a_Disk__put) = true)
    {t_LEAST_BLOCKS : Tok}
    (gc_LEAST_BLOCKS : PySem.W.nsIn K mainGlobals "LEAST_BLOCKS" = some (some (.int 8 t_LEAST_BLOCKS)))
    {t_MOST_BLOCKS : Tok}
    (gc_MOST_BLOCKS : PySem.W.nsIn K mainGlobals "MOST_BLOCKS" = some (some (.int 64 t_MOST_BLOCKS)))
    {t_LEAST_NODES : Tok}
    (gc_LEAST_NODES : PySem.W.nsIn K mainGlobals "LEAST_NODES" = some (some (.int 2 t_LEAST_NODES)))
    {t_MOST_NODES : Tok}
    (gc_MOST_NODES : PySem.W.nsIn K mainGlobals "MOST_NODES" = some (some (.int 16 t_MOST_NODES)))
    {t_MOST_SLOTS : Tok}
    (gc_MOST_SLOTS : PySem.W.nsIn K mainGlobals "MOST_SLOTS" = some (some (.int 200 t_MOST_SLOTS)))
    {t_LEAST_DATA : Tok}
    (gc_LEAST_DATA : PySem.W.nsIn K mainGlobals "LEAST_DATA" = some (some (.int 2 t_LEAST_DATA)))
    {t_FIRST_MAP : Tok}
    (gc_FIRST_MAP : PySem.W.nsIn K mainGlobals "FIRST_MAP" = some (some (.int 2 t_FIRST_MAP)))
    {t_CELL_MOST : Tok}
    (gc_CELL_MOST : PySem.W.nsIn K mainGlobals "CELL_MOST" = some (some (.int 999999999 t_CELL_MOST)))
    {t_BLOCK_MOST : Tok}
    (gc_BLOCK_MOST : PySem.W.nsIn K mainGlobals "BLOCK_MOST" = some (some (.int 63 t_BLOCK_MOST)))
    {t_MOST_LOT : Tok}
    (gc_MOST_LOT : PySem.W.nsIn K mainGlobals "MOST_LOT" = some (some (.int 999999 t_MOST_LOT)))
    {t_MOST_SLOT : Tok}
    (gc_MOST_SLOT : PySem.W.nsIn K mainGlobals "MOST_SLOT" = some (some (.int 199 t_MOST_SLOT)))
    {t_MOST_HEAD : Tok}
    (gc_MOST_HEAD : PySem.W.nsIn K mainGlobals "MOST_HEAD" = some (some (.int 999999 t_MOST_HEAD)))
    {t_NO_SLOT : Tok}
    (gc_NO_SLOT : PySem.W.nsIn K mainGlobals "NO_SLOT" = some (some (.int (-1) t_NO_SLOT)))
    (nb_abs : PySem.W.nsIn K mainGlobals "abs" = some none)
    (nb_all : PySem.W.nsIn K mainGlobals "all" = some none)
    (nb_any : PySem.W.nsIn K mainGlobals "any" = some none)
    (nb_bool : PySem.W.nsIn K mainGlobals "bool" = some none)
    (nb_enumerate : PySem.W.nsIn K mainGlobals "enumerate" = some none)
    (nb_int : PySem.W.nsIn K mainGlobals "int" = some none)
    (nb_isinstance : PySem.W.nsIn K mainGlobals "isinstance" = some none)
    (nb_len : PySem.W.nsIn K mainGlobals "len" = some none)
    (nb_list : PySem.W.nsIn K mainGlobals "list" = some none)
    (nb_max : PySem.W.nsIn K mainGlobals "max" = some none)
    (nb_range : PySem.W.nsIn K mainGlobals "range" = some none)
    (nb_tuple : PySem.W.nsIn K mainGlobals "tuple" = some none)
    (nb_zip : PySem.W.nsIn K mainGlobals "zip" = some none)
    : Nonempty (Tx K mg) := ⟨{
      f_is_number := a_is_number,
      fd_is_number := PySem.W.fnOf "is_number" "is_number" (defArgs s_is_number) (defBody s_is_number) (defScope s_is_number) .none kV_is_number dc_is_number pm_is_number an_is_number cd_is_number ct_is_number,
      F_is_number := fun_mk (st := s_is_number) l_is_number c_is_number k_is_number,
      mg_is_number := PySem.W.mg_of X G g_is_number,
      f_is_cell := a_is_cell,
      fd_is_cell := PySem.W.fnOf "is_cell" "is_cell" (defArgs s_is_cell) (defBody s_is_cell) (defScope s_is_cell) .none kV_is_cell dc_is_cell pm_is_cell an_is_cell cd_is_cell ct_is_cell,
      F_is_cell := fun_mk (st := s_is_cell) l_is_cell c_is_cell k_is_cell,
      mg_is_cell := PySem.W.mg_of X G g_is_cell,
      f_is_block := a_is_block,
      fd_is_block := PySem.W.fnOf "is_block" "is_block" (defArgs s_is_block) (defBody s_is_block) (defScope s_is_block) .none kV_is_block dc_is_block pm_is_block an_is_block cd_is_block ct_is_block,
      F_is_block := fun_mk (st := s_is_block) l_is_block c_is_block k_is_block,
      mg_is_block := PySem.W.mg_of X G g_is_block,
      f_is_cell_row := a_is_cell_row,
      fd_is_cell_row := PySem.W.fnOf "is_cell_row" "is_cell_row" (defArgs s_is_cell_row) (defBody s_is_cell_row) (defScope s_is_cell_row) .none kV_is_cell_row dc_is_cell_row pm_is_cell_row an_is_cell_row cd_is_cell_row ct_is_cell_row,
      F_is_cell_row := fun_mk (st := s_is_cell_row) l_is_cell_row c_is_cell_row k_is_cell_row,
      mg_is_cell_row := PySem.W.mg_of X G g_is_cell_row,
      cc_is_cell_row := ac_is_cell_row,
      P_is_cell_row := He.tabOf K ac_is_cell_row,
      code_is_cell_row := cc1_is_cell_row,
      ch_is_cell_row := ch1_is_cell_row,
      cn_is_cell_row := cn1_is_cell_row,
      f_is_ascending := a_is_ascending,
      fd_is_ascending := PySem.W.fnOf "is_ascending" "is_ascending" (defArgs s_is_ascending) (defBody s_is_ascending) (defScope s_is_ascending) .none kV_is_ascending dc_is_ascending pm_is_ascending an_is_ascending cd_is_ascending ct_is_ascending,
      F_is_ascending := fun_mk (st := s_is_ascending) l_is_ascending c_is_ascending k_is_ascending,
      mg_is_ascending := PySem.W.mg_of X G g_is_ascending,
      cc_is_ascending := ac_is_ascending,
      P_is_ascending := He.tabOf K ac_is_ascending,
      code_is_ascending := cc1_is_ascending,
      ch_is_ascending := ch1_is_ascending,
      cn_is_ascending := cn1_is_ascending,
      f_is_pair := a_is_pair,
      fd_is_pair := PySem.W.fnOf "_is_pair" "_is_pair" (defArgs s_is_pair) (defBody s_is_pair) (defScope s_is_pair) .none kV_is_pair dc_is_pair pm_is_pair an_is_pair cd_is_pair ct_is_pair,
      F_is_pair := fun_mk (st := s_is_pair) l_is_pair c_is_pair k_is_pair,
      mg_is_pair := PySem.W.mg_of X G g_is_pair,
      f_are_pairs := a_are_pairs,
      fd_are_pairs := PySem.W.fnOf "_are_pairs" "_are_pairs" (defArgs s_are_pairs) (defBody s_are_pairs) (defScope s_are_pairs) .none kV_are_pairs dc_are_pairs pm_are_pairs an_are_pairs cd_are_pairs ct_are_pairs,
      F_are_pairs := fun_mk (st := s_are_pairs) l_are_pairs c_are_pairs k_are_pairs,
      mg_are_pairs := PySem.W.mg_of X G g_are_pairs,
      cc_are_pairs := ac_are_pairs,
      P_are_pairs := He.tabOf K ac_are_pairs,
      code_are_pairs := cc1_are_pairs,
      ch_are_pairs := ch1_are_pairs,
      cn_are_pairs := cn1_are_pairs,
      f_are_revokes := a_are_revokes,
      fd_are_revokes := PySem.W.fnOf "_are_revokes" "_are_revokes" (defArgs s_are_revokes) (defBody s_are_revokes) (defScope s_are_revokes) .none kV_are_revokes dc_are_revokes pm_are_revokes an_are_revokes cd_are_revokes ct_are_revokes,
      F_are_revokes := fun_mk (st := s_are_revokes) l_are_revokes c_are_revokes k_are_revokes,
      mg_are_revokes := PySem.W.mg_of X G g_are_revokes,
      cc_are_revokes := ac_are_revokes,
      P_are_revokes := He.tabOf K ac_are_revokes,
      code_are_revokes := cc1_are_revokes,
      ch_are_revokes := ch1_are_revokes,
      cn_are_revokes := cn1_are_revokes,
      f_is_record := a_is_record,
      fd_is_record := PySem.W.fnOf "is_record" "is_record" (defArgs s_is_record) (defBody s_is_record) (defScope s_is_record) .none kV_is_record dc_is_record pm_is_record an_is_record cd_is_record ct_is_record,
      F_is_record := fun_mk (st := s_is_record) l_is_record c_is_record k_is_record,
      mg_is_record := PySem.W.mg_of X G g_is_record,
      f_fits_plan := a_fits_plan,
      fd_fits_plan := PySem.W.fnOf "fits_plan" "fits_plan" (defArgs s_fits_plan) (defBody s_fits_plan) (defScope s_fits_plan) .none kV_fits_plan dc_fits_plan pm_fits_plan an_fits_plan cd_fits_plan ct_fits_plan,
      F_fits_plan := fun_mk (st := s_fits_plan) l_fits_plan c_fits_plan k_fits_plan,
      mg_fits_plan := PySem.W.mg_of X G g_fits_plan,
      cc_fits_plan := ac_fits_plan,
      P_fits_plan := He.tabOf K ac_fits_plan,
      code_fits_plan := cc1_fits_plan,
      ch_fits_plan := ch1_fits_plan,
      cn_fits_plan := cn1_fits_plan,
      f_found_marks := a_found_marks,
      fd_found_marks := PySem.W.fnOf "found_marks" "found_marks" (defArgs s_found_marks) (defBody s_found_marks) (defScope s_found_marks) .none kV_found_marks dc_found_marks pm_found_marks an_found_marks cd_found_marks ct_found_marks,
      F_found_marks := fun_mk (st := s_found_marks) l_found_marks c_found_marks k_found_marks,
      mg_found_marks := PySem.W.mg_of X G g_found_marks,
      f_is_place := a_is_place,
      fd_is_place := PySem.W.fnOf "_is_place" "_is_place" (defArgs s_is_place) (defBody s_is_place) (defScope s_is_place) .none kV_is_place dc_is_place pm_is_place an_is_place cd_is_place ct_is_place,
      F_is_place := fun_mk (st := s_is_place) l_is_place c_is_place k_is_place,
      mg_is_place := PySem.W.mg_of X G g_is_place,
      f_is_content := a_is_content,
      fd_is_content := PySem.W.fnOf "_is_content" "_is_content" (defArgs s_is_content) (defBody s_is_content) (defScope s_is_content) .none kV_is_content dc_is_content pm_is_content an_is_content cd_is_content ct_is_content,
      F_is_content := fun_mk (st := s_is_content) l_is_content c_is_content k_is_content,
      mg_is_content := PySem.W.mg_of X G g_is_content,
      f_Lfeed := a_Lfeed,
      fd_Lfeed := PySem.W.fnOf "_law_feed" "_law_feed" (defArgs s_Lfeed) (defBody s_Lfeed) (defScope s_Lfeed) .none kV_Lfeed dc_Lfeed pm_Lfeed an_Lfeed cd_Lfeed ct_Lfeed,
      F_Lfeed := fun_mk (st := s_Lfeed) l_Lfeed c_Lfeed k_Lfeed,
      mg_Lfeed := PySem.W.mg_of X G g_Lfeed,
      f_Lpick := a_Lpick,
      fd_Lpick := PySem.W.fnOf "_law_pick" "_law_pick" (defArgs s_Lpick) (defBody s_Lpick) (defScope s_Lpick) .none kV_Lpick dc_Lpick pm_Lpick an_Lpick cd_Lpick ct_Lpick,
      F_Lpick := fun_mk (st := s_Lpick) l_Lpick c_Lpick k_Lpick,
      mg_Lpick := PySem.W.mg_of X G g_Lpick,
      f_Lrecord := a_Lrecord,
      fd_Lrecord := PySem.W.fnOf "_law_record" "_law_record" (defArgs s_Lrecord) (defBody s_Lrecord) (defScope s_Lrecord) .none kV_Lrecord dc_Lrecord pm_Lrecord an_Lrecord cd_Lrecord ct_Lrecord,
      F_Lrecord := fun_mk (st := s_Lrecord) l_Lrecord c_Lrecord k_Lrecord,
      mg_Lrecord := PySem.W.mg_of X G g_Lrecord,
      f_Ldue := a_Ldue,
      fd_Ldue := PySem.W.fnOf "_law_due" "_law_due" (defArgs s_Ldue) (defBody s_Ldue) (defScope s_Ldue) .none kV_Ldue dc_Ldue pm_Ldue an_Ldue cd_Ldue ct_Ldue,
      F_Ldue := fun_mk (st := s_Ldue) l_Ldue c_Ldue k_Ldue,
      mg_Ldue := PySem.W.mg_of X G g_Ldue,
      f_Lsame := a_Lsame,
      fd_Lsame := PySem.W.fnOf "_law_same" "_law_same" (defArgs s_Lsame) (defBody s_Lsame) (defScope s_Lsame) .none kV_Lsame dc_Lsame pm_Lsame an_Lsame cd_Lsame ct_Lsame,
      F_Lsame := fun_mk (st := s_Lsame) l_Lsame c_Lsame k_Lsame,
      mg_Lsame := PySem.W.mg_of X G g_Lsame,
      f_Lagrees := a_Lagrees,
      fd_Lagrees := PySem.W.fnOf "_law_agrees" "_law_agrees" (defArgs s_Lagrees) (defBody s_Lagrees) (defScope s_Lagrees) .none kV_Lagrees dc_Lagrees pm_Lagrees an_Lagrees cd_Lagrees ct_Lagrees,
      F_Lagrees := fun_mk (st := s_Lagrees) l_Lagrees c_Lagrees k_Lagrees,
      mg_Lagrees := PySem.W.mg_of X G g_Lagrees,
      f_law := a_law,
      fd_law := PySem.W.fnOf "law" "law" (defArgs s_law) (defBody s_law) (defScope s_law) .none kV_law dc_law pm_law an_law cd_law ct_law,
      F_law := fun_mk (st := s_law) l_law c_law k_law,
      mg_law := PySem.W.mg_of X G g_law,
      f_Plan___init__ := a_Plan___init__,
      fd_Plan___init__ := PySem.W.fnOf "__init__" "Plan.__init__" (defArgs s_Plan___init__) (defBody s_Plan___init__) (defScope s_Plan___init__) .none kV_Plan___init__ dc_Plan___init__ pm_Plan___init__ an_Plan___init__ cd_Plan___init__ ct_Plan___init__,
      F_Plan___init__ := fun_mk (st := s_Plan___init__) l_Plan___init__ c_Plan___init__ k_Plan___init__,
      f_Disk___init__ := a_Disk___init__,
      fd_Disk___init__ := PySem.W.fnOf "__init__" "Disk.__init__" (defArgs s_Disk___init__) (defBody s_Disk___init__) (defScope s_Disk___init__) .none kV_Disk___init__ dc_Disk___init__ pm_Disk___init__ an_Disk___init__ cd_Disk___init__ ct_Disk___init__,
      F_Disk___init__ := fun_mk (st := s_Disk___init__) l_Disk___init__ c_Disk___init__ k_Disk___init__,
      f_Disk_issue := a_Disk_issue,
      fd_Disk_issue := PySem.W.fnOf "issue" "Disk.issue" (defArgs s_Disk_issue) (defBody s_Disk_issue) (defScope s_Disk_issue) .none kV_Disk_issue dc_Disk_issue pm_Disk_issue an_Disk_issue cd_Disk_issue ct_Disk_issue,
      F_Disk_issue := fun_mk (st := s_Disk_issue) l_Disk_issue c_Disk_issue k_Disk_issue,
      f_Disk_busy := a_Disk_busy,
      fd_Disk_busy := PySem.W.fnOf "busy" "Disk.busy" (defArgs s_Disk_busy) (defBody s_Disk_busy) (defScope s_Disk_busy) .none kV_Disk_busy dc_Disk_busy pm_Disk_busy an_Disk_busy cd_Disk_busy ct_Disk_busy,
      F_Disk_busy := fun_mk (st := s_Disk_busy) l_Disk_busy c_Disk_busy k_Disk_busy,
      cc_Disk_busy := ac_Disk_busy,
      P_Disk_busy := He.tabOf K ac_Disk_busy,
      code_Disk_busy := cc1_Disk_busy,
      ch_Disk_busy := ch1_Disk_busy,
      cn_Disk_busy := cn1_Disk_busy,
      f_Disk_sure := a_Disk_sure,
      fd_Disk_sure := PySem.W.fnOf "sure" "Disk.sure" (defArgs s_Disk_sure) (defBody s_Disk_sure) (defScope s_Disk_sure) .none kV_Disk_sure dc_Disk_sure pm_Disk_sure an_Disk_sure cd_Disk_sure ct_Disk_sure,
      F_Disk_sure := fun_mk (st := s_Disk_sure) l_Disk_sure c_Disk_sure k_Disk_sure,
      f_Disk_move_head := a_Disk_move_head,
      fd_Disk_move_head := PySem.W.fnOf "move_head" "Disk.move_head" (defArgs s_Disk_move_head) (defBody s_Disk_move_head) (defScope s_Disk_move_head) .none kV_Disk_move_head dc_Disk_move_head pm_Disk_move_head an_Disk_move_head cd_Disk_move_head ct_Disk_move_head,
      F_Disk_move_head := fun_mk (st := s_Disk_move_head) l_Disk_move_head c_Disk_move_head k_Disk_move_head,
      f_Disk__put := a_Disk__put,
      fd_Disk__put := PySem.W.fnOf "_put" "Disk._put" (defArgs s_Disk__put) (defBody s_Disk__put) (defScope s_Disk__put) .none kV_Disk__put dc_Disk__put pm_Disk__put an_Disk__put cd_Disk__put ct_Disk__put,
      F_Disk__put := fun_mk (st := s_Disk__put) l_Disk__put c_Disk__put k_Disk__put,
      C_Plan := aC_Plan,
      mg_Plan := PySem.W.mg_of X G g_Plan,
      cl_Plan := ⟨pg_Plan, hd_Plan, po_Plan, sa_Plan⟩,
      na_Plan_blocks := n_Plan_blocks,
      na_Plan_nodes := n_Plan_nodes,
      na_Plan_slots := n_Plan_slots,
      na_Plan_maps := n_Plan_maps,
      na_Plan_first_node := n_Plan_first_node,
      na_Plan_first_data := n_Plan_first_data,
      mk_Plan := ⟨mk1_Plan, mk2_Plan, mk3_Plan, mk4_Plan⟩,
      mc_Plan := mcv_Plan,
      cr_Plan := ⟨rd_Plan, ga_Plan⟩,
      cv_Plan_WIDTH := ⟨_, v_Plan_WIDTH, ⟨_, rfl⟩⟩,
      con_Plan_WIDTH := ⟨_, o_Plan_WIDTH, ⟨_, rfl⟩, og_Plan_WIDTH, by decide +kernel⟩,
      C_Disk := aC_Disk,
      mg_Disk := PySem.W.mg_of X G g_Disk,
      cl_Disk := ⟨pg_Disk, hd_Disk, po_Disk, sa_Disk⟩,
      na_Disk_plan := n_Disk_plan,
      na_Disk_home := n_Disk_home,
      na_Disk_log := n_Disk_log,
      na_Disk_head := n_Disk_head,
      na_Disk_last := n_Disk_last,
      na_Disk__pending := n_Disk__pending,
      mk_Disk := ⟨mk1_Disk, mk2_Disk, mk3_Disk, mk4_Disk⟩,
      m_Disk_issue := ⟨m1_Disk_issue, m2_Disk_issue, k_Disk_issue⟩,
      m_Disk_busy := ⟨m1_Disk_busy, m2_Disk_busy, k_Disk_busy⟩,
      m_Disk_sure := ⟨m1_Disk_sure, m2_Disk_sure, k_Disk_sure⟩,
      m_Disk_move_head := ⟨m1_Disk_move_head, m2_Disk_move_head, k_Disk_move_head⟩,
      m_Disk__put := ⟨m1_Disk__put, m2_Disk__put, k_Disk__put⟩,
      c_LEAST_BLOCKS := ⟨_, PySem.W.mg_of X G gc_LEAST_BLOCKS⟩,
      c_MOST_BLOCKS := ⟨_, PySem.W.mg_of X G gc_MOST_BLOCKS⟩,
      c_LEAST_NODES := ⟨_, PySem.W.mg_of X G gc_LEAST_NODES⟩,
      c_MOST_NODES := ⟨_, PySem.W.mg_of X G gc_MOST_NODES⟩,
      c_MOST_SLOTS := ⟨_, PySem.W.mg_of X G gc_MOST_SLOTS⟩,
      c_LEAST_DATA := ⟨_, PySem.W.mg_of X G gc_LEAST_DATA⟩,
      c_FIRST_MAP := ⟨_, PySem.W.mg_of X G gc_FIRST_MAP⟩,
      c_CELL_MOST := ⟨_, PySem.W.mg_of X G gc_CELL_MOST⟩,
      c_BLOCK_MOST := ⟨_, PySem.W.mg_of X G gc_BLOCK_MOST⟩,
      c_MOST_LOT := ⟨_, PySem.W.mg_of X G gc_MOST_LOT⟩,
      c_MOST_SLOT := ⟨_, PySem.W.mg_of X G gc_MOST_SLOT⟩,
      c_MOST_HEAD := ⟨_, PySem.W.mg_of X G gc_MOST_HEAD⟩,
      c_NO_SLOT := ⟨_, PySem.W.mg_of X G gc_NO_SLOT⟩,
      b_abs := PySem.W.mg_none_of X G nb_abs,
      b_all := PySem.W.mg_none_of X G nb_all,
      b_any := PySem.W.mg_none_of X G nb_any,
      b_bool := PySem.W.mg_none_of X G nb_bool,
      b_enumerate := PySem.W.mg_none_of X G nb_enumerate,
      b_int := PySem.W.mg_none_of X G nb_int,
      b_isinstance := PySem.W.mg_none_of X G nb_isinstance,
      b_len := PySem.W.mg_none_of X G nb_len,
      b_list := PySem.W.mg_none_of X G nb_list,
      b_max := PySem.W.mg_none_of X G nb_max,
      b_range := PySem.W.mg_none_of X G nb_range,
      b_tuple := PySem.W.mg_none_of X G nb_tuple,
      b_zip := PySem.W.mg_none_of X G nb_zip
    }⟩
end K45
open PySem PySem.W PyProof.Rows
set_option maxRecDepth 100000 in
set_option maxHeartbeats 0 in
theorem PySem.Challenge.cw_lotsandties_k45_marks_found_holds : PySem.Challenge.rw_lotsandties_k45_marks_found.Holds := by
  w_on; o_law; o_head (PySem.W.kmHook K45pre.heap_39 [2, 3, 15, 17, 18, 20, 21, 22, 29, 30, 31, 32, 35, 42, 43, 44, 47, 54, 55, 56, 59, 66, 67, 68, 71, 78, 79, 80, 83, 90, 91, 92, 95, 97, 98, 100, 101, 102, 104, 105, 107, 108, 109, 111, 112, 114, 115, 123, 125, 126, 128, 129, 130, 133, 134, 135, 136, 137, 138, 140, 141, 143, 144, 145, 147, 148, 150, 151, 152, 154, 155, 157, 158, 159, 161, 162, 164, 165, 166, 167, 168, 169, 170, 173, 175, 176, 178, 179, 180, 182, 183, 185, 186, 187, 189, 190, 192, 193, 194, 196, 197, 199, 200, 201, 203, 204, 206, 207, 208, 210, 211, 213, 214, 215, 218, 219, 220, 222, 223, 225, 226, 227, 229, 230, 232, 233, 234, 236, 237, 239, 240, 241, 243, 244, 246, 247, 248, 250, 251, 253, 254, 255, 257, 258, 260, 261, 269, 272, 273, 274, 276, 277, 279, 280, 281, 282, 283, 284, 286, 287, 289, 290, 291, 292, 294, 295, 297, 298, 299, 301, 302, 304, 305, 306, 309, 310, 311, 313, 314, 316, 317, 318, 320, 321, 323, 324, 325, 327, 328, 330, 331, 332, 333, 334, 336, 337, 339, 340, 341, 343, 344, 346, 347, 348, 350, 351, 353, 354, 355, 357, 358, 360, 361, 362, 363, 364, 365, 366, 369, 371, 372, 374, 375, 376, 378, 379, 381, 382, 383, 385, 386, 388, 389, 390, 392, 393, 395, 396, 397, 399, 400, 402, 403, 404, 406, 407, 409, 410, 411, 414, 415] (fun _ => by kernel_rfl) [16, 96, 103, 110, 124, 131, 139, 146, 153, 160, 174, 181, 188, 195, 202, 209, 216, 221, 228, 235, 242, 249, 256, 270, 275, 285, 293, 300, 307, 312, 319, 326, 335, 342, 349, 356, 370, 377, 384, 391, 398, 405, 412]); (case hw => w_witness2)
  k_fill
  refine LamX.walk_ofTs (l := PySem.Challenge.rw_lotsandties_k45_marks_found) (n := 63) (k := 11) (x := "_law_script") (CX := fun _ => L2.CX0) rfl (by decide) rfl ⟨rfl, by decide, by decide⟩ (fun w h Y => PySem.W.km_in_of Y) ?F (fun _ _ _ _ _ h => h)
  case F =>
    intro w mg fa h Y KX G hmg
    refine K45.fin_G (ts := [16, 96, 103, 110, 124, 131, 139, 146, 153, 160, 174, 181, 188, 195, 202, 209, 216, 221, 228, 235, 242, 249, 256, 270, 275, 285, 293, 300, 307, 312, 319, 326, 335, 342, 349, 356, 370, 377, 384, 391, 398, 405, 412]) ?_ hmg KX (PySem.W.km_tabs_of Y) (K45.tabs_all (by kernel_rfl))
    refine' K45.all_mk (w := w) KX G ?l_is_number ?c_is_number ?k_is_number ?g_is_number ?l_is_cell ?c_is_cell ?k_is_cell ?g_is_cell ?l_is_block ?c_is_block ?k_is_block ?g_is_block ?l_is_cell_row ?c_is_cell_row ?k_is_cell_row ?g_is_cell_row ?cc1_is_cell_row ?ch1_is_cell_row ?cn1_is_cell_row ?l_is_ascending ?c_is_ascending ?k_is_ascending ?g_is_ascending ?cc1_is_ascending ?ch1_is_ascending ?cn1_is_ascending ?l_is_pair ?c_is_pair ?k_is_pair ?g_is_pair ?l_are_pairs ?c_are_pairs ?k_are_pairs ?g_are_pairs ?cc1_are_pairs ?ch1_are_pairs ?cn1_are_pairs ?l_are_revokes ?c_are_revokes ?k_are_revokes ?g_are_revokes ?cc1_are_revokes ?ch1_are_revokes ?cn1_are_revokes ?l_is_record ?c_is_record ?k_is_record ?g_is_record ?l_fits_plan ?c_fits_plan ?k_fits_plan ?g_fits_plan ?cc1_fits_plan ?ch1_fits_plan ?cn1_fits_plan ?l_found_marks ?c_found_marks ?k_found_marks ?g_found_marks ?l_is_place ?c_is_place ?k_is_place ?g_is_place ?l_is_content ?c_is_content ?k_is_content ?g_is_content ?l_Lfeed ?c_Lfeed ?k_Lfeed ?g_Lfeed ?l_Lpick ?c_Lpick ?k_Lpick ?g_Lpick ?l_Lrecord ?c_Lrecord ?k_Lrecord ?g_Lrecord ?l_Ldue ?c_Ldue ?k_Ldue ?g_Ldue ?l_Lsame ?c_Lsame ?k_Lsame ?g_Lsame ?l_Lagrees ?c_Lagrees ?k_Lagrees ?g_Lagrees ?l_law ?c_law ?k_law ?g_law ?l_Plan___init__ ?c_Plan___init__ ?k_Plan___init__ ?l_Disk___init__ ?c_Disk___init__ ?k_Disk___init__ ?l_Disk_issue ?c_Disk_issue ?k_Disk_issue ?l_Disk_busy ?c_Disk_busy ?k_Disk_busy ?cc1_Disk_busy ?ch1_Disk_busy ?cn1_Disk_busy ?l_Disk_sure ?c_Disk_sure ?k_Disk_sure ?l_Disk_move_head ?c_Disk_move_head ?k_Disk_move_head ?l_Disk__put ?c_Disk__put ?k_Disk__put ?g_Plan ?pg_Plan ?hd_Plan ?po_Plan ?sa_Plan ?n_Plan_blocks ?n_Plan_nodes ?n_Plan_slots ?n_Plan_maps ?n_Plan_first_node ?n_Plan_first_data ?mk1_Plan ?mk2_Plan ?mk3_Plan ?mk4_Plan ?tp_Plan ?rd_Plan ?ga_Plan ?v_Plan_WIDTH ?o_Plan_WIDTH ?og_Plan_WIDTH ?g_Disk ?pg_Disk ?hd_Disk ?po_Disk ?sa_Disk ?n_Disk_plan ?n_Disk_home ?n_Disk_log ?n_Disk_head ?n_Disk_last ?n_Disk__pending ?mk1_Disk ?mk2_Disk ?mk3_Disk ?mk4_Disk ?m1_Disk_issue ?m2_Disk_issue ?m1_Disk_busy ?m2_Disk_busy ?m1_Disk_sure ?m2_Disk_sure ?m1_Disk_move_head ?m2_Disk_move_head ?m1_Disk__put ?m2_Disk__put ?gc_LEAST_BLOCKS ?gc_MOST_BLOCKS ?gc_LEAST_NODES ?gc_MOST_NODES ?gc_MOST_SLOTS ?gc_LEAST_DATA ?gc_FIRST_MAP ?gc_CELL_MOST ?gc_BLOCK_MOST ?gc_MOST_LOT ?gc_MOST_SLOT ?gc_MOST_HEAD ?gc_NO_SLOT ?nb_abs ?nb_all ?nb_any ?nb_bool ?nb_enumerate ?nb_int ?nb_isinstance ?nb_len ?nb_list ?nb_max ?nb_range ?nb_tuple ?nb_zip
    (case g_is_number => k_is)
    (case g_is_cell => k_is)
    (case g_is_block => k_is)
    (case g_is_cell_row => k_is)
    (case g_is_ascending => k_is)
    (case g_is_pair => k_is)
    (case g_are_pairs => k_is)
    (case g_are_revokes => k_is)
    (case g_is_record => k_is)
    (case g_fits_plan => k_is)
    (case g_found_marks => k_is)
    (case g_is_place => k_is)
    (case g_is_content => k_is)
    (case g_Lfeed => k_is)
    (case g_Lpick => k_is)
    (case g_Lrecord => k_is)
    (case g_Ldue => k_is)
    (case g_Lsame => k_is)
    (case g_Lagrees => k_is)
    (case g_law => k_is)
    (case g_Plan => k_is)
    (case g_Disk => k_is)
    (case tp_Plan => k_is)
    (case mk2_Plan => k_is)
    (case mk2_Disk => k_is)
    (case m1_Disk_issue => k_is)
    (case m1_Disk_busy => k_is)
    (case m1_Disk_sure => k_is)
    (case m1_Disk_move_head => k_is)
    (case m1_Disk__put => k_is)
    (case l_is_number => k_is)
    (case c_is_number => k_is)
    (case k_is_number => k_is)
    (case l_is_cell => k_is)
    (case c_is_cell => k_is)
    (case k_is_cell => k_is)
    (case l_is_block => k_is)
    (case c_is_block => k_is)
    (case k_is_block => k_is)
    (case l_is_cell_row => k_is)
    (case c_is_cell_row => k_is)
    (case k_is_cell_row => k_is)
    (case l_is_ascending => k_is)
    (case c_is_ascending => k_is)
    (case k_is_ascending => k_is)
    (case l_is_pair => k_is)
    (case c_is_pair => k_is)
    (case k_is_pair => k_is)
    (case l_are_pairs => k_is)
    (case c_are_pairs => k_is)
    (case k_are_pairs => k_is)
    (case l_are_revokes => k_is)
    (case c_are_revokes => k_is)
    (case k_are_revokes => k_is)
    (case l_is_record => k_is)
    (case c_is_record => k_is)
    (case k_is_record => k_is)
    (case l_fits_plan => k_is)
    (case c_fits_plan => k_is)
    (case k_fits_plan => k_is)
    (case l_found_marks => k_is)
    (case c_found_marks => k_is)
    (case k_found_marks => k_is)
    (case l_is_place => k_is)
    (case c_is_place => k_is)
    (case k_is_place => k_is)
    (case l_is_content => k_is)
    (case c_is_content => k_is)
    (case k_is_content => k_is)
    (case l_Lfeed => k_is)
    (case c_Lfeed => k_is)
    (case k_Lfeed => k_is)
    (case l_Lpick => k_is)
    (case c_Lpick => k_is)
    (case k_Lpick => k_is)
    (case l_Lrecord => k_is)
    (case c_Lrecord => k_is)
    (case k_Lrecord => k_is)
    (case l_Ldue => k_is)
    (case c_Ldue => k_is)
    (case k_Ldue => k_is)
    (case l_Lsame => k_is)
    (case c_Lsame => k_is)
    (case k_Lsame => k_is)
    (case l_Lagrees => k_is)
    (case c_Lagrees => k_is)
    (case k_Lagrees => k_is)
    (case l_law => k_is)
    (case c_law => k_is)
    (case k_law => k_is)
    (case l_Plan___init__ => k_is)
    (case c_Plan___init__ => k_is)
    (case k_Plan___init__ => k_is)
    (case l_Disk___init__ => k_is)
    (case c_Disk___init__ => k_is)
    (case k_Disk___init__ => k_is)
    (case l_Disk_issue => k_is)
    (case c_Disk_issue => k_is)
    (case k_Disk_issue => k_is)
    (case l_Disk_busy => k_is)
    (case c_Disk_busy => k_is)
    (case k_Disk_busy => k_is)
    (case l_Disk_sure => k_is)
    (case c_Disk_sure => k_is)
    (case k_Disk_sure => k_is)
    (case l_Disk_move_head => k_is)
    (case c_Disk_move_head => k_is)
    (case k_Disk_move_head => k_is)
    (case l_Disk__put => k_is)
    (case c_Disk__put => k_is)
    (case k_Disk__put => k_is)
    (case pg_Plan => k_is)
    (case hd_Plan => k_is)
    (case po_Plan => k_is)
    (case sa_Plan => k_is)
    (case n_Plan_blocks => k_is)
    (case n_Plan_nodes => k_is)
    (case n_Plan_slots => k_is)
    (case n_Plan_maps => k_is)
    (case n_Plan_first_node => k_is)
    (case n_Plan_first_data => k_is)
    (case mk1_Plan => k_is)
    (case mk3_Plan => k_is)
    (case mk4_Plan => k_is)
    (case rd_Plan => k_is)
    (case ga_Plan => k_is)
    (case v_Plan_WIDTH => k_is)
    (case o_Plan_WIDTH => k_is)
    (case og_Plan_WIDTH => k_is)
    (case pg_Disk => k_is)
    (case hd_Disk => k_is)
    (case po_Disk => k_is)
    (case sa_Disk => k_is)
    (case n_Disk_plan => k_is)
    (case n_Disk_home => k_is)
    (case n_Disk_log => k_is)
    (case n_Disk_head => k_is)
    (case n_Disk_last => k_is)
    (case n_Disk__pending => k_is)
    (case mk1_Disk => k_is)
    (case mk3_Disk => k_is)
    (case mk4_Disk => k_is)
    (case m2_Disk_issue => k_is)
    (case m2_Disk_busy => k_is)
    (case m2_Disk_sure => k_is)
    (case m2_Disk_move_head => k_is)
    (case m2_Disk__put => k_is)
    (case gc_LEAST_BLOCKS => k_is)
    (case gc_MOST_BLOCKS => k_is)
    (case gc_LEAST_NODES => k_is)
    (case gc_MOST_NODES => k_is)
    (case gc_MOST_SLOTS => k_is)
    (case gc_LEAST_DATA => k_is)
    (case gc_FIRST_MAP => k_is)
    (case gc_CELL_MOST => k_is)
    (case gc_BLOCK_MOST => k_is)
    (case gc_MOST_LOT => k_is)
    (case gc_MOST_SLOT => k_is)
    (case gc_MOST_HEAD => k_is)
    (case gc_NO_SLOT => k_is)
    (case nb_abs => k_is)
    (case nb_all => k_is)
    (case nb_any => k_is)
    (case nb_bool => k_is)
    (case nb_enumerate => k_is)
    (case nb_int => k_is)
    (case nb_isinstance => k_is)
    (case nb_len => k_is)
    (case nb_list => k_is)
    (case nb_max => k_is)
    (case nb_range => k_is)
    (case nb_tuple => k_is)
    (case nb_zip => k_is)
    (case cc1_is_cell_row => first | rfl | k_is | kernel_rfl)
    (case cc1_is_ascending => first | rfl | k_is | kernel_rfl)
    (case cc1_are_pairs => first | rfl | k_is | kernel_rfl)
    (case cc1_are_revokes => first | rfl | k_is | kernel_rfl)
    (case cc1_fits_plan => first | rfl | k_is | kernel_rfl)
    (case cc1_Disk_busy => first | rfl | k_is | kernel_rfl)
    (case ch1_is_cell_row => first | rfl | k_is | kernel_rfl)
    (case ch1_is_ascending => first | rfl | k_is | kernel_rfl)
    (case ch1_are_pairs => first | rfl | k_is | kernel_rfl)
    (case ch1_are_revokes => first | rfl | k_is | kernel_rfl)
    (case ch1_fits_plan => first | rfl | k_is | kernel_rfl)
    (case ch1_Disk_busy => first | rfl | k_is | kernel_rfl)
    (case cn1_is_cell_row => first | rfl | k_is | kernel_rfl)
    (case cn1_is_ascending => first | rfl | k_is | kernel_rfl)
    (case cn1_are_pairs => first | rfl | k_is | kernel_rfl)
    (case cn1_are_revokes => first | rfl | k_is | kernel_rfl)
    (case cn1_fits_plan => first | rfl | k_is | kernel_rfl)
    (case cn1_Disk_busy => first | rfl | k_is | kernel_rfl)
