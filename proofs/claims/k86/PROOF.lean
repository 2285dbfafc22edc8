import PyProof.Rows.All
import Wide.All
import OpenK.AllK
import Wide.FinOn
import HandS.ForMost
import HandS.IsInst
import HandS.Evl
import HandS.ClsMeth
import HandS.MakeKwOnly
import HandS.TryOnly
import HandS.ExcOwn
import HandS.ExcIs
import HandS.ExcCtx
import HandS.HotCalls
import HandS.WordsExc
import HandS.Conv
import HandS.FStr
import HandS.RaiseMore
import HandS.Style
import HandS.Small
import HandS.More
import HandS.Star
import KE.GoesMore
import HandS.Walk
import HandS.HeadHook2
import KE.KOwnIter
import HandS.IterVal
import HandS.Lambda
import HandS.RevTup
import HandS.Rev
import HandS.EndTab
import HandS.StrMore
import HandS.HeadHook4
import KE.KNestM
import HandS.AnyAll
import HandS.GenOver
import PySem.Challenge.RW_lotsandties_k86_names_and_codes
set_option Elab.async false
set_option linter.all false
set_option maxRecDepth 100000
set_option maxHeartbeats 4000000
namespace Rg
open PySem PySem.Spec PyProof.Rows L2
/-! ### heaps -/
theorem same_upd {H : Hp} {p : Addr} {o : HO} (h : H p = none) : Same H (upd H p o) := fun b x e => by
  rw [upd_ne (ne_of_none e h)]
  exact e
theorem upd_id {H : Hp} {p : Addr} {o : HO} (h : H p = some o) : upd H p o = H := by
  funext b
  by_cases e : b = p
  · rw [e, upd_same, h]
  · rw [upd_ne e]
theorem yes_ {σ : L2.St} {H : Hp} {A B : Hp → Prop} (h : A H) : tYes σ H fun b H3 => if b = true then A H3 else B H3 := by
  show if true = true then A H else B H
  rw [if_pos rfl]
  exact h
/-- what is free behind a store was free, and is another place -/
theorem un {H : Hp} {a b : Addr} {o : HO} (e : upd H a o b = none) : H b = none := by
  by_cases z : b = a
  · rw [z, upd_same] at e; cases e
  · rw [upd_ne z] at e; exact e
theorem unn {H : Hp} {a b : Addr} {o : HO} (e : upd H a o b = none) : b ≠ a := fun z => by
  rw [z, upd_same] at e; cases e
theorem unn' {H : Hp} {a b : Addr} {o : HO} (e : upd H a o b = none) : a ≠ b := fun z => unn e z.symm
theorem upd_comm {H : Hp} {p q : Addr} {o o' : HO} (h : p ≠ q) : upd (upd H p o) q o' = upd (upd H q o') p o := by
  funext b
  by_cases e : b = p
  · rw [e, upd_same, upd_ne h, upd_same]
  · by_cases e2 : b = q
    · rw [e2, upd_same, upd_ne h.symm, upd_same]
    · rw [upd_ne e2, upd_ne e, upd_ne e, upd_ne e2]
theorem upd_app {H : Hp} {p : Addr} {fs : List Int} {x : Int} : upd (upd H p (.lst (fs.map V.int))) p (.lst (fs.map V.int ++ [V.int x])) = upd H p (.lst ((fs ++ [x]).map V.int)) := by
  rw [upd_upd, List.map_append]
  rfl
/-- kept but for what stands at S -/
def Kp (S : List Addr) (H H' : Hp) : Prop := ∀ x o, H x = some o → x ∉ S → H' x = some o
theorem Kp.refl {S : List Addr} {H : Hp} : Kp S H H := fun _ _ e _ => e
theorem Kp.new {S : List Addr} {H H1 : Hp} {a : Addr} {o : HO} (k : Kp S H H1) (h : H1 a = none) : Kp S H (upd H1 a o) := fun x u e n => by
  rw [upd_ne (ne_of_none (k x u e n) h)]
  exact k x u e n
theorem Kp.own {S : List Addr} {H H1 : Hp} {a : Addr} {o : HO} (k : Kp S H H1) (h : a ∈ S) : Kp S H (upd H1 a o) := fun x u e n => by
  have z : x ≠ a := fun z => by rw [z] at n; exact n h
  rw [upd_ne z]
  exact k x u e n
theorem Kp.own1 {p : Addr} {H H1 : Hp} {o : HO} (k : Kp [p] H H1) : Kp [p] H (upd H1 p o) := k.own (by simp)
theorem Kp.trans {S : List Addr} {H H1 H2 : Hp} (a : Kp S H H1) (b : Kp S H1 H2) : Kp S H H2 := fun x o e n => b x o (a x o e n) n
theorem Kp.same {S : List Addr} {H H1 H2 : Hp} (a : Kp S H H1) (b : Same H1 H2) : Kp S H H2 := fun x o e n => b x o (a x o e n)
theorem Kp.of {S : List Addr} {H H1 : Hp} (b : Same H H1) : Kp S H H1 := fun x o e _ => b x o e
theorem Kp.mono {S S' : List Addr} {H H1 : Hp} (a : Kp S H H1) (h : ∀ x, x ∈ S → x ∈ S') : Kp S' H H1 := fun x o e n => a x o e fun z => n (h x z)
theorem Kp.free {S : List Addr} {H H1 : Hp} {x : Addr} (a : Kp S H H1) (n : x ∉ S) (h : H1 x = none) : H x = none := by
  cases q : H x with
  | none => rfl
  | some o => rw [a x o q n] at h; cases h
theorem Kp.at1 {p x : Addr} {H H' : Hp} {o : HO} (k : Kp [p] H H') (e : H x = some o) (n : x ≠ p) : H' x = some o := k x o e (by simp [n])
theorem Kp.ret {a : Addr} {S : List Addr} {H H' : Hp} {o : HO} (k : Kp (a :: S) H H') (h : H a = none) : Kp S H H' := fun x u e n => k x u e (by
  intro z
  rcases List.mem_cons.mp z with z | z
  · rw [z, h] at e; cases e
  · exact n z)
theorem own_f {H H' : Hp} {p : Addr} {o : HO} (h : upd H p o = H') : H' p = some o ∧ Kp [p] H H' ∧ ∀ x, H' x = none → H x = none ∧ x ≠ p := by
  subst h
  exact ⟨upd_same, Kp.refl.own1, fun x e => ⟨un e, unn e⟩⟩
theorem new_f {H H' : Hp} {a : Addr} {o : HO} (h : upd H a o = H') (n : H a = none) : H' a = some o ∧ Same H H' ∧ ∀ x, H' x = none → H x = none ∧ x ≠ a := by
  subst h
  exact ⟨upd_same, same_upd n, fun x e => ⟨un e, unn e⟩⟩
/-- a whole-number constant of the module -/
theorem pe_gc {X : Cx} {x : Str} {n : Int} {pos : Pos} (hm : ∃ t, X.mg x = some (.int n t)) (hg : Gl X x := by rfl) (hd : (x == ("__debug__" : Str)) = false := by decide) : PE X (.Name x pos) (tC (.int n)) :=
  let ⟨t, h⟩ := hm
  pe_glob hg h ⟨t, rfl⟩ hd
/-- a text constant of the module -/
theorem pe_gs {X : Cx} {x z : Str} {pos : Pos} (hm : ∃ t, X.mg x = some (.str z t)) (hg : Gl X x := by rfl) (hd : (x == ("__debug__" : Str)) = false := by decide) : PE X (.Name x pos) (tC (.str z)) :=
  let ⟨t, h⟩ := hm
  pe_glob hg h ⟨t, rfl⟩ hd
/-- C.f, C a class of the module, f a value of the class -/
theorem pe_cv {X : Cx} {x f : Str} {C : Addr} {mc : Value} {v : V} {p pos : Pos} (hm : X.mg x = some (.ref C)) (r : ClX.CRead X.K C mc) (k : ∃ u, ClX.CVal X.K C mc f v u) (hg : Gl X x := by rfl) (hd : (x == ("__debug__" : Str)) = false := by decide)
    (hb : attributeBase (.Name x p) f X.env (eval (.Name x p) X.env) = eval (.Name x p) X.env := by rfl) : PE X (.Attribute (.Name x p) f pos) (tC v) := by
  obtain ⟨u, k⟩ := k
  have := (ClX.pe_cval (pos := pos) (pe_glob (X := X) (x := x) (v := .ref C) (u := .ref C) (pos := p) hg hm rfl hd) hb)
  exact ⟨fun pins s σ H Q I h => this.run pins s σ H Q I ⟨C, mc, v, u, rfl, r, k, h⟩⟩
/-! ### the same rules with the written part named (inside a comprehension) -/
section
variable {X : Cx} {K : PySem.W.Frag}
def rListOf (K : PySem.W.Frag) : List V → Hp → VK → Prop := fun xs H Q => ∃ p ys, xs = [.ref p] ∧ (SqL K H p ys ∨ SqT K H p ys) ∧ ∀ l, H l = none → Q (.ref l) (upd H l (.lst ys))
theorem pe_listof {e : Expr} {te : TE} {p pos : Pos} (he : PE X e te) (hm : X.mg "list" = none) (hK : X.K = K := by rfl) (hg : Gl X "list" := by rfl) (hs : starEach [e] X.env = (false, eval e X.env) :: starEach [] X.env := by rfl) : PE X (.Call (.Name "list" p) [e] [] pos) (tCB (rListOf K) (tCons te tNil)) := by
  subst hK
  exact pe_callTy call_list_of hg hm (by decide +kernel) (pa_cons he pa_nil hs) (he := hs)
theorem pe_fldK {e : Expr} {f : Str} {pos : Pos} {ta : TE} (he : PE X e ta) (hb : attributeBase e f X.env (eval e X.env) = eval e X.env) (hK : X.K = K := by rfl) : PE X (.Attribute e f pos) (tFld K ta f) := by
  subst hK
  exact pe_fld he hb
theorem pe_ixK {a b : Expr} {pos : Pos} {ta tb : TE} (ha : PE X a ta) (hb : PE X b tb) (hs : PlainIx b) (hK : X.K = K := by rfl) : PE X (.Subscript a b pos) (tOp (rIxL K) ta tb) := by
  subst hK
  exact pe_ix ix_list ha hb hs
theorem pe_lenK {e : Expr} {te : TE} {p pos : Pos} (he : PE X e te) (hm : X.mg "len" = none) (hK : X.K = K := by rfl) (hg : Gl X "len" := by rfl) (hs : starEach [e] X.env = (false, eval e X.env) :: starEach [] X.env := by rfl) : PE X (.Call (.Name "len" p) [e] [] pos) (tCB (fun xs H Q => ∃ p ys, xs = [.ref p] ∧ (SqL K H p ys ∨ SqT K H p ys) ∧ Q (.int ys.length) H) (tCons te tNil)) := by
  subst hK
  exact pe_callB call_len_seq hg hm (by decide +kernel) (pa_cons he pa_nil hs) (he := hs)
end
/-! ### static methods, called off the class -/
structure SMet (K : PySem.W.Frag) (C : Addr) (mc : Value) (m : Str) (g : Addr) : Prop where
  ex : ∃ p, PySem.W.findCls K (.ref C) mc m = some (.get (.builtin "staticmethod.__get__") (.ref p) .none (.ref C)) ∧ (∃ rest, PySem.W.recIn K p "staticmethod" = some (.ref g :: rest)) ∧ PySem.W.keepIn K (.ref g) = true
/-- C.m(e, ..), C the class at C, m a static method -/
def tSMeth (sp : Sp) (dvs : List V) (E : XK) (t : TA) : TE := fun σ H Q => t σ H fun vs H2 => sp (vs ++ dvs) H2 Q E
section
variable {X : Cx} {CX : CXT} {k : Nat} {C g : Addr} {mc : Value} {sp : Sp} {E : XK} {x : Str} {e : Expr} {es : List Expr} {m : Str} {p pos apos : Pos} {t : TA} {pl : Sem Bool} {fd : FuncData} {ps : List Str} {ds : List Value} {dvs : List V}
theorem pe_smeth (hmx : X.mg x = some (.ref C)) (r : ClX.CRead X.K C mc) (c : SMet X.K C mc m g) (F : FnOk X.prog X.w X.K X.mg X.base CX k g fd ps sp) (hr : Room k X.A) (hb : Binds X.K fd ps ds) (hd : Vals dvs ds) (hx : Passes CX X E) (ha : PA X (e :: es) t) (hg : Gl X x := by rfl) (hdb : (x == ("__debug__" : Str)) = false := by decide)
    (hst : starEach (e :: es) X.env = (false, eval e X.env) :: starEach es X.env := by rfl) (hpl : (backTo pos (starEach es X.env)).any (·.1) = false := by rfl)
    (ht : eval (.Call (.Attribute (.Name x p) m apos) (e :: es) [] pos) X.env = (do
      let ov ← eval (.Name x p) X.env
      standAt apos.atName
      let (f, first) ← holding [ov] (getMethod ov m pl)
      callWith pos f first (backTo pos (starEach (e :: es) X.env)) (backToKw pos (keywordEach [] X.env))) := by rfl) :
    PE X (.Call (.Attribute (.Name x p) m apos) (e :: es) [] pos) (tSMeth sp dvs E t) := by
  obtain ⟨q, at_, ⟨rest, hp⟩, hk⟩ := c.ex
  refine ⟨fun pins s σ H Q I h => ?_⟩
  refine PySem.W.methodCall_KW (pl := pl) (ld_glob I hg hmx ?_ hdb) ht
  refine PySem.W.method_cls I.kIn r.ga (PySem.W.cls_bind I.kIn r.rd at_ ?_)
  refine wpAny_call (PySem.W.sm_get (s := { s with toks := s.toks + 1 }) I.kIn hp (PySem.W.handed_on rfl ?_))
  refine PySem.W.callWith_K (f := .ref g) (first := []) (h₀ := X.base) I.ok.mod.kin hk (thn (ha.run pos pins _ σ H _ (I.tok _) h) fun us s1 ⟨vs, H1, I1, r1, q1⟩ => ⟨I1.kIn, ?_⟩) hst hpl
  exact run_fn F hr hb hd hx I1 r1 q1
end
/-! ### errors -/
theorem exm_sub {K : PySem.W.Frag} {D S : Addr} (h1 : PySem.W.subIn K (.ref S) (.type "BaseException") = some true) (h2 : PySem.W.isClsIn K S = true) (h3 : PySem.W.typeIn K (.ref S) = some (.type "type")) (h4 : PySem.W.subIn K (.ref D) (.ref S) = some true) :
    PySem.W.exmOne K (.ref D) (.ref S) = some true := by
  have e1 : (PySem.W.subIn K (.ref S) (.type "BaseException") == some true) = true := by rw [h1] <;> rfl
  have e2 : ((PySem.W.clsIn K S).isSome && PySem.W.typeIn K (.ref S) == some (.type "type")) = true := by
    have h2' : (PySem.W.clsIn K S).isSome = true := h2
    rw [h2', h3] <;> rfl
  show (if (PySem.W.subIn K (.ref S) (.type "BaseException") == some true) = true then (if ((PySem.W.clsIn K S).isSome && PySem.W.typeIn K (.ref S) == some (.type "type")) = true then PySem.W.subIn K (.ref D) (.ref S) else none) else none) = some true
  rw [if_pos e1, if_pos e2]
  exact h4
theorem kit_sub {K : PySem.W.Frag} {D S : Addr} {b : Bool} (hne : D ≠ S) (h2 : PySem.W.isClsIn K S = true) (h3 : PySem.W.typeIn K (.ref S) = some (.type "type")) (h4 : PySem.W.subIn K (.ref D) (.ref S) = some b) :
    PySem.W.kitOne K (.ref D) (.ref S) = some b := by
  have e2 : ((PySem.W.clsIn K S).isSome && PySem.W.typeIn K (.ref S) == some (.type "type")) = true := by
    have h2' : (PySem.W.clsIn K S).isSome = true := h2
    rw [h2', h3] <;> rfl
  unfold PySem.W.kitOne
  rw [if_neg (by intro z; exact hne (Value.ref.inj (beq_iff_eq.mp z)))]
  show (if ((PySem.W.clsIn K S).isSome && PySem.W.typeIn K (.ref S) == some (.type "type")) = true then PySem.W.subIn K (.ref D) (.ref S) else none) = some b
  rw [if_pos e2]
  exact h4
/-- a suite that is come to by an error of the class at D alone (no fields of its own) -/
def tOnly (cls : Value) (d : Option Addr) (D : Addr) (t : TS) : TS := fun E σ H => cls = .ref D ∧ d = none ∧ t E σ H
theorem pss_only {X : Cx} {sts : List Stmt} {t : TS} {cls : Value} {d : Option Addr} {D : Addr} (h : cls = .ref D → d = none → PSs X sts t) : PSs X sts (tOnly cls d D t) :=
  ⟨fun pins s σ H E I hh => (h hh.1 hh.2.1).run pins s σ H E I hh.2.2⟩
theorem kit_self {K : PySem.W.Frag} {D : Addr} : PySem.W.kitOne K (.ref D) (.ref D) = some true := by
  unfold PySem.W.kitOne
  rw [if_pos (beq_self_eq_true _)]
theorem dec_iv (a d : Int) : decide (V.int a = V.int d) = decide (a = d) := by
  by_cases e : a = d
  · subst e; simp
  · rw [decide_eq_false e, decide_eq_false fun q => e (V.int.inj q)]
end Rg
namespace Rg
open PySem PySem.Spec PyProof.Rows L2
/-! ### an error that a suite holds, handed to a def of one's own -/
section
variable {prog : Program} {w : World} {A : Around} {E : Value → Shared → Prop} {s : Shared}
/-- a walk over a list comes to its end while an error is handled -/
theorem list_end_hot {it l x1 : Addr} {i : Nat} {items} {Q : Option Value → Shared → Prop} (hot : HotX.HotAt A x1 s.heap) (hit : s.heap.IsListIter it l i) (hl : s.heap.IsList l items) (hx : items[i]? = none)
    (hQ : ∀ h', Heap.ExtBut it s.heap h' → Q none { s with heap := h' }) : wpAny (model prog w) A (pyNext (.ref it)) Q E s := by
  obtain ⟨hh, o1, vs1, h1, d1, c1⟩ := hot; obtain ⟨o, ho, hc, hd⟩ := id hit
  obtain ⟨ol, hol, _, nl, hdl⟩ := hl; unfold pyNext
  have ni : it ≠ x1 := fun z => by
    rw [← z, ho] at h1
    cases h1
    rw [hd] at d1
    cases d1
    simp at c1
  refine wpAny_bind (wpAny_attempt (wpAny_callSpecial?_slot (name := Str.ofString "__next__") hit.typeIs slot_listiter_next (wpAny_call_entry slot_listiter_next hit.typeIs entry_listiter_next ?_ (args_listiter_next _))))
  refine (show wpAny _ _ (field (.ref it) 0 >>= _) _ _ s from ?_); refine wpAny_bind (wpAny_field ho hd (x := .ref l) rfl ?_)
  refine (show wpAny _ _ (if (Value.ref l == Value.none) = true then _ else _) _ _ s from ?_); rw [if_neg (show ¬ ((Value.ref l == Value.none) = true) from Bool.false_ne_true)]
  refine (show wpAny _ _ (field (.ref it) 1 >>= _) _ _ s from ?_); refine wpAny_bind (wpAny_field ho hd (x := .int i 0) rfl ?_)
  refine (show wpAny _ _ (seqItems? (.ref l) >>= _) _ _ s from ?_); refine wpAny_bind (wpAny_seqItems hol hdl ?_)
  simp only [Int.toNat_natCast, hx]; refine wpAny_bind (wpAny_rule (wpAny_bind (wpAny_setField ho hd (by simp) ?_)))
  refine (show wpAny _ _ (newExc (.type "StopIteration") [] >>= _) _ _ _ from ?_); refine wpAny_bind ?_
  simp only [newExc, newTuple]; refine wpAny_bind (wpAny_newObj_type ?_ (by size_fits))
  refine wpAny_bind (m := firstArgMember _ _) (wpAny_of_eq (a := Value.none) (by first | rfl | (simp only [firstArgMember]; rfl)) ?_); refine wpAny_newObj_type ?_ (by size_fits)
  have g1 : ∀ f : Obj → Obj, (s.heap.update it f).get? x1 = some o1 := fun f => by rw [Heap.get?_update_other _ _ ni]; exact h1
  refine HotX.raiseNew_hot ⟨hh, o1, vs1, Heap.get?_push_of_some _ (Heap.get?_push_of_some _ (g1 _)), d1, c1⟩ (Nat.ne_of_lt (Heap.lt_size (Heap.get?_push_of_some _ (g1 _)))) (Heap.get?_push_size _ rfl) rfl (by first | (simp; done) | (simp; omega) | (simp only [Array.size_append]; simp; omega)) ?_
  refine wpAny_bind (wpAny_isInstance (T := "StopIteration") (b := true) ⟨_, Heap.get?_update_self _ (Heap.get?_push_size _ rfl) rfl, rfl⟩ isSubtype_stop ?_); refine wpAny_pure (hQ _ fun b o' nb e => ?_)
  have e2 : ∀ f oo, ((s.heap.update it f).push oo).get? b = some o' := fun f oo => (Heap.SameBut.update ..).extBut.push _ b o' nb e
  rw [Heap.get?_update_other _ _ (Nat.ne_of_gt (Heap.lt_size (e2 _ _)))]; exact Heap.get?_push_of_some _ (e2 _ _)
end
/-- the turns of a walk over a list while an error is handled -/
theorem turn_listH {P : Program} {w : World} {K : PySem.W.Frag} {tg : Expr} (a it : Addr) : L2H.TurnH P w K tg (Itl K a) [it] it (fun i h => h.IsListIter it a i) where
  mem := by simp
  obj := fun i h st b hb => (turn_list (P := P) (w := w) (K := K) (tg := tg) a it).obj i h st b hb
  keep := fun i h h' st k => (turn_list (P := P) (w := w) (K := K) (tg := tg) a it).keep i h h' st k
  item := by
    intro X hP hw hK hc i pins s σ H E I hf st hg; subst hP hw hK
    obtain ⟨xs, x, hq, hx⟩ := hg; obtain ⟨its, rv, p, hz⟩ := I.list hq
    obtain ⟨u, hu, ru⟩ := rv.get hx; obtain ⟨f0, f1, f2, f3, f4, f5⟩ := hf it (by simp)
    refine wpAny_pyNext_list_item st p.isList (x := u) (by simpa using hu) fun h' st' sb => ?_
    have I1 : Inv X pins σ H { s with heap := h' } := I.turned (t' := s.toks) (fun b o hb e => (sb.2 b hb).trans e) f0 f1 f3 f4 f5
    obtain ⟨o, e, c, d⟩ := id st'
    exact ⟨u, rfl, go_of (s := { s with heap := h' }) e c d (by decide) ⟨x, H, I1, ru, ⟨rfl, fun ys hy => by rw [I.list_inj hy hq]; exact hx⟩, st', fun b hb => (hf b hb).1⟩⟩
  done := by
    intro X hP hw hK hc i pins s σ H E I hf st hg; subst hP hw hK
    obtain ⟨xs, hq, hx⟩ := hg; obtain ⟨its, rv, p, hz⟩ := I.list hq
    obtain ⟨f0, f1, f2, f3, f4, f5⟩ := hf it (by simp); obtain ⟨x1, hot⟩ := hc.at I
    have hl := rv.length
    exact list_end_hot hot st p.isList (by simp; omega) fun h' eb => ⟨rfl, I.turned (t' := s.toks) (fun b o hb e => eb b o hb e) f0 f1 f3 f4 f5⟩
  self := fun _ _ _ _ _ st h => wpAny_pyIter_listiter st h
theorem pi_listH {X : Cx} {tg l : Expr} {tl : TE} (hl : PE X l tl) : L2H.PIH X tg l (iList X.K tl) := by
  refine ⟨fun pins s σ H R I h => thn (hl.run pins s σ H _ I h) fun v s1 ⟨x, H1, I1, r1, q1⟩ => ?_⟩
  obtain ⟨a, e, ⟨xs, hq⟩, q⟩ := q1; subst e; cases r1
  obtain ⟨its, rv, p, hz⟩ := I1.list hq; refine wpAny_pyIter_list p.isList ?_
  refine ⟨s1.heap.objs.size, [s1.heap.objs.size], _, _, H1, rfl, I1.kept (t' := s1.toks) (fun b o e => Heap.get?_push_of_some _ e), turn_listH a _, ⟨_, Heap.get?_push_size _ rfl, rfl, rfl⟩, fun b hb => ?_, q⟩
  have e : b = s1.heap.objs.size := by simpa using hb
  subst e; exact I1.fpOk (Nat.le_refl _) (I1.hok.fresh (Nat.le_refl _))
/-- a def that is called with the error that a suite holds (of the class at D) and lets nothing out -/
structure FnE (P : Program) (w : World) (K : PySem.W.Frag) (mg : Str → Option Value) (base : Heap) (k : Nat) (f : Addr) (fd : FuncData) (ps : List Str) (D : Addr) (sp : Addr → Sp) : Prop where
  len : ∀ a vs H Q E, sp a vs H Q E → vs.length = ps.length
  run : ∀ (A : Around) (outer : List Env) (s : Shared) (H : Hp) (args : Args) (us : List Value) (vs : List V) (Q : VK) (E : XK) (p : Addr × Obj), L2H.RoomH k A → L2H.Hot1 A p → Zc (.ref D) none p.2 → L2H.PinOk outer H s p → Env0 P w K mg base A outer s H →
    BindsTo s fd args (ps.zip us) → Vals vs us → sp p.1 vs H Q E → codeAny (model P w) A (.call (.ref f) args) (CR CX0 outer P w H s Q E) s
section
variable {P : Program} {w : World} {K : PySem.W.Frag} {mg : Str → Option Value} {base : Heap}
theorem _root_.L2.Fun.okE {x qual : Str} {st : Stmt} {f D : Addr} {fd : FuncData} {N ps : List Str} {k : Nat} {sp : Addr → Sp} (F : Fun K x qual st f fd) (S : FnScope N ps (defScope st)) (len : ∀ a vs H Q E, sp a vs H Q E → vs.length = ps.length)
    (hbody : ∀ (cdv : Value) (A : Around) (outer : List Env) (s : Shared) (H : Hp) (vs : List V) (Q : VK) (E : XK) (p : Addr × Obj), L2H.Hot1 A p → Zc (.ref D) none p.2 → L2H.RoomH k (A.deeper (envOfC qual (defScope st) s.heap.objs.size f cdv)) → sp p.1 vs H Q E →
      ∃ t, PSs (L2H.cxH CX0 P w K mg base N qual (defScope st) f cdv A outer s H E p) (defBody st) t ∧ t { nx := fun _ H' => Q .non H', rt := Q } (L2.start N vs) H) : FnE P w K mg base (k + 1) f fd ps D sp := by
  obtain ⟨oc, od, kV, doc, pm, an, cdv, ct, osl, rfl, lk, hcd⟩ := F.ex
  refine ⟨len, fun A outer s H args us vs Q E p hr hot hz hpin e0 hb r hsp => ?_⟩
  have hl := len _ _ _ _ _ hsp; have KX : K.In s.heap := e0.mod.kin.keeps fun b o e => (e0.bs b o e).1
  have lim : s.heap.NoLimit := e0.mod.nolimit.keeps fun b o e => (e0.bs b o e).1; have bb := hb
  have hkind : ∀ y ∈ ps.zip us, (defScope st).names.lookup y.1 = some .local ∨ ((defScope st).names.lookup y.1 = some .cell ∧ ((cellsFrom (s.heap.objs.size + 1) (defScope st).names []).lookup y.1).isSome = true) := fun ⟨n, v⟩ hy =>
    (S.par n (List.of_mem_zip hy).1).elim .inl fun q => .inr ⟨q, PySem.W.cellsFrom_some _ _ _ (.inl q)⟩
  refine codeAny_call_function hr.depth (KX _ _ lk) rfl S.co S.gen rfl (PySem.W.codeRec_of KX hcd) (bb _ _ _ _ (wpAny_newFunctionEnv_cells S.kind hkind fun env he s1 x => ?_))
  subst he; refine ⟨lim.keeps x.toInCall.keep, codeAny_func ?_⟩
  obtain ⟨t, ht, hq⟩ := hbody cdv A outer s H vs Q E p hot hz (hr.deeper _) hsp
  have I := L2H.inv_startH (CX := CX0) (E := E) S hpin e0 hl r x
  refine wpAny_mono (ht.run [] s1 (L2.start N vs) H _ I hq) (fun fl s' hs => ?_) fun _ _ hs => hs
  cases fl with
  | ret u => exact hs.elim fun v ⟨σ', H', J, rv, q⟩ => ⟨v, H', J.os, J.bare, J.base, J.hok, rv, q⟩
  | next => exact hs.elim fun σ' ⟨H', J, q⟩ => ⟨V.non, H', J.os, J.bare, J.base, J.hok, rfl, q⟩
  | brk => exact hs.elim fun _ ⟨_, _, q⟩ => q.elim
  | cont => exact hs.elim fun _ ⟨_, _, q⟩ => q.elim
end
section
variable {X : Cx} {k : Nat} {f D : Addr} {fd : FuncData} {ps : List Str} {sp : Addr → Sp} {x : Str} {q pos : Pos} {e : Expr} {es : List Expr} {t : TA}
/-- f(e, ..), f a def for the error at a -/
def tCallE (sp : Addr → Sp) (a : Addr) (t : TA) : TE := fun σ H Q => t σ H fun vs H1 => sp a vs H1 Q E0
theorem pe_callE (F : FnE X.prog X.w X.K X.mg X.base k f fd ps D sp) (hr : L2H.RoomH k X.A) {p : Addr × Obj} (hot : L2H.Hot1 X.A p) (hz : Zc (.ref D) none p.2) (hp : p ∈ X.pn) (hg : Gl X x) (hm : X.mg x = some (.ref f)) (hk : PySem.W.keepIn X.K (.ref f) = true) (hb : Binds X.K fd ps [])
    (ha : PA X (e :: es) t) (hdb : (x == ("__debug__" : Str)) = false := by decide) (he : starEach (e :: es) X.env = (false, eval e X.env) :: starEach es X.env := by rfl) (hpl : (backTo pos (starEach es X.env)).any (·.1) = false := by rfl) :
    PE X (.Call (.Name x q) (e :: es) [] pos) (tCallE sp p.1 t) := by
  refine ⟨fun pins s σ H Q I h => wpAny_Call_Name_kw (ld_glob I hg hm ?_ hdb)⟩
  refine PySem.W.callWith_K (h₀ := X.base) I.ok.mod.kin hk (thn (ha.run pos pins s σ H _ I h) fun us s1 ⟨vs, H1, I1, r, q⟩ => ⟨I1.kIn, ?_⟩) he hpl
  have hl : us.length = ps.length := by rw [← r.length]; exact F.len _ _ _ _ _ q
  have b := hb s1 us I1.kIn (by rw [List.append_nil]; exact hl)
  rw [List.append_nil] at b
  have P1 := I1.pin p (List.mem_append_left _ hp)
  have hpin : L2H.PinOk X.stack H1 s1 p := ⟨P1.1, P1.2.1, fun hm' => (List.mem_cons.mp (I1.stkSub p.1 hm')).elim P1.2.2.1 P1.2.2.2.1, P1.2.2.2.2⟩
  refine wpAny_call (codeAny_mono (F.run X.A X.stack s1 H1 ⟨us, []⟩ us vs Q E0 p hr hot hz hpin I1.env0 b r q) fun r' s' hq => ?_)
  cases r' with
  | error e => exact False.elim hq
  | ok fl =>
    cases fl with
    | ret u => exact I1.after hq
    | _ => exact False.elim hq
/-- isinstance of the error that is handled, in whatever def it is asked -/
theorem call_isP {a D : Addr} {oe : Obj} (C : ExcC X.K D) (hz : Zc (.ref D) none oe) (hf : ∃ vs, oe.data = .fields vs) (hp : (a, oe) ∈ X.pn) : CallR X (.builtin "isinstance") (rIsE X.K D a) := by
  rintro pins s σ H xs us Q I r ⟨c, cv, b, rfl, hcv, e, q⟩
  obtain ⟨vs, hv⟩ := hf
  cases r with
  | cons rx rr =>
    cases rr with
    | cons rt rr =>
      cases rr; cases rx
      have ec := hcv _ rt
      subst ec
      have hget := (I.pin (a, oe) (List.mem_append_left _ hp)).1
      have J : PySem.W.InstAt s.heap a oe D none := by
        obtain ⟨oc, od, oda, osl⟩ := oe
        obtain ⟨h1, h2⟩ := hz
        subst hv
        cases h1
        cases h2
        exact ⟨hget, rfl, rfl, trivial⟩
      exact PySem.W.kia_one (PySem.W.handS_kitx_exc C.hg C.hk C.hs C.hd C.ha C.hn C.ht C.hm) I.kIn J e (fun z => nomatch z) fun tk => ⟨.bl b, H, I.kept (t' := tk) fun _ _ z => z, rfl, q⟩
end
/-! ### defs that raise: the error's context is told to be None -/
section
variable {P : Program} {w : World} {K : PySem.W.Frag} {mg : Str → Option Value} {base : Heap}
theorem _root_.L2.Fun.okN {x qual : Str} {st : Stmt} {f : Addr} {fd : FuncData} {N ps : List Str} {k : Nat} {sp : Sp} (F : Fun K x qual st f fd) (S : FnScope N ps (defScope st)) (len : ∀ vs H Q E, sp vs H Q E → vs.length = ps.length)
    (hbody : ∀ (cdv : Value) (A : Around) (outer : List Env) (s : Shared) (H : Hp) (vs : List V) (Q : VK) (E : XK), Room k (A.deeper (envOfC qual (defScope st) s.heap.objs.size f cdv)) → sp vs H Q E →
      ∃ t, PSs (cxOf (L2N.CX P w) P w K mg base N qual (defScope st) f cdv A outer s H E) (defBody st) t ∧ t { nx := fun _ H' => Q .non H', rt := Q } (L2.start N vs) H) : FnOk P w K mg base (L2N.CX P w) (k + 1) f fd ps sp := by
  obtain ⟨oc, od, kV, doc, pm, an, cdv, ct, osl, rfl, lk, hcd⟩ := F.ex
  exact fn_of lk hcd S len fun A outer s H vs Q E hr hsp => hbody cdv A outer s H vs Q E hr hsp
theorem takes0N {X : Cx} : L2N.Takes X (fun _ _ _ _ => False) := fun _ _ x => by
  obtain ⟨_, _, _, _, _, _, _, _, _, _, _, _, _, _, _, _, z⟩ := x
  cases z
end
section
variable {X : Cx} {C : Addr} {bmB : List Value} {B newId initId : String}
/-- X(e) -/
theorem pmk_own1N {x : Str} {e : Expr} {ta : TE} {p pos : Pos} (F : ExcBaseFacts B newId initId bmB) (q : PySem.W.excIn X.K C bmB newId = true) (gC : X.mg x = some (.ref C)) (kC : PySem.W.keepIn X.K (.ref C) = true) (r : Raises X (.ref C)) (hg : Gl X x) (he : PE X e ta)
    (hs : starEach [e] X.env = (false, eval e X.env) :: starEach [] X.env := by rfl) (hdb : (x == ("__debug__" : Str)) = false := by decide) : L2N.PMk X (.Call (.Name x p) [e] [] pos) (fun σ H Q => ta σ H fun _ H1 => Q (.ref C) none H1) := by
  intro pins s σ H Q I h; refine wpAny_Call_Name_kw (ld_glob I hg gC ?_ hdb)
  refine PySem.W.callWith_K (h₀ := X.base) I.ok.mod.kin kC ?_ hs (by rfl); rw [hs]
  refine (show wpAny _ _ (spliced ((false, eval e X.env) :: backTo pos (starEach [] X.env))) _ _ s from ?_)
  refine Calls.spliced_cons (thn (he.run pins s σ H _ I h) fun u s1 ⟨v, H1, I1, r1, q1⟩ => Calls.spliced_nil ⟨I1.kIn, ?_⟩)
  refine (show wpAny _ _ (call (.ref C) [u]) _ _ _ from ?_)
  obtain ⟨bm, N, nm, qn, bs, hdct, sn, sub, ab, col, dd, k0, k1, k2, k3, k5, mN, hC, hN, hni, T⟩ := exc_obj I1.kIn q
  exact wpAny_call_exc_subT F T hC hN hni (fun h' e' hm => L2N.mk_of I1 hm r q1 (I1.hok.gone hm.new)) (by show 1 ≤ sizeLine; rw [sizeLine_eq]; omega)
end
/-! ### which class an error is of -/
theorem kit_subT {K : PySem.W.Frag} {D S : Addr} (h2 : PySem.W.isClsIn K S = true) (h3 : PySem.W.typeIn K (.ref S) = some (.type "type")) (h4 : PySem.W.subIn K (.ref D) (.ref S) = some true) : PySem.W.kitOne K (.ref D) (.ref S) = some true := by
  by_cases e : D = S
  · subst e
    exact kit_self
  · exact kit_sub e h2 h3 h4
theorem kit_blt {K : PySem.W.Frag} {D : Addr} {b : String} {r : Bool} (hm : PySem.W.kitMeta b = true) (h : PySem.W.subIn K (.ref D) (.type b) = some r) : PySem.W.kitOne K (.ref D) (.type b) = some r := by
  unfold PySem.W.kitOne
  rw [if_neg (by intro z; exact nomatch (beq_iff_eq.mp z))]
  unfold PySem.W.kitCls
  simpa [hm] using h
theorem takeB {α : Type} {l : List α} {i : Nat} {x : α} (h : l[i]? = some x) : l.take (i + 1) = l.take i ++ [x] := by
  rw [List.take_succ, h]
  rfl
/-! ### unpacking a tuple while an error is handled -/
section
variable {prog : Program} {w : World} {A : Around} {E : Value → Shared → Prop} {s : Shared}
theorem tup_end_hot {it l x1 : Addr} {i : Nat} {items} {Q : Option Value → Shared → Prop} (hot : HotX.HotAt A x1 s.heap) (hit : IsTupIter s.heap it l i) (hl : IsTup s.heap l items) (hx : items[i]? = none)
    (hQ : ∀ h', Heap.ExtBut it s.heap h' → Q none { s with heap := h' }) : wpAny (model prog w) A (pyNext (.ref it)) Q E s := by
  obtain ⟨hh, o1, vs1, h1, d1, c1⟩ := hot; obtain ⟨o, ho, hc, hd⟩ := id hit
  obtain ⟨ol, hol, _, nl, hdl⟩ := hl; unfold pyNext
  have ni : it ≠ x1 := fun z => by
    rw [← z, ho] at h1
    cases h1
    rw [hd] at d1
    cases d1
    simp at c1
  refine wpAny_bind (wpAny_attempt (wpAny_callSpecial?_slot (name := Str.ofString "__next__") hit.typeIs slot_tupleiter_next (wpAny_call_entry slot_tupleiter_next hit.typeIs entry_tupleiter_next ?_ (args_tupleiter_next _))))
  refine (show wpAny _ _ (field (.ref it) 0 >>= _) _ _ s from ?_); refine wpAny_bind (wpAny_field ho hd (x := .ref l) rfl ?_)
  refine (show wpAny _ _ (if (Value.ref l == Value.none) = true then _ else _) _ _ s from ?_); rw [if_neg (show ¬ ((Value.ref l == Value.none) = true) from Bool.false_ne_true)]
  refine (show wpAny _ _ (field (.ref it) 1 >>= _) _ _ s from ?_); refine wpAny_bind (wpAny_field ho hd (x := .int i 0) rfl ?_)
  refine (show wpAny _ _ (seqItems? (.ref l) >>= _) _ _ s from ?_); refine wpAny_bind (wpAny_seqItems hol hdl ?_)
  simp only [Int.toNat_natCast, hx]; refine wpAny_bind (wpAny_rule (wpAny_bind (wpAny_setField ho hd (by simp) ?_)))
  refine (show wpAny _ _ (newExc (.type "StopIteration") [] >>= _) _ _ _ from ?_); refine wpAny_bind ?_
  simp only [newExc, newTuple]; refine wpAny_bind (wpAny_newObj_type ?_ (by size_fits))
  refine wpAny_bind (m := firstArgMember _ _) (wpAny_of_eq (a := Value.none) (by first | rfl | (simp only [firstArgMember]; rfl)) ?_); refine wpAny_newObj_type ?_ (by size_fits)
  have g1 : ∀ f : Obj → Obj, (s.heap.update it f).get? x1 = some o1 := fun f => by rw [Heap.get?_update_other _ _ ni]; exact h1
  refine HotX.raiseNew_hot ⟨hh, o1, vs1, Heap.get?_push_of_some _ (Heap.get?_push_of_some _ (g1 _)), d1, c1⟩ (Nat.ne_of_lt (Heap.lt_size (Heap.get?_push_of_some _ (g1 _)))) (Heap.get?_push_size _ rfl) rfl (by first | (simp; done) | (simp; omega) | (simp only [Array.size_append]; simp; omega)) ?_
  refine wpAny_bind (wpAny_isInstance (T := "StopIteration") (b := true) ⟨_, Heap.get?_update_self _ (Heap.get?_push_size _ rfl) rfl, rfl⟩ isSubtype_stop ?_); refine wpAny_pure (hQ _ fun b o' nb e => ?_)
  have e2 : ∀ f oo, ((s.heap.update it f).push oo).get? b = some o' := fun f oo => (Heap.SameBut.update ..).extBut.push _ b o' nb e
  rw [Heap.get?_update_other _ _ (Nat.ne_of_gt (Heap.lt_size (e2 _ _)))]; exact Heap.get?_push_of_some _ (e2 _ _)
theorem unpack_hot {t x1 : Addr} {items : Array Value} {Q : List Value → Shared → Prop} (hot : HotX.HotAt A x1 s.heap) (ht : IsTup s.heap t items)
    (hQ : ∀ h', Heap.ExtBut s.heap.objs.size s.heap h' → Q items.toList { s with heap := h' }) : wpAny (model prog w) A (unpackItems (.ref t) items.size none) Q E s := by
  have hlt : t ≠ s.heap.objs.size := ht.elim fun o ho => Nat.ne_of_lt (Heap.lt_size ho.1)
  have hx : x1 ≠ s.heap.objs.size := hot.2.elim fun o ho => ho.elim fun _ h => Nat.ne_of_lt (Heap.lt_size h.1)
  unfold unpackItems notIterableAtAll; refine wpAny_bind (wpAny_bind (wpAny_specialOf ht.typeIs slot_tuple_iter.lookup (wpAny_pure ?_)))
  simp only [Bool.false_eq_true, if_false]; refine wpAny_bind (wpAny_holding (iter_tuple ht (wpAny_bind (wpAny_holding (draw_tuple hlt items.size 0 _ _ ⟨_, Heap.get?_push_size _ rfl, rfl, rfl⟩ (ht.push _) (by omega) fun h₁ hit₁ hs₁ => ?_)))))
  have hall : List.take items.size (List.drop 0 items.toList) = items.toList := by rw [List.drop_zero]; exact List.take_of_length_le (by simp)
  rw [hall, if_neg (by simp)]
  have ht₁ := (ht.push { cls := .type "tuple_iterator", data := .fields #[.ref t, .int 0 0] }).extBut hs₁.extBut hlt
  have hot₁ : HotX.HotAt A x1 h₁ := hot.2.elim fun o ho => ho.elim fun vv h => ⟨hot.1, o, vv, hs₁.extBut x1 o hx (Heap.get?_push_of_some _ h.1), h.2.1, h.2.2⟩
  refine wpAny_bind (wpAny_holding (tup_end_hot hot₁ hit₁ ht₁ (by simp) fun h₂ he₂ => ?_))
  simp only [Option.isSome_none, Bool.false_eq_true, if_false]; exact wpAny_pure (hQ h₂ fun b o hb e => he₂ b o hb (hs₁.extBut b o hb (Heap.get?_push_of_some _ e)))
end
/-- (a, b, ..) = a tuple, while an error is handled -/
theorem pg_tupH {X : Cx} {pos : Pos} {es : List Expr} {k : Nat} {t : TGs} {n : Nat} (hc : L2H.HotC X) (h : PGs X es t) (hn : (assignEach es X.env).length = n := by rfl) (hst : (assignEach es X.env).findIdx? (·.1) = none := by rfl) : PG X (.Tuple es k pos) (gTup X.K n t) := by
  refine ⟨fun pins s σ H v u Q I r hw => ?_⟩
  obtain ⟨a, xs, e1, hq, hl, hw⟩ := hw; subst e1; cases r
  obtain ⟨its, rv, ht, hz⟩ := I.tuple hq; obtain ⟨x1, hot⟩ := hc.at I
  rw [assign_Tuple]; refine wpAny_bind (wpAny_standAt ?_); unfold unpack
  rw [show (assignEach es X.env).length = its.toArray.size by simp [hn, ← hl, rv.length], hst]
  refine wpAny_bind (wpAny_holding (unpack_hot hot ht fun h' hx => ?_))
  have I1 : Inv X pins σ H { s with heap := h' } := I.kept (t' := s.toks) fun b o e => hx b o (Nat.ne_of_lt (Heap.lt_size e)) e
  exact h.run pins _ σ H xs _ Q I1 (by simpa using rv) hw
/-- a def that may raise, called where it does not -/
theorem passLN {X : Cx} : Passes (L2N.CX X.prog X.w) X E0 := fun _ _ _ _ _ _ _ h => by
  obtain ⟨_, _, _, _, _, _, _, _, _, _, _, _, z⟩ := h
  exact False.elim z
end Rg
/-! ### all, any of a generator expression whose element calls one's own defs -/
namespace GxL
open PySem PySem.Spec PyProof.Rows L2
open Sem (wp)
/-- the state is the same but for the generators' table, what was drawn, the tokens -/
def Slept (s s' : Shared) : Prop := s'.os = s.os ∧ AllBare s'.gens ∧ s'.heap = s.heap
theorem Slept.trans {a b c : Shared} (x : Slept a b) (y : Slept b c) : Slept a c := ⟨y.1.trans x.1, y.2.1, y.2.2.trans x.2.2⟩
theorem bare_set {gs : Array GenState} {g : Nat} {x : GenState} (h : AllBare gs) (hx : x.bare = true) : AllBare (gs.setIfInBounds g x) := fun y hy => by
  obtain ⟨i, hi, rfl⟩ := Array.mem_iff_getElem.mp hy
  rw [Array.getElem_setIfInBounds (by simpa using hi)]
  split
  · exact hx
  · exact h _ (Array.getElem_mem _)
theorem Slept.set {s : Shared} {g : Nat} {x : GenState} (h : AllBare s.gens) (hx : x.bare = true) : Slept s (s.setGen g x) := ⟨rfl, bare_set h hx, rfl⟩
/-- the generator's frame, entered at s: its iterator's objects at fp -/
def genCx (X : Cx) (s : Shared) (H : Hp) (cenv : Env) (fp : List Addr) : Cx where
  prog := X.prog
  w := X.w
  K := X.K
  mg := X.mg
  base := X.base
  A := X.A.in1.in1.deeper cenv
  N := X.N
  s_0 := s
  H_0 := H
  env := cenv
  outer := X.stack
  stack := cenv :: X.stack
  ex := fp
  fn := fun _ => false
  calm := true
  pn := []
  xe := fun _ _ => False
/-- the generator's frame's environment over the def's -/
abbrev gEnv (X : Cx) (scope : Scope) (C : Addr) (code : Value) : Env := genEnv scope (cloFrom X.env.cells scope.names []) C code builtinsNs X.env
section
variable {X : Cx} {pins : List (Addr × Obj)} {σ : L2.St} {H H' : Hp} {s : Shared}
theorem slept_inv (I : Inv X pins σ H s) {s' : Shared} (h : Slept s s') : Inv X pins σ H s' := by
  refine I.call' (ch := []) h.1 (Un.kept fun b u e => by rw [h.2.2]; exact e) (by rw [h.2.2]; exact I.hok) h.2.1 fun b z => absurd z (by simp)
/-- a generator's scope -/
structure GSc (scope : Scope) : Prop where
  co : scope.isCoroutine = false
  cell : ∀ y ∈ scope.names, y.2 ≠ .cell
  dot : scope.names.lookup (".0" : Str) = some NameKind.local
def gscB (scope : Scope) : Bool := !scope.isCoroutine && (scope.names.all fun y => !decide (y.2 = .cell)) && decide (scope.names.lookup (".0" : Str) = some NameKind.local)
theorem gsc_by {scope : Scope} (h : gscB scope = true) : GSc scope := by
  unfold gscB at h
  simp only [Bool.and_eq_true, Bool.not_eq_true', decide_eq_true_eq, decide_eq_false_iff_not, List.all_eq_true] at h
  exact ⟨h.1.1, fun y hy => h.1.2 y hy, h.2⟩
theorem gen_start {scope : Scope} {own : List (Str × Nat)} {fp : List Addr} {code : Value} {m : Str → Option Value} {s5 : Shared} (I : Inv X pins σ H s) (ok : BlkOk X.N X.env.scope scope own) (S : GSc scope) (hN : X.N.Nodup) (hd : X.A.handled = none)
    (hfp : ∀ b ∈ fp, FpOk X pins H b ∧ b < s.heap.objs.size) (ho : s5.os = s.os) (hb : AllBare s5.gens) (hns : s5.heap.Ns s.heap.objs.size m) (kp : ∀ b o, s.heap.get? b = some o → s5.heap.get? b = some o) :
    Inv (genCx X s H (gEnv X scope s.heap.objs.size code) fp) [] (wipe σ (own.map (·.2))) H s5 := by
  have hfree : ∀ y ∈ scope.names, y.2 = .free → ∃ c, X.env.cells.lookup y.1 = some c := fun y hy e => by
    rcases ok.free y hy e with k | k
    · exact I.ok.has _ (.inl k)
    · exact I.ok.has _ (.inr k)
  have cm : ∀ {y c}, (cloFrom X.env.cells scope.names []).lookup y = some c → X.env.cells.lookup y = some c := fun {y c} e => by
    rcases cloFrom_mem (PySem.mem_of_lookup e) with hm | ⟨h1, h2⟩
    · cases hm
    · obtain ⟨c1, hc⟩ := hfree _ h1 rfl
      have hc : X.env.cells.lookup y = some c1 := hc
      have e2 : c = c1 := by
        rw [h2, hc] <;> rfl
      rw [e2]
      exact hc
  have look : ∀ {y}, scope.names.lookup y = some .free → ∃ c, (cloFrom X.env.cells scope.names []).lookup y = some c := fun {y} hl => by
    have hy : (y, NameKind.free) ∈ scope.names := PySem.mem_of_lookup hl
    exact mem_lookup (cloFrom_has (cells := X.env.cells) (acc := []) hy)
  have okB : (genCx X s H (gEnv X scope s.heap.objs.size code) fp).Ok := by
    refine ⟨I.ok.mod, ok.kind, I.ok.glob, rfl, Nat.le_refl _, fun y z c e1 e2 => I.ok.inj y z c (cm e1) (cm e2), fun y hy => ?_, fun y c z _ => ?_, fun _ => hd, Around.frames_deeper I.ok.frames, .inr ⟨rfl, rfl⟩, fun b hb => ⟨?_, fun y c e z => ?_⟩, I.bs, Nat.le_trans I.ok.bsz I.sz,
      fun b o e hb => ?_, fun b hb z => ?_, I.stack, I.stkFree⟩
    · have hy : scope.names.lookup y = some .cell ∨ scope.names.lookup y = some .free := hy
      rcases hy with hy | hy
      · exact absurd rfl (S.cell _ (PySem.mem_of_lookup hy))
      · exact look hy
    · have z : false = true := z
      cases z
    · exact Nat.ne_of_lt (hfp b hb).2
    · exact (hfp b hb).1.2.2.2.2.1 y c (cm e) z
    · rcases (hfp b hb).1.2.2.2.1 with z | z
      · exact I.ok.noex b o e z
      · exact absurd (Nat.lt_of_lt_of_le (Heap.lt_size e) (Nat.le_trans I.ok.bsz z)) (Nat.lt_irrefl _)
    · rcases List.mem_cons.mp (I.stkSub b z) with z | z
      · exact (hfp b hb).1.2.1 z
      · exact (hfp b hb).1.2.2.1 z
  refine ⟨okB, ho, hb, Un.kept kp, ⟨m, hns, fun i y av e1 e2 e3 => ?_⟩, fun y c e => ?_, I.hok.fresh (Nat.le_refl _), fun y c e => I.freeC y c (cm e), fun p hp => absurd (show p ∈ ([] : List (Addr × Obj)) ++ [] from hp) (by simp), I.hok.kept kp, by rw [wipe_length]; exact I.len⟩
  · obtain ⟨e2, hne⟩ := wipe_some e2
    have e3 : Vis scope y := e3
    have no : ∀ k, scope.names.lookup y = some k → ¬ (k = .local ∨ k = .cell) := fun k e hh => by
      rcases ok.own _ (PySem.mem_of_lookup e) hh with e' | e'
      · obtain ⟨p, hp, hpy⟩ := List.mem_map.mp e'
        have e3 := ok.ix p hp
        have : p.1 = y := hpy
        rw [this] at e3
        exact hne (List.mem_map.mpr ⟨p, hp, nodup_ix hN e3 e1⟩)
      · exact e' (List.mem_of_getElem? e1)
    rcases e3 with k | k | k
    · exact absurd (.inl rfl) (no _ k)
    · exact absurd (.inr rfl) (no _ k)
    · obtain ⟨m, hn, hl⟩ := I.loc
      have hvis : Vis X.env.scope y := (ok.free _ (PySem.mem_of_lookup k) rfl).elim (fun k => .inr (.inl k)) (fun k => .inr (.inr k))
      obtain ⟨w', r, q⟩ := hl i y av e1 e2 hvis
      obtain ⟨c2, h2⟩ := look k
      refine ⟨w', r, .inr ⟨.inr k, c2, h2, ?_⟩⟩
      have c1 := cm h2
      rcases q with ⟨k', _⟩ | ⟨_, c3, e', z⟩
      · have k' : X.env.scope.names.lookup y = some .local := k'
        rcases ok.free _ (PySem.mem_of_lookup k) rfl with k2 | k2 <;> rw [show X.env.scope.names.lookup y = _ from k2] at k' <;> cases k'
      · rw [c1] at e'
        cases e'
        exact z.keeps kp
  · obtain ⟨w', z⟩ := I.cell y c (cm e)
    exact ⟨w', z.keeps kp⟩
end
end GxL
namespace GxL
open PySem PySem.Spec PyProof.Rows L2
open Sem (wp)
theorem over_gen {A : Around} {elt tg iter : Expr} {ifs : List Expr} {scope : Scope} {pos : Pos} {it acc : Value} {env : Env} : A.over (.compLoop (.GeneratorExp elt [⟨tg, iter, ifs, 0⟩] scope pos) 0 it acc env) [] = A.deeper env := by
  first
    | rfl
    | (obtain ⟨hd, d, fr, gs, u⟩ := A; simp [Around.over, Around.deeper, marksOver, frameCount, unitsOf, envsOf, guardsOf, pushEnvs, pushGuards, Code.envs, Code.env?, Code.isFrame, Code.guards, Code.isGuard, Code.weight, Code.frames, Code.isCreation, Code.isCaller, Code.cUnits])
theorem over_gstart {A : Around} {elt tg iter : Expr} {ifs : List Expr} {scope : Scope} {pos : Pos} {it acc : Value} {env : Env} : A.over (.compStart (.GeneratorExp elt [⟨tg, iter, ifs, 0⟩] scope pos) 0 it acc env) [] = A.deeper env := by
  first
    | rfl
    | (obtain ⟨hd, d, fr, gs, u⟩ := A; simp [Around.over, Around.deeper, marksOver, frameCount, unitsOf, envsOf, guardsOf, pushEnvs, pushGuards, Code.envs, Code.env?, Code.isFrame, Code.guards, Code.isGuard, Code.weight, Code.frames, Code.isCreation, Code.isCaller, Code.cUnits])
/-- the whole turn's reading: c: all's true, any's false; W by the turn and a measure -/
def GTurn (c : Bool) (J : It) (g : TG) (tt : TT) (te : TE) (vs : List Nat) (σ : L2.St) (Q : VK) (W : Nat → Nat → Hp → Prop) : Prop :=
  ∀ i m H, W i m H → (J.stop i H ∧ Q (.bl c) H) ∨ (J.go i H ∧ ∃ Nx : Hp → Prop, (∀ H', Nx H' → ∃ m', m' < m ∧ W (i + 1) m' H') ∧ ∀ x H', J.yld i H x H' → g x (wipe σ vs) H' fun σ2 H2 => wipe σ2 vs = wipe σ vs ∧ tt σ2 H2 fun b H3 =>
    if b = true then te σ2 H3 fun y H4 => ∃ k, y = .bl k ∧ if k = c then Nx H4 else Q (.bl (!c)) H4 else Nx H3)
/-- the generator's end, its protocol -/
def gR (G : Cx) (pn : List (Addr × Obj)) (σ : L2.St) (Q : Hp → Prop) : GenEnd := fun _ _ r s₁ => r = .ok .next ∧ ∃ H', Inv G pn σ H' s₁ ∧ Q H'
def gY (G : Cx) (pn : List (Addr × Obj)) (σ : L2.St) (c : Bool) (Q : Hp → Prop) : Protocol := fun _ _ v s₁ kap => ∃ k H', v = .bool k ∧ Inv G pn σ H' s₁ ∧ if k = c then ∀ s'', Slept s₁ s'' → kap (.send .none) s'' else Q H'
section
variable {X : Cx}
theorem thnS {α : Type} {t : Sem α} {Q Q' : α → Shared → Prop} {M : Model} {A : Around} {E : Value → Shared → Prop} {s : Shared} (h : wpAny M A t Q (fun _ _ => False) s) (hQ : ∀ a s, Q a s → Q' a s) : wpAny M A t Q' E s := wpAny_mono h hQ fun _ _ z => False.elim z
theorem gen_seg {s3 : Shared} {H3 : Hp} {cenv : Env} {fp : List Addr} {it a : Addr} {ob : Obj} {tn : Nat → Heap → Prop} {J : It} {elt tg iter : Expr} {ifs : List Expr} {scope : Scope} {pos : Pos} {g : TG} {tt : TT} {te : TE} {vs : List Nat} {σ : L2.St} {c : Bool} {Q : VK} {W : Nat → Nat → Hp → Prop}
    (T : Turn X.prog X.w X.K tg J fp it tn) (hco : cenv.scope.isCoroutine = false) (ha : ∀ b ∈ fp, a ≠ b)
    (hg : PG (genCx X s3 H3 cenv fp) tg g) (ht : PTs (genCx X s3 H3 cenv fp) ifs tt) (he : PE (genCx X s3 H3 cenv fp) elt te) (turn : GTurn c J g tt te vs σ Q W) :
    ∀ (m n i : Nat) (s₀ s : Shared) (H : Hp), m < n → Inv (genCx X s3 H3 cenv fp) [(a, ob)] (wipe σ vs) H s → tn i s.heap → (∀ b ∈ fp, H b = none) → W i m H →
      Seg (model X.prog X.w) X.A.in1.in1 (gR (genCx X s3 H3 cenv fp) [(a, ob)] (wipe σ vs) (Q (.bl c))) (gY (genCx X s3 H3 cenv fp) [(a, ob)] (wipe σ vs) c (Q (.bl (!c)))) n s₀
        (.compLoop (.GeneratorExp elt [⟨tg, iter, ifs, 0⟩] scope pos) 0 (.ref it) .none cenv)
        ((model X.prog X.w).den (.compLoop (.GeneratorExp elt [⟨tg, iter, ifs, 0⟩] scope pos) 0 (.ref it) .none cenv)) [] s := by
  intro m
  induction m using Nat.strongRecOn with
  | ind m ih =>
  intro n i s₀ s H hmn I st nf w
  have stat : ∀ {σ' : L2.St} {H' : Hp} {s' : Shared}, Inv (genCx X s3 H3 cenv fp) [(a, ob)] σ' H' s' → (∀ b ∈ fp, H' b = none) → ∀ b ∈ fp, FpOk (genCx X s3 H3 cenv fp) [(a, ob)] H' b := fun {σ' H' s'} I' hn b hb =>
    ⟨hn b hb, (I'.ok.exf b hb).1, I'.ok.exfs b hb, .inl hb, fun x c e => (I'.ok.exf b hb).2 x c e, fun p hp => by
      have hp : p ∈ ([] : List (Addr × Obj)) ++ [(a, ob)] := hp
      simp at hp
      rw [hp]
      exact ha b hb⟩
  show Seg _ _ _ _ _ s₀ _ ((compTurn (.GeneratorExp elt [⟨tg, iter, ifs, 0⟩] scope pos) 0 (.ref it) .none cenv).onRaise (leaving cenv)) [] s
  rw [compTurn_gen, Sem.onRaise_eq_wrap]
  refine seg_bind_wrap (wpAny_standAt ?_)
  rcases turn i m H w with ⟨stop, qq⟩ | ⟨go, Nx, hNx, step⟩
  · have td := T.done (genCx X s3 H3 cenv fp) rfl rfl rfl rfl i [(a, ob)] s _ H (fun _ _ => False) I (stat I nf) st stop
    refine seg_bind_wrap ?_
    rw [over_gen]
    refine thnS td fun r s6 ⟨hr, I6⟩ => ?_
    subst hr
    exact seg_end (.ok .next) ⟨rfl, H, I6, qq⟩
  · have ti := T.item (genCx X s3 H3 cenv fp) rfl rfl rfl rfl i [(a, ob)] s _ H (fun _ _ => False) I (stat I nf) st go
    refine seg_bind_wrap ?_
    rw [over_gen]
    refine thnS ti fun r s6 ⟨u, hr, h6⟩ => ?_
    subst hr
    refine seg_bind_wrap ?_
    rw [over_gen]
    refine thnS h6 fun _ s7 ⟨x, H7, I7, r7, y7, st7, n7⟩ => ?_
    have I7' := I7.pinned (stat I7 n7) (T.obj _ _ st7)
    refine seg_bind_wrap ?_
    rw [over_gen]
    refine thnS (hg.run _ s7 _ H7 x u _ I7' r7 (step x H7 y7)) fun _ s8 ⟨σ8, H8, I8, hw8, q8⟩ => ?_
    refine seg_bind_wrap ?_
    rw [over_gen]
    refine thnS (ht.run _ s8 σ8 H8 _ I8 q8) fun b s9 ⟨H9, I9, q9⟩ => ?_
    -- the turn's end
    have fin : ∀ {s' : Shared} {H' : Hp}, Inv (genCx X s3 H3 cenv fp) ([(a, ob)] ++ pinsAt fp s7.heap) σ8 H' s' → Inv (genCx X s3 H3 cenv fp) [(a, ob)] (wipe σ vs) H' s' ∧ tn (i + 1) s'.heap ∧ ∀ b ∈ fp, H' b = none := fun {s' H'} I' => by
      have pin' : ∀ b ∈ fp, ∀ o, s7.heap.get? b = some o → s'.heap.get? b = some o ∧ H' b = none := fun b hb o e =>
        let z := I'.pin (b, o) (List.mem_append_right _ (List.mem_append_right _ (mem_pinsAt hb e)))
        ⟨z.1, z.2.1⟩
      have hl : (wipe σ vs).length = σ8.length := by rw [← hw8, wipe_length]
      refine ⟨(I'.unpinned (pins := [(a, ob)])).weak hl (fun j v e => ?_), T.keep _ _ _ st7 fun b hb o e => (pin' b hb o e).1, fun b hb => ?_⟩
      · rw [← hw8] at e
        exact (wipe_some e).1
      · obtain ⟨o, e, _⟩ := T.obj _ _ st7 b hb
        exact (pin' b hb o e).2
    cases b with
    | false =>
      simp only [Bool.false_eq_true, if_false] at q9 ⊢
      obtain ⟨m', hm, w'⟩ := hNx H9 q9
      obtain ⟨J1, J2, J3⟩ := fin I9
      exact seg_again rfl (ih m' hm n (i + 1) s₀ s9 H9 (by omega) J1 J2 J3 w')
    | true =>
      simp only [if_true] at q9 ⊢
      have hy : ∀ v, yieldOut cenv v = yieldValue v := fun v => by simp only [yieldOut, hco, Bool.false_eq_true, if_false]
      simp only [hy]
      rw [Sem.bind_eq_wrap', Sem.bind_eq_wrap', Sem.wrap_wrap, Sem.wrap_wrap]
      refine seg_wrap ?_
      rw [over_gen]
      refine thnS (he.run _ s9 σ8 H9 _ I9 q9) fun z s10 ⟨yv, H10, I10, r10, k, ek, q10⟩ => ?_
      subst ek
      obtain rfl : z = Value.bool k := r10
      obtain ⟨J1, J2, J3⟩ := fin I10
      obtain ⟨n', rfl⟩ : ∃ n', n = n' + 1 := by
        cases n with
        | succ n' => exact ⟨n', rfl⟩
        | zero => exact absurd hmn (Nat.not_lt_zero _)
      refine seg_at (seg_yield rfl rfl rfl ⟨k, H10, rfl, J1, ?_⟩)
      by_cases hk : k = c
      · rw [if_pos hk] at q10 ⊢
        intro s'' hs
        obtain ⟨m', hm, w'⟩ := hNx H10 q10
        exact seg_again rfl (ih m' hm n' (i + 1) s'' s'' H10 (by omega) (slept_inv J1 hs) (by rw [hs.2.2]; exact J2) J3 w')
      · rw [if_neg hk] at q10 ⊢
        exact q10
/-- the generator's start -/
theorem gen_seg0 {s3 : Shared} {H3 : Hp} {cenv : Env} {fp : List Addr} {it a : Addr} {ob : Obj} {tn : Nat → Heap → Prop} {J : It} {elt tg iter : Expr} {ifs : List Expr} {scope : Scope} {pos : Pos} {g : TG} {tt : TT} {te : TE} {vs : List Nat} {σ : L2.St} {c : Bool} {Q : VK} {W : Nat → Nat → Hp → Prop}
    (T : Turn X.prog X.w X.K tg J fp it tn) (hco : cenv.scope.isCoroutine = false) (ha : ∀ b ∈ fp, a ≠ b)
    (hg : PG (genCx X s3 H3 cenv fp) tg g) (ht : PTs (genCx X s3 H3 cenv fp) ifs tt) (he : PE (genCx X s3 H3 cenv fp) elt te) (turn : GTurn c J g tt te vs σ Q W)
    {m n : Nat} {s₀ s : Shared} {H : Hp} (hmn : m < n) (I : Inv (genCx X s3 H3 cenv fp) [(a, ob)] (wipe σ vs) H s) (st : tn 0 s.heap) (nf : ∀ b ∈ fp, H b = none) (w : W 0 m H) :
      Seg (model X.prog X.w) X.A.in1.in1 (gR (genCx X s3 H3 cenv fp) [(a, ob)] (wipe σ vs) (Q (.bl c))) (gY (genCx X s3 H3 cenv fp) [(a, ob)] (wipe σ vs) c (Q (.bl (!c)))) n s₀
        (.compStart (.GeneratorExp elt [⟨tg, iter, ifs, 0⟩] scope pos) 0 (.ref it) .none cenv)
        ((model X.prog X.w).den (.compStart (.GeneratorExp elt [⟨tg, iter, ifs, 0⟩] scope pos) 0 (.ref it) .none cenv)) [] s := by
  have loop := gen_seg (pos := pos) (iter := iter) (scope := scope) T hco ha hg ht he turn m n 0 s₀ s H hmn I st nf w
  show Seg _ _ _ _ _ s₀ _ ((compStart (.GeneratorExp elt [⟨tg, iter, ifs, 0⟩] scope pos) 0 (.ref it) .none cenv).onRaise (leaving cenv)) [] s
  unfold compStart
  rw [Sem.onRaise_eq_wrap]
  show Seg _ _ _ _ _ s₀ _ ((ask >>= _).wrap _ _ _ _) [] s
  refine seg_bind_wrap (wpAny_askSetting ?_)
  split
  · exact seg_again rfl loop
  · first
      | exact seg_bind_wrap (wpAny_rule (seg_bind_wrap (wpAny_standAt (seg_bind_wrap (T.self _ 0 s _ _ st (seg_again rfl loop))))))
      | (refine seg_bind_wrap (wpAny_rule ?_); show Seg _ _ _ _ _ s₀ _ ((standAt iter.pos >>= _).wrap _ _ _ _) [] s; exact seg_bind_wrap (wpAny_standAt (seg_bind_wrap (T.self _ 0 s _ _ st (seg_again rfl loop)))))
/-- the generator's object: its number gi -/
structure GOb (ob : Obj) (gi : Nat) : Prop where
  cls : ob.cls = .type "generator"
  data : ∃ nm qn : Value, ob.data = .fields #[.int gi 0, nm, qn]
  slots : ob.slots = #[]
theorem GOb.at {ob : Obj} {gi : Nat} (h : GOb ob gi) {hp : Heap} {a : Addr} (e : hp.get? a = some ob) : hp.IsGen a gi := by
  obtain ⟨nm, qn, hd⟩ := h.data
  exact ⟨ob, nm, qn, e, h.cls, hd, h.slots⟩
/-- the generator at a, ready to be walked: n bounds its turns -/
def GReady (X : Cx) (G : Cx) (a : Addr) (ob : Obj) (gi : Nat) (σ : L2.St) (c : Bool) (Qs Qb : Hp → Prop) (n : Nat) (s : Shared) : Prop :=
  s.heap.NoLimit ∧ AllBare s.gens ∧ s.heap.get? a = some ob ∧ ∃ gs, s.gens[gi]? = some gs ∧ ∀ s'', Slept s s'' → gs.Goes (model X.prog X.w) X.A.in1.in1 (gR G [(a, ob)] σ Qs) (gY G [(a, ob)] σ c Qb) n (.send .none) s''
/-- a turn of the consumer -/
theorem gen_next {G : Cx} {a : Addr} {ob : Obj} {gi : Nat} {σ : L2.St} {c : Bool} {Qs Qb : Hp → Prop} {n : Nat} {s : Shared} {E : Value → Shared → Prop} {Q' : Option Value → Shared → Prop} {k : Nat} (hr : Room k X.A)
    (hob : GOb ob gi) (R : GReady X G a ob gi σ c Qs Qb n s)
    (hend : ∀ s' H', Inv G [(a, ob)] σ H' s' → Qs H' → Q' none s')
    (hgo : ∀ n' s', n = n' + 1 → GReady X G a ob gi σ c Qs Qb n' s' → Q' (some (.bool c)) s')
    (hbr : ∀ s' H', Inv G [(a, ob)] σ H' s' → Qb H' → Q' (some (.bool (!c))) s') :
    wpAny (model X.prog X.w) X.A.in1 (pyNext (.ref a)) Q' E s := by
  obtain ⟨lim, bare, hG, gs, hgs, goes⟩ := R
  have hlt : gi < s.gens.size := (Array.getElem?_eq_some_iff.mp hgs).1
  refine GenW.wpAny_gsz (n := s.gens.size) (Nat.le_refl _) ?_
  refine wpAny_pyNext_genexpQ (A := X.A.in1) (P := fun _ _ s₁ => ∃ H', Inv G [(a, ob)] σ H' s₁ ∧ Qs H') hr.hd lim (by have := hr.dp; show X.A.depth < _; omega) (hob.at hG) hgs (goes _ (Slept.set bare rfl)) (fun v s₁ gs' hb hv => ?_) (fun s₁ hp h' hk => ?_)
  · intro hsz
    obtain ⟨kk, H', rfl, I', hk⟩ := hv
    by_cases e : kk = c
    · subst e
      rw [if_pos rfl] at hk
      have sl : Slept s₁ (s₁.setGen gi gs') := Slept.set I'.bare hb
      cases n with
      | zero => exact False.elim (hk s₁ ⟨rfl, I'.bare, rfl⟩)
      | succ n' =>
        have hlt' : gi < s₁.gens.size := by
          rw [GenW.setGen_size] at hsz
          exact Nat.lt_of_lt_of_le hlt hsz
        refine hgo n' _ rfl ⟨I'.nolimit, (slept_inv I' sl).bare, (I'.pin (a, ob) (List.mem_append_right _ (by simp))).1, gs', ?_, fun s'' hs => hk s'' (sl.trans hs)⟩
        simp [Shared.setGen, hlt']
    · rw [if_neg e] at hk
      have e2 : kk = !c := by cases kk <;> cases c <;> simp_all
      rw [e2]
      exact hbr _ H' (slept_inv I' (Slept.set I'.bare hb)) hk
  · intro _
    obtain ⟨H', I', q⟩ := hp
    have I2 := slept_inv I' (Slept.set (g := gi) (x := .finished) I'.bare rfl)
    exact hend _ H' (I2.kept (t' := (s₁.setGen gi .finished).toks) hk) q
/-- all's loop, any's loop -/
theorem all_loop {G : Cx} {a : Addr} {ob : Obj} {gi : Nat} {σ : L2.St} {Qs Qb : Hp → Prop} {k : Nat} {R : Result → Shared → Prop} (hr : Room k X.A) (hob : GOb ob gi)
    (hs : ∀ s' H', Inv G [(a, ob)] σ H' s' → Qs H' → R (.ok (.ret (.bool true))) s') (hb : ∀ s' H', Inv G [(a, ob)] σ H' s' → Qb H' → R (.ok (.ret (.bool false))) s') :
    ∀ (n : Nat) (s : Shared), GReady X G a ob gi σ true Qs Qb n s → codeAny (model X.prog X.w) X.A (.builtin "all.loop" ⟨[.ref a], []⟩) R s := by
  intro n
  induction n with
  | zero =>
    intro s g
    refine codeAny_builtin F.entry_all_loop ?_
    rw [Around.under_plainId F.plain_all_loop _]
    show wpAny _ X.A.in1 (pyNext (.ref a) >>= _) _ _ s
    refine wpAny_bind (gen_next hr hob g (fun s' H' I q => ?_) (fun n' s' e => by cases e) (fun s' H' I q => ?_))
    · exact wpAny_bind (wpAny_rule (wpAny_pure (hs s' H' I q)))
    · refine wpAny_bind (wpAny_holding (wpAny_truthy_bool ?_))
      refine wpAny_bind (wpAny_letGo ?_)
      simp only [Bool.not_true, Bool.false_eq_true, if_false]
      exact wpAny_bind (wpAny_rule (wpAny_pure (hb s' H' I q)))
  | succ n ih =>
    intro s g
    refine codeAny_builtin F.entry_all_loop ?_
    rw [Around.under_plainId F.plain_all_loop _]
    show wpAny _ X.A.in1 (pyNext (.ref a) >>= _) _ _ s
    refine wpAny_bind (gen_next hr hob g (fun s' H' I q => ?_) (fun n' s' e g' => ?_) (fun s' H' I q => ?_))
    · exact wpAny_bind (wpAny_rule (wpAny_pure (hs s' H' I q)))
    · cases e
      refine wpAny_bind (wpAny_holding (wpAny_truthy_bool ?_))
      refine wpAny_bind (wpAny_letGo ?_)
      simp only [if_true]
      exact wpAny_pure ⟨plainId_quiet F.plain_all_loop _, ih s' g'⟩
    · refine wpAny_bind (wpAny_holding (wpAny_truthy_bool ?_))
      refine wpAny_bind (wpAny_letGo ?_)
      simp only [Bool.not_true, Bool.false_eq_true, if_false]
      exact wpAny_bind (wpAny_rule (wpAny_pure (hb s' H' I q)))
theorem any_loop {G : Cx} {a : Addr} {ob : Obj} {gi : Nat} {σ : L2.St} {Qs Qb : Hp → Prop} {k : Nat} {R : Result → Shared → Prop} (hr : Room k X.A) (hob : GOb ob gi)
    (hs : ∀ s' H', Inv G [(a, ob)] σ H' s' → Qs H' → R (.ok (.ret (.bool false))) s') (hb : ∀ s' H', Inv G [(a, ob)] σ H' s' → Qb H' → R (.ok (.ret (.bool true))) s') :
    ∀ (n : Nat) (s : Shared), GReady X G a ob gi σ false Qs Qb n s → codeAny (model X.prog X.w) X.A (.builtin "any.loop" ⟨[.ref a], []⟩) R s := by
  intro n
  induction n with
  | zero =>
    intro s g
    refine codeAny_builtin F.entry_any_loop ?_
    rw [Around.under_plainId F.plain_any_loop _]
    show wpAny _ X.A.in1 (pyNext (.ref a) >>= _) _ _ s
    refine wpAny_bind (gen_next hr hob g (fun s' H' I q => ?_) (fun n' s' e => by cases e) (fun s' H' I q => ?_))
    · exact wpAny_bind (wpAny_rule (wpAny_pure (hs s' H' I q)))
    · refine wpAny_bind (wpAny_holding (wpAny_truthy_bool ?_))
      refine wpAny_bind (wpAny_letGo ?_)
      simp only [Bool.not_false, if_true]
      exact wpAny_bind (wpAny_rule (wpAny_pure (hb s' H' I q)))
  | succ n ih =>
    intro s g
    refine codeAny_builtin F.entry_any_loop ?_
    rw [Around.under_plainId F.plain_any_loop _]
    show wpAny _ X.A.in1 (pyNext (.ref a) >>= _) _ _ s
    refine wpAny_bind (gen_next hr hob g (fun s' H' I q => ?_) (fun n' s' e g' => ?_) (fun s' H' I q => ?_))
    · exact wpAny_bind (wpAny_rule (wpAny_pure (hs s' H' I q)))
    · cases e
      refine wpAny_bind (wpAny_holding (wpAny_truthy_bool ?_))
      refine wpAny_bind (wpAny_letGo ?_)
      simp only [Bool.false_eq_true, if_false]
      exact wpAny_pure ⟨plainId_quiet F.plain_any_loop _, ih s' g'⟩
    · refine wpAny_bind (wpAny_holding (wpAny_truthy_bool ?_))
      refine wpAny_bind (wpAny_letGo ?_)
      simp only [Bool.not_false, if_true]
      exact wpAny_bind (wpAny_rule (wpAny_pure (hb s' H' I q)))
end
end GxL
namespace GxL
open PySem PySem.Spec PyProof.Rows L2
open Sem (wp)
/-- all(..) (c: true), any(..) (c: false) of a generator expression; the def's table at P may have grown -/
def tGx (c : Bool) (P : Addr) (wi : TI) (g : TG) (tt : TT) (te : TE) (vs : List Nat) : TE := fun σ H Q => wi σ H fun J H1 => GxR.TabG H1 P ∧ ∀ H2, GxR.Tabbed P H1 H2 → ∃ W : Nat → Nat → Hp → Prop, (∃ m, W 0 m H2) ∧ GTurn c J g tt te vs σ Q W
section
variable {X : Cx}
theorem gen_made {cc P : Addr} {c : Bool} {elt tg iter : Expr} {ifs : List Expr} {scope : Scope} {own : List (Str × Nat)} {gpos : Pos} {wi : TI} {g : TG} {tt : TT} {te : TE} {k : Nat} {pins : List (Addr × Obj)} {s : Shared} {σ : L2.St} {H : Hp} {Q : VK} {Q' : Value → Shared → Prop}
    (hr : Room (k + 3) X.A) (TB : LamX.TabB X.base X.mg cc P) (hcode : X.env.code = .ref cc) (S : GSc scope) (ok : BlkOk X.N X.env.scope scope own) (hN : X.N.Nodup) (hi : PI X tg iter wi)
    (hg : ∀ (s : Shared) (H : Hp) (C : Addr) (code : Value) (fp : List Addr), PG (genCx X s H (gEnv X scope C code) fp) tg g) (ht : ∀ (s : Shared) (H : Hp) (C : Addr) (code : Value) (fp : List Addr), Room k (genCx X s H (gEnv X scope C code) fp).A → PTs (genCx X s H (gEnv X scope C code) fp) ifs tt)
    (he : ∀ (s : Shared) (H : Hp) (C : Addr) (code : Value) (fp : List Addr), Room k (genCx X s H (gEnv X scope C code) fp).A → PE (genCx X s H (gEnv X scope C code) fp) elt te) (hs : ∀ v, genFold iter X.env v = pure v)
    (I : Inv X pins σ H s) (h : tGx c P wi g tt te (own.map (·.2)) σ H Q)
    (hQ : ∀ (G : Cx) (a : Addr) (ob : Obj) (gi n : Nat) (s5 : Shared), GOb ob gi → GReady X G a ob gi (wipe σ (own.map (·.2))) c (Q (.bl c)) (Q (.bl (!c))) n s5 → (∀ s' H', Inv G [(a, ob)] (wipe σ (own.map (·.2))) H' s' → Inv X pins σ H' s') → Q' (.ref a) s5) :
    wpAny (model X.prog X.w) X.A (eval (.GeneratorExp elt [⟨tg, iter, ifs, 0⟩] scope gpos) X.env) Q' X.xe s := by
  have hfree : ∀ y ∈ scope.names, y.2 = .free → ∃ c, X.env.cells.lookup y.1 = some c := fun y hy e => by
    rcases ok.free y hy e with k | k
    · exact I.ok.has _ (.inl k)
    · exact I.ok.has _ (.inr k)
  refine wpAny_GeneratorExp_make S.co (closure_ok hfree) S.cell S.dot ok.kind (by have := hr.dp; omega) ?_ hs
  refine thn (hi.run pins s σ H _ I h) fun xv s1 h1 => thn h1 fun itv s2 h2 => ?_
  obtain ⟨it, fp, tn, J, H2, e, I2, T, st2, f2, ⟨ps, hP, hto⟩, q⟩ := h2
  subst e
  have hPs : s2.heap.get? P = some { cls := .none, data := .fields ps } := I2.hok P _ hP
  have cd : PySem.W.CodeHd s2.heap cc P := TB.code.keeps I2.bk
  have sz : ∀ b ∈ fp, b < s2.heap.objs.size := fun b hb => by
    obtain ⟨o, e, _⟩ := T.obj _ _ st2 b hb
    exact Heap.lt_size e
  have nfP : ∀ b ∈ fp, b ≠ P := fun b hb z => by
    have z1 := (f2 b hb).1
    rw [z, hP] at z1
    cases z1
  have cont : ∀ (code : Value) (h3 : Heap) (tk : Nat) (more : Array Value), Heap.ExtBut P s2.heap h3 → s2.heap.objs.size ≤ h3.objs.size → h3.get? P = some { cls := .none, data := .fields (ps ++ more) } → TriplesOk (ps ++ more).toList →
      wpAny (model X.prog X.w) X.A (builtinsFor X.env.globals X.env.builtins) (fun bi s₄ =>
        ∀ h', h'.Ns s₄.heap.objs.size (fun y => if y = ".0" then some (.ref it) else none) → Heap.SameBut s₄.heap.objs.size (s₄.heap.push { cls := .type "frame", data := .dict #[] }) h' →
          Q' (.ref h'.objs.size) { s₄ with
            gens := s₄.gens.push (.fresh (.compStart (.GeneratorExp elt [⟨tg, iter, ifs, 0⟩] scope gpos) 0 (.ref it) .none (genEnv scope (cloFrom X.env.cells scope.names []) s₄.heap.objs.size code bi X.env))),
            toks := s₄.toks + 1 + 1 + 1,
            heap := h'.push { cls := .type "generator", data := .fields #[.int s₄.gens.size 0, .str "<genexpr>" (s₄.toks + 1), .str (X.env.qual ++ "<genexpr>") (s₄.toks + 1 + 1)] } }) X.xe { s2 with heap := h3, toks := tk } := by
    intro code h3 tk more hx hsz hP3 ht3
    have I3 : Inv X pins σ (upd H2 P (.tbl (ps ++ more))) { s2 with heap := h3, gens := s2.gens, drawn := s2.drawn, toks := tk } := GxR.inv_tab I2 hP (fun b o hb e => hx b o hb e) hP3 I2.bare
    obtain ⟨bm, ob, e1, e2, e3, e4, e5, e6, e7, e8⟩ := TB.bm
    have keep3 : ∀ b u, b ≠ P → s2.heap.get? b = some u → h3.get? b = some u := fun b u hb e => hx b u hb e
    refine wpAny_builtinsFor (m := X.mg) (by rw [I2.ok.glob]; exact (I2.mod.glob.keeps I2.bk).extBut hx TB.gP) e1 e2 (keep3 _ _ e4 (I2.bk _ _ e5)) e6 e7 e8 ?_
    intro h' hns hsb
    obtain ⟨W, ⟨m0, w0⟩, turn⟩ := q (upd H2 P (.tbl (ps ++ more))) ⟨⟨ps ++ more, upd_same, ht3⟩, fun b hb => upd_ne hb⟩
    generalize hH3 : upd H2 P (.tbl (ps ++ more)) = H3 at I3 w0
    have n3 : ∀ b ∈ fp, H3 b = none := fun b hb => by rw [← hH3, upd_ne (nfP b hb)]; exact (f2 b hb).1
    generalize hs3 : ({ s2 with heap := h3, gens := s2.gens, drawn := s2.drawn, toks := tk } : Shared) = s3 at I3
    have es3 : ({ s2 with heap := h3, toks := tk } : Shared) = s3 := by rw [← hs3]
    have eh3 : h3 = s3.heap := by rw [← hs3]
    rw [show ({ s2 with heap := h3, toks := tk } : Shared).heap = s3.heap from by rw [es3]] at hns hsb
    have f3 : ∀ b ∈ fp, FpOk X pins H3 b ∧ b < s3.heap.objs.size := fun b hb => ⟨⟨n3 b hb, (f2 b hb).2⟩, by rw [← eh3]; exact Nat.lt_of_lt_of_le (sz b hb) hsz⟩
    have szh : h'.objs.size = s3.heap.objs.size + 1 := by rw [hsb.1, Heap.size_push]
    have kp' : ∀ b o, s3.heap.get? b = some o → h'.get? b = some o := fun b o e => hsb.extBut b o (Nat.ne_of_lt (Heap.lt_size e)) (Heap.get?_push_of_some _ e)
    generalize hob : ({ cls := .type "generator", data := .fields #[.int s3.gens.size 0, .str "<genexpr>" (s3.toks + 1), .str (X.env.qual ++ "<genexpr>") (s3.toks + 1 + 1)] } : Obj) = og
    have GO : GOb og s3.gens.size := by
      rw [← hob]
      exact ⟨rfl, ⟨_, _, rfl⟩, rfl⟩
    have kp5 : ∀ b o, s3.heap.get? b = some o → (h'.push og).get? b = some o := fun b o e => Heap.get?_push_of_some _ (kp' b o e)
    have ga : (h'.push og).get? h'.objs.size = some og := Heap.get?_push_size _ (by rw [← hob]; rfl)
    refine hQ (genCx X s3 H3 (gEnv X scope s3.heap.objs.size code) fp) h'.objs.size og s3.gens.size (m0 + 1) _ GO ?_ fun s' H' I' => ?_
    · generalize hs5 : ({ s3 with
            gens := s3.gens.push (.fresh (.compStart (.GeneratorExp elt [⟨tg, iter, ifs, 0⟩] scope gpos) 0 (.ref it) .none (genEnv scope (cloFrom X.env.cells scope.names []) s3.heap.objs.size code builtinsNs X.env))),
            toks := s3.toks + 1 + 1 + 1, heap := h'.push og } : Shared) = s5
      have eh5 : s5.heap = h'.push og := by rw [← hs5]
      have I5 : Inv (genCx X s3 H3 (gEnv X scope s3.heap.objs.size code) fp) [] (wipe σ (own.map (·.2))) H3 s5 :=
        gen_start I3 ok S hN hr.hd f3 (by rw [← hs5]) (by rw [← hs5]; exact I3.bare.push rfl) (by rw [eh5]; exact hns.push _) (by rw [eh5]; exact kp5)
      have I6 : Inv (genCx X s3 H3 (gEnv X scope s3.heap.objs.size code) fp) [(h'.objs.size, og)] (wipe σ (own.map (·.2))) H3 s5 := by
        refine I5.pins_of fun p hp => ?_
        have hp : p = (h'.objs.size, og) := by simpa using hp
        rw [hp]
        have hge : s3.heap.objs.size ≤ h'.objs.size := by omega
        refine ⟨by rw [eh5]; exact ga, I3.hok.fresh hge, ?_, fun z => ?_, fun v z => ?_⟩
        · show h'.objs.size ≠ s3.heap.objs.size
          omega
        · obtain ⟨_, o, ho, _⟩ := I5.ok.funs.mem z
          have ho : s3.heap.get? h'.objs.size = some o := ho
          exact absurd (Nat.lt_of_lt_of_le (Heap.lt_size ho) hge) (Nat.lt_irrefl _)
        · rw [← hob] at z
          cases z
      have st5 : tn 0 s5.heap := T.keep _ _ _ st2 fun b hb o e => by rw [eh5]; exact kp5 b o (by rw [← eh3]; exact keep3 b o (nfP b hb) e)
      have hgs : s5.gens[s3.gens.size]? = some (.fresh (.compStart (.GeneratorExp elt [⟨tg, iter, ifs, 0⟩] scope gpos) 0 (.ref it) .none (gEnv X scope s3.heap.objs.size code))) := by
        rw [← hs5]
        exact Array.getElem?_push_size ..
      refine ⟨I6.nolimit, I6.bare, by rw [eh5]; exact ga, _, hgs, fun s'' hsl => ⟨rfl, ?_⟩⟩
      have hab : ∀ b ∈ fp, h'.objs.size ≠ b := fun b hb z => by
        have h1 := (f3 b hb).2
        rw [← z] at h1
        have h1 : h'.objs.size < s3.heap.objs.size := h1
        omega
      exact gen_seg0 T S.co hab (hg _ _ _ _ _) (ht _ _ _ _ _ (hr.in1.in1.deeper _)) (he _ _ _ _ _ (hr.in1.in1.deeper _)) turn (Nat.lt_succ_self m0) (slept_inv I6 hsl) (by rw [hsl.2.2]; exact st5) n3 w0
    · exact I3.call' (ch := fp) I'.os I'.base I'.hok I'.bare fun b hb => ⟨(f3 b hb).1.2.2.2.1, (f3 b hb).1.2.1, (f3 b hb).1.2.2.2.2.1, (f3 b hb).1.2.2.2.2.2⟩
  refine ⟨I2.nolimit, ?_⟩
  cases hf : codeAmong gpos ps.toList with
  | none =>
    refine wpAny_genexprCodeX hcode (cd.code hPs hto) (cd.tab hPs) hf fun c' h' tk hx hge hlt hco' _ htab' _ => ?_
    obtain ⟨o1, vs, f1, tf, fl, tg, inF, tx, tt, op, _, _, _, _, _, _, _, _, _, htr, _⟩ := hco'
    exact cont _ h' tk _ hx (Nat.le_trans hge (Nat.le_of_lt hlt)) htab'.2 htr
  | some cv =>
    refine wpAny_genexprCode_hit hcode (cd.code hPs hto) hf ?_
    exact cont cv s2.heap s2.toks #[] (Heap.ExtBut.refl _ _) (Nat.le_refl _) (by simpa using hPs) (by simpa using hto)
/-- all(.. for .. in ..) -/
theorem pe_allG {cc P : Addr} {elt tg iter : Expr} {ifs : List Expr} {scope : Scope} {own : List (Str × Nat)} {p pos gpos : Pos} {wi : TI} {g : TG} {tt : TT} {te : TE} {k : Nat}
    (hr : Room (k + 3) X.A) (hgl : Gl X "all") (hm : X.mg "all" = none) (TB : LamX.TabB X.base X.mg cc P) (hcode : X.env.code = .ref cc) (S : GSc scope) (ok : BlkOk X.N X.env.scope scope own) (hN : X.N.Nodup) (hi : PI X tg iter wi)
    (hg : ∀ (s : Shared) (H : Hp) (C : Addr) (code : Value) (fp : List Addr), PG (genCx X s H (gEnv X scope C code) fp) tg g) (ht : ∀ (s : Shared) (H : Hp) (C : Addr) (code : Value) (fp : List Addr), Room k (genCx X s H (gEnv X scope C code) fp).A → PTs (genCx X s H (gEnv X scope C code) fp) ifs tt)
    (he : ∀ (s : Shared) (H : Hp) (C : Addr) (code : Value) (fp : List Addr), Room k (genCx X s H (gEnv X scope C code) fp).A → PE (genCx X s H (gEnv X scope C code) fp) elt te) (hb : bootBuiltins "all" = some (.builtin "all") := by rfl) (hs : ∀ v, genFold iter X.env v = pure v := by intro _; rfl)
    (hst : starEach [.GeneratorExp elt [⟨tg, iter, ifs, 0⟩] scope gpos] X.env = (false, eval (.GeneratorExp elt [⟨tg, iter, ifs, 0⟩] scope gpos) X.env) :: starEach [] X.env := by rfl) :
    PE X (.Call (.Name "all" p) [.GeneratorExp elt [⟨tg, iter, ifs, 0⟩] scope gpos] [] pos) (tGx true P wi g tt te (own.map (·.2))) := by
  refine ⟨fun pins s σ H Q I h => ?_⟩
  refine wpAny_Call_Name_kw (ld_blt I hgl hm hb ?_)
  refine PyProof.Rows.callWith_builtin1 ?_ hst (by rfl)
  rw [hst]
  show wpAny _ _ (spliced ((false, eval (.GeneratorExp elt [⟨tg, iter, ifs, 0⟩] scope gpos) X.env) :: backTo pos (starEach [] X.env))) _ _ s
  refine Calls.spliced_cons (gen_made hr TB hcode S ok hN hi hg ht he hs I h fun G a ob gi n s5 hob R back => ?_)
  refine Calls.spliced_nil ?_
  refine call_function_tree F.kind_all F.plain_all F.entry_all (F.args_all1 _) ?_
  unfold Builtin.«all»
  refine wpAny_bind (m := oneArg "all" _) (wpAny_pure ?_)
  refine wpAny_bind (wpAny_pyIter_gen (hob.at R.2.2.1) ?_)
  exact wpAny_pure ⟨plainId_quiet F.plain_all_loop _, all_loop hr hob (fun s' H' I' q => ⟨.bl true, H', back s' H' I', rfl, q⟩) (fun s' H' I' q => ⟨.bl false, H', back s' H' I', rfl, q⟩) n s5 R⟩
/-- any(.. for .. in ..) -/
theorem pe_anyG {cc P : Addr} {elt tg iter : Expr} {ifs : List Expr} {scope : Scope} {own : List (Str × Nat)} {p pos gpos : Pos} {wi : TI} {g : TG} {tt : TT} {te : TE} {k : Nat}
    (hr : Room (k + 3) X.A) (hgl : Gl X "any") (hm : X.mg "any" = none) (TB : LamX.TabB X.base X.mg cc P) (hcode : X.env.code = .ref cc) (S : GSc scope) (ok : BlkOk X.N X.env.scope scope own) (hN : X.N.Nodup) (hi : PI X tg iter wi)
    (hg : ∀ (s : Shared) (H : Hp) (C : Addr) (code : Value) (fp : List Addr), PG (genCx X s H (gEnv X scope C code) fp) tg g) (ht : ∀ (s : Shared) (H : Hp) (C : Addr) (code : Value) (fp : List Addr), Room k (genCx X s H (gEnv X scope C code) fp).A → PTs (genCx X s H (gEnv X scope C code) fp) ifs tt)
    (he : ∀ (s : Shared) (H : Hp) (C : Addr) (code : Value) (fp : List Addr), Room k (genCx X s H (gEnv X scope C code) fp).A → PE (genCx X s H (gEnv X scope C code) fp) elt te) (hs : ∀ v, genFold iter X.env v = pure v := by intro _; rfl)
    (hst : starEach [.GeneratorExp elt [⟨tg, iter, ifs, 0⟩] scope gpos] X.env = (false, eval (.GeneratorExp elt [⟨tg, iter, ifs, 0⟩] scope gpos) X.env) :: starEach [] X.env := by rfl) :
    PE X (.Call (.Name "any" p) [.GeneratorExp elt [⟨tg, iter, ifs, 0⟩] scope gpos] [] pos) (tGx false P wi g tt te (own.map (·.2))) := by
  refine ⟨fun pins s σ H Q I h => ?_⟩
  refine wpAny_Call_Name_kw (ld_blt I hgl hm boot_any ?_)
  refine PyProof.Rows.callWith_builtin1 ?_ hst (by rfl)
  rw [hst]
  show wpAny _ _ (spliced ((false, eval (.GeneratorExp elt [⟨tg, iter, ifs, 0⟩] scope gpos) X.env) :: backTo pos (starEach [] X.env))) _ _ s
  refine Calls.spliced_cons (gen_made hr TB hcode S ok hN hi hg ht he hs I h fun G a ob gi n s5 hob R back => ?_)
  refine Calls.spliced_nil ?_
  refine call_function_tree F.kind_any F.plain_any F.entry_any (F.args_any1 _) ?_
  unfold Builtin.«any»
  refine wpAny_bind (m := oneArg "any" _) (wpAny_pure ?_)
  refine wpAny_bind (wpAny_pyIter_gen (hob.at R.2.2.1) ?_)
  exact wpAny_pure ⟨plainId_quiet F.plain_any_loop _, any_loop hr hob (fun s' H' I' q => ⟨.bl false, H', back s' H' I', rfl, q⟩) (fun s' H' I' q => ⟨.bl true, H', back s' H' I', rfl, q⟩) n s5 R⟩
end
end GxL
namespace Rg
open PySem PySem.Spec PyProof.Rows L2
/-! ### tables of code objects: all the law's tables stand, all else is kept -/
def Tab (Ps : List Addr) (H : Hp) : Prop := ∀ p ∈ Ps, GxR.TabG H p
structure Tk (Ps : List Addr) (H H' : Hp) : Prop where
  tab : Tab Ps H'
  kp : Kp Ps H H'
section
variable {Ps : List Addr} {H H1 H2 : Hp} {a P : Addr} {o : HO}
theorem Tk.refl (t : Tab Ps H) : Tk Ps H H := ⟨t, .refl⟩
theorem Tk.trans (x : Tk Ps H H1) (y : Tk Ps H1 H2) : Tk Ps H H2 := ⟨y.tab, x.kp.trans y.kp⟩
theorem Tab.same (t : Tab Ps H) (s : Same H H1) : Tab Ps H1 := fun p hp => let ⟨ps, e, r⟩ := t p hp; ⟨ps, s _ _ e, r⟩
theorem Tk.of (t : Tab Ps H) (s : Same H H1) : Tk Ps H H1 := ⟨t.same s, .of s⟩
theorem Tk.same (x : Tk Ps H H1) (s : Same H1 H2) : Tk Ps H H2 := x.trans (.of x.tab s)
theorem Tab.new (t : Tab Ps H) (h : H a = none) : Tab Ps (upd H a o) := t.same (same_upd h)
theorem Tk.new (x : Tk Ps H H1) (h : H1 a = none) : Tk Ps H (upd H1 a o) := x.same (same_upd h)
theorem Tab.ne (t : Tab Ps H) (hp : P ∈ Ps) (h : H a = some o) (n : ∀ ps, o ≠ .tbl ps) : a ≠ P := fun z => by
  obtain ⟨ps, e, _⟩ := t P hp
  rw [z, e] at h
  exact n ps (Option.some.inj h).symm
theorem Tab.nin (t : Tab Ps H) (h : H a = some o) (n : ∀ ps, o ≠ .tbl ps) : a ∉ Ps := fun z => t.ne z h n rfl
theorem Tab.ninN (t : Tab Ps H) (h : H a = none) : a ∉ Ps := fun z => by
  obtain ⟨ps, e, _⟩ := t a z
  rw [h] at e
  cases e
/-- what is no table is kept -/
theorem Tk.at (x : Tk Ps H H1) (t : Tab Ps H) (h : H a = some o) (n : ∀ ps, o ≠ .tbl ps := by intro _ z; cases z) : H1 a = some o := x.kp a o h (t.nin h n)
theorem Tk.at' (x : Tk Ps H H1) (h : H a = some o) (n : a ∉ Ps) : H1 a = some o := x.kp a o h n
theorem Tk.free (x : Tk Ps H H1) (h : H1 a = none) : H a = none := x.kp.free (x.tab.ninN h) h
theorem Tab.upd (t : Tab Ps H) (h : H a = some o) (n : ∀ ps, o ≠ .tbl ps) {u : HO} : Tab Ps (upd H a u) := fun p hp => by
  obtain ⟨ps, e, r⟩ := t p hp
  exact ⟨ps, by rw [upd_ne (t.ne hp h n).symm]; exact e, r⟩
/-- one table has grown -/
theorem Tk.tabbed (t : Tab Ps H) (hp : P ∈ Ps) (h : GxR.Tabbed P H H1) : Tk Ps H H1 := by
  refine ⟨fun p q => ?_, fun x o e n => by rw [h.2 x fun z => n (z ▸ hp)]; exact e⟩
  by_cases z : p = P
  · rw [z]; exact h.1
  · obtain ⟨ps, e, r⟩ := t p q
    exact ⟨ps, by rw [h.2 p z]; exact e, r⟩
end
/-! ### all, any: the forms one uses -/
theorem gx_by {c : Bool} {J : It} {g : TG} {tt : TT} {te : TE} {vs : List Nat} {σ : L2.St} {Q : VK} {H2 : Hp} (n : Nat) (Pv : Nat → Hp → Prop) (h0 : Pv 0 H2) (hgo : ∀ i H, i < n → Pv i H → J.go i H) (hstop : ∀ H, Pv n H → J.stop n H)
    (hs : ∀ i x H H', i < n → Pv i H → J.yld i H x H' → g x (wipe σ vs) H' fun σ2 H2 => wipe σ2 vs = wipe σ vs ∧ tt σ2 H2 fun b H3 => if b = true then te σ2 H3 fun y H4 => ∃ k, y = .bl k ∧ if k = c then Pv (i + 1) H4 else Q (.bl (!c)) H4 else Pv (i + 1) H3)
    (hd : ∀ H, Pv n H → Q (.bl c) H) : ∃ W : Nat → Nat → Hp → Prop, (∃ m, W 0 m H2) ∧ GxL.GTurn c J g tt te vs σ Q W := by
  refine ⟨fun i m H => m = n - i ∧ i ≤ n ∧ Pv i H, ⟨n, by simp, Nat.zero_le _, h0⟩, ?_⟩
  rintro i m H ⟨rfl, hi, p⟩
  by_cases hlt : i < n
  · exact .inr ⟨hgo i H hlt p, Pv (i + 1), fun H' p' => ⟨n - (i + 1), by omega, rfl, hlt, p'⟩, fun x H' y => hs i x H H' hlt p y⟩
  · have e : i = n := by omega
    subst e
    exact .inl ⟨hstop H p, hd H p⟩
/-- over a list -/
theorem gx_list {K : PySem.W.Frag} {a : Addr} {xs : List V} {c : Bool} {g : TG} {tt : TT} {te : TE} {vs : List Nat} {σ : L2.St} {Q : VK} {H2 : Hp} (Pv : Nat → Hp → Prop) (h0 : Pv 0 H2) (hl : ∀ i H, i ≤ xs.length → Pv i H → SqL K H a xs)
    (hs : ∀ i x H, xs[i]? = some x → Pv i H → g x (wipe σ vs) H fun σ2 H2 => wipe σ2 vs = wipe σ vs ∧ tt σ2 H2 fun b H3 => if b = true then te σ2 H3 fun y H4 => ∃ k, y = .bl k ∧ if k = c then Pv (i + 1) H4 else Q (.bl (!c)) H4 else Pv (i + 1) H3)
    (hd : ∀ H, Pv xs.length H → Q (.bl c) H) : ∃ W : Nat → Nat → Hp → Prop, (∃ m, W 0 m H2) ∧ GxL.GTurn c (Itl K a) g tt te vs σ Q W := by
  refine gx_by xs.length Pv h0 (fun i H hi p => ⟨xs, xs[i], hl i H (Nat.le_of_lt hi) p, by simp [hi]⟩) (fun H p => ⟨xs, hl _ H (Nat.le_refl _) p, Nat.le_refl _⟩) (fun i x H H' hi p y => ?_) hd
  obtain ⟨e, y⟩ := y
  subst e
  exact hs i x _ (y xs (hl i _ (Nat.le_of_lt hi) p)) p
/-- over a tuple -/
theorem gx_tup {K : PySem.W.Frag} {a : Addr} {xs : List V} {c : Bool} {g : TG} {tt : TT} {te : TE} {vs : List Nat} {σ : L2.St} {Q : VK} {H2 : Hp} (Pv : Nat → Hp → Prop) (h0 : Pv 0 H2) (hl : ∀ i H, i ≤ xs.length → Pv i H → SqT K H a xs)
    (hs : ∀ i x H, xs[i]? = some x → Pv i H → g x (wipe σ vs) H fun σ2 H2 => wipe σ2 vs = wipe σ vs ∧ tt σ2 H2 fun b H3 => if b = true then te σ2 H3 fun y H4 => ∃ k, y = .bl k ∧ if k = c then Pv (i + 1) H4 else Q (.bl (!c)) H4 else Pv (i + 1) H3)
    (hd : ∀ H, Pv xs.length H → Q (.bl c) H) : ∃ W : Nat → Nat → Hp → Prop, (∃ m, W 0 m H2) ∧ GxL.GTurn c (Itt K a) g tt te vs σ Q W := by
  refine gx_by xs.length Pv h0 (fun i H hi p => ⟨xs, xs[i], hl i H (Nat.le_of_lt hi) p, by simp [hi]⟩) (fun H p => ⟨xs, hl _ H (Nat.le_refl _) p, Nat.le_refl _⟩) (fun i x H H' hi p y => ?_) hd
  obtain ⟨e, y⟩ := y
  subst e
  exact hs i x _ (y xs (hl i _ (Nat.le_of_lt hi) p)) p
/-- over the signs of a text -/
theorem gx_str {x : Str} {c : Bool} {g : TG} {tt : TT} {te : TE} {vs : List Nat} {σ : L2.St} {Q : VK} {H2 : Hp} (Pv : Nat → Hp → Prop) (h0 : Pv 0 H2)
    (hs : ∀ i s H, x.cps[i]? = some s → Pv i H → g (.str ⟨#[s]⟩) (wipe σ vs) H fun σ2 H2 => wipe σ2 vs = wipe σ vs ∧ tt σ2 H2 fun b H3 => if b = true then te σ2 H3 fun y H4 => ∃ k, y = .bl k ∧ if k = c then Pv (i + 1) H4 else Q (.bl (!c)) H4 else Pv (i + 1) H3)
    (hd : ∀ H, Pv x.cps.size H → Q (.bl c) H) : ∃ W : Nat → Nat → Hp → Prop, (∃ m, W 0 m H2) ∧ GxL.GTurn c (Its x) g tt te vs σ Q W := by
  refine gx_by x.cps.size Pv h0 (fun i H hi p => hi) (fun H p => Nat.le_refl _) (fun i v H H' hi p y => ?_) hd
  obtain ⟨rfl, s, e, rfl⟩ := y
  exact hs i s _ e p
/-- a test of every item by a Bool, nothing changed but the tables: all(f(x) for x in xs), any(..) -/
def allB (c : Bool) {α : Type} (f : α → Bool) (xs : List α) : Bool := if c = true then xs.all f else xs.any f
/-! ### a def whose code object is known -/
section
variable {P : Program} {w : World} {K : PySem.W.Frag} {mg : Str → Option Value} {base : Heap}
theorem fun_okC {x qual : Str} {st : Stmt} {f cc : Addr} {fd : FuncData} {N ps : List Str} {k : Nat} {sp : Sp} (F : Fun K x qual st f fd) (hc : fd.code = .ref cc) (S : FnScope N ps (defScope st)) (len : ∀ vs H Q E, sp vs H Q E → vs.length = ps.length)
    (hbody : ∀ (A : Around) (outer : List Env) (s : Shared) (H : Hp) (vs : List V) (Q : VK) (E : XK), Room k (A.deeper (envOfC qual (defScope st) s.heap.objs.size f (.ref cc))) → sp vs H Q E →
      ∃ t, PSs (cxOf CX0 P w K mg base N qual (defScope st) f (.ref cc) A outer s H E).nox (defBody st) t ∧ t { nx := fun _ H' => Q .non H', rt := Q } (start N vs) H) : FnOk P w K mg base CX0 (k + 1) f fd ps sp := by
  obtain ⟨oc, od, kV, doc, pm, an, cdv, ct, osl, rfl, lk, hcd⟩ := F.ex
  obtain rfl : cdv = .ref cc := hc
  refine fn_of lk hcd S len fun A outer s H vs Q E hr hsp => ?_
  obtain ⟨t, h, q⟩ := hbody A outer s H vs Q E hr hsp
  exact ⟨t, h.nox, q⟩
end
/-! ### the end: a top def's table is empty at the law's entry -/
def TabsOf (q : Program) (mg : Str → Option Value) (h : Heap) : Prop := ∀ d ∈ recsOf q, ∃ a o fd c P, mg d.name = some (.ref a) ∧ h.get? a = some o ∧ o.data = .func fd ∧ fd.code = .ref c ∧ h.IsCode c P #[] ∧ h.TableAt c P #[]
theorem tab_of {q : Program} {K : PySem.W.Frag} {mg : Str → Option Value} {h : Heap} {x : Str} {a c P : Addr} {oc : Value} {od : Option Addr} {osl : Array (Option Value)} {fd : FuncData} (T : TabsOf q mg h) (KX : K.In h) (hx : (recsOf q).any (fun d => d.name == x) = true)
    (hm : mg x = some (.ref a)) (lk : K.lookup a = some ⟨oc, od, .func fd, osl⟩) (hc : fd.code = .ref c) (hh : PySem.W.codeHdIn K c P = true) : h.get? P = some { cls := .none, data := .fields #[] } := by
  obtain ⟨d, hd, e⟩ := List.any_eq_true.mp hx
  have e : d.name = x := by simpa using e
  obtain ⟨a', o, fd', c', P', m1, m2, m3, m4, m5, m6⟩ := T d hd
  rw [e, hm] at m1
  cases m1
  rw [KX _ _ lk] at m2
  cases m2
  cases m3
  rw [hc] at m4
  cases m4
  obtain ⟨o1, vs, _, _, _, _, _, _, _, g1, g2, g3, g4, _⟩ := PySem.W.codeHd_of_K KX hh
  obtain ⟨⟨o2, vs2, f1, f2, f3, f4⟩, f5⟩ := m6
  rw [g1] at f1
  cases f1
  rw [g3] at f3
  cases f3
  rw [g4] at f4
  cases f4
  exact f5
theorem walk_ofG {l : PySem.W.OpenLaw} {n k : Nat} {q : Program} {loose : List Str} {XP : (Str → Option Value) → Heap → Prop} {YP : World → Heap → Prop} {d : DefRec} {K : Params → PySem.W.Frag} {CX : World → CXT} {x : Str}
    (hn : l.most = some n) (hn2 : n ≤ sizeLine) (hdf : d.params.defaults = []) (hr : Room k callerA) (hY : ∀ (w : World) (h : Heap), YP w h → (K w.params).In h)
    (F : ∀ (w : World) (mg : Str → Option Value) (fa : Addr) (h : Heap), TabsOf q mg h → YP w h → (K w.params).In h → h.Ns mainGlobals mg → mg d.name = some (.ref fa) → LamX.LawAtS l w (K w.params) (CX w) k n x mg fa h)
    (hCX : ∀ (w : World) (H : Hp) (s : Shared) (e : Value) (s' : Shared), CX w [] H s (fun _ _ _ => False) e s' → False) :
    PySem.W.WalkO q loose XP YP l.row.toRowW d [] (fun f vs => PySem.call f vs) := by
  refine Att.attach_callB hn hdf fun w s₀ s₁ mg mb fa o pm cd doc a vs ns G Y ho hd hcd hmg hobj hints hlen hbits hg => ?_
  have KX := hY w _ Y
  obtain ⟨fd, cs, sp, hT, nT, C, hb, hsp, hF⟩ := F w mg fa _ G.T.tab Y KX G.T.g hmg
  exact LamX.law_callTs KX G.T.g G.T.b G.T.builtins G.T.nolimit hg hT nT C G.T.bmain hobj hints (Nat.le_trans hlen hn2) hr hF hb (fun H hH hS => hsp H a ns hlen hbits hH hS) fun H e s' => hCX w H s₁ e s'
end Rg
namespace Rg
open PySem PySem.Spec PyProof.Rows L2
/-! ### x is True, x is not False: bools told by value -/
theorem op_isV {X : Cx} : OpR X (compareOp .Is) (fun x y H Q => ∃ a c, x = .bl a ∧ y = .bl c ∧ Q (.bl (decide (a = c))) H) := by
  intro pins s σ H x y v u Q I rx ry h
  obtain ⟨a, c, rfl, rfl, q⟩ := h
  cases rx
  cases ry
  by_cases e : a = c
  · subst e
    rw [decide_eq_true rfl] at q
    exact wpAny_is_self rfl ⟨.bl true, H, I, rfl, q⟩
  · rw [decide_eq_false e] at q
    exact wpAny_is_other rfl (fun z => e (by injection z)) ⟨.bl false, H, I, rfl, q⟩
theorem op_notV {X : Cx} : OpR X (compareOp .IsNot) (fun x y H Q => ∃ a c, x = .bl a ∧ y = .bl c ∧ Q (.bl (!decide (a = c))) H) := by
  intro pins s σ H x y v u Q I rx ry h
  obtain ⟨a, c, rfl, rfl, q⟩ := h
  cases rx
  cases ry
  by_cases e : a = c
  · subst e
    rw [decide_eq_true rfl] at q
    exact wpAny_isNot_self rfl ⟨.bl false, H, I, rfl, q⟩
  · rw [decide_eq_false e] at q
    exact wpAny_isNot_other rfl (fun z => e (by injection z)) ⟨.bl true, H, I, rfl, q⟩
theorem take_snoc {α : Type} {l : List α} {i : Nat} {c : α} (h : l[i]? = some c) : l.take (i + 1) = l.take i ++ [c] := by
  rw [List.take_succ, h]
  rfl
theorem atN {α : Type} {xs : List α} {z : Int} {j : Nat} {v : α} (e : z = (j : Int)) (h : xs[j]? = some v) : atI xs z = some v := by
  subst e
  exact atI_nat h
theorem S_at {l : List Nat} {i c : Nat} (h : (SX.S l).cps[i]? = some c) : l[i]? = some c := by simpa using h
/-! ### a loop over the signs of a text -/
theorem for_str {x : Str} {g : TG} {tb : TS} {D : Ends} {σ : L2.St} {H : Hp} (Pv : Nat → L2.St → Hp → Prop) (h0 : Pv 0 σ H)
    (hs : ∀ i s σ H, x.cps[i]? = some s → Pv i σ H → g (.str ⟨#[s]⟩) σ H fun σ2 H2 => tb { D with nx := Pv (i + 1), ct := Pv (i + 1), bk := D.nx } σ2 H2) (hd : ∀ σ H, Pv x.cps.size σ H → D.nx σ H) :
    ∃ W : Nat → Nat → L2.St → Hp → Prop, (∃ m, W 0 m σ H) ∧ ∀ i m σ H, W i m σ H →
      ((Its x).stop i H ∧ D.nx σ H) ∨ ((Its x).go i H ∧ ∃ N : L2.St → Hp → Prop, (∀ σ' H', N σ' H' → ∃ m', m' < m ∧ W (i + 1) m' σ' H') ∧ ∀ v H', (Its x).yld i H v H' → g v σ H' fun σ2 H2 => tb { D with nx := N, ct := N, bk := D.nx } σ2 H2) := by
  refine ⟨fun i m σ H => m = x.cps.size - i ∧ i ≤ x.cps.size ∧ Pv i σ H, ⟨x.cps.size, by simp, Nat.zero_le _, h0⟩, ?_⟩
  rintro i m σ H ⟨rfl, hi, p⟩
  by_cases hlt : i < x.cps.size
  · refine .inr ⟨hlt, Pv (i + 1), fun σ' H' p' => ⟨x.cps.size - (i + 1), by omega, rfl, hlt, p'⟩, fun v H' y => ?_⟩
    obtain ⟨rfl, s, e, rfl⟩ := y
    exact hs i s σ _ e p
  · have e : i = x.cps.size := by omega
    subst e
    exact .inl ⟨Nat.le_refl _, hd σ H p⟩
end Rg
namespace K86
open PySem PySem.Spec PyProof.Rows L2 Rg SX
/-! ### letters, names, paths as lists of signs -/
def LET : List Nat := (List.range 26).map (97 + ·)
theorem let_eq : ("abcdefghijklmnopqrstuvwxyz" : Str).cps.toList = LET := by decide +kernel
theorem let_S : ("abcdefghijklmnopqrstuvwxyz" : Str) = S LET := by decide +kernel
theorem mem_let {c : Nat} : c ∈ LET ↔ 97 ≤ c ∧ c ≤ 122 := by
  unfold LET
  simp only [List.mem_map, List.mem_range]
  constructor
  · rintro ⟨i, h, rfl⟩
    omega
  · intro h
    exact ⟨c - 97, by omega, by omega⟩
def isN (l : List Nat) : Bool := decide (1 ≤ l.length) && (decide (l.length ≤ 4) && l.all fun c => decide (c ∈ LET))
structure Nm (l : List Nat) : Prop where
  lo : 1 ≤ l.length
  hi : l.length ≤ 4
  lt : ∀ c ∈ l, 97 ≤ c ∧ c ≤ 122
theorem isN_iff {l : List Nat} : isN l = true ↔ Nm l := by
  unfold isN
  simp only [Bool.and_eq_true, decide_eq_true_eq, List.all_eq_true]
  exact ⟨fun ⟨a, b, c⟩ => ⟨a, b, fun x hx => mem_let.mp (c x hx)⟩, fun ⟨a, b, c⟩ => ⟨a, b, fun x hx => mem_let.mpr (c x hx)⟩⟩
theorem Nm.isN {l : List Nat} (h : Nm l) : isN l = true := isN_iff.mpr h
theorem not_isN {l : List Nat} (h : ¬ Nm l) : isN l = false := by
  cases e : K86.isN l with
  | false => rfl
  | true => exact absurd (isN_iff.mp e) h
def isP (l : List Nat) : Bool := decide (l = [46]) || (decide ((TL.spl [47] 0 [] l).length ≤ 8) && (TL.spl [47] 0 [] l).all isN)
theorem isP_join {ps : List (List Nat)} (hne : ps ≠ []) (h : ∀ p ∈ ps, 47 ∉ p) : isP (TL.joinL [47] ps) = (decide (TL.joinL [47] ps = [46]) || (decide (ps.length ≤ 8) && ps.all isN)) := by
  unfold isP
  rw [spl_join hne h]
theorem Nm.free {l : List Nat} (h : Nm l) : 47 ∉ l := fun z => by
  have := h.lt 47 z
  omega
/-! ### codes -/
def ncode (l : List Nat) : Nat := l.foldl (fun c s => c * 27 + (s - 96)) 0
theorem ncode_snoc (l : List Nat) (s : Nat) : ncode (l ++ [s]) = ncode l * 27 + (s - 96) := by
  unfold ncode
  rw [List.foldl_append]
  rfl
def Dg (m : Nat) : List Nat := if h : m = 0 then [] else Dg (m / 27) ++ [m % 27]
termination_by m
decreasing_by exact Nat.div_lt_self (by omega) (by omega)
theorem Dg_zero : Dg 0 = [] := by unfold Dg; simp
theorem Dg_pos {m : Nat} (h : 0 < m) : Dg m = Dg (m / 27) ++ [m % 27] := by
  rw [Dg]
  rw [dif_neg (by omega)]
theorem Dg_lt {m : Nat} : ∀ d ∈ Dg m, d < 27 := by
  induction m using Nat.strongRecOn with
  | ind m ih =>
    intro d hd
    by_cases h : m = 0
    · subst h
      rw [Dg_zero] at hd
      cases hd
    · rw [Dg_pos (by omega)] at hd
      rcases List.mem_append.mp hd with z | z
      · exact ih _ (Nat.div_lt_self (by omega) (by omega)) d z
      · have : d = m % 27 := by simpa using z
        omega
theorem Dg_len (k : Nat) : ∀ m, (Dg m).length ≤ k ↔ m < 27 ^ k := by
  induction k with
  | zero =>
    intro m
    by_cases h : m = 0
    · subst h; rw [Dg_zero]; simp
    · rw [Dg_pos (by omega)]
      simp
      omega
  | succ k ih =>
    intro m
    by_cases h : m = 0
    · subst h; rw [Dg_zero]; simp
      exact Nat.pow_pos (by omega)
    · rw [Dg_pos (by omega), List.length_append, List.length_singleton, Nat.succ_le_succ_iff, ih, Nat.pow_succ]
      constructor <;> intro h2 <;> omega
theorem Dg_codeR : ∀ {r : List Nat}, (∀ c ∈ r, 97 ≤ c ∧ c ≤ 122) → Dg (ncode r.reverse) = r.reverse.map (· - 96)
  | [], _ => Dg_zero
  | s :: r, h => by
    have hs := h s (by simp)
    rw [List.reverse_cons, ncode_snoc, Dg_pos (by omega), List.map_append]
    have e1 : (ncode r.reverse * 27 + (s - 96)) / 27 = ncode r.reverse := by omega
    have e2 : (ncode r.reverse * 27 + (s - 96)) % 27 = s - 96 := by omega
    rw [e1, e2, Dg_codeR fun c hc => h c (by simp [hc])]
    rfl
theorem Dg_code {l : List Nat} (h : ∀ c ∈ l, 97 ≤ c ∧ c ≤ 122) : Dg (ncode l) = l.map (· - 96) := by
  have := Dg_codeR (r := l.reverse) fun c hc => h c (by simpa using hc)
  rw [List.reverse_reverse] at this
  exact this
/-- a code's name -/
def cnam (m : Nat) : List Nat := if 0 ∈ Dg m then [63] else (Dg m).map (96 + ·)
def cname (n : Int) : List Nat := if 0 < n ∧ n < 531441 then cnam n.toNat else [63]
theorem map_back {l : List Nat} (h : ∀ c ∈ l, 97 ≤ c ∧ c ≤ 122) : (l.map (· - 96)).map (96 + ·) = l := by
  rw [List.map_map]
  have : ∀ c ∈ l, ((96 + ·) ∘ (· - 96)) c = id c := fun c hc => by
    have := h c hc
    show 96 + (c - 96) = c
    omega
  rw [List.map_congr_left this, List.map_id]
theorem ncode_lt {l : List Nat} (h : Nm l) : 0 < ncode l ∧ ncode l < 531441 := by
  have e := Dg_code h.lt
  have h1 := (Dg_len 4 (ncode l)).mp (by rw [e, List.length_map]; exact h.hi)
  have h2 : ¬ ncode l < 27 ^ 0 := fun z => by
    have := (Dg_len 0 (ncode l)).mpr z
    rw [e, List.length_map] at this
    have := h.lo
    omega
  constructor <;> omega
theorem cname_code {l : List Nat} (h : Nm l) : cname (ncode l : Nat) = l := by
  have hl := ncode_lt h
  unfold cname cnam
  rw [if_pos (by omega)]
  have e : ((ncode l : Nat) : Int).toNat = ncode l := by simp
  rw [e, Dg_code h.lt, if_neg, map_back h.lt]
  intro z
  obtain ⟨c, hc, e⟩ := List.mem_map.mp z
  have := h.lt c hc
  omega
/-- the law's own reading of a number -/
def dcd (n : Int) : List Nat := if (Dg n.toNat).length < 1 ∨ 4 < (Dg n.toNat).length ∨ 0 ∈ Dg n.toNat then [63] else (Dg n.toNat).map (96 + ·)
theorem dcd_eq (n : Int) : cname n = dcd n := by
  unfold cname dcd cnam
  by_cases h0 : n ≤ 0
  · have e : n.toNat = 0 := by omega
    rw [if_neg (by omega), e, Dg_zero]
    rfl
  · have h1 : ¬ (Dg n.toNat).length < 1 := fun z => by
      have := (Dg_len 0 n.toNat).mp (by omega)
      omega
    by_cases h4 : n < 531441
    · have h2 : ¬ 4 < (Dg n.toNat).length := fun z => by
        have := (Dg_len 4 n.toNat).mpr (by omega)
        omega
      rw [if_pos (by omega)]
      by_cases hz : 0 ∈ Dg n.toNat
      · rw [if_pos hz, if_pos (.inr (.inr hz))]
      · rw [if_neg hz, if_neg]
        rintro (z | z | z)
        · exact h1 z
        · exact h2 z
        · exact hz z
    · have h2 : 4 < (Dg n.toNat).length := by
        rcases Nat.lt_or_ge 4 (Dg n.toNat).length with z | z
        · exact z
        · have := (Dg_len 4 n.toNat).mp z
          omega
      rw [if_neg (by omega), if_pos (.inr (.inl h2))]
end K86
namespace K86
open PySem PySem.Spec PyProof.Rows L2 Rg
def top (i : Nat) : Stmt := PySem.Challenge.pw_lotsandties_k86_names_and_codes.main.body.getD i (.Pass ⟨0, 0, 0, 0⟩)
abbrev s_is_name : Stmt := top 6
abbrev s_is_path : Stmt := top 7
abbrev s_name_code : Stmt := top 8
abbrev s_code_name : Stmt := top 9
abbrev s_Lfeed : Stmt := top 11
abbrev s_Lpick : Stmt := top 12
abbrev s_Lname : Stmt := top 13
abbrev s_Lcode : Stmt := top 14
abbrev s_Ldecoded : Stmt := top 15
abbrev s_Linteger : Stmt := top 16
abbrev s_Ltext : Stmt := top 17
abbrev s_Lnames_good : Stmt := top 18
abbrev s_Lbad_good : Stmt := top 19
abbrev s_law : Stmt := top 20
theorem sc_is_name : FnScope ["text", "letter"] ["text"] (defScope s_is_name) := ⟨rfl, rfl, rfl, by decide +kernel, rfl, by decide +kernel, by decide +kernel⟩
theorem sc_is_path : FnScope ["text", "names", "name"] ["text"] (defScope s_is_path) := ⟨rfl, rfl, rfl, by decide +kernel, rfl, by decide +kernel, by decide +kernel⟩
theorem sc_name_code : FnScope ["name", "code", "letter"] ["name"] (defScope s_name_code) := ⟨rfl, rfl, rfl, by decide +kernel, rfl, by decide +kernel, by decide +kernel⟩
theorem sc_code_name : FnScope ["code", "name", "digit"] ["code"] (defScope s_code_name) := ⟨rfl, rfl, rfl, by decide +kernel, rfl, by decide +kernel, by decide +kernel⟩
theorem sc_Lfeed : FnScope ["_law_script", "_law_feed_here", "_law_cell", "_law_rest", "_law_k"] ["_law_script"] (defScope s_Lfeed) := ⟨rfl, rfl, rfl, by decide +kernel, rfl, by decide +kernel, by decide +kernel⟩
theorem sc_Lpick : FnScope ["_law_feed_here", "_law_limit"] ["_law_feed_here", "_law_limit"] (defScope s_Lpick) := ⟨rfl, rfl, rfl, by decide +kernel, rfl, by decide +kernel, by decide +kernel⟩
theorem sc_Lname : FnScope ["_law_feed_here", "_law_letters", "_law_name_here", "_law_k"] ["_law_feed_here"] (defScope s_Lname) := ⟨rfl, rfl, rfl, by decide +kernel, rfl, by decide +kernel, by decide +kernel⟩
theorem sc_Lcode : FnScope ["_law_name_here", "_law_code_here", "_law_sign"] ["_law_name_here"] (defScope s_Lcode) := ⟨rfl, rfl, rfl, by decide +kernel, rfl, by decide +kernel, by decide +kernel⟩
theorem sc_Ldecoded : FnScope ["_law_number", "_law_digits", "_law_rest", "_law_k", "_law_digit"] ["_law_number"] (defScope s_Ldecoded) := ⟨rfl, rfl, rfl, by decide +kernel, rfl, by decide +kernel, by decide +kernel⟩
theorem sc_Linteger : FnScope ["_law_actual", "_law_due"] ["_law_actual", "_law_due"] (defScope s_Linteger) := ⟨rfl, rfl, rfl, by decide +kernel, rfl, by decide +kernel, by decide +kernel⟩
theorem sc_Ltext : FnScope ["_law_actual", "_law_due"] ["_law_actual", "_law_due"] (defScope s_Ltext) := ⟨rfl, rfl, rfl, by decide +kernel, rfl, by decide +kernel, by decide +kernel⟩
theorem sc_Lnames_good : FnScope ["_law_names", "_law_name_here"] ["_law_names"] (defScope s_Lnames_good) := ⟨rfl, rfl, rfl, by decide +kernel, rfl, by decide +kernel, by decide +kernel⟩
theorem sc_Lbad_good : FnScope ["_law_name_here", "_law_other", "_law_long_name", "_law_text_here", "_law_good"] ["_law_name_here", "_law_other"] (defScope s_Lbad_good) := ⟨rfl, rfl, rfl, by decide +kernel, rfl, by decide +kernel, by decide +kernel⟩
theorem sc_law : FnScope ["_law_script", "_law_feed_here", "_law_name_here", "_law_other", "_law_number", "_law_value", "_law_names", "_law_k"] ["_law_script"] (defScope s_law) := ⟨rfl, rfl, rfl, by decide +kernel, rfl, by decide +kernel, by decide +kernel⟩

structure Tx (K : PySem.W.Frag) (mg : Str → Option Value) where
  f_is_name : Addr
  fd_is_name : FuncData
  F_is_name : Fun K "is_name" "is_name" s_is_name f_is_name fd_is_name
  mg_is_name : mg "is_name" = some (.ref f_is_name)
  cc_is_name : Addr
  P_is_name : Addr
  code_is_name : fd_is_name.code = .ref cc_is_name
  ch_is_name : PySem.W.codeHdIn K cc_is_name P_is_name = true
  cn_is_name : K.lookup P_is_name = none
  f_is_path : Addr
  fd_is_path : FuncData
  F_is_path : Fun K "is_path" "is_path" s_is_path f_is_path fd_is_path
  mg_is_path : mg "is_path" = some (.ref f_is_path)
  cc_is_path : Addr
  P_is_path : Addr
  code_is_path : fd_is_path.code = .ref cc_is_path
  ch_is_path : PySem.W.codeHdIn K cc_is_path P_is_path = true
  cn_is_path : K.lookup P_is_path = none
  f_name_code : Addr
  fd_name_code : FuncData
  F_name_code : Fun K "name_code" "name_code" s_name_code f_name_code fd_name_code
  mg_name_code : mg "name_code" = some (.ref f_name_code)
  f_code_name : Addr
  fd_code_name : FuncData
  F_code_name : Fun K "code_name" "code_name" s_code_name f_code_name fd_code_name
  mg_code_name : mg "code_name" = some (.ref f_code_name)
  f_Lfeed : Addr
  fd_Lfeed : FuncData
  F_Lfeed : Fun K "_law_feed" "_law_feed" s_Lfeed f_Lfeed fd_Lfeed
  mg_Lfeed : mg "_law_feed" = some (.ref f_Lfeed)
  f_Lpick : Addr
  fd_Lpick : FuncData
  F_Lpick : Fun K "_law_pick" "_law_pick" s_Lpick f_Lpick fd_Lpick
  mg_Lpick : mg "_law_pick" = some (.ref f_Lpick)
  f_Lname : Addr
  fd_Lname : FuncData
  F_Lname : Fun K "_law_name" "_law_name" s_Lname f_Lname fd_Lname
  mg_Lname : mg "_law_name" = some (.ref f_Lname)
  f_Lcode : Addr
  fd_Lcode : FuncData
  F_Lcode : Fun K "_law_code" "_law_code" s_Lcode f_Lcode fd_Lcode
  mg_Lcode : mg "_law_code" = some (.ref f_Lcode)
  f_Ldecoded : Addr
  fd_Ldecoded : FuncData
  F_Ldecoded : Fun K "_law_decoded" "_law_decoded" s_Ldecoded f_Ldecoded fd_Ldecoded
  mg_Ldecoded : mg "_law_decoded" = some (.ref f_Ldecoded)
  f_Linteger : Addr
  fd_Linteger : FuncData
  F_Linteger : Fun K "_law_integer" "_law_integer" s_Linteger f_Linteger fd_Linteger
  mg_Linteger : mg "_law_integer" = some (.ref f_Linteger)
  f_Ltext : Addr
  fd_Ltext : FuncData
  F_Ltext : Fun K "_law_text" "_law_text" s_Ltext f_Ltext fd_Ltext
  mg_Ltext : mg "_law_text" = some (.ref f_Ltext)
  f_Lnames_good : Addr
  fd_Lnames_good : FuncData
  F_Lnames_good : Fun K "_law_names_good" "_law_names_good" s_Lnames_good f_Lnames_good fd_Lnames_good
  mg_Lnames_good : mg "_law_names_good" = some (.ref f_Lnames_good)
  f_Lbad_good : Addr
  fd_Lbad_good : FuncData
  F_Lbad_good : Fun K "_law_bad_good" "_law_bad_good" s_Lbad_good f_Lbad_good fd_Lbad_good
  mg_Lbad_good : mg "_law_bad_good" = some (.ref f_Lbad_good)
  f_law : Addr
  fd_law : FuncData
  F_law : Fun K "law" "law" s_law f_law fd_law
  mg_law : mg "law" = some (.ref f_law)
  c_MOST_LETTERS : ∃ t, mg "MOST_LETTERS" = some (.int 4 t)
  c_MOST_NAMES : ∃ t, mg "MOST_NAMES" = some (.int 8 t)
  c_BASE : ∃ t, mg "BASE" = some (.int 27 t)
  c_CODES_END : ∃ t, mg "CODES_END" = some (.int 531441 t)
  c_LETTERS : ∃ t, mg "LETTERS" = some (.str "abcdefghijklmnopqrstuvwxyz" t)
  b_abs : mg "abs" = none
  b_all : mg "all" = none
  b_bool : mg "bool" = none
  b_int : mg "int" = none
  b_isinstance : mg "isinstance" = none
  b_len : mg "len" = none
  b_range : mg "range" = none
  b_str : mg "str" = none
/-- the defs that make generators: their tables -/
structure TBs {K : PySem.W.Frag} {mg : Str → Option Value} (T : Tx K mg) (base : Heap) : Prop where
  t_is_name : LamX.TabB base mg T.cc_is_name T.P_is_name
  t_is_path : LamX.TabB base mg T.cc_is_path T.P_is_path
def Tx.Ps {K : PySem.W.Frag} {mg : Str → Option Value} (T : Tx K mg) : List Addr := [T.P_is_name, T.P_is_path]
theorem Tx.in_is_name {K : PySem.W.Frag} {mg : Str → Option Value} (T : Tx K mg) : T.P_is_name ∈ T.Ps := by simp [Tx.Ps]
theorem Tx.in_is_path {K : PySem.W.Frag} {mg : Str → Option Value} (T : Tx K mg) : T.P_is_path ∈ T.Ps := by simp [Tx.Ps]

section
variable {P : Program} {w : World} {K : PySem.W.Frag} {mg : Str → Option Value} {base : Heap}
theorem b_is_name (T : Tx K mg) : Binds K T.fd_is_name ["text"] [] := T.F_is_name.binds (ps := ["text"]) fun _ _ _ _ _ _ us hl => match us, hl with | [_], _ => rfl
theorem b_is_path (T : Tx K mg) : Binds K T.fd_is_path ["text"] [] := T.F_is_path.binds (ps := ["text"]) fun _ _ _ _ _ _ us hl => match us, hl with | [_], _ => rfl
theorem b_name_code (T : Tx K mg) : Binds K T.fd_name_code ["name"] [] := T.F_name_code.binds (ps := ["name"]) fun _ _ _ _ _ _ us hl => match us, hl with | [_], _ => rfl
theorem b_code_name (T : Tx K mg) : Binds K T.fd_code_name ["code"] [] := T.F_code_name.binds (ps := ["code"]) fun _ _ _ _ _ _ us hl => match us, hl with | [_], _ => rfl
theorem b_Lfeed (T : Tx K mg) : Binds K T.fd_Lfeed ["_law_script"] [] := T.F_Lfeed.binds (ps := ["_law_script"]) fun _ _ _ _ _ _ us hl => match us, hl with | [_], _ => rfl
theorem b_Lpick (T : Tx K mg) : Binds K T.fd_Lpick ["_law_feed_here", "_law_limit"] [] := T.F_Lpick.binds (ps := ["_law_feed_here", "_law_limit"]) fun _ _ _ _ _ _ us hl => match us, hl with | [_, _], _ => rfl
theorem b_Lname (T : Tx K mg) : Binds K T.fd_Lname ["_law_feed_here"] [] := T.F_Lname.binds (ps := ["_law_feed_here"]) fun _ _ _ _ _ _ us hl => match us, hl with | [_], _ => rfl
theorem b_Lcode (T : Tx K mg) : Binds K T.fd_Lcode ["_law_name_here"] [] := T.F_Lcode.binds (ps := ["_law_name_here"]) fun _ _ _ _ _ _ us hl => match us, hl with | [_], _ => rfl
theorem b_Ldecoded (T : Tx K mg) : Binds K T.fd_Ldecoded ["_law_number"] [] := T.F_Ldecoded.binds (ps := ["_law_number"]) fun _ _ _ _ _ _ us hl => match us, hl with | [_], _ => rfl
theorem b_Linteger (T : Tx K mg) : Binds K T.fd_Linteger ["_law_actual", "_law_due"] [] := T.F_Linteger.binds (ps := ["_law_actual", "_law_due"]) fun _ _ _ _ _ _ us hl => match us, hl with | [_, _], _ => rfl
theorem b_Ltext (T : Tx K mg) : Binds K T.fd_Ltext ["_law_actual", "_law_due"] [] := T.F_Ltext.binds (ps := ["_law_actual", "_law_due"]) fun _ _ _ _ _ _ us hl => match us, hl with | [_, _], _ => rfl
theorem b_Lnames_good (T : Tx K mg) : Binds K T.fd_Lnames_good ["_law_names"] [] := T.F_Lnames_good.binds (ps := ["_law_names"]) fun _ _ _ _ _ _ us hl => match us, hl with | [_], _ => rfl
theorem b_Lbad_good (T : Tx K mg) : Binds K T.fd_Lbad_good ["_law_name_here", "_law_other"] [] := T.F_Lbad_good.binds (ps := ["_law_name_here", "_law_other"]) fun _ _ _ _ _ _ us hl => match us, hl with | [_, _], _ => rfl
theorem b_law (T : Tx K mg) : Binds K T.fd_law ["_law_script"] [] := T.F_law.binds (ps := ["_law_script"]) fun _ _ _ _ _ _ us hl => match us, hl with | [_], _ => rfl
end
end K86
namespace K86
open PySem PySem.Spec PyProof.Rows L2 Rg
section
variable {P : Program} {w : World} {K : PySem.W.Frag} {mg : Str → Option Value} {base : Heap}
/-! ### _law_pick -/
def sp_Lpick : Sp := fun vs H Q _ => ∃ (p : Addr) (fs : List Int) (lim : Int), vs = [.ref p, .int lim] ∧ H p = some (.lst (fs.map V.int)) ∧ 0 < lim ∧
  ∀ (r : Int) (fs' : List Int), 0 ≤ r → r < lim → fs'.length ≤ fs.length → Q (.int r) (upd H p (.lst (fs'.map V.int)))
theorem ok_Lpick (T : Tx K mg) : FnOk P w K mg base CX0 1 T.f_Lpick T.fd_Lpick ["_law_feed_here", "_law_limit"] sp_Lpick := by
  refine T.F_Lpick.ok sc_Lpick (fun vs H Q E h => ?_) (fun cdv A outer s H vs Q E hr h => ?_)
  · obtain ⟨p, fs, lim, rfl, _⟩ := h
    rfl
  · obtain ⟨p, fs, lim, rfl, hp, hl, k⟩ := h
    refine ⟨_, (pss_cons (ps_if (pt_cmpR op_eq (pe_callB call_len_seq rfl T.b_len (by decide +kernel) (pa_cons (pv 0) pa_nil)) pe_int (nomark _))
        (pss_one (ps_ret pe_int))
        pss_nil)
      (pss_one (ps_ret (pe_op op_mod (pe_callTy call_int1 rfl T.b_int (by decide +kernel) (pa_cons (pe_bm PySem.F.plainAttrs_list PySem.F.slot_list_pop PySem.F.type_list_pop mt_popAt (pv 0) (pa_cons pe_int pa_nil)) pa_nil)) (pv 1))))), ?_⟩
    refine ⟨_, rfl, p, fs.map V.int, rfl, .inl (.inl (.inl hp)), rfl, _, rfl, ite2 (fun e => ?_) (fun e => ?_)⟩
    · have := k 0 fs (Int.le_refl _) hl (Nat.le_refl _)
      rw [upd_id hp] at this
      exact this
    · cases fs with
      | nil => exact absurd (decide_eq_true rfl) e
      | cons x r =>
        refine ⟨.ref p, rfl, .inl ⟨rfl, _, .inl (.inl hp)⟩, p, _, 0, 0, .int x, rfl, rfl, hp, by decide, by decide, ?_, rfl, .inl ⟨x, rfl, ?_⟩⟩
        · rw [List.length_map]; simp [seqIndex?]
        · refine ⟨.int lim, rfl, _, _, rfl, rfl, hl, ?_⟩
          exact k _ r (Int.emod_nonneg _ (by omega)) (Int.emod_lt_of_pos _ hl) (by simp)

/-! ### _law_integer: of two ints -/
def sp_Linteger : Sp := fun vs H Q _ => ∃ (a d : Int), vs = [.int a, .int d] ∧ Q (.bl (decide (a = d))) H
theorem ok_Linteger (T : Tx K mg) : FnOk P w K mg base CX0 1 T.f_Linteger T.fd_Linteger ["_law_actual", "_law_due"] sp_Linteger := by
  refine T.F_Linteger.ok sc_Linteger (fun vs H Q E h => ?_) (fun cdv A outer s H vs Q E hr h => ?_)
  · obtain ⟨_, _, rfl, _⟩ := h; rfl
  · obtain ⟨a, d, rfl, k⟩ := h
    refine ⟨_, (pss_one (ps_ret (pe_and (pe_callB call_isi rfl T.b_isinstance (by decide +kernel) (pa_cons (pv 0) (pa_cons (pe_bltn (v := .ty "int") rfl T.b_int (by decide +kernel) rfl) pa_nil)))
      (pe_and (pe_not (pe_callB call_isi rfl T.b_isinstance (by decide +kernel) (pa_cons (pv 0) (pa_cons (pe_bltn (v := .ty "bool") rfl T.b_bool (by decide +kernel) rfl) pa_nil))))
      (pe_one (pe_cmpR op_eq (pv 0) (pv 1) (nomark _))))))), ?_⟩
    refine ⟨_, rfl, _, _, _, _, true, rfl, .ty _, .base (.int _), kit_ty (by decide +kernel), _, rfl, iteT ⟨_, rfl, _, _, _, _, false, rfl, .ty _, .base (.int _), kit_ty (by decide +kernel), _, rfl, _, rfl, iteT ⟨_, rfl, _, rfl, rfl, ?_⟩⟩⟩
    have : decide (V.int a = V.int d) = decide (a = d) := by
      by_cases e : a = d
      · subst e; simp
      · rw [decide_eq_false e, decide_eq_false fun q => e (V.int.inj q)]
    rw [this]
    exact k

/-! ### _law_feed -/
def sp_Lfeed (K : PySem.W.Frag) : Sp := fun vs H Q _ => ∃ (a : Addr) (ns : List Int), vs = [.ref a] ∧ SqL K H a (ns.map V.int) ∧ ns.length ≤ 63 ∧
  ∀ (H' : Hp) (p : Addr) (fs : List Int), Same H H' → H p = none → H' p = some (.lst (fs.map V.int)) → fs.length ≤ 5000 → Q (.ref p) H'
theorem ok_Lfeed (T : Tx K mg) : FnOk P w K mg base CX0 1 T.f_Lfeed T.fd_Lfeed ["_law_script"] (sp_Lfeed K) := by
  refine T.F_Lfeed.ok sc_Lfeed (fun vs H Q E h => ?_) (fun cdv A outer s H vs Q E hr h => ?_)
  · obtain ⟨_, _, rfl, _⟩ := h; rfl
  · obtain ⟨a, ns, rfl, hS, hlen, k⟩ := h
    refine ⟨_, (pss_cons (ps_set (i := 1) sc_Lfeed.nd rfl (.inl rfl) (pe_lst pa_nil))
      (pss_cons (ps_for PassesOwn.never rfl (pi_list (pv 0)) (pg_name (i := 2) sc_Lfeed.nd rfl (.inl rfl))
        (pss_cons (ps_set (i := 3) sc_Lfeed.nd rfl (.inl rfl) (pe_callB call_abs rfl T.b_abs (by decide +kernel) (pa_cons (pv 2) pa_nil)))
        (Evl.pss_cut (ps_if (pt_cmpR op_lt (pv 3) (pe_op op_pow pe_int pe_int) (nomark _))
          (pss_cons (ps_set (i := 3) sc_Lfeed.nd rfl (.inl rfl) (pe_op op_mod (pe_callTy call_int1 rfl T.b_int (by decide +kernel) (pa_cons (pe_op op_add (pe_op op_mul (pv 3) pe_int) pe_int) pa_nil)) pe_int))
          (pss_cons (ps_expr (pe_bm PySem.F.plainAttrs_list PySem.F.slot_list_append PySem.F.type_list_append mt_append (pv 1) (pa_cons (pe_op op_mod (pe_callTy call_int1 rfl T.b_int (by decide +kernel) (pa_cons (pe_op op_add (pe_op op_mul (pv 3) pe_int) pe_int) pa_nil)) pe_int) pa_nil)))
          (pss_one (ps_set (i := 3) sc_Lfeed.nd rfl (.inl rfl) pe_int))))
          pss_nil)
        (pss_one (ps_for PassesOwn.never rfl (pi_range1 rfl T.b_range (pa_cons pe_int pa_nil)) (pg_name (i := 4) sc_Lfeed.nd rfl (.inl rfl))
          (pss_one (ps_if (pt_cmpR op_gt (pv 3) pe_int (nomark _))
            (pss_cons (ps_expr (pe_bm PySem.F.plainAttrs_list PySem.F.slot_list_append PySem.F.type_list_append mt_append (pv 1) (pa_cons (pe_op op_mod (pe_callTy call_int1 rfl T.b_int (by decide +kernel) (pa_cons (pv 3) pa_nil)) pe_int) pa_nil)))
            (pss_one (ps_set (i := 3) sc_Lfeed.nd rfl (.inl rfl) (pe_op op_fdiv (pv 3) pe_int))))
            pss_nil)))))))
      (pss_one (ps_ret (pv 1))))), ?_⟩
    refine ⟨Nat.zero_le _, fun p np => ?_⟩
    have s0 : Same H (upd H p (.lst [])) := same_upd np
    have npa : ∀ H2, SqL K H2 a (ns.map V.int) → True := fun _ _ => trivial
    refine ⟨_, rfl, a, rfl, ⟨_, s0.seq hS⟩, for_list (K := K) (a := a) (xs := ns.map V.int) (fun i σ H2 => ∃ (fs : List Int) (v2 v3 v4 : Option V), σ = [some (.ref a), some (.ref p), v2, v3, v4] ∧ H2 = upd H p (.lst (fs.map V.int)) ∧ fs.length ≤ 61 * i)
      ⟨[], none, none, none, rfl, rfl, Nat.zero_le _⟩ (fun i σ H2 _ ⟨_, _, _, _, _, e, _⟩ => by rw [e]; exact (same_upd np).seq hS) ?_ ?_⟩
    · rintro i y σ H2 hi ⟨fs, v2, v3, v4, rfl, rfl, hl⟩
      have hil : i < 63 := by
        have := (List.getElem?_eq_some_iff.mp hi).1
        rw [List.length_map] at this
        omega
      obtain ⟨z, rfl⟩ : ∃ z, y = V.int z := by
        rw [List.getElem?_map] at hi
        cases e : ns[i]? with
        | none => rw [e] at hi; cases hi
        | some z => rw [e] at hi; exact ⟨z, (Option.some.inj hi).symm⟩
      refine ⟨_, rfl, z, rfl, ?_⟩
      refine ⟨fun σ' H' => ∃ (fs : List Int) (R : Int) (v4 : Option V), σ' = [some (.ref a), some (.ref p), some (.int z), some (.int R), v4] ∧ H' = upd H p (.lst (fs.map V.int)) ∧ 0 ≤ R ∧ fs.length ≤ 61 * i + 1, ?_, ?_⟩
      · have hz : 0 ≤ (if z < 0 then -z else z) := by split <;> omega
        refine ⟨_, rfl, _, _, rfl, rfl, ⟨by decide, by decide, by decide⟩, _, _, rfl, rfl, _, rfl, ite2 (fun e => ?_) (fun e => ?_)⟩
        · have e1 : (if z < 0 then -z else z) < 10 ^ 18 := of_decide_eq_true e
          refine ⟨_, rfl, _, _, rfl, rfl, .inl ⟨by omega, by omega⟩, _, _, rfl, rfl, .inl ⟨_, rfl, _, _, rfl, rfl, (by show (0 : Int) < _; decide), ?_⟩⟩
          refine ⟨.ref p, rfl, .inl ⟨rfl, _, .inl (.inl upd_same)⟩, _, rfl, _, _, rfl, rfl, .inr ⟨by decide, by decide⟩, _, _, rfl, rfl, .inl ⟨_, rfl, _, _, rfl, rfl, (by show (0 : Int) < _; decide), p, _, _, rfl, rfl, upd_same, ?_, ?_⟩⟩
          · rw [List.length_map]; exact Nat.lt_of_lt_of_le (Nat.lt_succ_of_le hl) (by unfold sizeLine; omega)
          · exact ⟨fs ++ [_], 0, v4, rfl, upd_app, Int.le_refl _, by rw [List.length_append]; simp; omega⟩
        · exact ⟨fs, _, v4, rfl, rfl, hz, by omega⟩
      · rintro σ' H' ⟨fs, R, v4, rfl, rfl, hR, hl⟩
        refine ⟨60, rfl, by decide, by decide, for_range (lo := 0) (n := 60) (fun j σ' H' => ∃ (fs : List Int) (R : Int) (v4 : Option V), σ' = [some (.ref a), some (.ref p), some (.int z), some (.int R), v4] ∧ H' = upd H p (.lst (fs.map V.int)) ∧ 0 ≤ R ∧ fs.length ≤ 61 * i + 1 + j)
          ⟨fs, R, v4, rfl, rfl, hR, hl⟩ ?_ ?_⟩
        · rintro j σ' H' hj ⟨fs, R, v4, rfl, rfl, hR, hl⟩
          refine ⟨_, rfl, _, _, rfl, rfl, _, rfl, ite2 (fun e => ?_) (fun e => ?_)⟩
          · refine ⟨.ref p, rfl, .inl ⟨rfl, _, .inl (.inl upd_same)⟩, _, rfl, .inl ⟨_, rfl, _, _, rfl, rfl, (by show (0 : Int) < _; decide), p, _, _, rfl, rfl, upd_same, ?_, ?_⟩⟩
            · rw [List.length_map]; exact Nat.lt_of_lt_of_le (Nat.lt_succ_of_le hl) (by unfold sizeLine; omega)
            · refine ⟨_, rfl, _, _, rfl, rfl, ⟨by decide, by decide⟩, fs ++ [_], _, _, rfl, upd_app, Int.ediv_nonneg hR (by decide), by rw [List.length_append]; simp; omega⟩
          · exact ⟨fs, R, _, rfl, rfl, hR, by omega⟩
        · rintro σ' H' ⟨fs, R, v4, rfl, rfl, hR, hl⟩
          exact ⟨fs, _, _, _, rfl, rfl, by omega⟩
    · rintro σ H2 ⟨fs, v2, v3, v4, rfl, rfl, hl⟩
      rw [List.length_map] at hl
      exact ⟨_, rfl, k _ p fs (same_upd np) np upd_same (by omega)⟩
end
end K86
namespace K86
open PySem PySem.Spec PyProof.Rows L2 Rg SX
section
variable {P : Program} {w : World} {K : PySem.W.Frag} {mg : Str → Option Value} {base : Heap}
def sp_B (f : List Nat → Bool) (Ps : List Addr) : Sp := fun vs H Q _ => ∃ l : List Nat, vs = [.str (S l)] ∧ l.length ≤ 1000 ∧ Tab Ps H ∧ ∀ H', Tk Ps H H' → Q (.bl (f l)) H'
theorem ok_is_name (T : Tx K mg) (B : TBs T base) : FnOk P w K mg base CX0 4 T.f_is_name T.fd_is_name ["text"] (sp_B isN T.Ps) := by
  refine fun_okC T.F_is_name T.code_is_name sc_is_name (fun vs H Q E h => ?_) (fun A outer s H vs Q E hr h => ?_)
  · obtain ⟨_, rfl, _⟩ := h; rfl
  · obtain ⟨l, rfl, hl, ht, k⟩ := h
    refine ⟨_, (pss_one (ps_ret (pe_and (pe_chain op_le op_le pe_int (pe_callB call_len_str rfl T.b_len (by decide +kernel) (pa_cons (pv 0) pa_nil)) (pe_gc T.c_MOST_LETTERS)) (pe_one (GxL.pe_allG (k := 0) (own := [("letter", 1)]) (g := gName 1) (tt := tYes) hr rfl T.b_all B.t_is_name rfl (GxL.gsc_by (by decide +kernel)) (blkOk_by (N := ["text", "letter"]) (sc := defScope s_is_name) (by decide +kernel)) sc_is_name.nd (pi_str (pv 0)) (fun _ _ _ _ _ => pg_name (i := 1) sc_is_name.nd rfl (Or.inl rfl)) (fun _ _ _ _ _ _ => pts_nil) (fun _ _ _ _ _ _ => pe_cmpR op_in_sign (pv 1) (pe_gs T.c_LETTERS) rfl)))))), ?_⟩
    refine ⟨_, rfl, S l, rfl, by rw [S_len]; exact Nat.le_trans hl (by decide), ?_⟩
    refine ⟨_, _, rfl, rfl, _, rfl, ite2 (fun h1 => ?_) fun h1 => ?_⟩
    · refine ⟨_, _, rfl, rfl, _, rfl, ite2 (fun h2 => ?_) fun h2 => ?_⟩
      · rw [S_len] at h1 h2
        have h1 := of_decide_eq_true h1
        have h2 := of_decide_eq_true h2
        refine ⟨_, rfl, S l, rfl, ht _ T.in_is_name, fun H2 hT => gx_str (fun i H3 => Tk T.Ps H H3 ∧ ∀ c ∈ l.take i, c ∈ LET) ⟨Tk.tabbed ht T.in_is_name hT, by simp⟩ (fun i c H3 hc ⟨kk, hp⟩ => ?_) fun H3 ⟨kk, hp⟩ => ?_⟩
        · refine ⟨rfl, yes_ ⟨_, rfl, c, _, rfl, rfl, _, rfl, ?_⟩⟩
          have hc := S_at hc
          have el : ("abcdefghijklmnopqrstuvwxyz" : Str).cps.toList = LET := let_eq
          rw [el]
          by_cases e : c ∈ LET
          · rw [decide_eq_true e, if_pos rfl]
            refine ⟨kk, fun x hx => ?_⟩
            rw [take_snoc hc] at hx
            rcases List.mem_append.mp hx with z | z
            · exact hp x z
            · rw [show x = c by simpa using z]
              exact e
          · rw [decide_eq_false e, if_neg Bool.false_ne_true]
            have := k H3 kk
            rw [show isN l = false from not_isN fun n => e (mem_let.mpr (n.lt c (List.mem_of_getElem? hc)))] at this
            exact this
        · have := k H3 kk
          rw [show isN l = true from Nm.isN ⟨by omega, by omega, fun c hc => mem_let.mp (hp c (by rw [List.take_of_length_le (by simp)]; exact hc))⟩] at this
          exact this
      · rw [S_len] at h2
        have h2 : ¬ ((l.length : Int) ≤ 4) := fun z => h2 (decide_eq_true z)
        have := k H (.refl ht)
        rw [show isN l = false from not_isN fun n => h2 (by have := n.hi; omega)] at this
        first | exact ⟨_, rfl, this⟩ | exact this
    · rw [S_len] at h1
      have h1 : ¬ ((1 : Int) ≤ l.length) := fun z => h1 (decide_eq_true z)
      have := k H (.refl ht)
      rw [show isN l = false from not_isN fun n => h1 (by have := n.lo; omega)] at this
      first | exact ⟨_, rfl, this⟩ | exact this
theorem spl_le (l : List Nat) : (TL.spl [47] 0 [] l).length ≤ l.length + 1 := by
  have h : ∀ (l acc : List Nat), (TL.spl [47] 0 acc l).length ≤ l.length + 1 := by
    intro l
    induction l with
    | nil => intro acc; rw [TL.spl_nil]; simp
    | cons c r ih =>
      intro acc
      by_cases e : TL.pre [47] (c :: r) = true
      · rw [TL.spl_hit e]
        have := ih []
        simp only [List.length_cons]
        show (TL.spl [47] 0 [] r).length + 1 ≤ _
        omega
      · rw [TL.spl_miss (by simpa using e)]
        have := ih (acc ++ [c])
        simp only [List.length_cons]
        omega
  exact h l []
theorem spl_len (l : List Nat) : ∀ p ∈ TL.spl [47] 0 [] l, p.length ≤ l.length := by
  have h : ∀ (l acc p : List Nat), p ∈ TL.spl [47] 0 acc l → p.length ≤ acc.length + l.length := by
    intro l
    induction l with
    | nil =>
      intro acc p hp
      rw [TL.spl_nil] at hp
      have : p = acc := by simpa using hp
      rw [this]; simp
    | cons c r ih =>
      intro acc p hp
      by_cases e : TL.pre [47] (c :: r) = true
      · rw [TL.spl_hit e] at hp
        rcases List.mem_cons.mp hp with z | z
        · rw [z]; simp
        · have := ih [] p z
          simp only [List.length_cons, List.length_nil] at this ⊢
          omega
      · rw [TL.spl_miss (by simpa using e)] at hp
        have := ih (acc ++ [c]) p hp
        simp only [List.length_append, List.length_cons, List.length_nil] at this ⊢
        omega
  intro p hp
  have := h l [] p hp
  simpa using this
theorem dot_S : ("." : Str) = S [46] := by decide
theorem ok_is_path (T : Tx K mg) (B : TBs T base) : FnOk P w K mg base CX0 8 T.f_is_path T.fd_is_path ["text"] (sp_B isP T.Ps) := by
  refine fun_okC T.F_is_path T.code_is_path sc_is_path (fun vs H Q E h => ?_) (fun A outer s H vs Q E hr h => ?_)
  · obtain ⟨_, rfl, _⟩ := h; rfl
  · obtain ⟨l, rfl, hl, ht, k⟩ := h
    refine ⟨_, (pss_cons (ps_if (pt_cmpR op_eq (pv 0) pe_str (nomark _))
        (pss_one (ps_ret pe_bl))
        pss_nil)
      (pss_cons (ps_set (i := 1) sc_is_path.nd rfl (.inl rfl) (pe_split (pv 0) pe_str))
      (pss_one (ps_ret (pe_and (pe_cmpR op_le (pe_callB call_len_seq rfl T.b_len (by decide +kernel) (pa_cons (pv 1) pa_nil)) (pe_gc T.c_MOST_NAMES) (nomark _)) (pe_one (GxL.pe_allG (k := 4) (own := [("name", 2)]) (g := gName 2) (tt := tYes) hr rfl T.b_all B.t_is_path rfl (GxL.gsc_by (by decide +kernel)) (blkOk_by (N := ["text", "names", "name"]) (sc := defScope s_is_path) (by decide +kernel)) sc_is_path.nd (pi_list (pv 1)) (fun _ _ _ _ _ => pg_name (i := 2) sc_is_path.nd rfl (Or.inl rfl)) (fun _ _ _ _ _ _ => pts_nil) (fun _ _ _ _ _ hr2 => pe_call (ok_is_name T B) hr2 rfl T.mg_is_name T.F_is_name.kp (b_is_name T) .nil pass0 (pa_cons (pv 2) pa_nil))))))))), ?_⟩
    refine ⟨_, rfl, rfl, _, rfl, ite2 (fun h1 => ?_) fun h1 => ?_⟩
    · have h1 : l = [46] := by
        have z := of_decide_eq_true h1
        injection z with z
        exact S_inj (z.trans dot_S)
      have := k H (.refl ht)
      rw [show isP l = true by rw [h1]; rfl] at this
      exact this
    · have h1 : l ≠ [46] := fun z => h1 (decide_eq_true (by rw [z]; rfl))
      have lz := spl_le l
      refine ⟨_, rfl, ⟨_, rfl⟩, S l, S [47], rfl, rfl, rfl, by rw [S_len]; exact Nat.le_trans (Nat.add_le_add_right hl 2) (by decide), fun p np => ?_⟩
      rw [split_S (by simp) (by decide)]
      have e0 := upd_same (H := H) (a := p) (o := .lst (((TL.spl [47] 0 [] l).map S).map V.str))
      have t0 : Tk T.Ps H (upd H p (.lst (((TL.spl [47] 0 [] l).map S).map V.str))) := (Tk.refl ht).new np
      generalize upd H p (.lst (((TL.spl [47] 0 [] l).map S).map V.str)) = H1 at e0 t0 ⊢
      refine ⟨_, rfl, p, _, rfl, .inl (.of e0), _, _, rfl, rfl, _, rfl, ite2 (fun h2 => ?_) fun h2 => ?_⟩
      · have h2 := of_decide_eq_true h2
        rw [List.length_map, List.length_map] at h2
        refine ⟨.ref p, rfl, p, rfl, ⟨_, .of e0⟩, t0.tab _ T.in_is_path, fun H2 hT => gx_list (K := K) (a := p) (xs := ((TL.spl [47] 0 [] l).map S).map V.str) (fun i H3 => Tk T.Ps H1 H3 ∧ ∀ q ∈ (TL.spl [47] 0 [] l).take i, isN q = true) ⟨Tk.tabbed t0.tab T.in_is_path hT, by simp⟩
          (fun i H3 _ ⟨kk, _⟩ => .of (kk.at t0.tab e0)) (fun i c H3 hc ⟨kk, hp⟩ => ?_) fun H3 ⟨kk, hp⟩ => ?_⟩
        · rw [List.map_map, List.getElem?_map] at hc
          obtain ⟨q, hq, rfl⟩ := Option.map_eq_some_iff.mp hc
          refine ⟨rfl, yes_ ⟨_, rfl, q, rfl, Nat.le_trans (spl_len l q (List.mem_of_getElem? hq)) hl, kk.tab, fun H4 k4 => ⟨_, rfl, ?_⟩⟩⟩
          cases e : isN q with
          | true =>
            rw [if_pos rfl]
            refine ⟨kk.trans k4, fun x hx => ?_⟩
            rw [take_snoc hq] at hx
            rcases List.mem_append.mp hx with z | z
            · exact hp x z
            · rw [show x = q by simpa using z]
              exact e
          | false =>
            rw [if_neg Bool.false_ne_true]
            have := k H4 (t0.trans (kk.trans k4))
            rw [show isP l = false from ?_] at this
            · exact this
            · unfold isP
              rw [decide_eq_false h1, Bool.false_or]
              have : ((TL.spl [47] 0 [] l).all isN) = false := by
                rw [List.all_eq_false]
                exact ⟨q, List.mem_of_getElem? hq, by rw [e]; simp⟩
              rw [this, Bool.and_false]
        · have := k H3 (t0.trans kk)
          rw [show isP l = true from ?_] at this
          · exact this
          · unfold isP
            rw [decide_eq_false h1, Bool.false_or, Bool.and_eq_true]
            exact ⟨decide_eq_true (by omega), List.all_eq_true.mpr fun q hq => hp q (by rw [List.take_of_length_le (by simp)]; exact hq)⟩
      · have h2 : ¬ (((TL.spl [47] 0 [] l).length : Int) ≤ 8) := fun z => h2 (decide_eq_true (by rw [List.length_map, List.length_map]; exact z))
        have := k H1 t0
        rw [show isP l = false from ?_] at this
        · exact this
        · unfold isP
          rw [decide_eq_false h1, Bool.false_or, decide_eq_false (by omega), Bool.false_and]
end
end K86
namespace K86
open PySem PySem.Spec PyProof.Rows L2 Rg SX
theorem idx_let : ∀ c ∈ LET, Txt.index0 (S LET) (S [c]) = some (c - 97) := by decide +kernel
theorem find_let : ∀ c ∈ LET, Txt.find (S LET) (S [c]) = ((c - 97 : Nat) : Int) := by decide +kernel
theorem ncode_take {l : List Nat} {i c : Nat} (h : l[i]? = some c) : ncode (l.take (i + 1)) = ncode (l.take i) * 27 + (c - 96) := by
  rw [take_snoc h, ncode_snoc]
theorem ncode_bd {l : List Nat} (h : ∀ c ∈ l, 97 ≤ c ∧ c ≤ 122) : ncode l < 27 ^ l.length := by
  have := (Dg_len l.length (ncode l)).mp (by rw [Dg_code h, List.length_map]; exact Nat.le_refl _)
  exact this
theorem bd4 {l : List Nat} (h : Nm l) (i : Nat) : ncode (l.take i) < 531441 := by
  have h1 := ncode_bd (l := l.take i) fun c hc => h.lt c (List.mem_of_mem_take hc)
  have h2 : (l.take i).length ≤ 4 := Nat.le_trans (by rw [List.length_take]; omega) h.hi
  exact Nat.lt_of_lt_of_le h1 (Nat.le_trans (Nat.pow_le_pow_right (by decide) h2) (by decide))
section
variable {P : Program} {w : World} {K : PySem.W.Frag} {mg : Str → Option Value} {base : Heap}
def sp_code : Sp := fun vs H Q _ => ∃ l : List Nat, vs = [.str (S l)] ∧ Nm l ∧ Q (.int (ncode l : Nat)) H
theorem ok_name_code (T : Tx K mg) : FnOk P w K mg base CX0 1 T.f_name_code T.fd_name_code ["name"] sp_code := by
  refine T.F_name_code.ok sc_name_code (fun vs H Q E h => ?_) (fun cdv A outer s H vs Q E hr h => ?_)
  · obtain ⟨_, rfl, _⟩ := h; rfl
  · obtain ⟨l, rfl, hl, k⟩ := h
    refine ⟨_, (pss_cons (ps_set (i := 1) sc_name_code.nd rfl (.inl rfl) pe_int)
      (pss_cons (ps_for PassesOwn.never rfl (pi_str (pv 0)) (pg_name (i := 2) sc_name_code.nd rfl (.inl rfl))
        (pss_one (ps_set (i := 1) sc_name_code.nd rfl (.inl rfl) (pe_op op_add (pe_op op_add (pe_op op_mul (pv 1) (pe_gc T.c_BASE)) (pe_bmS PySem.F.plainAttrs_str PySem.F.slot_str_index PySem.F.type_str_index (mt_indexX rfl LamX.takes0) (pe_gs T.c_LETTERS) (pa_cons (pv 2) pa_nil))) pe_int))))
      (pss_one (ps_ret (pv 1))))), ?_⟩
    refine ⟨_, rfl, S l, rfl, for_str (fun i σ H2 => ∃ v2 : Option V, H2 = H ∧ σ = [some (.str (S l)), some (.int (ncode (l.take i) : Nat)), v2]) ⟨none, rfl, rfl⟩ (fun i c σ H2 hc ⟨v2, e1, e2⟩ => ?_) fun σ H2 ⟨v2, e1, e2⟩ => ?_⟩
    · subst e1 e2
      have hc := S_at hc
      have hm := mem_let.mpr (hl.lt c (List.mem_of_getElem? hc))
      have hb := bd4 hl i
      refine ⟨_, rfl, _, _, rfl, rfl, .inl ⟨by omega, by omega⟩, rfl, _, rfl, _, S [c], rfl, rfl, fun z hz => ?_, fun hz => ?_⟩
      · rw [let_S, idx_let c hm] at hz
        cases hz
        refine ⟨_, _, rfl, rfl, _, _, rfl, rfl, some (.str (S [c])), rfl, ?_⟩
        have h97 := mem_let.mp hm
        have e : (((ncode (l.take i) : Nat) : Int) * 27 + ((c - 97 : Nat) : Int) + 1) = ((ncode (l.take (i + 1)) : Nat) : Int) := by
          rw [ncode_take hc]
          omega
        show [some (V.str (S l)), some (V.int (((ncode (l.take i) : Nat) : Int) * 27 + ((c - 97 : Nat) : Int) + 1)), some (V.str (S [c]))] = _
        rw [e]
      · rw [let_S, idx_let c hm] at hz
        cases hz
    · subst e1 e2
      refine ⟨_, rfl, ?_⟩
      have e : l.take (S l).cps.size = l := List.take_of_length_le (by simp)
      rw [e]
      exact k
theorem ok_Lcode (T : Tx K mg) : FnOk P w K mg base CX0 1 T.f_Lcode T.fd_Lcode ["_law_name_here"] sp_code := by
  refine T.F_Lcode.ok sc_Lcode (fun vs H Q E h => ?_) (fun cdv A outer s H vs Q E hr h => ?_)
  · obtain ⟨_, rfl, _⟩ := h; rfl
  · obtain ⟨l, rfl, hl, k⟩ := h
    refine ⟨_, (pss_cons (ps_set (i := 1) sc_Lcode.nd rfl (.inl rfl) pe_int)
      (pss_cons (ps_for PassesOwn.never rfl (pi_str (pv 0)) (pg_name (i := 2) sc_Lcode.nd rfl (.inl rfl))
        (pss_one (ps_set (i := 1) sc_Lcode.nd rfl (.inl rfl) (pe_op op_add (pe_op op_add (pe_op op_mul (pv 1) pe_int) (pe_bm PySem.F.plainAttrs_str PySem.F.slot_str_find PySem.F.type_str_find mt_find pe_str (pa_cons (pv 2) pa_nil))) pe_int))))
      (pss_one (ps_ret (pv 1))))), ?_⟩
    refine ⟨_, rfl, S l, rfl, for_str (fun i σ H2 => ∃ v2 : Option V, H2 = H ∧ σ = [some (.str (S l)), some (.int (ncode (l.take i) : Nat)), v2]) ⟨none, rfl, rfl⟩ (fun i c σ H2 hc ⟨v2, e1, e2⟩ => ?_) fun σ H2 ⟨v2, e1, e2⟩ => ?_⟩
    · subst e1 e2
      have hc := S_at hc
      have hm := mem_let.mpr (hl.lt c (List.mem_of_getElem? hc))
      have hb := bd4 hl i
      refine ⟨_, rfl, _, _, rfl, rfl, .inl ⟨by omega, by omega⟩, rfl, _, rfl, _, S [c], rfl, rfl, ?_⟩
      have h97 := mem_let.mp hm
      rw [let_S, find_let c hm]
      refine ⟨_, _, rfl, rfl, _, _, rfl, rfl, some (.str (S [c])), rfl, ?_⟩
      have e : (((ncode (l.take i) : Nat) : Int) * 27 + ((c - 97 : Nat) : Int) + 1) = ((ncode (l.take (i + 1)) : Nat) : Int) := by
        rw [ncode_take hc]
        omega
      show [some (V.str (S l)), some (V.int (((ncode (l.take i) : Nat) : Int) * 27 + ((c - 97 : Nat) : Int) + 1)), some (V.str (S [c]))] = _
      rw [e]
    · subst e1 e2
      refine ⟨_, rfl, ?_⟩
      have e : l.take (S l).cps.size = l := List.take_of_length_le (by simp)
      rw [e]
      exact k
end
end K86
namespace K86
open PySem PySem.Spec PyProof.Rows L2 Rg SX
theorem q_S : ("?" : Str) = S [63] := by decide
theorem let_at {d : Nat} (h1 : 1 ≤ d) (h2 : d < 27) : LET[d - 1]? = some (96 + d) := by
  unfold LET
  rw [List.getElem?_map, List.getElem?_range (by omega)]
  show some (97 + (d - 1)) = _
  congr 1
  omega
theorem inV_int (x : Int) (l : List Int) : inV (.int x) (l.map V.int) = decide (x ∈ l) := by
  induction l with
  | nil => simp [inV]
  | cons y l ih =>
    have : inV (.int x) ((y :: l).map V.int) = (eqV (.int y) (.int x) || inV (.int x) (l.map V.int)) := rfl
    rw [this, ih]
    simp only [eqV]
    by_cases e : y = x
    · subst e; simp
    · have e' : x ≠ y := fun z => e z.symm
      simp [e, e']
theorem flat_ints (l : List Int) : (l.map V.int).all flatV = true := by
  rw [List.all_eq_true]
  intro x hx
  obtain ⟨i, _, rfl⟩ := List.mem_map.mp hx
  rfl
theorem joinL_nil : ∀ ys : List (List Nat), TL.joinL [] ys = ys.flatten
  | [] => rfl
  | [p] => by simp [TL.joinL]
  | p :: q :: r => by
    have := joinL_nil (q :: r)
    rw [TL.joinL, this]
    simp
section
variable {P : Program} {w : World} {K : PySem.W.Frag} {mg : Str → Option Value} {base : Heap}
def sp_cname : Sp := fun vs H Q _ => ∃ n : Int, vs = [.int n] ∧ n < 2 ^ 40 ∧ Q (.str (S (cname n))) H
/-- what the loop has left -/
def cl (m : Nat) (acc : List Nat) : List Nat := if 0 ∈ Dg m then [63] else (Dg m).map (96 + ·) ++ acc
theorem cl_zero (acc : List Nat) : cl 0 acc = acc := by unfold cl; rw [Dg_zero]; rfl
theorem cl_bad {m : Nat} (h : 0 < m) (e : m % 27 = 0) (acc : List Nat) : cl m acc = [63] := by
  unfold cl
  rw [if_pos]
  rw [Dg_pos h]
  simp [e]
theorem cl_step {m : Nat} (h : 0 < m) (e : m % 27 ≠ 0) (acc : List Nat) : cl m acc = cl (m / 27) ((96 + m % 27) :: acc) := by
  unfold cl
  rw [Dg_pos h]
  by_cases z : 0 ∈ Dg (m / 27)
  · rw [if_pos (by simp [z]), if_pos z]
  · rw [if_neg (by simp [z]; omega), if_neg z]
    simp
theorem ok_code_name (T : Tx K mg) : FnOk P w K mg base CX0 1 T.f_code_name T.fd_code_name ["code"] sp_cname := by
  refine T.F_code_name.ok sc_code_name (fun vs H Q E h => ?_) (fun cdv A outer s H vs Q E hr h => ?_)
  · obtain ⟨_, rfl, _⟩ := h; rfl
  · obtain ⟨n, rfl, hn, k⟩ := h
    refine ⟨_, (pss_cons (ps_if (pt_not (pt_chain op_lt op_lt pe_int (pv 0) (pe_gc T.c_CODES_END)))
        (pss_one (ps_ret pe_str))
        pss_nil)
      (pss_cons (ps_set (i := 1) sc_code_name.nd rfl (.inl rfl) pe_str)
      (pss_cons (ps_while PassesOwn.never (pt_cmpR op_gt (pv 0) pe_int (nomark _))
        (pss_cons (ps_set (i := 2) sc_code_name.nd rfl (.inl rfl) (pe_op op_mod (pv 0) (pe_gc T.c_BASE)))
        (pss_cons (ps_if (pt_cmpR op_eq (pv 2) pe_int (nomark _))
          (pss_one (ps_ret pe_str))
          pss_nil)
        (pss_cons (ps_set (i := 1) sc_code_name.nd rfl (.inl rfl) (pe_op op_add_str (pe_ix ix_str (pe_gs T.c_LETTERS) (pe_op op_sub (pv 2) pe_int) (fun _ _ => rfl)) (pv 1)))
        (pss_one (ps_set (i := 0) sc_code_name.nd rfl (.inl rfl) (pe_op op_fdiv (pv 0) (pe_gc T.c_BASE))))))))
      (pss_one (ps_ret (pv 1)))))), ?_⟩
    have bad : ¬ (0 < n ∧ n < 531441) → Q (.str (S [63])) H := fun z => by
      have e : cname n = [63] := by unfold cname; rw [if_neg z]
      rw [e] at k
      exact k
    refine ⟨_, rfl, _, _, rfl, rfl, _, rfl, ite2 (fun h1 => ?_) fun h1 => ?_⟩
    · have h1 := of_decide_eq_true h1
      refine ⟨_, _, rfl, rfl, _, rfl, ?_⟩
      refine ite2 (fun h2 => ?_) fun h2 => ?_
      · have h2 : ¬ n < 531441 := by simpa using h2
        exact bad fun z => h2 z.2
      · have h2 : n < 531441 := by simpa using h2
        have k0 : Q (.str (S (cl n.toNat []))) H := by
          have e : cname n = cl n.toNat [] := by
            unfold cname cl cnam
            rw [if_pos ⟨h1, h2⟩, List.append_nil]
          rw [e] at k
          exact k
        have d4 : (Dg n.toNat).length ≤ 4 := (Dg_len 4 n.toNat).mpr (by omega)
        have en : n = ((n.toNat : Nat) : Int) := by omega
        refine ⟨fun m σ H2 => ∃ (acc : List Nat) (v2 : Option V), H2 = H ∧ σ = [some (.int (m : Nat)), some (.str (S acc)), v2] ∧ cl m acc = cl n.toNat [] ∧ acc.length + (Dg m).length ≤ 4, ⟨n.toNat, [], none, rfl, by rw [← en]; rfl, rfl, by simpa using d4⟩, ?_⟩
        rintro m σ H2 ⟨acc, v2, rfl, rfl, ec, el⟩
        refine ⟨_, rfl, _, _, rfl, rfl, _, rfl, ite2 (fun h3 => ?_) fun h3 => ?_⟩
        · have h3 : 0 < m := by have := of_decide_eq_true h3; omega
          have elD : (Dg m).length = (Dg (m / 27)).length + 1 := by rw [Dg_pos h3]; simp
          refine ⟨fun σ' H' => ∃ (acc : List Nat) (v2 : Option V), H' = H2 ∧ σ' = [some (.int ((m / 27 : Nat) : Int)), some (.str (S acc)), v2] ∧ cl (m / 27) acc = cl n.toNat [] ∧ acc.length + (Dg (m / 27)).length ≤ 4, fun σ' H' h => ⟨m / 27, Nat.div_lt_self h3 (by decide), h⟩, ?_⟩
          refine ⟨_, rfl, _, _, rfl, rfl, (by show (0 : Int) < 27; decide), ?_⟩
          refine ⟨_, rfl, rfl, _, rfl, ?_⟩
          rw [dec_iv]
          refine ite2 (fun h4 => ?_) fun h4 => ?_
          · have h4 : m % 27 = 0 := by have := of_decide_eq_true h4; omega
            rw [← ec, cl_bad h3 h4] at k0
            exact k0
          · have h4 : m % 27 ≠ 0 := fun z => h4 (decide_eq_true (by omega))
            refine ⟨_, rfl, _, _, rfl, rfl, _, _, 96 + m % 27, rfl, rfl, by decide, ?_, ?_⟩
            · rw [let_eq]
              exact atN (j := m % 27 - 1) (by show ((m : Int) % 27 - 1) = _; omega) (let_at (by omega) (by omega))
            refine ⟨_, rfl, _, _, rfl, rfl, by rw [S_len]; exact Nat.le_trans (Nat.add_le_add_left (show acc.length ≤ 4 by omega) _) (show 1 + 4 ≤ sizeLine by decide), ?_⟩
            refine ⟨_, rfl, _, _, rfl, rfl, ⟨by decide, by decide⟩, ?_⟩
            refine ⟨(96 + m % 27) :: acc, some (.int ((m : Int) % 27)), rfl, ?_, by rw [← cl_step h3 h4, ec], by simp only [List.length_cons]; omega⟩
            show [some (V.int ((m : Int) / 27)), some (V.str (S [96 + m % 27] ++ S acc)), some (V.int ((m : Int) % 27))] = _
            rw [S_cat, show ((m : Int) / 27) = ((m / 27 : Nat) : Int) by omega]
            rfl
        · have h3 : m = 0 := by
            rcases Nat.eq_zero_or_pos m with z | z
            · exact z
            · exact absurd (decide_eq_true (by omega)) h3
          subst h3
          rw [cl_zero] at ec
          rw [← ec] at k0
          exact ⟨_, rfl, k0⟩
    · have h1 : ¬ 0 < n := fun z => h1 (decide_eq_true z)
      exact ⟨_, rfl, bad fun z => h1 z.1⟩
end
end K86
namespace K86
open PySem PySem.Spec PyProof.Rows L2 Rg SX
section
variable {P : Program} {w : World} {K : PySem.W.Frag} {mg : Str → Option Value} {base : Heap}
def sp_Ltext : Sp := fun vs H Q _ => ∃ a d : List Nat, vs = [.str (S a), .str (S d)] ∧ Q (.bl (decide (a = d))) H
theorem ok_Ltext (T : Tx K mg) : FnOk P w K mg base CX0 1 T.f_Ltext T.fd_Ltext ["_law_actual", "_law_due"] sp_Ltext := by
  refine T.F_Ltext.ok sc_Ltext (fun vs H Q E h => ?_) (fun cdv A outer s H vs Q E hr h => ?_)
  · obtain ⟨_, _, rfl, _⟩ := h; rfl
  · obtain ⟨a, d, rfl, k⟩ := h
    refine ⟨_, (pss_one (ps_ret (pe_and (pe_callB call_isi rfl T.b_isinstance (by decide +kernel) (pa_cons (pv 0) (pa_cons (pe_bltn (v := .ty "str") rfl T.b_str (by decide +kernel) rfl) pa_nil))) (pe_one (pe_cmpR op_eq (pv 0) (pv 1) (nomark _)))))), ?_⟩
    refine ⟨_, rfl, _, _, _, _, true, rfl, .ty _, .base (.str _), kit_ty (by decide +kernel), _, rfl, iteT ⟨_, rfl, _, rfl, rfl, ?_⟩⟩
    have : decide (V.str (S a) = V.str (S d)) = decide (a = d) := by
      by_cases e : a = d
      · subst e; simp
      · rw [decide_eq_false e, decide_eq_false fun q => e (S_inj (V.str.inj q))]
    rw [this]
    exact k
def sp_dcd : Sp := fun vs H Q _ => ∃ n : Int, vs = [.int n] ∧ n < 2 ^ 40 ∧ ∀ H', Same H H' → Q (.str (S (dcd n))) H'
/-- digits as ints -/
abbrev di (l : List Nat) : List Int := l.map fun d : Nat => (d : Int)
theorem mem_di {l : List Nat} : (0 : Int) ∈ di l ↔ 0 ∈ l := by
  simp [di]
theorem flat1 : ∀ l : List Nat, (l.map fun d => [96 + d]).flatten = l.map (96 + ·)
  | [] => rfl
  | a :: l => by simp only [List.map_cons, List.flatten_cons, flat1 l]; rfl
theorem ok_Ldecoded (T : Tx K mg) : FnOk P w K mg base CX0 1 T.f_Ldecoded T.fd_Ldecoded ["_law_number"] sp_dcd := by
  refine T.F_Ldecoded.ok sc_Ldecoded (fun vs H Q E h => ?_) (fun cdv A outer s H vs Q E hr h => ?_)
  · obtain ⟨_, rfl, _⟩ := h; rfl
  · obtain ⟨n, rfl, hn, k⟩ := h
    refine ⟨_, (pss_cons (ps_set (i := 1) sc_Ldecoded.nd rfl (.inl rfl) (pe_lst pa_nil))
      (pss_cons (ps_set (i := 2) sc_Ldecoded.nd rfl (.inl rfl) (pv 0))
      (pss_cons (ps_for PassesOwn.never rfl (pi_range1 rfl T.b_range (pa_cons pe_int pa_nil)) (pg_name (i := 3) sc_Ldecoded.nd rfl (.inl rfl))
        (pss_one (ps_if (pt_cmpR op_gt (pv 2) pe_int (nomark _))
          (pss_cons (ps_expr (pe_bm PySem.F.plainAttrs_list PySem.F.slot_list_insert PySem.F.type_list_insert mt_insert (pv 1) (pa_cons pe_int (pa_cons (pe_op op_mod (pe_callTy call_int1 rfl T.b_int (by decide +kernel) (pa_cons (pv 2) pa_nil)) pe_int) pa_nil))))
          (pss_one (ps_set (i := 2) sc_Ldecoded.nd rfl (.inl rfl) (pe_op op_fdiv (pv 2) pe_int))))
          pss_nil)))
      (pss_cons (ps_if (PW.pt (pw_or (pt_cmpR op_gt (pv 2) pe_int (nomark _)) (pw_or (pt_cmpR op_lt (pe_callB call_len_seq rfl T.b_len (by decide +kernel) (pa_cons (pv 1) pa_nil)) pe_int (nomark _)) (pw_or (pt_cmpR op_gt (pe_callB call_len_seq rfl T.b_len (by decide +kernel) (pa_cons (pv 1) pa_nil)) pe_int (nomark _)) (pw_or1 (pt_cmpR op_in_seq pe_int (pv 1) rfl))))))
        (pss_one (ps_ret pe_str))
        pss_nil)
      (pss_one (ps_ret (pe_join pe_str (pe_lc rfl (own := [("_law_digit", 4)]) (g := gName 4) (tt := tYes) sc_Ldecoded.nd (pi_list (pv 1)) (blkOk_by (N := ["_law_number", "_law_digits", "_law_rest", "_law_k", "_law_digit"]) (sc := defScope s_Ldecoded) (by decide +kernel)) (fun _ _ _ _ _ => pg_name (i := 4) sc_Ldecoded.nd rfl (Or.inl rfl)) (fun _ _ _ _ _ => pts_nil) (fun _ _ _ _ _ => (pe_ix ix_str pe_str (pe_op op_sub (pv 4) pe_int) (fun _ _ => rfl))))))))))), ?_⟩
    refine ⟨Nat.zero_le _, fun p np => ?_⟩
    refine ⟨_, rfl, 12, rfl, by decide, by decide, for_range (n := 12) (fun i σ H2 => ∃ (r : Int) (ds : List Nat) (v3 : Option V), σ = [some (.int n), some (.ref p), some (.int r), v3, none] ∧ H2 = upd H p (.lst ((di ds).map V.int)) ∧ Dg n.toNat = Dg r.toNat ++ ds ∧ r.toNat < 27 ^ (12 - i) ∧ ds.length ≤ i)
      ⟨n, [], none, rfl, rfl, by simp, by have : (2 : Int) ^ 40 < 27 ^ 12 := by decide
                                          have : ((27 ^ 12 : Nat) : Int) = 27 ^ 12 := by decide
                                          show n.toNat < 27 ^ 12
                                          omega, Nat.le_refl _⟩ ?_ ?_⟩
    · rintro i σ H2 hi ⟨r, ds, v3, rfl, rfl, e1, e2, e3⟩
      refine ⟨_, rfl, _, _, rfl, rfl, _, rfl, ite2 (fun h3 => ?_) fun h3 => ?_⟩
      · have h3 : 0 < r := of_decide_eq_true h3
        have er : ((r.toNat : Nat) : Int) = r := by omega
        have hp := upd_same (H := H) (a := p) (o := .lst ((di ds).map V.int))
        refine ⟨_, rfl, .inl ⟨rfl, _, .inl (.inl hp)⟩, _, rfl, .inl ⟨r, rfl, ?_⟩⟩
        refine ⟨_, _, rfl, rfl, (by show (0 : Int) < 27; decide), p, _, 0, .int (r % 27), rfl, rfl, hp, ?_, by decide, by decide, ?_⟩
        · rw [List.length_map, List.length_map]
          exact Nat.lt_of_le_of_lt (show ds.length ≤ 12 by omega) (by decide)
        · refine ⟨_, rfl, _, _, rfl, rfl, ⟨by decide, by decide⟩, ?_⟩
          have hd := Dg_pos (m := r.toNat) (by omega)
          refine ⟨r / 27, (r.toNat % 27) :: ds, _, rfl, ?_, ?_, ?_, ?_⟩
          · rw [upd_upd]
            show upd H p (.lst ([V.int (r % 27)] ++ (di ds).map V.int)) = _
            rw [show r % 27 = ((r.toNat % 27 : Nat) : Int) by omega]
            rfl
          · rw [e1, hd, show (r / 27).toNat = r.toNat / 27 by omega]
            simp
          · have : 27 ^ (12 - i) = 27 ^ (12 - (i + 1)) * 27 := by
              rw [show 12 - i = (12 - (i + 1)) + 1 by omega, Nat.pow_succ]
            rw [this] at e2
            rw [show (r / 27).toNat = r.toNat / 27 by omega]
            omega
          · simp only [List.length_cons]
            omega
      · have h3 : ¬ 0 < r := fun z => h3 (decide_eq_true z)
        refine ⟨r, ds, _, rfl, rfl, e1, ?_, by omega⟩
        rw [show r.toNat = 0 by omega]
        exact Nat.pow_pos (by decide)
    · rintro σ H2 ⟨r, ds, v3, rfl, rfl, e1, e2, e3⟩
      have er : r.toNat = 0 := by
        have : 27 ^ (12 - 12) = 1 := rfl
        omega
      rw [er, Dg_zero, List.nil_append] at e1
      have hp := upd_same (H := H) (a := p) (o := .lst ((di ds).map V.int))
      have S0 : Same H (upd H p (.lst ((di ds).map V.int))) := same_upd np
      generalize upd H p (.lst ((di ds).map V.int)) = H1 at hp S0 ⊢
      have k : ∀ H', Same H H' → Q (.str (S (if ds.length < 1 ∨ 4 < ds.length ∨ 0 ∈ ds then [63] else ds.map (96 + ·)))) H' := by
        unfold dcd at k
        rw [e1] at k
        exact k
      have len : ((((di ds).map V.int).length : Nat) : Int) = ds.length := by simp
      refine ⟨_, rfl, _, _, rfl, rfl, _, rfl, ite2 (fun z => ?_) fun _ => ?_⟩
      · have := of_decide_eq_true z
        omega
      refine ⟨_, rfl, p, _, rfl, .inl (.of hp), _, _, rfl, rfl, _, rfl, ?_⟩
      rw [len]
      refine ite2 (fun z => ?_) fun z1 => ?_
      · have z := of_decide_eq_true z
        have := k H1 S0
        rw [if_pos (.inl (by omega))] at this
        exact this
      refine ⟨_, rfl, p, _, rfl, .inl (.of hp), _, _, rfl, rfl, _, rfl, ?_⟩
      rw [len]
      refine ite2 (fun z => ?_) fun z2 => ?_
      · have z := of_decide_eq_true z
        have := k H1 S0
        rw [if_pos (.inr (.inl (by omega)))] at this
        exact this
      refine ⟨_, rfl, p, _, rfl, .inl (.of hp), rfl, flat_ints _, _, rfl, ?_⟩
      rw [inV_int]
      refine ite2 (fun z => ?_) fun z3 => ?_
      · have z := mem_di.mp (of_decide_eq_true z)
        have := k H1 S0
        rw [if_pos (.inr (.inr z))] at this
        exact this
      have z1 : ¬ ds.length < 1 := fun q => z1 (decide_eq_true (by omega))
      have z2 : ¬ 4 < ds.length := fun q => z2 (decide_eq_true (by omega))
      have z3 : 0 ∉ ds := fun q => z3 (decide_eq_true (mem_di.mpr q))
      rw [if_neg (by rintro (q | q | q) <;> contradiction)] at k
      have dlt : ∀ d ∈ ds, 1 ≤ d ∧ d < 27 := fun d hd => ⟨by
        rcases Nat.eq_zero_or_pos d with q | q
        · rw [q] at hd; exact absurd hd z3
        · exact q, Dg_lt d (by rw [e1]; exact hd)⟩
      refine ⟨⟨_, rfl⟩, _, rfl, p, rfl, ⟨_, .of hp⟩, fun D hD => ?_⟩
      refine lc_list (K := K) (a := p) (xs := (di ds).map V.int) (fun i H2 => Same H1 H2 ∧ H2 D = some (.lst (((ds.take i).map fun d => S [96 + d]).map V.str))) ⟨same_upd hD, upd_same⟩ (fun i H2 _ ⟨S2, _⟩ => .of (S2 _ _ hp)) ?_ ?_
      · rintro i y H2 hi ⟨S2, eD⟩
        rw [List.getElem?_map, List.getElem?_map] at hi
        obtain ⟨x, hx, rfl⟩ := Option.map_eq_some_iff.mp hi
        obtain ⟨d, hd, rfl⟩ := Option.map_eq_some_iff.mp hx
        have hb := dlt d (List.mem_of_getElem? hd)
        refine ⟨rfl, yes_ ⟨_, rfl, _, _, rfl, rfl, _, _, 96 + d, rfl, rfl, by decide, ?_, ?_⟩⟩
        · rw [let_eq]
          exact atN (j := d - 1) (by show ((d : Int) - 1) = _; omega) (let_at hb.1 hb.2)
        · refine ⟨_, eD, ?_, ?_, ?_⟩
          · rw [List.length_map, List.length_map]
            exact Nat.lt_of_le_of_lt (show (ds.take i).length ≤ 4 by rw [List.length_take]; omega) (by decide)
          · exact fun b o e => by
              rw [upd_ne (ne_of_none e hD)]
              exact S2 b o e
          · rw [upd_same, take_snoc hd, List.map_append, List.map_append]
            rfl
      · rintro H2 ⟨S2, eD⟩
        rw [List.take_of_length_le (by simp)] at eD
        refine ⟨_, D, ds.map (fun d => S [96 + d]), rfl, rfl, .inl (.of eD), ?_, ?_⟩
        · have h1 : ∀ l : List Nat, ((l.map fun d => S [96 + d]).map (·.length)).sum = l.length := by
            intro l
            induction l with
            | nil => rfl
            | cons a l ih => simp only [List.map_cons, List.sum_cons, ih, List.length_cons, S_len, List.length_nil]; omega
          rw [h1]
          show ds.length + (ds.map fun d => S [96 + d]).length * 0 ≤ _
          omega
        · have := k H2 (S0.trans S2)
          have e : Txt.join ("" : Str) (ds.map fun d => S [96 + d]) = S (ds.map (96 + ·)) := by
            have e0 : ds.map (fun d => S [96 + d]) = (ds.map fun d => [96 + d]).map S := by rw [List.map_map]; rfl
            rw [e0, show ("" : Str) = S [] from by decide, join_S, joinL_nil, flat1]
          show Q (.str (Txt.join ("" : Str) (ds.map fun d => S [96 + d]))) H2
          rw [e]
          exact this
end
end K86
namespace K86
open PySem PySem.Spec PyProof.Rows L2 Rg SX
theorem cut_to (a : List Nat) (k : Nat) : cutS (S a) none (some (k : Int)) = S (a.take k) := by
  unfold cutS
  rw [HT.sIx_none, HT.sIx_nat, S_len]
  show S ((a.drop 0).take (min k a.length - 0)) = _
  congr 1
  rw [List.drop_zero, Nat.sub_zero]
  by_cases h : k ≤ a.length
  · rw [Nat.min_eq_left h]
  · rw [Nat.min_eq_right (by omega), List.take_of_length_le (Nat.le_refl _), List.take_of_length_le (by omega)]
theorem isP_bad {ps : List (List Nat)} {t : List Nat} (e : t = TL.joinL [47] ps) (hne : ps ≠ []) (h : ∀ p ∈ ps, 47 ∉ p) (hd : t ≠ [46]) (hb : ∃ p ∈ ps, ¬ Nm p) : isP t = false := by
  rw [e] at hd ⊢
  rw [isP_join hne h, decide_eq_false hd, Bool.false_or]
  obtain ⟨p, hp, hn⟩ := hb
  have : ps.all isN = false := by
    rw [List.all_eq_false]
    exact ⟨p, hp, by rw [not_isN hn]; simp⟩
  rw [this, Bool.and_false]
theorem isP_good {ps : List (List Nat)} {t : List Nat} (e : t = TL.joinL [47] ps) (hne : ps ≠ []) (h : ∀ p ∈ ps, Nm p) (hl : ps.length ≤ 8) : isP t = true := by
  rw [e, isP_join hne fun p hp => (h p hp).free]
  have : ps.all isN = true := List.all_eq_true.mpr fun p hp => (h p hp).isN
  rw [this, decide_eq_true hl]
  simp
theorem isP_long {ps : List (List Nat)} {t : List Nat} (e : t = TL.joinL [47] ps) (h : ∀ p ∈ ps, Nm p) (hl : 8 < ps.length) : isP t = false := by
  have hne : ps ≠ [] := fun z => by rw [z] at hl; simp at hl
  rw [e, isP_join hne fun p hp => (h p hp).free]
  have hd : TL.joinL [47] ps ≠ [46] := by
    match ps, hl with
    | p :: q :: r, _ =>
      intro z
      have : (47 : Nat) ∈ TL.joinL [47] (p :: q :: r) := by simp [TL.joinL]
      rw [z] at this
      simp at this
  rw [decide_eq_false hd, decide_eq_false (by omega)]
  rfl
def long (a b : List Nat) : List Nat := (a ++ b ++ [97, 98, 99, 100, 101]).take 5
theorem long_len {a b : List Nat} : (long a b).length = 5 := by
  unfold long
  rw [List.length_take]
  simp
  omega
theorem long_let {a b : List Nat} (ha : Nm a) (hb : Nm b) : ∀ c ∈ long a b, 97 ≤ c ∧ c ≤ 122 := fun c hc => by
  have := List.mem_of_mem_take hc
  rcases List.mem_append.mp this with z | z
  · rcases List.mem_append.mp z with z | z
    · exact ha.lt c z
    · exact hb.lt c z
  · simp at z
    omega
/-- the six bad names, the six bad paths -/
def badN (a b : List Nat) : List (List Nat) := [[], long a b, a.take 3 ++ [65], a.take 3 ++ [49], a.take 2 ++ [32], [a.headD 0] ++ [46] ++ [b.headD 0]]
def badP (a b : List Nat) : List (List Nat) := [[], [47] ++ (a ++ [47] ++ b), a ++ [47, 47] ++ b, a ++ [47] ++ b ++ [47], a ++ [47] ++ b ++ [47, 46], b ++ [47] ++ long a b]
theorem badN_all {a b : List Nat} : ∀ t ∈ badN a b, isN t = false := by
  intro t ht
  refine not_isN fun n => ?_
  simp only [badN, List.mem_cons, List.not_mem_nil, or_false] at ht
  rcases ht with rfl | rfl | rfl | rfl | rfl | rfl
  · have := n.lo; simp at this
  · have := n.hi; rw [long_len] at this; omega
  · have := n.lt 65 (by simp); omega
  · have := n.lt 49 (by simp); omega
  · have := n.lt 32 (by simp); omega
  · have := n.lt 46 (by simp); omega
theorem len_ne {t : List Nat} (h : 2 ≤ t.length) : t ≠ [46] := fun z => by rw [z] at h; simp at h
theorem badP_all {a b : List Nat} (ha : Nm a) (hb : Nm b) : ∀ t ∈ badP a b, isP t = false := by
  intro t ht
  have n0 : ¬ Nm [] := fun n => by have := n.lo; simp at this
  have n46 : ¬ Nm [46] := fun n => by have := n.lt 46 (by simp); omega
  have fa := ha.free
  have fb := hb.free
  have la := ha.lo
  have lb := hb.lo
  simp only [badP, List.mem_cons, List.not_mem_nil, or_false] at ht
  rcases ht with rfl | rfl | rfl | rfl | rfl | rfl
  · exact isP_bad (ps := [[]]) rfl (by simp) (by simp) (by simp) ⟨[], by simp, n0⟩
  · exact isP_bad (ps := [[], a, b]) (by simp [TL.joinL]) (by simp) (by simp [fa, fb]) (len_ne (by simp; omega)) ⟨[], by simp, n0⟩
  · exact isP_bad (ps := [a, [], b]) (by simp [TL.joinL]) (by simp) (by simp [fa, fb]) (len_ne (by simp; omega)) ⟨[], by simp, n0⟩
  · exact isP_bad (ps := [a, b, []]) (by simp [TL.joinL]) (by simp) (by simp [fa, fb]) (len_ne (by simp; omega)) ⟨[], by simp, n0⟩
  · exact isP_bad (ps := [a, b, [46]]) (by simp [TL.joinL]) (by simp) (by simp [fa, fb]) (len_ne (by simp; omega)) ⟨[46], by simp, n46⟩
  · refine isP_bad (ps := [b, long a b]) (by simp [TL.joinL]) (by simp) ?_ (len_ne (by simp only [List.length_append, long_len]; omega)) ⟨long a b, by simp, fun n => by have := n.hi; rw [long_len] at this; omega⟩
    intro p hp
    simp only [List.mem_cons, List.not_mem_nil, or_false] at hp
    rcases hp with rfl | rfl
    · exact fb
    · exact fun z => by have := long_let ha hb 47 z; omega
theorem len_N {a b : List Nat} (ha : Nm a) (hb : Nm b) : ∀ t ∈ badN a b, t.length ≤ 1000 := by
  intro t ht
  simp only [badN, List.mem_cons, List.not_mem_nil, or_false] at ht
  rcases ht with rfl | rfl | rfl | rfl | rfl | rfl <;> simp [long_len] <;> try omega
theorem len_P {a b : List Nat} (ha : Nm a) (hb : Nm b) : ∀ t ∈ badP a b, t.length ≤ 1000 := by
  intro t ht
  have := ha.hi
  have := hb.hi
  simp only [badP, List.mem_cons, List.not_mem_nil, or_false] at ht
  rcases ht with rfl | rfl | rfl | rfl | rfl | rfl <;> simp [long_len] <;> try omega
end K86
namespace K86
open PySem PySem.Spec PyProof.Rows L2 Rg SX
section
variable {P : Program} {w : World} {K : PySem.W.Frag} {mg : Str → Option Value} {base : Heap}
def sp_Lname : Sp := fun vs H Q _ => ∃ (p : Addr) (fs : List Int), vs = [.ref p] ∧ H p = some (.lst (fs.map V.int)) ∧
  ∀ (l : List Nat) (fs' : List Int), Nm l → fs'.length ≤ fs.length → Q (.str (S l)) (upd H p (.lst (fs'.map V.int)))
theorem ok_Lname (T : Tx K mg) : FnOk P w K mg base CX0 2 T.f_Lname T.fd_Lname ["_law_feed_here"] sp_Lname := by
  refine T.F_Lname.ok sc_Lname (fun vs H Q E h => ?_) (fun cdv A outer s H vs Q E hr h => ?_)
  · obtain ⟨_, _, rfl, _⟩ := h; rfl
  · obtain ⟨p, fs, rfl, hp, k⟩ := h
    refine ⟨_, (pss_cons (ps_set (i := 1) sc_Lname.nd rfl (.inl rfl) pe_str)
      (pss_cons (ps_set (i := 2) sc_Lname.nd rfl (.inl rfl) pe_str)
      (pss_cons (ps_for PassesOwn.never rfl (pi_range1 rfl T.b_range (pa_cons (pe_op op_add pe_int (pe_call (ok_Lpick T) hr rfl T.mg_Lpick T.F_Lpick.kp (b_Lpick T) .nil pass0 (pa_cons (pv 0) (pa_cons pe_int pa_nil)))) pa_nil)) (pg_name (i := 3) sc_Lname.nd rfl (.inl rfl))
        (pss_one (ps_set (i := 2) sc_Lname.nd rfl (.inl rfl) (pe_op op_add_str (pv 2) (pe_ix ix_str (pv 1) (pe_call (ok_Lpick T) hr rfl T.mg_Lpick T.F_Lpick.kp (b_Lpick T) .nil pass0 (pa_cons (pv 0) (pa_cons pe_int pa_nil))) (fun _ _ => rfl))))))
      (pss_one (ps_ret (pv 2)))))), ?_⟩
    refine ⟨_, rfl, p, fs, 4, rfl, hp, by decide, fun r fs' h0 h4 hf => ⟨_, _, rfl, rfl, 1 + r, rfl, by omega, by omega, ?_⟩⟩
    refine for_range (lo := 0) (n := (1 + r).toNat) (fun i σ H2 => ∃ (l : List Nat) (gs : List Int) (v3 : Option V), σ = [some (.ref p), some (.str "abcdefghijklmnopqrstuvwxyz"), some (.str (S l)), v3] ∧ H2 = upd H p (.lst (gs.map V.int)) ∧ l.length = i ∧ (∀ c ∈ l, 97 ≤ c ∧ c ≤ 122) ∧ gs.length ≤ fs.length)
      ⟨[], fs', none, rfl, rfl, rfl, by simp, hf⟩ ?_ ?_
    · rintro i σ H2 hi ⟨l, gs, v3, rfl, rfl, hl, hc, hg⟩
      refine ⟨_, rfl, _, rfl, _, rfl, p, gs, 26, rfl, upd_same, by decide, fun d gs' hd0 hd26 hgs => ?_⟩
      have hlt : d.toNat < 26 := by omega
      refine ⟨_, d, 97 + d.toNat, rfl, rfl, by decide, ?_, ?_⟩
      · rw [let_eq]
        refine atN (j := d.toNat) (by omega) ?_
        unfold LET
        rw [List.getElem?_map, List.getElem?_range hlt]
        rfl
      · refine ⟨_, _, rfl, rfl, by rw [S_len, hl]; exact Nat.le_trans (Nat.add_le_add_right (show i ≤ 4 by omega) _) (show 4 + 1 ≤ sizeLine by decide), ?_⟩
        refine ⟨l ++ [97 + d.toNat], gs', some (.int (0 + (i : Int))), ?_, upd_upd, by simp [hl], ?_, Nat.le_trans hgs hg⟩
        · show [_, _, some (V.str (S l ++ S [97 + d.toNat])), _] = _
          rw [S_cat]
        · intro c hcc
          rcases List.mem_append.mp hcc with z | z
          · exact hc c z
          · have : c = 97 + d.toNat := by simpa using z
            omega
    · rintro σ H2 ⟨l, gs, v3, rfl, rfl, hl, hc, hg⟩
      exact ⟨_, rfl, k l gs ⟨by omega, by omega, hc⟩ hg⟩
/-! ### the good names, the bad ones -/
def sp_Lnames_good (Ps : List Addr) : Sp := fun vs H Q _ => ∃ (q : Addr) (ls : List (List Nat)), vs = [.ref q] ∧ H q = some (.lst ((ls.map S).map V.str)) ∧ (∀ l ∈ ls, Nm l) ∧ Tab Ps H ∧ ∀ H', Tk Ps H H' → Q (.bl true) H'
theorem ok_Lnames_good (T : Tx K mg) (B : TBs T base) : FnOk P w K mg base CX0 9 T.f_Lnames_good T.fd_Lnames_good ["_law_names"] (sp_Lnames_good T.Ps) := by
  refine T.F_Lnames_good.ok sc_Lnames_good (fun vs H Q E h => ?_) (fun cdv A outer s H vs Q E hr h => ?_)
  · obtain ⟨_, _, rfl, _⟩ := h; rfl
  · obtain ⟨q, ls, rfl, hq, hl, ht, k⟩ := h
    have hr1 := hr.mono (show 1 ≤ 8 by decide)
    have hr4 := hr.mono (show 4 ≤ 8 by decide)
    refine ⟨_, (pss_cons (ps_for PassesOwn.never rfl (pi_list (pv 0)) (pg_name (i := 1) sc_Lnames_good.nd rfl (.inl rfl))
        (pss_cons (ps_if (PW.pt (pw_or (pt_cmpR op_notV (pe_call (ok_is_name T B) hr4 rfl T.mg_is_name T.F_is_name.kp (b_is_name T) .nil pass0 (pa_cons (pv 1) pa_nil)) pe_bl (nomark _)) (pw_or1 (pt_not (pt_val (pe_call (ok_Linteger T) hr1 rfl T.mg_Linteger T.F_Linteger.kp (b_Linteger T) .nil pass0 (pa_cons (pe_call (ok_name_code T) hr1 rfl T.mg_name_code T.F_name_code.kp (b_name_code T) .nil pass0 (pa_cons (pv 1) pa_nil)) (pa_cons (pe_call (ok_Lcode T) hr1 rfl T.mg_Lcode T.F_Lcode.kp (b_Lcode T) .nil pass0 (pa_cons (pv 1) pa_nil)) pa_nil))))))))
          (pss_one (ps_ret pe_bl))
          pss_nil)
        (pss_one (ps_if (PW.pt (pw_or (pt_not (pt_val (pe_call (ok_Ltext T) hr1 rfl T.mg_Ltext T.F_Ltext.kp (b_Ltext T) .nil pass0 (pa_cons (pe_call (ok_code_name T) hr1 rfl T.mg_code_name T.F_code_name.kp (b_code_name T) .nil pass0 (pa_cons (pe_call (ok_name_code T) hr1 rfl T.mg_name_code T.F_name_code.kp (b_name_code T) .nil pass0 (pa_cons (pv 1) pa_nil)) pa_nil)) (pa_cons (pv 1) pa_nil))))) (pw_or1 (pt_cmpR op_notV (pe_call (ok_is_path T B) hr rfl T.mg_is_path T.F_is_path.kp (b_is_path T) .nil pass0 (pa_cons (pv 1) pa_nil)) pe_bl (nomark _)))))
          (pss_one (ps_ret pe_bl))
          pss_nil))))
      (pss_one (ps_ret pe_bl))), ?_⟩
    refine ⟨.ref q, rfl, q, rfl, ⟨_, .of hq⟩, for_list (K := K) (a := q) (xs := (ls.map S).map V.str) (fun i σ H2 => ∃ v1 : Option V, σ = [some (.ref q), v1] ∧ Tk T.Ps H H2) ⟨none, rfl, .refl ht⟩ (fun i σ H2 _ ⟨_, _, kk⟩ => .of (kk.at ht hq)) ?_ ?_⟩
    · rintro i y σ H2 hi ⟨v1, rfl, kk⟩
      rw [List.map_map, List.getElem?_map] at hi
      obtain ⟨l, hli, rfl⟩ := Option.map_eq_some_iff.mp hi
      have hn := hl l (List.mem_of_getElem? hli)
      have hz : l.length ≤ 1000 := Nat.le_trans hn.hi (by decide)
      have hc := ncode_lt hn
      refine ⟨_, rfl, l, rfl, hz, kk.tab, fun H3 k3 => ⟨_, _, rfl, rfl, _, rfl, ?_⟩⟩
      rw [hn.isN]
      refine iteF ⟨_, rfl, l, rfl, hn, _, rfl, l, rfl, hn, _, _, rfl, _, rfl, ?_⟩
      rw [decide_eq_true rfl]
      refine iteF ⟨_, rfl, l, rfl, hn, _, rfl, by omega, _, rfl, _, _, rfl, ?_⟩
      rw [cname_code hn, decide_eq_true rfl]
      refine ⟨_, rfl, iteF ⟨_, rfl, l, rfl, hz, k3.tab, fun H4 k4 => ⟨_, _, rfl, rfl, _, rfl, ?_⟩⟩⟩
      rw [isP_good (ps := [l]) (t := l) rfl (by simp) (by simpa using hn) (by simp)]
      exact iteF ⟨_, rfl, kk.trans (k3.trans k4)⟩
    · rintro σ H2 ⟨v1, rfl, kk⟩
      exact k H2 kk
def sp_Lbad_good (Ps : List Addr) : Sp := fun vs H Q _ => ∃ a b : List Nat, vs = [.str (S a), .str (S b)] ∧ Nm a ∧ Nm b ∧ Tab Ps H ∧ ∀ H', Tk Ps H H' → Q (.bl true) H'
theorem ok_Lbad_good (T : Tx K mg) (B : TBs T base) : FnOk P w K mg base CX0 9 T.f_Lbad_good T.fd_Lbad_good ["_law_name_here", "_law_other"] (sp_Lbad_good T.Ps) := by
  refine T.F_Lbad_good.ok sc_Lbad_good (fun vs H Q E h => ?_) (fun cdv A outer s H vs Q E hr h => ?_)
  · obtain ⟨_, _, rfl, _⟩ := h; rfl
  · obtain ⟨a, b, rfl, ha, hb, ht, k⟩ := h
    have hr4 := hr.mono (show 4 ≤ 8 by decide)
    refine ⟨_, (pss_cons (ps_set (i := 2) sc_Lbad_good.nd rfl (.inl rfl) (pe_slice sl_str (pe_op op_add_str (pe_op op_add_str (pv 0) (pv 1)) pe_str) po_none (po_some pe_int)))
      (pss_cons (ps_for PassesOwn.never rfl (pi_list (pe_lst (pa_cons pe_str (pa_cons (pv 2) (pa_cons (pe_op op_add_str (pe_slice sl_str (pv 0) po_none (po_some pe_int)) pe_str) (pa_cons (pe_op op_add_str (pe_slice sl_str (pv 0) po_none (po_some pe_int)) pe_str) (pa_cons (pe_op op_add_str (pe_slice sl_str (pv 0) po_none (po_some pe_int)) pe_str) (pa_cons (pe_op op_add_str (pe_op op_add_str (pe_ix ix_str (pv 0) pe_int (fun _ _ => rfl)) pe_str) (pe_ix ix_str (pv 1) pe_int (fun _ _ => rfl))) pa_nil)))))))) (pg_name (i := 3) sc_Lbad_good.nd rfl (.inl rfl))
        (pss_one (ps_if (pt_cmpR op_notV (pe_call (ok_is_name T B) hr4 rfl T.mg_is_name T.F_is_name.kp (b_is_name T) .nil pass0 (pa_cons (pv 3) pa_nil)) pe_bl (nomark _))
          (pss_one (ps_ret pe_bl))
          pss_nil)))
      (pss_cons (ps_set (i := 4) sc_Lbad_good.nd rfl (.inl rfl) (pe_op op_add_str (pe_op op_add_str (pv 0) pe_str) (pv 1)))
      (pss_cons (ps_for PassesOwn.never rfl (pi_list (pe_lst (pa_cons pe_str (pa_cons (pe_op op_add_str pe_str (pv 4)) (pa_cons (pe_op op_add_str (pe_op op_add_str (pv 0) pe_str) (pv 1)) (pa_cons (pe_op op_add_str (pv 4) pe_str) (pa_cons (pe_op op_add_str (pv 4) pe_str) (pa_cons (pe_op op_add_str (pe_op op_add_str (pv 1) pe_str) (pv 2)) pa_nil)))))))) (pg_name (i := 3) sc_Lbad_good.nd rfl (.inl rfl))
        (pss_one (ps_if (pt_cmpR op_notV (pe_call (ok_is_path T B) hr rfl T.mg_is_path T.F_is_path.kp (b_is_path T) .nil pass0 (pa_cons (pv 3) pa_nil)) pe_bl (nomark _))
          (pss_one (ps_ret pe_bl))
          pss_nil)))
      (pss_one (ps_ret pe_bl)))))), ?_⟩
    have la := ha.hi
    have lb := hb.hi
    have lz : ∀ {n : Nat}, n ≤ 1000 → n ≤ sizeLine := fun h => Nat.le_trans h (by decide)
    have e5 : ("abcde" : Str) = S [97, 98, 99, 100, 101] := by decide
    have eA : S a ++ S b ++ ("abcde" : Str) = S (a ++ b ++ [97, 98, 99, 100, 101]) := by rw [e5, S_cat, S_cat]
    have eL : cutS (S a ++ S b ++ ("abcde" : Str)) none (some 5) = S (long a b) := by
      rw [eA]
      exact cut_to _ 5
    have c3 : cutS (S a) none (some 3) = S (a.take 3) := cut_to a 3
    have c2 : cutS (S a) none (some 2) = S (a.take 2) := cut_to a 2
    have t3 : (a.take 3).length ≤ 3 := by rw [List.length_take]; omega
    have t2 : (a.take 2).length ≤ 3 := by rw [List.length_take]; omega
    have hA : a[0]? = some (a.headD 0) := by
      have := ha.lo
      match a, this with
      | x :: r, _ => rfl
    have hB : b[0]? = some (b.headD 0) := by
      have := hb.lo
      match b, this with
      | x :: r, _ => rfl
    refine ⟨_, rfl, _, rfl, _, _, rfl, rfl, lz (by rw [S_len, S_len]; omega), _, _, rfl, rfl, lz ?_, 5, rfl, _, rfl, lz ?_, ?_⟩
    · rw [S_cat, S_len, List.length_append]
      show a.length + b.length + 5 ≤ 1000
      omega
    · rw [eA, S_len]
      simp only [List.length_append, List.length_cons, List.length_nil]
      omega
    refine ⟨_, rfl, _, rfl, _, rfl, _, rfl, lz (by rw [S_len]; omega), _, _, rfl, rfl, ?_, ?_⟩
    · rw [c3, S_len]
      exact lz (show _ + 1 ≤ 1000 by omega)
    refine ⟨_, rfl, _, rfl, _, rfl, lz (by rw [S_len]; omega), _, _, rfl, rfl, ?_, ?_⟩
    · rw [c3, S_len]
      exact lz (show _ + 1 ≤ 1000 by omega)
    refine ⟨_, rfl, _, rfl, _, rfl, lz (by rw [S_len]; omega), _, _, rfl, rfl, ?_, ?_⟩
    · rw [c2, S_len]
      exact lz (show _ + 1 ≤ 1000 by omega)
    refine ⟨_, rfl, _, _, a.headD 0, rfl, rfl, lz (by rw [S_len]; omega), atN (j := 0) rfl hA, _, _, rfl, rfl, by show 1 + 1 ≤ sizeLine; decide, ?_⟩
    refine ⟨_, rfl, _, _, b.headD 0, rfl, rfl, lz (by rw [S_len]; omega), atN (j := 0) rfl hB, _, _, rfl, rfl, by show 2 + 1 ≤ sizeLine; decide, ?_⟩
    refine ⟨by show 6 ≤ sizeLine; decide, fun p np => ?_⟩
    rw [eL, c3, c2]
    have eN : [V.str ("" : Str), V.str (S (long a b)), V.str (S (a.take 3) ++ ("A" : Str)), V.str (S (a.take 3) ++ ("1" : Str)), V.str (S (a.take 2) ++ (" " : Str)), V.str (S [a.headD 0] ++ ("." : Str) ++ S [b.headD 0])] = ((badN a b).map S).map V.str := by
      rw [show ("A" : Str) = S [65] by decide, show ("1" : Str) = S [49] by decide, show (" " : Str) = S [32] by decide, show ("." : Str) = S [46] by decide, show ("" : Str) = S [] by decide, S_cat, S_cat, S_cat, S_cat, S_cat]
      rfl
    have p1 : upd H p (.lst [V.str ("" : Str), V.str (S (long a b)), V.str (S (a.take 3) ++ ("A" : Str)), V.str (S (a.take 3) ++ ("1" : Str)), V.str (S (a.take 2) ++ (" " : Str)), V.str (S [a.headD 0] ++ ("." : Str) ++ S [b.headD 0])]) p = some (.lst (((badN a b).map S).map V.str)) := by rw [upd_same, eN]
    have t1 : Tk T.Ps H (upd H p (.lst [V.str ("" : Str), V.str (S (long a b)), V.str (S (a.take 3) ++ ("A" : Str)), V.str (S (a.take 3) ++ ("1" : Str)), V.str (S (a.take 2) ++ (" " : Str)), V.str (S [a.headD 0] ++ ("." : Str) ++ S [b.headD 0])])) := (Tk.refl ht).new np
    refine ⟨p, rfl, ⟨_, .of p1⟩, for_list (K := K) (a := p) (xs := ((badN a b).map S).map V.str) (fun i σ H2 => ∃ v3 : Option V, σ = [some (.str (S a)), some (.str (S b)), some (.str (S (long a b))), v3, none] ∧ Tk T.Ps H H2 ∧ H2 p = some (.lst (((badN a b).map S).map V.str))) ⟨none, rfl, t1, p1⟩ (fun i σ H2 _ ⟨_, _, _, e⟩ => .of e) ?_ ?_⟩
    · rintro i y σ H2 hi ⟨v3, rfl, kk, ep⟩
      rw [List.map_map, List.getElem?_map] at hi
      obtain ⟨t, hti, rfl⟩ := Option.map_eq_some_iff.mp hi
      have hm := List.mem_of_getElem? hti
      refine ⟨_, rfl, t, rfl, len_N ha hb t hm, kk.tab, fun H3 k3 => ⟨_, _, rfl, rfl, _, rfl, ?_⟩⟩
      rw [badN_all t hm]
      exact iteF ⟨_, rfl, kk.trans k3, k3.at kk.tab ep⟩
    rintro σ H2 ⟨v3, rfl, kk, ep⟩
    have eG : S a ++ ("/" : Str) ++ S b = S (a ++ [47] ++ b) := by rw [show ("/" : Str) = S [47] by decide, S_cat, S_cat]
    refine ⟨_, rfl, _, _, rfl, rfl, by rw [S_len]; exact lz (show _ + 1 ≤ 1000 by omega), _, rfl, _, _, rfl, rfl, ?_, ?_⟩
    · rw [show ("/" : Str) = S [47] by decide, S_cat, S_len, S_len, List.length_append]
      exact lz (show a.length + 1 + b.length ≤ 1000 by omega)
    rw [eG]
    have s1 : ("/" : Str) = S [47] := by decide
    have s2 : ("//" : Str) = S [47, 47] := by decide
    have s3 : ("/." : Str) = S [47, 46] := by decide
    have lG : (a ++ [47] ++ b).length ≤ 9 := by simp only [List.length_append, List.length_cons, List.length_nil]; omega
    have lL : (long a b).length = 5 := long_len
    refine ⟨_, rfl, _, _, rfl, rfl, by rw [s1, S_len, S_len]; exact lz (show 1 + _ ≤ 1000 by omega), ?_⟩
    refine ⟨_, rfl, _, _, rfl, rfl, by rw [s2, S_len, S_len]; exact lz (show _ + 2 ≤ 1000 by omega), _, rfl, _, _, rfl, rfl, by rw [s2, S_cat, S_len, S_len, List.length_append]; exact lz (show a.length + 2 + b.length ≤ 1000 by omega), ?_⟩
    refine ⟨_, rfl, _, _, rfl, rfl, by rw [s1, S_len, S_len]; exact lz (show _ + 1 ≤ 1000 by omega), ?_⟩
    refine ⟨_, rfl, _, _, rfl, rfl, by rw [s3, S_len, S_len]; exact lz (show _ + 2 ≤ 1000 by omega), ?_⟩
    refine ⟨_, rfl, _, _, rfl, rfl, by rw [s1, S_len, S_len]; exact lz (show _ + 1 ≤ 1000 by omega), _, rfl, _, _, rfl, rfl, by rw [s1, S_cat, S_len, S_len, List.length_append]; exact lz (show b.length + 1 + _ ≤ 1000 by omega), ?_⟩
    refine ⟨by show 6 ≤ sizeLine; decide, fun p2 np2 => ?_⟩
    have eP : [V.str ("" : Str), V.str (("/" : Str) ++ S (a ++ [47] ++ b)), V.str (S a ++ ("//" : Str) ++ S b), V.str (S (a ++ [47] ++ b) ++ ("/" : Str)), V.str (S (a ++ [47] ++ b) ++ ("/." : Str)), V.str (S b ++ ("/" : Str) ++ S (long a b))] = ((badP a b).map S).map V.str := by
      rw [s1, s2, s3, show ("" : Str) = S [] by decide, S_cat, S_cat, S_cat, S_cat, S_cat, S_cat, S_cat]
      rfl
    have p2e : upd H2 p2 (.lst [V.str ("" : Str), V.str (("/" : Str) ++ S (a ++ [47] ++ b)), V.str (S a ++ ("//" : Str) ++ S b), V.str (S (a ++ [47] ++ b) ++ ("/" : Str)), V.str (S (a ++ [47] ++ b) ++ ("/." : Str)), V.str (S b ++ ("/" : Str) ++ S (long a b))]) p2 = some (.lst (((badP a b).map S).map V.str)) := by rw [upd_same, eP]
    have t2 : Tk T.Ps H (upd H2 p2 (.lst [V.str ("" : Str), V.str (("/" : Str) ++ S (a ++ [47] ++ b)), V.str (S a ++ ("//" : Str) ++ S b), V.str (S (a ++ [47] ++ b) ++ ("/" : Str)), V.str (S (a ++ [47] ++ b) ++ ("/." : Str)), V.str (S b ++ ("/" : Str) ++ S (long a b))])) := kk.new np2
    refine ⟨p2, rfl, ⟨_, .of p2e⟩, for_list (K := K) (a := p2) (xs := ((badP a b).map S).map V.str) (fun i σ H2 => ∃ v3 : Option V, σ = [some (.str (S a)), some (.str (S b)), some (.str (S (long a b))), v3, some (.str (S (a ++ [47] ++ b)))] ∧ Tk T.Ps H H2 ∧ H2 p2 = some (.lst (((badP a b).map S).map V.str))) ⟨v3, rfl, t2, p2e⟩ (fun i σ H2 _ ⟨_, _, _, e⟩ => .of e) ?_ ?_⟩
    · rintro i y σ H2 hi ⟨v3, rfl, kk, ep⟩
      rw [List.map_map, List.getElem?_map] at hi
      obtain ⟨t, hti, rfl⟩ := Option.map_eq_some_iff.mp hi
      have hm := List.mem_of_getElem? hti
      refine ⟨_, rfl, t, rfl, len_P ha hb t hm, kk.tab, fun H3 k3 => ⟨_, _, rfl, rfl, _, rfl, ?_⟩⟩
      rw [badP_all ha hb t hm]
      exact iteF ⟨_, rfl, kk.trans k3, k3.at kk.tab ep⟩
    rintro σ H2 ⟨v3, rfl, kk, ep⟩
    exact k H2 kk
end
end K86
namespace K86
open PySem PySem.Spec PyProof.Rows L2 Rg SX
def sp_law (K : PySem.W.Frag) (Ps : List Addr) : Sp := fun vs H Q _ => ∃ (a : Addr) (ns : List Int), vs = [.ref a] ∧ Tab Ps H ∧ SqL K H a (ns.map V.int) ∧ ns.length ≤ 63 ∧ ∀ H', Q (.bl true) H'
/-- the feed stands at p -/
def Fd (Ps : List Addr) (p : Addr) (H : Hp) : Prop := Tab Ps H ∧ ∃ fs : List Int, H p = some (.lst (fs.map V.int))
theorem Fd.tk {Ps : List Addr} {p : Addr} {H H1 : Hp} (f : Fd Ps p H) (k : Tk Ps H H1) : Fd Ps p H1 := ⟨k.tab, let ⟨fs, e⟩ := f.2; ⟨fs, k.at f.1 e⟩⟩
theorem Fd.put {Ps : List Addr} {p : Addr} {H : Hp} (f : Fd Ps p H) (fs : List Int) : Fd Ps p (upd H p (.lst (fs.map V.int))) := ⟨let ⟨_, e⟩ := f.2; f.1.upd e (by intro _ z; cases z), fs, upd_same⟩
theorem Fd.new {Ps : List Addr} {p a : Addr} {H : Hp} {o : HO} (f : Fd Ps p H) (h : H a = none) : Fd Ps p (upd H a o) := f.tk ((Tk.refl f.1).new h)
theorem z4 : ("zzzz" : Str) = S [122, 122, 122, 122] := by decide
theorem nm_z : Nm [122, 122, 122, 122] := isN_iff.mp (by decide)
theorem nc_z : ncode [122, 122, 122, 122] = 531440 := by decide
theorem isP_dot : isP [46] = true := by unfold isP; simp
theorem isN_dot : isN [46] = false := not_isN fun n => by have := n.lt 46 (by simp); omega
def vals (m : Int) : List Int := [m, 27 * m, -m, m / 27, 27 ^ (4 : Int).toNat + m, ((ncode [122, 122, 122, 122] : Nat) : Int) - m / 9]
theorem vals_lt {m : Int} (h0 : 0 ≤ m) (h : m < 999983) : ∀ x ∈ vals m, x < 2 ^ 40 := by
  have e4 : (27 : Int) ^ (4 : Int).toNat = 531441 := by decide
  unfold vals
  rw [nc_z, e4]
  intro x hx
  simp only [List.mem_cons, List.not_mem_nil, or_false] at hx
  rcases hx with rfl | rfl | rfl | rfl | rfl | rfl <;> omega
theorem join_len : ∀ ls : List (List Nat), (∀ l ∈ ls, l.length ≤ 4) → (TL.joinL [47] ls).length ≤ 5 * ls.length
  | [], _ => by simp [TL.joinL]
  | [p], h => by have := h p (by simp); simp [TL.joinL]; omega
  | p :: q :: r, h => by
    have h1 := h p (by simp)
    have h2 := join_len (q :: r) fun l hl => h l (by simp at hl ⊢; exact .inr hl)
    rw [TL.joinL]
    simp only [List.length_append, List.length_cons, List.length_nil] at h2 ⊢
    omega
theorem sum_le : ∀ ls : List (List Nat), (∀ l ∈ ls, l.length ≤ 4) → (ls.map (·.length)).sum ≤ 4 * ls.length
  | [], _ => by simp
  | p :: r, h => by
    have h1 := h p (by simp)
    have h2 := sum_le r fun l hl => h l (by simp [hl])
    simp only [List.map_cons, List.sum_cons, List.length_cons]
    omega
section
variable {P : Program} {w : World} {K : PySem.W.Frag} {mg : Str → Option Value} {base : Heap}
theorem ok_law (T : Tx K mg) (B : TBs T base) : FnOk P w K mg base CX0 10 T.f_law T.fd_law ["_law_script"] (sp_law K T.Ps) := by
  refine T.F_law.ok sc_law (fun vs H Q E h => ?_) (fun cdv A outer s H vs Q E hr h => ?_)
  · obtain ⟨_, _, rfl, _⟩ := h; rfl
  · obtain ⟨a, ns, rfl, ht, hS, hlen, k⟩ := h
    have hr1 := hr.mono (show 1 ≤ 9 by decide)
    have hr2 := hr.mono (show 2 ≤ 9 by decide)
    have hr4 := hr.mono (show 4 ≤ 9 by decide)
    have hr8 := hr.mono (show 8 ≤ 9 by decide)
    refine ⟨_, (pss_cons (ps_set (i := 1) sc_law.nd rfl (.inl rfl) (pe_call (ok_Lfeed T) hr1 rfl T.mg_Lfeed T.F_Lfeed.kp (b_Lfeed T) .nil pass0 (pa_cons (pv 0) pa_nil)))
      (pss_cons (ps_set (i := 2) sc_law.nd rfl (.inl rfl) (pe_call (ok_Lname T) hr2 rfl T.mg_Lname T.F_Lname.kp (b_Lname T) .nil pass0 (pa_cons (pv 1) pa_nil)))
      (pss_cons (ps_set (i := 3) sc_law.nd rfl (.inl rfl) (pe_call (ok_Lname T) hr2 rfl T.mg_Lname T.F_Lname.kp (b_Lname T) .nil pass0 (pa_cons (pv 1) pa_nil)))
      (pss_cons (ps_if (PW.pt (pw_or (pt_not (pt_val (pe_call (ok_Lnames_good T B) hr rfl T.mg_Lnames_good T.F_Lnames_good.kp (b_Lnames_good T) .nil pass0 (pa_cons (pe_lst (pa_cons (pv 2) (pa_cons (pv 3) pa_nil))) pa_nil)))) (pw_or1 (pt_not (pt_val (pe_call (ok_Lbad_good T B) hr rfl T.mg_Lbad_good T.F_Lbad_good.kp (b_Lbad_good T) .nil pass0 (pa_cons (pv 2) (pa_cons (pv 3) pa_nil))))))))
        (pss_one (ps_ret pe_bl))
        pss_nil)
      (pss_cons (ps_set (i := 4) sc_law.nd rfl (.inl rfl) (pe_call (ok_Lpick T) hr1 rfl T.mg_Lpick T.F_Lpick.kp (b_Lpick T) .nil pass0 (pa_cons (pv 1) (pa_cons pe_int pa_nil))))
      (pss_cons (ps_for PassesOwn.never rfl (pi_list (pe_lst (pa_cons (pv 4) (pa_cons (pe_op op_mul pe_int (pv 4)) (pa_cons (pe_un un_neg (pv 4)) (pa_cons (pe_op op_fdiv (pv 4) pe_int) (pa_cons (pe_op op_add (pe_op op_pow pe_int pe_int) (pv 4)) (pa_cons (pe_op op_sub (pe_call (ok_Lcode T) hr1 rfl T.mg_Lcode T.F_Lcode.kp (b_Lcode T) .nil pass0 (pa_cons pe_str pa_nil)) (pe_op op_fdiv (pv 4) pe_int)) pa_nil)))))))) (pg_name (i := 5) sc_law.nd rfl (.inl rfl))
        (pss_one (ps_if (pt_not (pt_val (pe_call (ok_Ltext T) hr1 rfl T.mg_Ltext T.F_Ltext.kp (b_Ltext T) .nil pass0 (pa_cons (pe_call (ok_code_name T) hr1 rfl T.mg_code_name T.F_code_name.kp (b_code_name T) .nil pass0 (pa_cons (pv 5) pa_nil)) (pa_cons (pe_call (ok_Ldecoded T) hr1 rfl T.mg_Ldecoded T.F_Ldecoded.kp (b_Ldecoded T) .nil pass0 (pa_cons (pv 5) pa_nil)) pa_nil)))))
          (pss_one (ps_ret pe_bl))
          pss_nil)))
      (pss_cons (ps_set (i := 6) sc_law.nd rfl (.inl rfl) (pe_lst (pa_cons (pv 2) pa_nil)))
      (pss_cons (ps_for PassesOwn.never rfl (pi_range1 rfl T.b_range (pa_cons (pe_call (ok_Lpick T) hr1 rfl T.mg_Lpick T.F_Lpick.kp (b_Lpick T) .nil pass0 (pa_cons (pv 1) (pa_cons pe_int pa_nil))) pa_nil)) (pg_name (i := 7) sc_law.nd rfl (.inl rfl))
        (pss_one (ps_expr (pe_bm PySem.F.plainAttrs_list PySem.F.slot_list_append PySem.F.type_list_append mt_append (pv 6) (pa_cons (pe_call (ok_Lname T) hr2 rfl T.mg_Lname T.F_Lname.kp (b_Lname T) .nil pass0 (pa_cons (pv 1) pa_nil)) pa_nil)))))
      (pss_cons (ps_if (PW.pt (pw_and (pt_cmpR op_lt (pe_callB call_len_seq rfl T.b_len (by decide +kernel) (pa_cons (pv 6) pa_nil)) pe_int (nomark _)) (pw_and1 (pt_cmpR op_notV (pe_call (ok_is_path T B) hr8 rfl T.mg_is_path T.F_is_path.kp (b_is_path T) .nil pass0 (pa_cons (pe_join pe_str (pv 6)) pa_nil)) pe_bl (nomark _)))))
        (pss_one (ps_ret pe_bl))
        pss_nil)
      (pss_cons (ps_if (PW.pt (pw_and (pt_cmpR op_eq (pe_callB call_len_seq rfl T.b_len (by decide +kernel) (pa_cons (pv 6) pa_nil)) pe_int (nomark _)) (pw_and1 (pt_cmpR op_notV (pe_call (ok_is_path T B) hr8 rfl T.mg_is_path T.F_is_path.kp (b_is_path T) .nil pass0 (pa_cons (pe_join pe_str (pv 6)) pa_nil)) pe_bl (nomark _)))))
        (pss_one (ps_ret pe_bl))
        pss_nil)
      (pss_one (ps_ret (pe_and (pe_cmpR op_isV (pe_call (ok_is_path T B) hr8 rfl T.mg_is_path T.F_is_path.kp (b_is_path T) .nil pass0 (pa_cons pe_str pa_nil)) pe_bl (nomark _)) (pe_one (pe_cmpR op_isV (pe_call (ok_is_name T B) hr4 rfl T.mg_is_name T.F_is_name.kp (b_is_name T) .nil pass0 (pa_cons pe_str pa_nil)) pe_bl (nomark _)))))))))))))))), ?_⟩
    refine ⟨_, rfl, a, ns, rfl, hS, hlen, fun H1 p fs S1 np ep hf => ?_⟩
    have F1 : Fd T.Ps p H1 := ⟨ht.same S1, fs, ep⟩
    refine ⟨_, rfl, p, fs, rfl, ep, fun l1 fs1 n1 hf1 => ?_⟩
    refine ⟨_, rfl, p, fs1, rfl, upd_same, fun l2 fs2 n2 hf2 => ?_⟩
    rw [upd_upd]
    have F2 := F1.put fs2
    have e2 := upd_same (H := H1) (a := p) (o := .lst (fs2.map V.int))
    generalize upd H1 p (.lst (fs2.map V.int)) = H2 at F2 e2 ⊢
    refine ⟨_, rfl, _, rfl, by show 2 ≤ sizeLine; decide, fun q nq => ?_⟩
    have F3 := F2.new (o := .lst [V.str (S l1), V.str (S l2)]) nq
    refine ⟨q, [l1, l2], rfl, upd_same, fun l hl => ?_, F3.1, fun H4 k4 => ⟨_, rfl, ?_⟩⟩
    · simp only [List.mem_cons, List.not_mem_nil, or_false] at hl
      rcases hl with rfl | rfl
      · exact n1
      · exact n2
    have F4 := F3.tk k4
    refine iteF ⟨_, rfl, _, rfl, l1, l2, rfl, n1, n2, F4.1, fun H5 k5 => ⟨_, rfl, iteF ?_⟩⟩
    have F5 := F4.tk k5
    obtain ⟨fs5, e5⟩ := F5.2
    refine ⟨_, rfl, p, fs5, 999983, rfl, e5, by decide, fun m fs6 hm0 hm hf6 => ?_⟩
    have F6 := F5.put fs6
    generalize upd H5 p (.lst (fs6.map V.int)) = H6 at F6 ⊢
    refine ⟨_, rfl, _, rfl, _, _, rfl, rfl, .inl ⟨by decide, by decide⟩, _, rfl, _, rfl, _, rfl, _, _, rfl, rfl, ⟨by decide, by decide⟩, _, _, rfl, rfl, ⟨by decide, by decide, by decide⟩, _, rfl, _, _, rfl, rfl, [122, 122, 122, 122], by rw [z4]; rfl, nm_z, _, rfl, _, _, rfl, rfl, ⟨by decide, by decide⟩, _, _, rfl, rfl, by show 6 ≤ sizeLine; decide, fun q2 nq2 => ?_⟩
    have F7 := F6.new (o := .lst ((vals m).map V.int)) nq2
    have e7 := upd_same (H := H6) (a := q2) (o := .lst ((vals m).map V.int))
    refine ⟨q2, rfl, ⟨_, .of e7⟩, for_list (K := K) (a := q2) (xs := (vals m).map V.int) (fun i σ H8 => ∃ v5 : Option V, σ = [some (.ref a), some (.ref p), some (.str (S l1)), some (.str (S l2)), some (.int m), v5, none, none] ∧ Fd T.Ps p H8 ∧ H8 q2 = some (.lst ((vals m).map V.int))) ⟨none, rfl, F7, e7⟩ (fun i σ H2 _ ⟨_, _, _, e⟩ => .of e) ?_ ?_⟩
    · rintro i y σ H8 hi ⟨v5, rfl, F8, e8⟩
      rw [List.getElem?_map] at hi
      obtain ⟨x, hx, rfl⟩ := Option.map_eq_some_iff.mp hi
      have hb := vals_lt hm0 hm x (List.mem_of_getElem? hx)
      refine ⟨_, rfl, x, rfl, hb, _, rfl, x, rfl, hb, fun H9 S9 => ⟨_, _, rfl, _, rfl, ?_⟩⟩
      rw [dcd_eq, decide_eq_true rfl]
      exact iteF ⟨_, rfl, F8.tk (.of F8.1 S9), S9 _ _ e8⟩
    rintro σ H8 ⟨v5, rfl, F8, _⟩
    refine ⟨_, rfl, by show 1 ≤ sizeLine; decide, fun q3 nq3 => ?_⟩
    obtain ⟨fs8, e8⟩ := F8.2
    have np3 : p ≠ q3 := ne_of_none e8 nq3
    have F9 := F8.new (o := .lst [V.str (S l1)]) nq3
    have ep9 : upd H8 q3 (.lst [V.str (S l1)]) p = some (.lst (fs8.map V.int)) := by rw [upd_ne np3]; exact e8
    refine ⟨_, rfl, p, fs8, 9, rfl, ep9, by decide, fun r fs9 hr0 hr9 hf9 => ⟨r, rfl, by omega, by omega, ?_⟩⟩
    refine for_range (lo := 0) (n := r.toNat) (fun i σ H2 => ∃ (ls : List (List Nat)) (v7 : Option V), σ = [some (.ref a), some (.ref p), some (.str (S l1)), some (.str (S l2)), some (.int m), v5, some (.ref q3), v7] ∧ Fd T.Ps p H2 ∧ H2 q3 = some (.lst ((ls.map S).map V.str)) ∧ ls.length = i + 1 ∧ ∀ l ∈ ls, Nm l)
      ⟨[l1], none, rfl, F9.put fs9, by rw [upd_ne np3.symm, upd_same]; rfl, rfl, by simpa using n1⟩ ?_ ?_
    · rintro i σ H2 hi ⟨ls, v7, rfl, F10, e10, hls, hnm⟩
      obtain ⟨fs10, e11⟩ := F10.2
      refine ⟨_, rfl, .inl ⟨rfl, _, .inl (.inl e10)⟩, _, rfl, p, fs10, rfl, e11, fun l fs' hn hf' => ?_⟩
      refine ⟨_, _, _, rfl, rfl, by rw [upd_ne np3.symm]; exact e10, ?_, ?_⟩
      · rw [List.length_map, List.length_map, hls]
        exact Nat.lt_of_le_of_lt (show i + 1 ≤ 9 by omega) (by decide)
      · refine ⟨ls ++ [l], some (.int (0 + (i : Int))), rfl, ?_, ?_, by simp [hls], fun t ht => ?_⟩
        · have := (F10.put fs')
          exact ⟨this.1.upd (by rw [upd_ne np3.symm]; exact e10) (by intro _ z; cases z), fs', by rw [upd_ne np3, upd_same]⟩
        · rw [upd_same, List.map_append, List.map_append]
          rfl
        · rcases List.mem_append.mp ht with z | z
          · exact hnm t z
          · rw [show t = l by simpa using z]
            exact hn
    rintro σ H10 ⟨ls, v7, rfl, F10, e10, hls, hnm⟩
    have hl9 : ls.length ≤ 9 := by omega
    have h4 : ∀ l ∈ ls, l.length ≤ 4 := fun l hl => (hnm l hl).hi
    have len : ((((ls.map S).map V.str).length : Nat) : Int) = ls.length := by simp
    have s1 : ("/" : Str) = S [47] := by decide
    have jn : Txt.join ("/" : Str) (ls.map S) = S (TL.joinL [47] ls) := by rw [s1, join_S]
    have jl := join_len ls h4
    have sz : ((ls.map S).map (·.length)).sum + (ls.map S).length * ("/" : Str).length ≤ 16777216 := by
      rw [lens, List.length_map, s1, S_len]
      have := sum_le ls h4
      show _ + ls.length * 1 ≤ _
      omega
    by_cases h8 : ls.length ≤ 8
    · refine ⟨_, rfl, q3, _, rfl, .inl (.of e10), _, _, rfl, rfl, _, rfl, ?_⟩
      rw [len, decide_eq_true (by omega)]
      refine iteT ⟨⟨_, rfl⟩, _, rfl, _, q3, ls.map S, rfl, rfl, .inl (.of e10), sz, TL.joinL [47] ls, by rw [jn]; rfl, by omega, F10.1, fun H11 k11 => ⟨_, _, rfl, rfl, _, rfl, ?_⟩⟩
      rw [isP_good (ps := ls) rfl (fun z => by rw [z] at hls; simp at hls) hnm h8]
      have F11 := F10.tk k11
      have e11 := k11.at F10.1 e10
      refine iteF ⟨_, rfl, q3, _, rfl, .inl (.of e11), rfl, _, rfl, ?_⟩
      rw [len, dec_iv, decide_eq_false (by omega)]
      refine iteF ⟨[46], by rw [dot_S]; rfl, by decide, F11.1, fun H12 k12 => ⟨_, _, rfl, rfl, _, rfl, ?_⟩⟩
      rw [isP_dot]
      refine iteT ⟨[46], by rw [dot_S]; rfl, by decide, k12.tab, fun H13 k13 => ⟨_, _, rfl, rfl, ?_⟩⟩
      rw [isN_dot]
      exact k H13
    · have h9 : ls.length = 9 := by omega
      refine ⟨_, rfl, q3, _, rfl, .inl (.of e10), _, _, rfl, rfl, _, rfl, ?_⟩
      rw [len, decide_eq_false (by omega)]
      refine iteF ⟨_, rfl, q3, _, rfl, .inl (.of e10), rfl, _, rfl, ?_⟩
      rw [len, dec_iv, decide_eq_true (by omega)]
      refine iteT ⟨⟨_, rfl⟩, _, rfl, _, q3, ls.map S, rfl, rfl, .inl (.of e10), sz, TL.joinL [47] ls, by rw [jn]; rfl, by omega, F10.1, fun H11 k11 => ⟨_, _, rfl, rfl, _, rfl, ?_⟩⟩
      rw [isP_long (ps := ls) rfl hnm (by omega)]
      have F11 := F10.tk k11
      refine iteF ⟨[46], by rw [dot_S]; rfl, by decide, F11.1, fun H12 k12 => ⟨_, _, rfl, rfl, _, rfl, ?_⟩⟩
      rw [isP_dot]
      refine iteT ⟨[46], by rw [dot_S]; rfl, by decide, k12.tab, fun H13 k13 => ⟨_, _, rfl, rfl, ?_⟩⟩
      rw [isN_dot]
      exact k H13
end
end K86
namespace K86
open PySem PySem.Spec PyProof.Rows L2 Rg
theorem law_binds {K : PySem.W.Frag} {mg : Str → Option Value} (T : Tx K mg) (s : Shared) (v : Value) : BindsTo s T.fd_law ⟨[v], []⟩ [("_law_script", v)] := by
  obtain ⟨oc, od, kV, doc, pm, an, cdv, ct, osl, e, lk, hcd⟩ := T.F_law.ex
  rw [e]
  exact .of_eq rfl
theorem fin_lk {K : PySem.W.Frag} {x qual : Str} {st : Stmt} {f : Addr} {fd : FuncData} (F : Fun K x qual st f fd) : ∃ (oc : Value) (od : Option Addr) (osl : Array (Option Value)), K.lookup f = some ⟨oc, od, .func fd, osl⟩ := by
  obtain ⟨oc, od, kV, doc, pm, an, cdv, ct, osl, e, lk, hcd⟩ := F.ex
  exact ⟨_, _, _, lk⟩
theorem fin_G {l : PySem.W.OpenLaw} {q : Program} {w : World} {K : PySem.W.Frag} {mg : Str → Option Value} {fa : Addr} {h : Heap} (z : Nonempty (Tx K mg)) (hmg : mg "law" = some (.ref fa)) (KX : K.In h) (TT : Rg.TabsOf q mg h)
    (q_is_name : (recsOf q).any (fun d => d.name == "is_name") = true) (q_is_path : (recsOf q).any (fun d => d.name == "is_path") = true) :
    LamX.LawAtS l w K L2.CX0 10 63 "_law_script" mg fa h := by
  obtain ⟨T⟩ := z
  have e : T.f_law = fa := Value.ref.inj (Option.some.inj (T.mg_law.symm.trans hmg))
  subst e
  have h_is_name : h.get? T.P_is_name = some { cls := .none, data := .fields #[] } := by
    obtain ⟨_, _, _, lk⟩ := fin_lk T.F_is_name
    exact Rg.tab_of TT KX q_is_name T.mg_is_name lk T.code_is_name T.ch_is_name
  have h_is_path : h.get? T.P_is_path = some { cls := .none, data := .fields #[] } := by
    obtain ⟨_, _, _, lk⟩ := fin_lk T.F_is_path
    exact Rg.tab_of TT KX q_is_path T.mg_is_path lk T.code_is_path T.ch_is_path
  refine ⟨T.fd_law, [(T.cc_is_name, T.P_is_name), (T.cc_is_path, T.P_is_path)], sp_law K T.Ps, List.forall_mem_cons.mpr ⟨h_is_name, List.forall_mem_cons.mpr ⟨h_is_path, fun _ z => nomatch z⟩⟩, List.forall_mem_cons.mpr ⟨T.cn_is_name, List.forall_mem_cons.mpr ⟨T.cn_is_path, fun _ z => nomatch z⟩⟩, List.forall_mem_cons.mpr ⟨PySem.W.codeHd_of_K KX T.ch_is_name, List.forall_mem_cons.mpr ⟨PySem.W.codeHd_of_K KX T.ch_is_path, fun _ z => nomatch z⟩⟩, fun s v => law_binds T s v, fun H a ns hl _ hT hS => ⟨a, ns, rfl, ?_, hS, hl, fun _ => rfl⟩, fun base _ _ TB => ok_law T ⟨TB (T.cc_is_name, T.P_is_name) (by simp), TB (T.cc_is_path, T.P_is_path) (by simp)⟩⟩
  exact List.forall_mem_cons.mpr ⟨⟨#[], hT (T.cc_is_name, T.P_is_name) (by simp), True.intro⟩, List.forall_mem_cons.mpr ⟨⟨#[], hT (T.cc_is_path, T.P_is_path) (by simp), True.intro⟩, fun _ z => nomatch z⟩⟩
theorem all_mk {w : World} {K : PySem.W.Frag} {h : Heap} {mg : Str → Option Value} (X : K.In h) (G : h.Ns mainGlobals mg)
    {a_is_name : Addr}
    {od_is_name an_is_name : Option Addr} {sl_is_name : Array (Option Value)} {oc_is_name kV_is_name dc_is_name pm_is_name cd_is_name ct_is_name : Value}
    (l_is_name : K.lookup a_is_name = some ⟨oc_is_name, od_is_name, .func (PySem.W.fnOf "is_name" "is_name" (defArgs s_is_name) (defBody s_is_name) (defScope s_is_name) .none kV_is_name dc_is_name pm_is_name an_is_name cd_is_name ct_is_name), sl_is_name⟩)
    (c_is_name : PySem.W.codeIn K cd_is_name "is_name" = true)
    (k_is_name : PySem.W.keepIn K (.ref a_is_name) = true)
    (g_is_name : PySem.W.nsIn K mainGlobals "is_name" = some (some (.ref a_is_name)))
    {ac_is_name : Addr}
    (cc1_is_name : cd_is_name = .ref ac_is_name)
    (ch1_is_name : PySem.W.codeHdIn K ac_is_name (He.tabOf K ac_is_name) = true)
    (cn1_is_name : K.lookup (He.tabOf K ac_is_name) = none)
    {a_is_path : Addr}
    {od_is_path an_is_path : Option Addr} {sl_is_path : Array (Option Value)} {oc_is_path kV_is_path dc_is_path pm_is_path cd_is_path ct_is_path : Value}
    (l_is_path : K.lookup a_is_path = some ⟨oc_is_path, od_is_path, .func (PySem.W.fnOf "is_path" "is_path" (defArgs s_is_path) (defBody s_is_path) (defScope s_is_path) .none kV_is_path dc_is_path pm_is_path an_is_path cd_is_path ct_is_path), sl_is_path⟩)
    (c_is_path : PySem.W.codeIn K cd_is_path "is_path" = true)
    (k_is_path : PySem.W.keepIn K (.ref a_is_path) = true)
    (g_is_path : PySem.W.nsIn K mainGlobals "is_path" = some (some (.ref a_is_path)))
    {ac_is_path : Addr}
    (cc1_is_path : cd_is_path = .ref ac_is_path)
    (ch1_is_path : PySem.W.codeHdIn K ac_is_path (He.tabOf K ac_is_path) = true)
    (cn1_is_path : K.lookup (He.tabOf K ac_is_path) = none)
    {a_name_code : Addr}
    {od_name_code an_name_code : Option Addr} {sl_name_code : Array (Option Value)} {oc_name_code kV_name_code dc_name_code pm_name_code cd_name_code ct_name_code : Value}
    (l_name_code : K.lookup a_name_code = some ⟨oc_name_code, od_name_code, .func (PySem.W.fnOf "name_code" "name_code" (defArgs s_name_code) (defBody s_name_code) (defScope s_name_code) .none kV_name_code dc_name_code pm_name_code an_name_code cd_name_code ct_name_code), sl_name_code⟩)
    (c_name_code : PySem.W.codeIn K cd_name_code "name_code" = true)
    (k_name_code : PySem.W.keepIn K (.ref a_name_code) = true)
    (g_name_code : PySem.W.nsIn K mainGlobals "name_code" = some (some (.ref a_name_code)))
    {a_code_name : Addr}
    {od_code_name an_code_name : Option Addr} {sl_code_name : Array (Option Value)} {oc_code_name kV_code_name dc_code_name pm_code_name cd_code_name ct_code_name : Value}
    (l_code_name : K.lookup a_code_name = some ⟨oc_code_name, od_code_name, .func (PySem.W.fnOf "code_name" "code_name" (defArgs s_code_name) (defBody s_code_name) (defScope s_code_name) .none kV_code_name dc_code_name pm_code_name an_code_name cd_code_name ct_code_name), sl_code_name⟩)
    (c_code_name : PySem.W.codeIn K cd_code_name "code_name" = true)
    (k_code_name : PySem.W.keepIn K (.ref a_code_name) = true)
    (g_code_name : PySem.W.nsIn K mainGlobals "code_name" = some (some (.ref a_code_name)))
    {a_Lfeed : Addr}
    {od_Lfeed an_Lfeed : Option Addr} {sl_Lfeed : Array (Option Value)} {oc_Lfeed kV_Lfeed dc_Lfeed pm_Lfeed cd_Lfeed ct_Lfeed : Value}
    (l_Lfeed : K.lookup a_Lfeed = some ⟨oc_Lfeed, od_Lfeed, .func (PySem.W.fnOf "_law_feed" "_law_feed" (defArgs s_Lfeed) (defBody s_Lfeed) (defScope s_Lfeed) .none kV_Lfeed dc_Lfeed pm_Lfeed an_Lfeed cd_Lfeed ct_Lfeed), sl_Lfeed⟩)
    (c_Lfeed : PySem.W.codeIn K cd_Lfeed "_law_feed" = true)
    (k_Lfeed : PySem.W.keepIn K (.ref a_Lfeed) = true)
    (g_Lfeed : PySem.W.nsIn K mainGlobals "_law_feed" = some (some (.ref a_Lfeed)))
    {a_Lpick : Addr}
    {od_Lpick an_Lpick : Option Addr} {sl_Lpick : Array (Option Value)} {oc_Lpick kV_Lpick dc_Lpick pm_Lpick cd_Lpick ct_Lpick : Value}
    (l_Lpick : K.lookup a_Lpick = some ⟨oc_Lpick, od_Lpick, .func (PySem.W.fnOf "_law_pick" "_law_pick" (defArgs s_Lpick) (defBody s_Lpick) (defScope s_Lpick) .none kV_Lpick dc_Lpick pm_Lpick an_Lpick cd_Lpick ct_Lpick), sl_Lpick⟩)
    (c_Lpick : PySem.W.codeIn K cd_Lpick "_law_pick" = true)
    (k_Lpick : PySem.W.keepIn K (.ref a_Lpick) = true)
    (g_Lpick : PySem.W.nsIn K mainGlobals "_law_pick" = some (some (.ref a_Lpick)))
    {a_Lname : Addr}
    {od_Lname an_Lname : Option Addr} {sl_Lname : Array (Option Value)} {oc_Lname kV_Lname dc_Lname pm_Lname cd_Lname ct_Lname : Value}
    (l_Lname : K.lookup a_Lname = some ⟨oc_Lname, od_Lname, .func (PySem.W.fnOf "_law_name" "_law_name" (defArgs s_Lname) (defBody s_Lname) (defScope s_Lname) .none kV_Lname dc_Lname pm_Lname an_Lname cd_Lname ct_Lname), sl_Lname⟩)
    (c_Lname : PySem.W.codeIn K cd_Lname "_law_name" = true)
    (k_Lname : PySem.W.keepIn K (.ref a_Lname) = true)
    (g_Lname : PySem.W.nsIn K mainGlobals "_law_name" = some (some (.ref a_Lname)))
    {a_Lcode : Addr}
    {od_Lcode an_Lcode : Option Addr} {sl_Lcode : Array (Option Value)} {oc_Lcode kV_Lcode dc_Lcode pm_Lcode cd_Lcode ct_Lcode : Value}
    (l_Lcode : K.lookup a_Lcode = some ⟨oc_Lcode, od_Lcode, .func (PySem.W.fnOf "_law_code" "_law_code" (defArgs s_Lcode) (defBody s_Lcode) (defScope s_Lcode) .none kV_Lcode dc_Lcode pm_Lcode an_Lcode cd_Lcode ct_Lcode), sl_Lcode⟩)
    (c_Lcode : PySem.W.codeIn K cd_Lcode "_law_code" = true)
    (k_Lcode : PySem.W.keepIn K (.ref a_Lcode) = true)
    (g_Lcode : PySem.W.nsIn K mainGlobals "_law_code" = some (some (.ref a_Lcode)))
    {a_Ldecoded : Addr}
    {od_Ldecoded an_Ldecoded : Option Addr} {sl_Ldecoded : Array (Option Value)} {oc_Ldecoded kV_Ldecoded dc_Ldecoded pm_Ldecoded cd_Ldecoded ct_Ldecoded : Value}
    (l_Ldecoded : K.lookup a_Ldecoded = some ⟨oc_Ldecoded, od_Ldecoded, .func (PySem.W.fnOf "_law_decoded" "_law_decoded" (defArgs s_Ldecoded) (defBody s_Ldecoded) (defScope s_Ldecoded) .none kV_Ldecoded dc_Ldecoded pm_Ldecoded an_Ldecoded cd_Ldecoded ct_Ldecoded), sl_Ldecoded⟩)
    (c_Ldecoded : PySem.W.codeIn K cd_Ldecoded "_law_decoded" = true)
    (k_Ldecoded : PySem.W.keepIn K (.ref a_Ldecoded) = true)
    (g_Ldecoded : PySem.W.nsIn K mainGlobals "_law_decoded" = some (some (.ref a_Ldecoded)))
    {a_Linteger : Addr}
    {od_Linteger an_Linteger : Option Addr} {sl_Linteger : Array (Option Value)} {oc_Linteger kV_Linteger dc_Linteger pm_Linteger cd_Linteger ct_Linteger : Value}
    (l_Linteger : K.lookup a_Linteger = some ⟨oc_Linteger, od_Linteger, .func (PySem.W.fnOf "_law_integer" "_law_integer" (defArgs s_Linteger) (defBody s_Linteger) (defScope s_Linteger) .none kV_Linteger dc_Linteger pm_Linteger an_Linteger cd_Linteger ct_Linteger), sl_Linteger⟩)
    (c_Linteger : PySem.W.codeIn K cd_Linteger "_law_integer" = true)
    (k_Linteger : PySem.W.keepIn K (.ref a_Linteger) = true)
    (g_Linteger : PySem.W.nsIn K mainGlobals "_law_integer" = some (some (.ref a_Linteger)))
    {a_Ltext : Addr}
    {od_Ltext an_Ltext : Option Addr} {sl_Ltext : Array (Option Value)} {oc_Ltext kV_Ltext dc_Ltext pm_Ltext cd_Ltext ct_Ltext : Value}
    (l_Ltext : K.lookup a_Ltext = some ⟨oc_Ltext, od_Ltext, .func (PySem.W.fnOf "_law_text" "_law_text" (defArgs s_Ltext) (defBody s_Ltext) (defScope s_Ltext) .none kV_Ltext dc_Ltext pm_Ltext an_Ltext cd_Ltext ct_Ltext), sl_Ltext⟩)
    (c_Ltext : PySem.W.codeIn K cd_Ltext "_law_text" = true)
    (k_Ltext : PySem.W.keepIn K (.ref a_Ltext) = true)
    (g_Ltext : PySem.W.nsIn K mainGlobals "_law_text" = some (some (.ref a_Ltext)))
    {a_Lnames_good : Addr}
    {od_Lnames_good an_Lnames_good : Option Addr} {sl_Lnames_good : Array (Option Value)} {oc_Lnames_good kV_Lnames_good dc_Lnames_good pm_Lnames_good cd_Lnames_good ct_Lnames_good : Value}
    (l_Lnames_good : K.lookup a_Lnames_good = some ⟨oc_Lnames_good, od_Lnames_good, .func (PySem.W.fnOf "_law_names_good" "_law_names_good" (defArgs s_Lnames_good) (defBody s_Lnames_good) (defScope s_Lnames_good) .none kV_Lnames_good dc_Lnames_good pm_Lnames_good an_Lnames_good cd_Lnames_good ct_Lnames_good), sl_Lnames_good⟩)
    (c_Lnames_good : PySem.W.codeIn K cd_Lnames_good "_law_names_good" = true)
    (k_Lnames_good : PySem.W.keepIn K (.ref a_Lnames_good) = true)
    (g_Lnames_good : PySem.W.nsIn K mainGlobals "_law_names_good" = some (some (.ref a_Lnames_good)))
    {a_Lbad_good : Addr}
    {od_Lbad_good an_Lbad_good : Option Addr} {sl_Lbad_good : Array (Option Value)} {oc_Lbad_good kV_Lbad_good dc_Lbad_good pm_Lbad_good cd_Lbad_good ct_Lbad_good : Value}
    (l_Lbad_good : K.lookup a_Lbad_good = some ⟨oc_Lbad_good, od_Lbad_good, .func (PySem.W.fnOf "_law_bad_good" "_law_bad_good" (defArgs s_Lbad_good) (defBody s_Lbad_good) (defScope s_Lbad_good) .none kV_Lbad_good dc_Lbad_good pm_Lbad_good an_Lbad_good cd_Lbad_good ct_Lbad_good), sl_Lbad_good⟩)
    (c_Lbad_good : PySem.W.codeIn K cd_Lbad_good "_law_bad_good" = true)
    (k_Lbad_good : PySem.W.keepIn K (.ref a_Lbad_good) = true)
    (g_Lbad_good : PySem.W.nsIn K mainGlobals "_law_bad_good" = some (some (.ref a_Lbad_good)))
    {a_law : Addr}
    {od_law an_law : Option Addr} {sl_law : Array (Option Value)} {oc_law kV_law dc_law pm_law cd_law ct_law : Value}
    (l_law : K.lookup a_law = some ⟨oc_law, od_law, .func (PySem.W.fnOf "law" "law" (defArgs s_law) (defBody s_law) (defScope s_law) .none kV_law dc_law pm_law an_law cd_law ct_law), sl_law⟩)
    (c_law : PySem.W.codeIn K cd_law "law" = true)
    (k_law : PySem.W.keepIn K (.ref a_law) = true)
    (g_law : PySem.W.nsIn K mainGlobals "law" = some (some (.ref a_law)))
    {t_MOST_LETTERS : Tok}
    (gc_MOST_LETTERS : PySem.W.nsIn K mainGlobals "MOST_LETTERS" = some (some (.int 4 t_MOST_LETTERS)))
    {t_MOST_NAMES : Tok}
    (gc_MOST_NAMES : PySem.W.nsIn K mainGlobals "MOST_NAMES" = some (some (.int 8 t_MOST_NAMES)))
    {t_BASE : Tok}
    (gc_BASE : PySem.W.nsIn K mainGlobals "BASE" = some (some (.int 27 t_BASE)))
    {t_CODES_END : Tok}
    (gc_CODES_END : PySem.W.nsIn K mainGlobals "CODES_END" = some (some (.int 531441 t_CODES_END)))
    {t_LETTERS : Tok}
    (gc_LETTERS : PySem.W.nsIn K mainGlobals "LETTERS" = some (some (.str "abcdefghijklmnopqrstuvwxyz" t_LETTERS)))
    (nb_abs : PySem.W.nsIn K mainGlobals "abs" = some none)
    (nb_all : PySem.W.nsIn K mainGlobals "all" = some none)
    (nb_bool : PySem.W.nsIn K mainGlobals "bool" = some none)
    (nb_int : PySem.W.nsIn K mainGlobals "int" = some none)
    (nb_isinstance : PySem.W.nsIn K mainGlobals "isinstance" = some none)
    (nb_len : PySem.W.nsIn K mainGlobals "len" = some none)
    (nb_range : PySem.W.nsIn K mainGlobals "range" = some none)
    (nb_str : PySem.W.nsIn K mainGlobals "str" = some none)
    : Nonempty (Tx K mg) := ⟨{
      f_is_name := a_is_name,
      fd_is_name := PySem.W.fnOf "is_name" "is_name" (defArgs s_is_name) (defBody s_is_name) (defScope s_is_name) .none kV_is_name dc_is_name pm_is_name an_is_name cd_is_name ct_is_name,
      F_is_name := fun_mk (st := s_is_name) l_is_name c_is_name k_is_name,
      mg_is_name := PySem.W.mg_of X G g_is_name,
      cc_is_name := ac_is_name,
      P_is_name := He.tabOf K ac_is_name,
      code_is_name := cc1_is_name,
      ch_is_name := ch1_is_name,
      cn_is_name := cn1_is_name,
      f_is_path := a_is_path,
      fd_is_path := PySem.W.fnOf "is_path" "is_path" (defArgs s_is_path) (defBody s_is_path) (defScope s_is_path) .none kV_is_path dc_is_path pm_is_path an_is_path cd_is_path ct_is_path,
      F_is_path := fun_mk (st := s_is_path) l_is_path c_is_path k_is_path,
      mg_is_path := PySem.W.mg_of X G g_is_path,
      cc_is_path := ac_is_path,
      P_is_path := He.tabOf K ac_is_path,
      code_is_path := cc1_is_path,
      ch_is_path := ch1_is_path,
      cn_is_path := cn1_is_path,
      f_name_code := a_name_code,
      fd_name_code := PySem.W.fnOf "name_code" "name_code" (defArgs s_name_code) (defBody s_name_code) (defScope s_name_code) .none kV_name_code dc_name_code pm_name_code an_name_code cd_name_code ct_name_code,
      F_name_code := fun_mk (st := s_name_code) l_name_code c_name_code k_name_code,
      mg_name_code := PySem.W.mg_of X G g_name_code,
      f_code_name := a_code_name,
      fd_code_name := PySem.W.fnOf "code_name" "code_name" (defArgs s_code_name) (defBody s_code_name) (defScope s_code_name) .none kV_code_name dc_code_name pm_code_name an_code_name cd_code_name ct_code_name,
      F_code_name := fun_mk (st := s_code_name) l_code_name c_code_name k_code_name,
      mg_code_name := PySem.W.mg_of X G g_code_name,
      f_Lfeed := a_Lfeed,
      fd_Lfeed := PySem.W.fnOf "_law_feed" "_law_feed" (defArgs s_Lfeed) (defBody s_Lfeed) (defScope s_Lfeed) .none kV_Lfeed dc_Lfeed pm_Lfeed an_Lfeed cd_Lfeed ct_Lfeed,
      F_Lfeed := fun_mk (st := s_Lfeed) l_Lfeed c_Lfeed k_Lfeed,
      mg_Lfeed := PySem.W.mg_of X G g_Lfeed,
      f_Lpick := a_Lpick,
      fd_Lpick := PySem.W.fnOf "_law_pick" "_law_pick" (defArgs s_Lpick) (defBody s_Lpick) (defScope s_Lpick) .none kV_Lpick dc_Lpick pm_Lpick an_Lpick cd_Lpick ct_Lpick,
      F_Lpick := fun_mk (st := s_Lpick) l_Lpick c_Lpick k_Lpick,
      mg_Lpick := PySem.W.mg_of X G g_Lpick,
      f_Lname := a_Lname,
      fd_Lname := PySem.W.fnOf "_law_name" "_law_name" (defArgs s_Lname) (defBody s_Lname) (defScope s_Lname) .none kV_Lname dc_Lname pm_Lname an_Lname cd_Lname ct_Lname,
      F_Lname := fun_mk (st := s_Lname) l_Lname c_Lname k_Lname,
      mg_Lname := PySem.W.mg_of X G g_Lname,
      f_Lcode := a_Lcode,
      fd_Lcode := PySem.W.fnOf "_law_code" "_law_code" (defArgs s_Lcode) (defBody s_Lcode) (defScope s_Lcode) .none kV_Lcode dc_Lcode pm_Lcode an_Lcode cd_Lcode ct_Lcode,
      F_Lcode := fun_mk (st := s_Lcode) l_Lcode c_Lcode k_Lcode,
      mg_Lcode := PySem.W.mg_of X G g_Lcode,
      f_Ldecoded := a_Ldecoded,
      fd_Ldecoded := PySem.W.fnOf "_law_decoded" "_law_decoded" (defArgs s_Ldecoded) (defBody s_Ldecoded) (defScope s_Ldecoded) .none kV_Ldecoded dc_Ldecoded pm_Ldecoded an_Ldecoded cd_Ldecoded ct_Ldecoded,
      F_Ldecoded := fun_mk (st := s_Ldecoded) l_Ldecoded c_Ldecoded k_Ldecoded,
      mg_Ldecoded := PySem.W.mg_of X G g_Ldecoded,
      f_Linteger := a_Linteger,
      fd_Linteger := PySem.W.fnOf "_law_integer" "_law_integer" (defArgs s_Linteger) (defBody s_Linteger) (defScope s_Linteger) .none kV_Linteger dc_Linteger pm_Linteger an_Linteger cd_Linteger ct_Linteger,
      F_Linteger := fun_mk (st := s_Linteger) l_Linteger c_Linteger k_Linteger,
      mg_Linteger := PySem.W.mg_of X G g_Linteger,
      f_Ltext := a_Ltext,
      fd_Ltext := PySem.W.fnOf "_law_text" "_law_text" (defArgs s_Ltext) (defBody s_Ltext) (defScope s_Ltext) .none kV_Ltext dc_Ltext pm_Ltext an_Ltext cd_Ltext ct_Ltext,
      F_Ltext := fun_mk (st := s_Ltext) l_Ltext c_Ltext k_Ltext,
      mg_Ltext := PySem.W.mg_of X G g_Ltext,
      f_Lnames_good := a_Lnames_good,
      fd_Lnames_good := PySem.W.fnOf "_law_names_good" "_law_names_good" (defArgs s_Lnames_good) (defBody s_Lnames_good) (defScope s_Lnames_good) .none kV_Lnames_good dc_Lnames_good pm_Lnames_good an_Lnames_good cd_Lnames_good ct_Lnames_good,
      F_Lnames_good := fun_mk (st := s_Lnames_good) l_Lnames_good c_Lnames_good k_Lnames_good,
      mg_Lnames_good := PySem.W.mg_of X G g_Lnames_good,
      f_Lbad_good := a_Lbad_good,
      fd_Lbad_good := PySem.W.fnOf "_law_bad_good" "_law_bad_good" (defArgs s_Lbad_good) (defBody s_Lbad_good) (defScope s_Lbad_good) .none kV_Lbad_good dc_Lbad_good pm_Lbad_good an_Lbad_good cd_Lbad_good ct_Lbad_good,
      F_Lbad_good := fun_mk (st := s_Lbad_good) l_Lbad_good c_Lbad_good k_Lbad_good,
      mg_Lbad_good := PySem.W.mg_of X G g_Lbad_good,
      f_law := a_law,
      fd_law := PySem.W.fnOf "law" "law" (defArgs s_law) (defBody s_law) (defScope s_law) .none kV_law dc_law pm_law an_law cd_law ct_law,
      F_law := fun_mk (st := s_law) l_law c_law k_law,
      mg_law := PySem.W.mg_of X G g_law,
      c_MOST_LETTERS := ⟨_, PySem.W.mg_of X G gc_MOST_LETTERS⟩,
      c_MOST_NAMES := ⟨_, PySem.W.mg_of X G gc_MOST_NAMES⟩,
      c_BASE := ⟨_, PySem.W.mg_of X G gc_BASE⟩,
      c_CODES_END := ⟨_, PySem.W.mg_of X G gc_CODES_END⟩,
      c_LETTERS := ⟨_, PySem.W.mg_of X G gc_LETTERS⟩,
      b_abs := PySem.W.mg_none_of X G nb_abs,
      b_all := PySem.W.mg_none_of X G nb_all,
      b_bool := PySem.W.mg_none_of X G nb_bool,
      b_int := PySem.W.mg_none_of X G nb_int,
      b_isinstance := PySem.W.mg_none_of X G nb_isinstance,
      b_len := PySem.W.mg_none_of X G nb_len,
      b_range := PySem.W.mg_none_of X G nb_range,
      b_str := PySem.W.mg_none_of X G nb_str
    }⟩
end K86
open PySem PySem.W PyProof.Rows
set_option maxRecDepth 100000 in
set_option maxHeartbeats 0 in
theorem PySem.Challenge.cw_lotsandties_k86_names_and_codes_holds : PySem.Challenge.rw_lotsandties_k86_names_and_codes.Holds := by
  w_on; o_law; k_head; (case hw => w_witness2)
  k_fill
  refine Rg.walk_ofG (l := PySem.Challenge.rw_lotsandties_k86_names_and_codes) (n := 63) (k := 10) (x := "_law_script") (CX := fun _ => L2.CX0) rfl (by decide) rfl ⟨rfl, by decide, by decide⟩ (fun w h Y => PySem.W.kIn_of Y) ?F (fun _ _ _ _ _ h => h)
  case F =>
    intro w mg fa h TT Y KX G hmg
    refine K86.fin_G ?_ hmg KX TT (by kernel_rfl) (by kernel_rfl)
    refine' K86.all_mk (w := w) KX G ?l_is_name ?c_is_name ?k_is_name ?g_is_name ?cc1_is_name ?ch1_is_name ?cn1_is_name ?l_is_path ?c_is_path ?k_is_path ?g_is_path ?cc1_is_path ?ch1_is_path ?cn1_is_path ?l_name_code ?c_name_code ?k_name_code ?g_name_code ?l_code_name ?c_code_name ?k_code_name ?g_code_name ?l_Lfeed ?c_Lfeed ?k_Lfeed ?g_Lfeed ?l_Lpick ?c_Lpick ?k_Lpick ?g_Lpick ?l_Lname ?c_Lname ?k_Lname ?g_Lname ?l_Lcode ?c_Lcode ?k_Lcode ?g_Lcode ?l_Ldecoded ?c_Ldecoded ?k_Ldecoded ?g_Ldecoded ?l_Linteger ?c_Linteger ?k_Linteger ?g_Linteger ?l_Ltext ?c_Ltext ?k_Ltext ?g_Ltext ?l_Lnames_good ?c_Lnames_good ?k_Lnames_good ?g_Lnames_good ?l_Lbad_good ?c_Lbad_good ?k_Lbad_good ?g_Lbad_good ?l_law ?c_law ?k_law ?g_law ?gc_MOST_LETTERS ?gc_MOST_NAMES ?gc_BASE ?gc_CODES_END ?gc_LETTERS ?nb_abs ?nb_all ?nb_bool ?nb_int ?nb_isinstance ?nb_len ?nb_range ?nb_str
    (case g_is_name => k_is)
    (case g_is_path => k_is)
    (case g_name_code => k_is)
    (case g_code_name => k_is)
    (case g_Lfeed => k_is)
    (case g_Lpick => k_is)
    (case g_Lname => k_is)
    (case g_Lcode => k_is)
    (case g_Ldecoded => k_is)
    (case g_Linteger => k_is)
    (case g_Ltext => k_is)
    (case g_Lnames_good => k_is)
    (case g_Lbad_good => k_is)
    (case g_law => k_is)
    (case l_is_name => k_is)
    (case c_is_name => k_is)
    (case k_is_name => k_is)
    (case l_is_path => k_is)
    (case c_is_path => k_is)
    (case k_is_path => k_is)
    (case l_name_code => k_is)
    (case c_name_code => k_is)
    (case k_name_code => k_is)
    (case l_code_name => k_is)
    (case c_code_name => k_is)
    (case k_code_name => k_is)
    (case l_Lfeed => k_is)
    (case c_Lfeed => k_is)
    (case k_Lfeed => k_is)
    (case l_Lpick => k_is)
    (case c_Lpick => k_is)
    (case k_Lpick => k_is)
    (case l_Lname => k_is)
    (case c_Lname => k_is)
    (case k_Lname => k_is)
    (case l_Lcode => k_is)
    (case c_Lcode => k_is)
    (case k_Lcode => k_is)
    (case l_Ldecoded => k_is)
    (case c_Ldecoded => k_is)
    (case k_Ldecoded => k_is)
    (case l_Linteger => k_is)
    (case c_Linteger => k_is)
    (case k_Linteger => k_is)
    (case l_Ltext => k_is)
    (case c_Ltext => k_is)
    (case k_Ltext => k_is)
    (case l_Lnames_good => k_is)
    (case c_Lnames_good => k_is)
    (case k_Lnames_good => k_is)
    (case l_Lbad_good => k_is)
    (case c_Lbad_good => k_is)
    (case k_Lbad_good => k_is)
    (case l_law => k_is)
    (case c_law => k_is)
    (case k_law => k_is)
    (case gc_MOST_LETTERS => k_is)
    (case gc_MOST_NAMES => k_is)
    (case gc_BASE => k_is)
    (case gc_CODES_END => k_is)
    (case gc_LETTERS => k_is)
    (case nb_abs => k_is)
    (case nb_all => k_is)
    (case nb_bool => k_is)
    (case nb_int => k_is)
    (case nb_isinstance => k_is)
    (case nb_len => k_is)
    (case nb_range => k_is)
    (case nb_str => k_is)
    (case cc1_is_name => first | rfl | k_is | kernel_rfl)
    (case cc1_is_path => first | rfl | k_is | kernel_rfl)
    (case ch1_is_name => first | rfl | k_is | kernel_rfl)
    (case ch1_is_path => first | rfl | k_is | kernel_rfl)
    (case cn1_is_name => first | rfl | k_is | kernel_rfl)
    (case cn1_is_path => first | rfl | k_is | kernel_rfl)
