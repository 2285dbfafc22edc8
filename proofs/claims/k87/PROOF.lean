import PyProof.Rows.All
import Wide.All
import OpenK.AllK
import Wide.FinOn
import HandS.ForMost
import HandS.IsInst
import HandS.Evl
import HandS.ClsMeth
import HandS.MakeKwOnly
import HandS.TryOnly
import HandS.ExcOwn
import HandS.ExcIs
import HandS.ExcCtx
import HandS.HotCalls
import HandS.WordsExc
import HandS.Conv
import HandS.FStr
import HandS.RaiseMore
import HandS.Style
import HandS.Small
import HandS.More
import HandS.Star
import KE.GoesMore
import HandS.Walk
import HandS.HeadHook2
import KE.KOwnIter
import HandS.IterVal
import HandS.Lambda
import HandS.RevTup
import HandS.Rev
import PySem.Challenge.RW_lotsandties_k87_books
set_option Elab.async false
set_option linter.all false
set_option maxRecDepth 100000
set_option maxHeartbeats 4000000
namespace Rg
open PySem PySem.Spec PyProof.Rows L2
/-! ### heaps -/
theorem same_upd {H : Hp} {p : Addr} {o : HO} (h : H p = none) : Same H (upd H p o) := fun b x e => by
  rw [upd_ne (ne_of_none e h)]
  exact e
theorem upd_id {H : Hp} {p : Addr} {o : HO} (h : H p = some o) : upd H p o = H := by
  funext b
  by_cases e : b = p
  · rw [e, upd_same, h]
  · rw [upd_ne e]
theorem yes_ {σ : L2.St} {H : Hp} {A B : Hp → Prop} (h : A H) : tYes σ H fun b H3 => if b = true then A H3 else B H3 := by
  show if true = true then A H else B H
  rw [if_pos rfl]
  exact h
/-- what is free behind a store was free, and is another place -/
theorem un {H : Hp} {a b : Addr} {o : HO} (e : upd H a o b = none) : H b = none := by
  by_cases z : b = a
  · rw [z, upd_same] at e; cases e
  · rw [upd_ne z] at e; exact e
theorem unn {H : Hp} {a b : Addr} {o : HO} (e : upd H a o b = none) : b ≠ a := fun z => by
  rw [z, upd_same] at e; cases e
theorem unn' {H : Hp} {a b : Addr} {o : HO} (e : upd H a o b = none) : a ≠ b := fun z => unn e z.symm
theorem upd_comm {H : Hp} {p q : Addr} {o o' : HO} (h : p ≠ q) : upd (upd H p o) q o' = upd (upd H q o') p o := by
  funext b
  by_cases e : b = p
  · rw [e, upd_same, upd_ne h, upd_same]
  · by_cases e2 : b = q
    · rw [e2, upd_same, upd_ne h.symm, upd_same]
    · rw [upd_ne e2, upd_ne e, upd_ne e, upd_ne e2]
theorem upd_app {H : Hp} {p : Addr} {fs : List Int} {x : Int} : upd (upd H p (.lst (fs.map V.int))) p (.lst (fs.map V.int ++ [V.int x])) = upd H p (.lst ((fs ++ [x]).map V.int)) := by
  rw [upd_upd, List.map_append]
  rfl
/-- kept but for what stands at S -/
def Kp (S : List Addr) (H H' : Hp) : Prop := ∀ x o, H x = some o → x ∉ S → H' x = some o
theorem Kp.refl {S : List Addr} {H : Hp} : Kp S H H := fun _ _ e _ => e
theorem Kp.new {S : List Addr} {H H1 : Hp} {a : Addr} {o : HO} (k : Kp S H H1) (h : H1 a = none) : Kp S H (upd H1 a o) := fun x u e n => by
  rw [upd_ne (ne_of_none (k x u e n) h)]
  exact k x u e n
theorem Kp.own {S : List Addr} {H H1 : Hp} {a : Addr} {o : HO} (k : Kp S H H1) (h : a ∈ S) : Kp S H (upd H1 a o) := fun x u e n => by
  have z : x ≠ a := fun z => by rw [z] at n; exact n h
  rw [upd_ne z]
  exact k x u e n
theorem Kp.own1 {p : Addr} {H H1 : Hp} {o : HO} (k : Kp [p] H H1) : Kp [p] H (upd H1 p o) := k.own (by simp)
theorem Kp.trans {S : List Addr} {H H1 H2 : Hp} (a : Kp S H H1) (b : Kp S H1 H2) : Kp S H H2 := fun x o e n => b x o (a x o e n) n
theorem Kp.same {S : List Addr} {H H1 H2 : Hp} (a : Kp S H H1) (b : Same H1 H2) : Kp S H H2 := fun x o e n => b x o (a x o e n)
theorem Kp.of {S : List Addr} {H H1 : Hp} (b : Same H H1) : Kp S H H1 := fun x o e _ => b x o e
theorem Kp.mono {S S' : List Addr} {H H1 : Hp} (a : Kp S H H1) (h : ∀ x, x ∈ S → x ∈ S') : Kp S' H H1 := fun x o e n => a x o e fun z => n (h x z)
theorem Kp.free {S : List Addr} {H H1 : Hp} {x : Addr} (a : Kp S H H1) (n : x ∉ S) (h : H1 x = none) : H x = none := by
  cases q : H x with
  | none => rfl
  | some o => rw [a x o q n] at h; cases h
theorem Kp.at1 {p x : Addr} {H H' : Hp} {o : HO} (k : Kp [p] H H') (e : H x = some o) (n : x ≠ p) : H' x = some o := k x o e (by simp [n])
theorem Kp.ret {a : Addr} {S : List Addr} {H H' : Hp} {o : HO} (k : Kp (a :: S) H H') (h : H a = none) : Kp S H H' := fun x u e n => k x u e (by
  intro z
  rcases List.mem_cons.mp z with z | z
  · rw [z, h] at e; cases e
  · exact n z)
theorem own_f {H H' : Hp} {p : Addr} {o : HO} (h : upd H p o = H') : H' p = some o ∧ Kp [p] H H' ∧ ∀ x, H' x = none → H x = none ∧ x ≠ p := by
  subst h
  exact ⟨upd_same, Kp.refl.own1, fun x e => ⟨un e, unn e⟩⟩
theorem new_f {H H' : Hp} {a : Addr} {o : HO} (h : upd H a o = H') (n : H a = none) : H' a = some o ∧ Same H H' ∧ ∀ x, H' x = none → H x = none ∧ x ≠ a := by
  subst h
  exact ⟨upd_same, same_upd n, fun x e => ⟨un e, unn e⟩⟩
/-- a whole-number constant of the module -/
theorem pe_gc {X : Cx} {x : Str} {n : Int} {pos : Pos} (hm : ∃ t, X.mg x = some (.int n t)) (hg : Gl X x := by rfl) (hd : (x == ("__debug__" : Str)) = false := by decide) : PE X (.Name x pos) (tC (.int n)) :=
  let ⟨t, h⟩ := hm
  pe_glob hg h ⟨t, rfl⟩ hd
/-- a text constant of the module -/
theorem pe_gs {X : Cx} {x z : Str} {pos : Pos} (hm : ∃ t, X.mg x = some (.str z t)) (hg : Gl X x := by rfl) (hd : (x == ("__debug__" : Str)) = false := by decide) : PE X (.Name x pos) (tC (.str z)) :=
  let ⟨t, h⟩ := hm
  pe_glob hg h ⟨t, rfl⟩ hd
/-- C.f, C a class of the module, f a value of the class -/
theorem pe_cv {X : Cx} {x f : Str} {C : Addr} {mc : Value} {v : V} {p pos : Pos} (hm : X.mg x = some (.ref C)) (r : ClX.CRead X.K C mc) (k : ∃ u, ClX.CVal X.K C mc f v u) (hg : Gl X x := by rfl) (hd : (x == ("__debug__" : Str)) = false := by decide)
    (hb : attributeBase (.Name x p) f X.env (eval (.Name x p) X.env) = eval (.Name x p) X.env := by rfl) : PE X (.Attribute (.Name x p) f pos) (tC v) := by
  obtain ⟨u, k⟩ := k
  have := (ClX.pe_cval (pos := pos) (pe_glob (X := X) (x := x) (v := .ref C) (u := .ref C) (pos := p) hg hm rfl hd) hb)
  exact ⟨fun pins s σ H Q I h => this.run pins s σ H Q I ⟨C, mc, v, u, rfl, r, k, h⟩⟩
/-! ### the same rules with the written part named (inside a comprehension) -/
section
variable {X : Cx} {K : PySem.W.Frag}
def rListOf (K : PySem.W.Frag) : List V → Hp → VK → Prop := fun xs H Q => ∃ p ys, xs = [.ref p] ∧ (SqL K H p ys ∨ SqT K H p ys) ∧ ∀ l, H l = none → Q (.ref l) (upd H l (.lst ys))
theorem pe_listof {e : Expr} {te : TE} {p pos : Pos} (he : PE X e te) (hm : X.mg "list" = none) (hK : X.K = K := by rfl) (hg : Gl X "list" := by rfl) (hs : starEach [e] X.env = (false, eval e X.env) :: starEach [] X.env := by rfl) : PE X (.Call (.Name "list" p) [e] [] pos) (tCB (rListOf K) (tCons te tNil)) := by
  subst hK
  exact pe_callTy call_list_of hg hm (by decide +kernel) (pa_cons he pa_nil hs) (he := hs)
theorem pe_fldK {e : Expr} {f : Str} {pos : Pos} {ta : TE} (he : PE X e ta) (hb : attributeBase e f X.env (eval e X.env) = eval e X.env) (hK : X.K = K := by rfl) : PE X (.Attribute e f pos) (tFld K ta f) := by
  subst hK
  exact pe_fld he hb
theorem pe_ixK {a b : Expr} {pos : Pos} {ta tb : TE} (ha : PE X a ta) (hb : PE X b tb) (hs : PlainIx b) (hK : X.K = K := by rfl) : PE X (.Subscript a b pos) (tOp (rIxL K) ta tb) := by
  subst hK
  exact pe_ix ix_list ha hb hs
theorem pe_lenK {e : Expr} {te : TE} {p pos : Pos} (he : PE X e te) (hm : X.mg "len" = none) (hK : X.K = K := by rfl) (hg : Gl X "len" := by rfl) (hs : starEach [e] X.env = (false, eval e X.env) :: starEach [] X.env := by rfl) : PE X (.Call (.Name "len" p) [e] [] pos) (tCB (fun xs H Q => ∃ p ys, xs = [.ref p] ∧ (SqL K H p ys ∨ SqT K H p ys) ∧ Q (.int ys.length) H) (tCons te tNil)) := by
  subst hK
  exact pe_callB call_len_seq hg hm (by decide +kernel) (pa_cons he pa_nil hs) (he := hs)
end
/-! ### static methods, called off the class -/
structure SMet (K : PySem.W.Frag) (C : Addr) (mc : Value) (m : Str) (g : Addr) : Prop where
  ex : ∃ p, PySem.W.findCls K (.ref C) mc m = some (.get (.builtin "staticmethod.__get__") (.ref p) .none (.ref C)) ∧ (∃ rest, PySem.W.recIn K p "staticmethod" = some (.ref g :: rest)) ∧ PySem.W.keepIn K (.ref g) = true
/-- C.m(e, ..), C the class at C, m a static method -/
def tSMeth (sp : Sp) (dvs : List V) (E : XK) (t : TA) : TE := fun σ H Q => t σ H fun vs H2 => sp (vs ++ dvs) H2 Q E
section
variable {X : Cx} {CX : CXT} {k : Nat} {C g : Addr} {mc : Value} {sp : Sp} {E : XK} {x : Str} {e : Expr} {es : List Expr} {m : Str} {p pos apos : Pos} {t : TA} {pl : Sem Bool} {fd : FuncData} {ps : List Str} {ds : List Value} {dvs : List V}
theorem pe_smeth (hmx : X.mg x = some (.ref C)) (r : ClX.CRead X.K C mc) (c : SMet X.K C mc m g) (F : FnOk X.prog X.w X.K X.mg X.base CX k g fd ps sp) (hr : Room k X.A) (hb : Binds X.K fd ps ds) (hd : Vals dvs ds) (hx : Passes CX X E) (ha : PA X (e :: es) t) (hg : Gl X x := by rfl) (hdb : (x == ("__debug__" : Str)) = false := by decide)
    (hst : starEach (e :: es) X.env = (false, eval e X.env) :: starEach es X.env := by rfl) (hpl : (backTo pos (starEach es X.env)).any (·.1) = false := by rfl)
    (ht : eval (.Call (.Attribute (.Name x p) m apos) (e :: es) [] pos) X.env = (do
      let ov ← eval (.Name x p) X.env
      standAt apos.atName
      let (f, first) ← holding [ov] (getMethod ov m pl)
      callWith pos f first (backTo pos (starEach (e :: es) X.env)) (backToKw pos (keywordEach [] X.env))) := by rfl) :
    PE X (.Call (.Attribute (.Name x p) m apos) (e :: es) [] pos) (tSMeth sp dvs E t) := by
  obtain ⟨q, at_, ⟨rest, hp⟩, hk⟩ := c.ex
  refine ⟨fun pins s σ H Q I h => ?_⟩
  refine PySem.W.methodCall_KW (pl := pl) (ld_glob I hg hmx ?_ hdb) ht
  refine PySem.W.method_cls I.kIn r.ga (PySem.W.cls_bind I.kIn r.rd at_ ?_)
  refine wpAny_call (PySem.W.sm_get (s := { s with toks := s.toks + 1 }) I.kIn hp (PySem.W.handed_on rfl ?_))
  refine PySem.W.callWith_K (f := .ref g) (first := []) (h₀ := X.base) I.ok.mod.kin hk (thn (ha.run pos pins _ σ H _ (I.tok _) h) fun us s1 ⟨vs, H1, I1, r1, q1⟩ => ⟨I1.kIn, ?_⟩) hst hpl
  exact run_fn F hr hb hd hx I1 r1 q1
end
/-! ### errors -/
theorem exm_sub {K : PySem.W.Frag} {D S : Addr} (h1 : PySem.W.subIn K (.ref S) (.type "BaseException") = some true) (h2 : PySem.W.isClsIn K S = true) (h3 : PySem.W.typeIn K (.ref S) = some (.type "type")) (h4 : PySem.W.subIn K (.ref D) (.ref S) = some true) :
    PySem.W.exmOne K (.ref D) (.ref S) = some true := by
  have e1 : (PySem.W.subIn K (.ref S) (.type "BaseException") == some true) = true := by rw [h1] <;> rfl
  have e2 : ((PySem.W.clsIn K S).isSome && PySem.W.typeIn K (.ref S) == some (.type "type")) = true := by
    have h2' : (PySem.W.clsIn K S).isSome = true := h2
    rw [h2', h3] <;> rfl
  show (if (PySem.W.subIn K (.ref S) (.type "BaseException") == some true) = true then (if ((PySem.W.clsIn K S).isSome && PySem.W.typeIn K (.ref S) == some (.type "type")) = true then PySem.W.subIn K (.ref D) (.ref S) else none) else none) = some true
  rw [if_pos e1, if_pos e2]
  exact h4
theorem kit_sub {K : PySem.W.Frag} {D S : Addr} {b : Bool} (hne : D ≠ S) (h2 : PySem.W.isClsIn K S = true) (h3 : PySem.W.typeIn K (.ref S) = some (.type "type")) (h4 : PySem.W.subIn K (.ref D) (.ref S) = some b) :
    PySem.W.kitOne K (.ref D) (.ref S) = some b := by
  have e2 : ((PySem.W.clsIn K S).isSome && PySem.W.typeIn K (.ref S) == some (.type "type")) = true := by
    have h2' : (PySem.W.clsIn K S).isSome = true := h2
    rw [h2', h3] <;> rfl
  unfold PySem.W.kitOne
  rw [if_neg (by intro z; exact hne (Value.ref.inj (beq_iff_eq.mp z)))]
  show (if ((PySem.W.clsIn K S).isSome && PySem.W.typeIn K (.ref S) == some (.type "type")) = true then PySem.W.subIn K (.ref D) (.ref S) else none) = some b
  rw [if_pos e2]
  exact h4
/-- a suite that is come to by an error of the class at D alone (no fields of its own) -/
def tOnly (cls : Value) (d : Option Addr) (D : Addr) (t : TS) : TS := fun E σ H => cls = .ref D ∧ d = none ∧ t E σ H
theorem pss_only {X : Cx} {sts : List Stmt} {t : TS} {cls : Value} {d : Option Addr} {D : Addr} (h : cls = .ref D → d = none → PSs X sts t) : PSs X sts (tOnly cls d D t) :=
  ⟨fun pins s σ H E I hh => (h hh.1 hh.2.1).run pins s σ H E I hh.2.2⟩
theorem kit_self {K : PySem.W.Frag} {D : Addr} : PySem.W.kitOne K (.ref D) (.ref D) = some true := by
  unfold PySem.W.kitOne
  rw [if_pos (beq_self_eq_true _)]
theorem dec_iv (a d : Int) : decide (V.int a = V.int d) = decide (a = d) := by
  by_cases e : a = d
  · subst e; simp
  · rw [decide_eq_false e, decide_eq_false fun q => e (V.int.inj q)]
end Rg
namespace Rg
open PySem PySem.Spec PyProof.Rows L2
/-! ### an error that a suite holds, handed to a def of one's own -/
section
variable {prog : Program} {w : World} {A : Around} {E : Value → Shared → Prop} {s : Shared}
/-- a walk over a list comes to its end while an error is handled -/
theorem list_end_hot {it l x1 : Addr} {i : Nat} {items} {Q : Option Value → Shared → Prop} (hot : HotX.HotAt A x1 s.heap) (hit : s.heap.IsListIter it l i) (hl : s.heap.IsList l items) (hx : items[i]? = none)
    (hQ : ∀ h', Heap.ExtBut it s.heap h' → Q none { s with heap := h' }) : wpAny (model prog w) A (pyNext (.ref it)) Q E s := by
  obtain ⟨hh, o1, vs1, h1, d1, c1⟩ := hot; obtain ⟨o, ho, hc, hd⟩ := id hit
  obtain ⟨ol, hol, _, nl, hdl⟩ := hl; unfold pyNext
  have ni : it ≠ x1 := fun z => by
    rw [← z, ho] at h1
    cases h1
    rw [hd] at d1
    cases d1
    simp at c1
  refine wpAny_bind (wpAny_attempt (wpAny_callSpecial?_slot (name := Str.ofString "__next__") hit.typeIs slot_listiter_next (wpAny_call_entry slot_listiter_next hit.typeIs entry_listiter_next ?_ (args_listiter_next _))))
  refine (show wpAny _ _ (field (.ref it) 0 >>= _) _ _ s from ?_); refine wpAny_bind (wpAny_field ho hd (x := .ref l) rfl ?_)
  refine (show wpAny _ _ (if (Value.ref l == Value.none) = true then _ else _) _ _ s from ?_); rw [if_neg (show ¬ ((Value.ref l == Value.none) = true) from Bool.false_ne_true)]
  refine (show wpAny _ _ (field (.ref it) 1 >>= _) _ _ s from ?_); refine wpAny_bind (wpAny_field ho hd (x := .int i 0) rfl ?_)
  refine (show wpAny _ _ (seqItems? (.ref l) >>= _) _ _ s from ?_); refine wpAny_bind (wpAny_seqItems hol hdl ?_)
  simp only [Int.toNat_natCast, hx]; refine wpAny_bind (wpAny_rule (wpAny_bind (wpAny_setField ho hd (by simp) ?_)))
  refine (show wpAny _ _ (newExc (.type "StopIteration") [] >>= _) _ _ _ from ?_); refine wpAny_bind ?_
  simp only [newExc, newTuple]; refine wpAny_bind (wpAny_newObj_type ?_ (by size_fits))
  refine wpAny_bind (m := firstArgMember _ _) (wpAny_of_eq (a := Value.none) (by first | rfl | (simp only [firstArgMember]; rfl)) ?_); refine wpAny_newObj_type ?_ (by size_fits)
  have g1 : ∀ f : Obj → Obj, (s.heap.update it f).get? x1 = some o1 := fun f => by rw [Heap.get?_update_other _ _ ni]; exact h1
  refine HotX.raiseNew_hot ⟨hh, o1, vs1, Heap.get?_push_of_some _ (Heap.get?_push_of_some _ (g1 _)), d1, c1⟩ (Nat.ne_of_lt (Heap.lt_size (Heap.get?_push_of_some _ (g1 _)))) (Heap.get?_push_size _ rfl) rfl (by first | (simp; done) | (simp; omega) | (simp only [Array.size_append]; simp; omega)) ?_
  refine wpAny_bind (wpAny_isInstance (T := "StopIteration") (b := true) ⟨_, Heap.get?_update_self _ (Heap.get?_push_size _ rfl) rfl, rfl⟩ isSubtype_stop ?_); refine wpAny_pure (hQ _ fun b o' nb e => ?_)
  have e2 : ∀ f oo, ((s.heap.update it f).push oo).get? b = some o' := fun f oo => (Heap.SameBut.update ..).extBut.push _ b o' nb e
  rw [Heap.get?_update_other _ _ (Nat.ne_of_gt (Heap.lt_size (e2 _ _)))]; exact Heap.get?_push_of_some _ (e2 _ _)
end
/-- the turns of a walk over a list while an error is handled -/
theorem turn_listH {P : Program} {w : World} {K : PySem.W.Frag} {tg : Expr} (a it : Addr) : L2H.TurnH P w K tg (Itl K a) [it] it (fun i h => h.IsListIter it a i) where
  mem := by simp
  obj := fun i h st b hb => (turn_list (P := P) (w := w) (K := K) (tg := tg) a it).obj i h st b hb
  keep := fun i h h' st k => (turn_list (P := P) (w := w) (K := K) (tg := tg) a it).keep i h h' st k
  item := by
    intro X hP hw hK hc i pins s σ H E I hf st hg; subst hP hw hK
    obtain ⟨xs, x, hq, hx⟩ := hg; obtain ⟨its, rv, p, hz⟩ := I.list hq
    obtain ⟨u, hu, ru⟩ := rv.get hx; obtain ⟨f0, f1, f2, f3, f4, f5⟩ := hf it (by simp)
    refine wpAny_pyNext_list_item st p.isList (x := u) (by simpa using hu) fun h' st' sb => ?_
    have I1 : Inv X pins σ H { s with heap := h' } := I.turned (t' := s.toks) (fun b o hb e => (sb.2 b hb).trans e) f0 f1 f3 f4 f5
    obtain ⟨o, e, c, d⟩ := id st'
    exact ⟨u, rfl, go_of (s := { s with heap := h' }) e c d (by decide) ⟨x, H, I1, ru, ⟨rfl, fun ys hy => by rw [I.list_inj hy hq]; exact hx⟩, st', fun b hb => (hf b hb).1⟩⟩
  done := by
    intro X hP hw hK hc i pins s σ H E I hf st hg; subst hP hw hK
    obtain ⟨xs, hq, hx⟩ := hg; obtain ⟨its, rv, p, hz⟩ := I.list hq
    obtain ⟨f0, f1, f2, f3, f4, f5⟩ := hf it (by simp); obtain ⟨x1, hot⟩ := hc.at I
    have hl := rv.length
    exact list_end_hot hot st p.isList (by simp; omega) fun h' eb => ⟨rfl, I.turned (t' := s.toks) (fun b o hb e => eb b o hb e) f0 f1 f3 f4 f5⟩
  self := fun _ _ _ _ _ st h => wpAny_pyIter_listiter st h
theorem pi_listH {X : Cx} {tg l : Expr} {tl : TE} (hl : PE X l tl) : L2H.PIH X tg l (iList X.K tl) := by
  refine ⟨fun pins s σ H R I h => thn (hl.run pins s σ H _ I h) fun v s1 ⟨x, H1, I1, r1, q1⟩ => ?_⟩
  obtain ⟨a, e, ⟨xs, hq⟩, q⟩ := q1; subst e; cases r1
  obtain ⟨its, rv, p, hz⟩ := I1.list hq; refine wpAny_pyIter_list p.isList ?_
  refine ⟨s1.heap.objs.size, [s1.heap.objs.size], _, _, H1, rfl, I1.kept (t' := s1.toks) (fun b o e => Heap.get?_push_of_some _ e), turn_listH a _, ⟨_, Heap.get?_push_size _ rfl, rfl, rfl⟩, fun b hb => ?_, q⟩
  have e : b = s1.heap.objs.size := by simpa using hb
  subst e; exact I1.fpOk (Nat.le_refl _) (I1.hok.fresh (Nat.le_refl _))
/-- a def that is called with the error that a suite holds (of the class at D) and lets nothing out -/
structure FnE (P : Program) (w : World) (K : PySem.W.Frag) (mg : Str → Option Value) (base : Heap) (k : Nat) (f : Addr) (fd : FuncData) (ps : List Str) (D : Addr) (sp : Addr → Sp) : Prop where
  len : ∀ a vs H Q E, sp a vs H Q E → vs.length = ps.length
  run : ∀ (A : Around) (outer : List Env) (s : Shared) (H : Hp) (args : Args) (us : List Value) (vs : List V) (Q : VK) (E : XK) (p : Addr × Obj), L2H.RoomH k A → L2H.Hot1 A p → Zc (.ref D) none p.2 → L2H.PinOk outer H s p → Env0 P w K mg base A outer s H →
    BindsTo s fd args (ps.zip us) → Vals vs us → sp p.1 vs H Q E → codeAny (model P w) A (.call (.ref f) args) (CR CX0 outer P w H s Q E) s
section
variable {P : Program} {w : World} {K : PySem.W.Frag} {mg : Str → Option Value} {base : Heap}
theorem _root_.L2.Fun.okE {x qual : Str} {st : Stmt} {f D : Addr} {fd : FuncData} {N ps : List Str} {k : Nat} {sp : Addr → Sp} (F : Fun K x qual st f fd) (S : FnScope N ps (defScope st)) (len : ∀ a vs H Q E, sp a vs H Q E → vs.length = ps.length)
    (hbody : ∀ (cdv : Value) (A : Around) (outer : List Env) (s : Shared) (H : Hp) (vs : List V) (Q : VK) (E : XK) (p : Addr × Obj), L2H.Hot1 A p → Zc (.ref D) none p.2 → L2H.RoomH k (A.deeper (envOfC qual (defScope st) s.heap.objs.size f cdv)) → sp p.1 vs H Q E →
      ∃ t, PSs (L2H.cxH CX0 P w K mg base N qual (defScope st) f cdv A outer s H E p) (defBody st) t ∧ t { nx := fun _ H' => Q .non H', rt := Q } (L2.start N vs) H) : FnE P w K mg base (k + 1) f fd ps D sp := by
  obtain ⟨oc, od, kV, doc, pm, an, cdv, ct, osl, rfl, lk, hcd⟩ := F.ex
  refine ⟨len, fun A outer s H args us vs Q E p hr hot hz hpin e0 hb r hsp => ?_⟩
  have hl := len _ _ _ _ _ hsp; have KX : K.In s.heap := e0.mod.kin.keeps fun b o e => (e0.bs b o e).1
  have lim : s.heap.NoLimit := e0.mod.nolimit.keeps fun b o e => (e0.bs b o e).1; have bb := hb
  have hkind : ∀ y ∈ ps.zip us, (defScope st).names.lookup y.1 = some .local ∨ ((defScope st).names.lookup y.1 = some .cell ∧ ((cellsFrom (s.heap.objs.size + 1) (defScope st).names []).lookup y.1).isSome = true) := fun ⟨n, v⟩ hy =>
    (S.par n (List.of_mem_zip hy).1).elim .inl fun q => .inr ⟨q, PySem.W.cellsFrom_some _ _ _ (.inl q)⟩
  refine codeAny_call_function hr.depth (KX _ _ lk) rfl S.co S.gen rfl (PySem.W.codeRec_of KX hcd) (bb _ _ _ _ (wpAny_newFunctionEnv_cells S.kind hkind fun env he s1 x => ?_))
  subst he; refine ⟨lim.keeps x.toInCall.keep, codeAny_func ?_⟩
  obtain ⟨t, ht, hq⟩ := hbody cdv A outer s H vs Q E p hot hz (hr.deeper _) hsp
  have I := L2H.inv_startH (CX := CX0) (E := E) S hpin e0 hl r x
  refine wpAny_mono (ht.run [] s1 (L2.start N vs) H _ I hq) (fun fl s' hs => ?_) fun _ _ hs => hs
  cases fl with
  | ret u => exact hs.elim fun v ⟨σ', H', J, rv, q⟩ => ⟨v, H', J.os, J.bare, J.base, J.hok, rv, q⟩
  | next => exact hs.elim fun σ' ⟨H', J, q⟩ => ⟨V.non, H', J.os, J.bare, J.base, J.hok, rfl, q⟩
  | brk => exact hs.elim fun _ ⟨_, _, q⟩ => q.elim
  | cont => exact hs.elim fun _ ⟨_, _, q⟩ => q.elim
end
section
variable {X : Cx} {k : Nat} {f D : Addr} {fd : FuncData} {ps : List Str} {sp : Addr → Sp} {x : Str} {q pos : Pos} {e : Expr} {es : List Expr} {t : TA}
/-- f(e, ..), f a def for the error at a -/
def tCallE (sp : Addr → Sp) (a : Addr) (t : TA) : TE := fun σ H Q => t σ H fun vs H1 => sp a vs H1 Q E0
theorem pe_callE (F : FnE X.prog X.w X.K X.mg X.base k f fd ps D sp) (hr : L2H.RoomH k X.A) {p : Addr × Obj} (hot : L2H.Hot1 X.A p) (hz : Zc (.ref D) none p.2) (hp : p ∈ X.pn) (hg : Gl X x) (hm : X.mg x = some (.ref f)) (hk : PySem.W.keepIn X.K (.ref f) = true) (hb : Binds X.K fd ps [])
    (ha : PA X (e :: es) t) (hdb : (x == ("__debug__" : Str)) = false := by decide) (he : starEach (e :: es) X.env = (false, eval e X.env) :: starEach es X.env := by rfl) (hpl : (backTo pos (starEach es X.env)).any (·.1) = false := by rfl) :
    PE X (.Call (.Name x q) (e :: es) [] pos) (tCallE sp p.1 t) := by
  refine ⟨fun pins s σ H Q I h => wpAny_Call_Name_kw (ld_glob I hg hm ?_ hdb)⟩
  refine PySem.W.callWith_K (h₀ := X.base) I.ok.mod.kin hk (thn (ha.run pos pins s σ H _ I h) fun us s1 ⟨vs, H1, I1, r, q⟩ => ⟨I1.kIn, ?_⟩) he hpl
  have hl : us.length = ps.length := by rw [← r.length]; exact F.len _ _ _ _ _ q
  have b := hb s1 us I1.kIn (by rw [List.append_nil]; exact hl)
  rw [List.append_nil] at b
  have P1 := I1.pin p (List.mem_append_left _ hp)
  have hpin : L2H.PinOk X.stack H1 s1 p := ⟨P1.1, P1.2.1, fun hm' => (List.mem_cons.mp (I1.stkSub p.1 hm')).elim P1.2.2.1 P1.2.2.2.1, P1.2.2.2.2⟩
  refine wpAny_call (codeAny_mono (F.run X.A X.stack s1 H1 ⟨us, []⟩ us vs Q E0 p hr hot hz hpin I1.env0 b r q) fun r' s' hq => ?_)
  cases r' with
  | error e => exact False.elim hq
  | ok fl =>
    cases fl with
    | ret u => exact I1.after hq
    | _ => exact False.elim hq
/-- isinstance of the error that is handled, in whatever def it is asked -/
theorem call_isP {a D : Addr} {oe : Obj} (C : ExcC X.K D) (hz : Zc (.ref D) none oe) (hf : ∃ vs, oe.data = .fields vs) (hp : (a, oe) ∈ X.pn) : CallR X (.builtin "isinstance") (rIsE X.K D a) := by
  rintro pins s σ H xs us Q I r ⟨c, cv, b, rfl, hcv, e, q⟩
  obtain ⟨vs, hv⟩ := hf
  cases r with
  | cons rx rr =>
    cases rr with
    | cons rt rr =>
      cases rr; cases rx
      have ec := hcv _ rt
      subst ec
      have hget := (I.pin (a, oe) (List.mem_append_left _ hp)).1
      have J : PySem.W.InstAt s.heap a oe D none := by
        obtain ⟨oc, od, oda, osl⟩ := oe
        obtain ⟨h1, h2⟩ := hz
        subst hv
        cases h1
        cases h2
        exact ⟨hget, rfl, rfl, trivial⟩
      exact PySem.W.kia_one (PySem.W.handS_kitx_exc C.hg C.hk C.hs C.hd C.ha C.hn C.ht C.hm) I.kIn J e (fun z => nomatch z) fun tk => ⟨.bl b, H, I.kept (t' := tk) fun _ _ z => z, rfl, q⟩
end
/-! ### defs that raise: the error's context is told to be None -/
section
variable {P : Program} {w : World} {K : PySem.W.Frag} {mg : Str → Option Value} {base : Heap}
theorem _root_.L2.Fun.okN {x qual : Str} {st : Stmt} {f : Addr} {fd : FuncData} {N ps : List Str} {k : Nat} {sp : Sp} (F : Fun K x qual st f fd) (S : FnScope N ps (defScope st)) (len : ∀ vs H Q E, sp vs H Q E → vs.length = ps.length)
    (hbody : ∀ (cdv : Value) (A : Around) (outer : List Env) (s : Shared) (H : Hp) (vs : List V) (Q : VK) (E : XK), Room k (A.deeper (envOfC qual (defScope st) s.heap.objs.size f cdv)) → sp vs H Q E →
      ∃ t, PSs (cxOf (L2N.CX P w) P w K mg base N qual (defScope st) f cdv A outer s H E) (defBody st) t ∧ t { nx := fun _ H' => Q .non H', rt := Q } (L2.start N vs) H) : FnOk P w K mg base (L2N.CX P w) (k + 1) f fd ps sp := by
  obtain ⟨oc, od, kV, doc, pm, an, cdv, ct, osl, rfl, lk, hcd⟩ := F.ex
  exact fn_of lk hcd S len fun A outer s H vs Q E hr hsp => hbody cdv A outer s H vs Q E hr hsp
theorem takes0N {X : Cx} : L2N.Takes X (fun _ _ _ _ => False) := fun _ _ x => by
  obtain ⟨_, _, _, _, _, _, _, _, _, _, _, _, _, _, _, _, z⟩ := x
  cases z
end
section
variable {X : Cx} {C : Addr} {bmB : List Value} {B newId initId : String}
/-- X(e) -/
theorem pmk_own1N {x : Str} {e : Expr} {ta : TE} {p pos : Pos} (F : ExcBaseFacts B newId initId bmB) (q : PySem.W.excIn X.K C bmB newId = true) (gC : X.mg x = some (.ref C)) (kC : PySem.W.keepIn X.K (.ref C) = true) (r : Raises X (.ref C)) (hg : Gl X x) (he : PE X e ta)
    (hs : starEach [e] X.env = (false, eval e X.env) :: starEach [] X.env := by rfl) (hdb : (x == ("__debug__" : Str)) = false := by decide) : L2N.PMk X (.Call (.Name x p) [e] [] pos) (fun σ H Q => ta σ H fun _ H1 => Q (.ref C) none H1) := by
  intro pins s σ H Q I h; refine wpAny_Call_Name_kw (ld_glob I hg gC ?_ hdb)
  refine PySem.W.callWith_K (h₀ := X.base) I.ok.mod.kin kC ?_ hs (by rfl); rw [hs]
  refine (show wpAny _ _ (spliced ((false, eval e X.env) :: backTo pos (starEach [] X.env))) _ _ s from ?_)
  refine Calls.spliced_cons (thn (he.run pins s σ H _ I h) fun u s1 ⟨v, H1, I1, r1, q1⟩ => Calls.spliced_nil ⟨I1.kIn, ?_⟩)
  refine (show wpAny _ _ (call (.ref C) [u]) _ _ _ from ?_)
  obtain ⟨bm, N, nm, qn, bs, hdct, sn, sub, ab, col, dd, k0, k1, k2, k3, k5, mN, hC, hN, hni, T⟩ := exc_obj I1.kIn q
  exact wpAny_call_exc_subT F T hC hN hni (fun h' e' hm => L2N.mk_of I1 hm r q1 (I1.hok.gone hm.new)) (by show 1 ≤ sizeLine; rw [sizeLine_eq]; omega)
end
/-! ### which class an error is of -/
theorem kit_subT {K : PySem.W.Frag} {D S : Addr} (h2 : PySem.W.isClsIn K S = true) (h3 : PySem.W.typeIn K (.ref S) = some (.type "type")) (h4 : PySem.W.subIn K (.ref D) (.ref S) = some true) : PySem.W.kitOne K (.ref D) (.ref S) = some true := by
  by_cases e : D = S
  · subst e
    exact kit_self
  · exact kit_sub e h2 h3 h4
theorem kit_blt {K : PySem.W.Frag} {D : Addr} {b : String} {r : Bool} (hm : PySem.W.kitMeta b = true) (h : PySem.W.subIn K (.ref D) (.type b) = some r) : PySem.W.kitOne K (.ref D) (.type b) = some r := by
  unfold PySem.W.kitOne
  rw [if_neg (by intro z; exact nomatch (beq_iff_eq.mp z))]
  unfold PySem.W.kitCls
  simpa [hm] using h
theorem takeB {α : Type} {l : List α} {i : Nat} {x : α} (h : l[i]? = some x) : l.take (i + 1) = l.take i ++ [x] := by
  rw [List.take_succ, h]
  rfl
/-! ### unpacking a tuple while an error is handled -/
section
variable {prog : Program} {w : World} {A : Around} {E : Value → Shared → Prop} {s : Shared}
theorem tup_end_hot {it l x1 : Addr} {i : Nat} {items} {Q : Option Value → Shared → Prop} (hot : HotX.HotAt A x1 s.heap) (hit : IsTupIter s.heap it l i) (hl : IsTup s.heap l items) (hx : items[i]? = none)
    (hQ : ∀ h', Heap.ExtBut it s.heap h' → Q none { s with heap := h' }) : wpAny (model prog w) A (pyNext (.ref it)) Q E s := by
  obtain ⟨hh, o1, vs1, h1, d1, c1⟩ := hot; obtain ⟨o, ho, hc, hd⟩ := id hit
  obtain ⟨ol, hol, _, nl, hdl⟩ := hl; unfold pyNext
  have ni : it ≠ x1 := fun z => by
    rw [← z, ho] at h1
    cases h1
    rw [hd] at d1
    cases d1
    simp at c1
  refine wpAny_bind (wpAny_attempt (wpAny_callSpecial?_slot (name := Str.ofString "__next__") hit.typeIs slot_tupleiter_next (wpAny_call_entry slot_tupleiter_next hit.typeIs entry_tupleiter_next ?_ (args_tupleiter_next _))))
  refine (show wpAny _ _ (field (.ref it) 0 >>= _) _ _ s from ?_); refine wpAny_bind (wpAny_field ho hd (x := .ref l) rfl ?_)
  refine (show wpAny _ _ (if (Value.ref l == Value.none) = true then _ else _) _ _ s from ?_); rw [if_neg (show ¬ ((Value.ref l == Value.none) = true) from Bool.false_ne_true)]
  refine (show wpAny _ _ (field (.ref it) 1 >>= _) _ _ s from ?_); refine wpAny_bind (wpAny_field ho hd (x := .int i 0) rfl ?_)
  refine (show wpAny _ _ (seqItems? (.ref l) >>= _) _ _ s from ?_); refine wpAny_bind (wpAny_seqItems hol hdl ?_)
  simp only [Int.toNat_natCast, hx]; refine wpAny_bind (wpAny_rule (wpAny_bind (wpAny_setField ho hd (by simp) ?_)))
  refine (show wpAny _ _ (newExc (.type "StopIteration") [] >>= _) _ _ _ from ?_); refine wpAny_bind ?_
  simp only [newExc, newTuple]; refine wpAny_bind (wpAny_newObj_type ?_ (by size_fits))
  refine wpAny_bind (m := firstArgMember _ _) (wpAny_of_eq (a := Value.none) (by first | rfl | (simp only [firstArgMember]; rfl)) ?_); refine wpAny_newObj_type ?_ (by size_fits)
  have g1 : ∀ f : Obj → Obj, (s.heap.update it f).get? x1 = some o1 := fun f => by rw [Heap.get?_update_other _ _ ni]; exact h1
  refine HotX.raiseNew_hot ⟨hh, o1, vs1, Heap.get?_push_of_some _ (Heap.get?_push_of_some _ (g1 _)), d1, c1⟩ (Nat.ne_of_lt (Heap.lt_size (Heap.get?_push_of_some _ (g1 _)))) (Heap.get?_push_size _ rfl) rfl (by first | (simp; done) | (simp; omega) | (simp only [Array.size_append]; simp; omega)) ?_
  refine wpAny_bind (wpAny_isInstance (T := "StopIteration") (b := true) ⟨_, Heap.get?_update_self _ (Heap.get?_push_size _ rfl) rfl, rfl⟩ isSubtype_stop ?_); refine wpAny_pure (hQ _ fun b o' nb e => ?_)
  have e2 : ∀ f oo, ((s.heap.update it f).push oo).get? b = some o' := fun f oo => (Heap.SameBut.update ..).extBut.push _ b o' nb e
  rw [Heap.get?_update_other _ _ (Nat.ne_of_gt (Heap.lt_size (e2 _ _)))]; exact Heap.get?_push_of_some _ (e2 _ _)
theorem unpack_hot {t x1 : Addr} {items : Array Value} {Q : List Value → Shared → Prop} (hot : HotX.HotAt A x1 s.heap) (ht : IsTup s.heap t items)
    (hQ : ∀ h', Heap.ExtBut s.heap.objs.size s.heap h' → Q items.toList { s with heap := h' }) : wpAny (model prog w) A (unpackItems (.ref t) items.size none) Q E s := by
  have hlt : t ≠ s.heap.objs.size := ht.elim fun o ho => Nat.ne_of_lt (Heap.lt_size ho.1)
  have hx : x1 ≠ s.heap.objs.size := hot.2.elim fun o ho => ho.elim fun _ h => Nat.ne_of_lt (Heap.lt_size h.1)
  unfold unpackItems notIterableAtAll; refine wpAny_bind (wpAny_bind (wpAny_specialOf ht.typeIs slot_tuple_iter.lookup (wpAny_pure ?_)))
  simp only [Bool.false_eq_true, if_false]; refine wpAny_bind (wpAny_holding (iter_tuple ht (wpAny_bind (wpAny_holding (draw_tuple hlt items.size 0 _ _ ⟨_, Heap.get?_push_size _ rfl, rfl, rfl⟩ (ht.push _) (by omega) fun h₁ hit₁ hs₁ => ?_)))))
  have hall : List.take items.size (List.drop 0 items.toList) = items.toList := by rw [List.drop_zero]; exact List.take_of_length_le (by simp)
  rw [hall, if_neg (by simp)]
  have ht₁ := (ht.push { cls := .type "tuple_iterator", data := .fields #[.ref t, .int 0 0] }).extBut hs₁.extBut hlt
  have hot₁ : HotX.HotAt A x1 h₁ := hot.2.elim fun o ho => ho.elim fun vv h => ⟨hot.1, o, vv, hs₁.extBut x1 o hx (Heap.get?_push_of_some _ h.1), h.2.1, h.2.2⟩
  refine wpAny_bind (wpAny_holding (tup_end_hot hot₁ hit₁ ht₁ (by simp) fun h₂ he₂ => ?_))
  simp only [Option.isSome_none, Bool.false_eq_true, if_false]; exact wpAny_pure (hQ h₂ fun b o hb e => he₂ b o hb (hs₁.extBut b o hb (Heap.get?_push_of_some _ e)))
end
/-- (a, b, ..) = a tuple, while an error is handled -/
theorem pg_tupH {X : Cx} {pos : Pos} {es : List Expr} {k : Nat} {t : TGs} {n : Nat} (hc : L2H.HotC X) (h : PGs X es t) (hn : (assignEach es X.env).length = n := by rfl) (hst : (assignEach es X.env).findIdx? (·.1) = none := by rfl) : PG X (.Tuple es k pos) (gTup X.K n t) := by
  refine ⟨fun pins s σ H v u Q I r hw => ?_⟩
  obtain ⟨a, xs, e1, hq, hl, hw⟩ := hw; subst e1; cases r
  obtain ⟨its, rv, ht, hz⟩ := I.tuple hq; obtain ⟨x1, hot⟩ := hc.at I
  rw [assign_Tuple]; refine wpAny_bind (wpAny_standAt ?_); unfold unpack
  rw [show (assignEach es X.env).length = its.toArray.size by simp [hn, ← hl, rv.length], hst]
  refine wpAny_bind (wpAny_holding (unpack_hot hot ht fun h' hx => ?_))
  have I1 : Inv X pins σ H { s with heap := h' } := I.kept (t' := s.toks) fun b o e => hx b o (Nat.ne_of_lt (Heap.lt_size e)) e
  exact h.run pins _ σ H xs _ Q I1 (by simpa using rv) hw
/-- a def that may raise, called where it does not -/
theorem passLN {X : Cx} : Passes (L2N.CX X.prog X.w) X E0 := fun _ _ _ _ _ _ _ h => by
  obtain ⟨_, _, _, _, _, _, _, _, _, _, _, _, z⟩ := h
  exact False.elim z
end Rg
namespace Rg
open PySem PySem.Spec PyProof.Rows L2
/-! ### enumerate(tuple) -/
open Sem (wp)
open AutoSeq1 (wpAny_loadPart')
theorem meets_enumerate_newT (l : Addr) (items : Array Value) (n : Nat) (dct : Option Addr) (sl : Array (Option Value)) :
    Meets (Builtin.«enumerate.__new__» ⟨[.type "enumerate", .ref l], []⟩) (fun _ R s => s.heap.get? l = some { cls := .type "tuple", dict := dct, data := .seq items n, slots := sl } ∧
      R (.ok (.ret (.ref (s.heap.push { cls := .type "tuple_iterator", data := .fields #[.ref l, .int 0 0] }).objs.size)))
        { s with heap := (s.heap.push { cls := .type "tuple_iterator", data := .fields #[.ref l, .int 0 0] }).push { cls := .type "enumerate", data := .fields #[.none, .bool false, .ref s.heap.objs.size, rawInt 0, .none, .none] } }) :=
  .of_wp fun prog w A R s h => by
    obtain ⟨hp, g, d, tk, os⟩ := s; obtain ⟨hl, h⟩ := h
    have hsub := sub_enumerate
    have hL : Heap.IsTuple (Shared.heap ⟨hp, g, d, tk, os⟩) l items := ⟨_, hl, rfl, n, rfl⟩
    wp_walk using wpAny_loadPart' hl
    refine wpAny_stack_any fun st => wpAny_pure ?_
    split
    · rename_i c _ _ _ _ _
      cases (c == Value.type "enumerate")
      · wp_walk using wpAny_loadPart' hl, wpAny_pyIter_tuple hL
        exact ⟨_, rfl, h⟩
      · wp_walk using wpAny_loadPart' hl, wpAny_pyIter_tuple hL
        exact ⟨_, rfl, h⟩
    · wp_walk using wpAny_loadPart' hl, wpAny_pyIter_tuple hL
      exact ⟨_, rfl, h⟩
section
variable {prog : Program} {w : World} {A : Around} {E : Value → Shared → Prop} {s : Shared}
theorem call_enumerate_tuple {l : Addr} {items : Array Value} {Q : Value → Shared → Prop} (hL : s.heap.IsTuple l items)
    (h : ∀ h', IsEnum h' (s.heap.objs.size + 1) s.heap.objs.size 0 .none → h'.IsTupleIter s.heap.objs.size l 0 → h'.objs.size = s.heap.objs.size + 2 →
      (∀ b o, s.heap.get? b = some o → h'.get? b = some o) → Q (.ref (s.heap.objs.size + 1)) { s with heap := h' }) :
    wpAny (model prog w) A (call (.type "enumerate") [.ref l]) Q E s := by
  obtain ⟨⟨c, dct, dt, sl⟩, hl, hc, n, hd⟩ := hL
  replace hc : c = .type "tuple" := hc
  replace hd : dt = .seq items n := hd
  subst hc hd
  refine callType_new F.called_enumerate (by decide) (F.typeCall_enumerate_1 _) (F.newCall_enumerate_1 _) (fun obj => F.args_object_init_2 obj _) F.entry_enumerate_new
    (meets_enumerate_newT l items n dct sl) ⟨hl, ?_⟩
  have hz : (s.heap.push { cls := .type "tuple_iterator", data := .fields #[.ref l, .int 0 0] }).objs.size = s.heap.objs.size + 1 := Heap.size_push ..
  show _ ∧ _
  rw [hz]
  have he : IsEnum ((s.heap.push { cls := .type "tuple_iterator", data := .fields #[.ref l, .int 0 0] }).push
      { cls := .type "enumerate", data := .fields #[.none, .bool false, .ref s.heap.objs.size, rawInt 0, .none, .none] }) (s.heap.objs.size + 1) s.heap.objs.size 0 .none := by
    have := Heap.get?_push_size (s.heap.push { cls := .type "tuple_iterator", data := .fields #[.ref l, .int 0 0] })
      (o := { cls := .type "enumerate", data := .fields #[.none, .bool false, .ref s.heap.objs.size, rawInt 0, .none, .none] }) rfl
    rw [hz] at this; exact this
  refine ⟨⟨_, he, rfl⟩, h _ he ⟨_, Heap.get?_push_of_some _ (Heap.get?_push_size _ rfl), rfl, rfl⟩ (by rw [Heap.size_push, hz]) fun b o x => Heap.get?_push_of_some _ (Heap.get?_push_of_some _ x)⟩
end
/-- the tuple at a as it stands at each turn, each item in a new pair -/
def IteT (K : PySem.W.Frag) (a : Addr) : It :=
  ⟨fun i H => ∃ (xs : List V) (x : V), SqT K H a xs ∧ xs[i]? = some x, fun i H v H' => ∃ T x, v = .ref T ∧ H T = none ∧ H' = upd H T (.tup [.int (i : Nat), x]) ∧ ∀ xs, SqT K H a xs → xs[i]? = some x, fun i H => ∃ xs : List V, SqT K H a xs ∧ xs.length ≤ i⟩
theorem turn_enumT {P : Program} {w : World} {K : PySem.W.Frag} {elts : List Expr} {kk : Nat} {tpos : Pos} (a e it : Addr) :
    Turn P w K (.Tuple elts kk tpos) (IteT K a) [e, it] e (fun i h => (∃ old, IsEnum h e it ((i : Nat) : Int) old) ∧ h.IsTupleIter it a i ∧ e ≠ it) where
  mem := by simp
  obj := fun i h st b hb => by
    obtain ⟨⟨old, he⟩, ⟨o, ho, hc, hd⟩, _⟩ := st
    have e' : b = e ∨ b = it := by simpa using hb
    rcases e' with z | z
    · rw [z]; exact ⟨_, he, fun v q => nomatch q⟩
    · rw [z]; exact ⟨o, ho, fun v q => by rw [hd] at q; cases q⟩
  keep := fun i h h' st k => let ⟨⟨old, he⟩, hi, hne⟩ := st; ⟨⟨old, k e (by simp) _ he⟩, hi.at fun o q => k it (by simp) o q, hne⟩
  item := by
    intro X hP hw hK hc i pins s σ H E I hf st hg
    subst hP hw hK
    obtain ⟨⟨old, he⟩, hit, hne⟩ := st
    obtain ⟨xs, x, hq, hx⟩ := hg
    obtain ⟨its, rv, p, hz⟩ := I.tuple hq
    obtain ⟨u, hu, ru⟩ := rv.get hx
    have hlt : i < its.toArray.size := by
      have := (List.getElem?_eq_some_iff.mp hu).1
      simpa using this
    have hel : e < s.heap.objs.size := Heap.lt_size he
    have hil : it < s.heap.objs.size := by obtain ⟨_, q, _⟩ := hit; exact Heap.lt_size q
    have hae : a ≠ e := fun z => by
      obtain ⟨o, ho, hc', _⟩ := p
      rw [z] at ho
      have := Option.some.inj (ho.symm.trans he)
      rw [this] at hc'
      have hc2 : Value.type "enumerate" = Value.type "tuple" := hc'
      exact absurd hc2 (by decide)
    have hai : a ≠ it := fun z => by
      obtain ⟨o, ho, hc', _⟩ := p
      obtain ⟨o2, ho2, hc2, _⟩ := hit
      rw [z] at ho
      have := Option.some.inj (ho.symm.trans ho2)
      rw [this, hc2] at hc'
      exact absurd hc' (by decide)
    refine wpAny_pyNext_enum_itemD (Draws.tuple (prog := X.prog) (w := X.w) (A := X.A.in1) (I.ok.hd hc) it a hai its.toArray) he ⟨hit, p⟩ hlt hne (by simp [hne, hae.symm]) fun y h' tk hy ho hit' hT hsz hk => ?_
    have ey : y = u := by
      have e1 : its.toArray[i]? = some u := by simpa using hu
      rw [e1] at hy
      exact (Option.some.inj hy).symm
    subst ey
    refine ⟨_, rfl, wpAny_letOwnedTupleGo_enum (s := { s with heap := h', toks := tk + 1 }) ho fun h'' he' sb => ?_⟩
    have hT2 : h''.get? s.heap.objs.size = some { cls := .type "tuple", data := .seq #[.int i tk, y] } := (sb.2 _ (Nat.ne_of_gt hel)).trans hT
    have new : ObjOk X.prog X.w (upd H s.heap.objs.size (.tup [.int (i : Nat), x])) h'' s.heap.objs.size (.tup [.int (i : Nat), x]) :=
      ⟨by show 2 ≤ sizeLine; decide, [.int i tk, y], .cons ⟨_, rfl⟩ (.cons ru .nil), ⟨_, hT2, rfl, _, rfl⟩⟩
    have I1 : Inv X pins σ (upd H s.heap.objs.size (.tup [.int (i : Nat), x])) { s with heap := h'', toks := tk + 1 } :=
      I.turnedNew (t' := tk + 1) (ch := [e, it]) (fun b ob hb q => (sb.2 b (fun z => hb (by simp [z]))).trans (hk b ob (fun z => hb (by simp [z])) (fun z => hb (by simp [z])) q)) hf (Nat.le_refl _) new
    refine ⟨.ref s.heap.objs.size, _, I1, rfl, ⟨_, x, rfl, I.hok.fresh (Nat.le_refl _), rfl, fun ys hy => by rw [I.tuple_inj hy hq]; exact hx⟩, ⟨⟨y, ?_⟩, hit'.1.at fun o q => (sb.2 it (Ne.symm hne)).trans q, hne⟩, fun b hb => ?_⟩
    · have e1 : ((i + 1 : Nat) : Int) = (i : Int) + 1 := by omega
      rw [e1]; exact he'
    · have hb' : b < s.heap.objs.size := by
        have e' : b = e ∨ b = it := by simpa using hb
        rcases e' with z | z
        · rw [z]; exact hel
        · rw [z]; exact hil
      rw [upd_ne (Nat.ne_of_lt hb')]
      exact (hf b hb).1
  done := by
    intro X hP hw hK hc i pins s σ H E I hf st hg
    subst hP hw hK
    obtain ⟨⟨old, he⟩, hit, hne⟩ := st
    obtain ⟨xs, hq, hx⟩ := hg
    obtain ⟨its, rv, p, hz⟩ := I.tuple hq
    obtain ⟨f0, f1, f2, f3, f4, f5⟩ := hf it (by simp)
    have hl := rv.length
    unfold pyNext
    have hT : s.TypeIs (.ref e) "enumerate" := ⟨_, he, rfl⟩
    refine wpAny_bind (wpAny_attempt (wpAny_callSpecial?_slot (name := Str.ofString "__next__") hT F.slot_enumerate_next
      (wpAny_call_entry F.slot_enumerate_next hT F.entry_enumerate_next ?_ (F.args_enumerate_next_1 _))))
    show wpAny _ _ (field (.ref e) 2 >>= _) _ _ _
    refine wpAny_bind (wpAny_field he rfl (x := .ref it) rfl ?_)
    refine wpAny_bind (wpAny_nextOf_tuple_end (I.ok.hd hc) hit p (by simp; omega) fun h' x he' hx' => ?_)
    obtain ⟨o, ho, hc'⟩ := hx'
    refine wpAny_bind (wpAny_isInstance (T := "StopIteration") (b := true) ⟨o, ho, hc'⟩ isSubtype_stop ?_)
    exact wpAny_pure ⟨rfl, I.turned (t' := s.toks) (fun b o hb q => he' b o hb q) f0 f1 f3 f4 f5⟩
  self := fun A i s Q E st h => let ⟨⟨_, he⟩, _⟩ := st; wpAny_pyIter_enum he h
theorem walk_enumT {K : PySem.W.Frag} {a : Addr} {xs : List V} : Walk (IteT K a) xs.length (fun H => SqT K H a xs) (YPair (fun i => some (.int (i : Nat))) (fun i => xs[i]?)) := by
  refine ⟨fun i _ hi q => ⟨xs, xs[i], q, by simp [hi]⟩, fun _ q => ⟨xs, q, Nat.le_refl _⟩, fun i H v H' _ q y => ?_⟩
  obtain ⟨T, x, h1, h2, h3, h4⟩ := y
  exact ⟨T, .int (i : Nat), x, h1, h2, h3, rfl, h4 xs q⟩
/-- over a list or a tuple, which stays as it is -/
def iEnumA (ta : TA) : TI := fun σ H R => ta σ H fun vs H1 => ∃ a xs, vs = [.ref a] ∧ (H1 a = some (.lst xs) ∨ H1 a = some (.tup xs)) ∧ ∀ J, Walk J xs.length (fun H' => H' a = H1 a) (YPair (fun i => some (.int (i : Nat))) (fun i => xs[i]?)) → R J H1
theorem pi_enumA {X : Cx} {e : Expr} {ta : TA} {p pos tpos : Pos} {elts : List Expr} {kk : Nat} (hg : Gl X "enumerate") (hm : X.mg "enumerate" = none) (ha : PA X [e] ta) (hs : starEach [e] X.env = [(false, eval e X.env)] := by rfl) :
    PI X (.Tuple elts kk tpos) (.Call (.Name "enumerate" p) [e] [] pos) (iEnumA ta) := by
  refine ⟨fun pins s σ H R I h => ?_⟩
  refine Call_ (ld_blt I hg hm boot_enumerate (PyProof.Rows.callWith_type1 (thn (ha.run pos pins s σ H _ I h) fun us s1 ⟨vs, H1, I1, r1, q1⟩ => ?_) hs rfl))
  obtain ⟨a, xs, ex, hw, q⟩ := q1
  subst ex
  cases r1 with
  | cons r rr =>
    cases rr
    cases r
    have fp : ∀ b, b = s1.heap.objs.size + 1 ∨ b = s1.heap.objs.size → FpOk X pins H1 b := fun b e' => by
      have hle : s1.heap.objs.size ≤ b := by
        rcases e' with z | z
        · rw [z]; exact Nat.le_add_right _ _
        · rw [z]; exact Nat.le_refl _
      exact I1.fpOk hle (I1.hok.fresh hle)
    rcases hw with hw | hw
    · have hq : SqL X.K H1 a xs := .of hw
      have q := q (Ite X.K a) (walk_enum.mono (fun H' e => .of (e.trans hw)) fun _ _ _ _ _ _ y => y)
      obtain ⟨its, rv, p', hz⟩ := I1.list hq
      refine call_enumerate_list p'.isList fun h' he hit hsz hk => wpAny_pyIter_enum he ?_
      have I2 : Inv X pins σ H1 { s1 with heap := h' } := I1.kept (t' := s1.toks) hk
      refine ⟨s1.heap.objs.size + 1, [s1.heap.objs.size + 1, s1.heap.objs.size], _, _, H1, rfl, I2, turn_enum a (s1.heap.objs.size + 1) s1.heap.objs.size, ⟨⟨.none, he⟩, hit, Nat.succ_ne_self _⟩, fun b hb => fp b (by simpa using hb), q⟩
    · have hq : SqT X.K H1 a xs := .of hw
      have q := q (IteT X.K a) (walk_enumT.mono (fun H' e => .of (e.trans hw)) fun _ _ _ _ _ _ y => y)
      obtain ⟨its, rv, p', hz⟩ := I1.tuple hq
      refine call_enumerate_tuple p' fun h' he hit hsz hk => wpAny_pyIter_enum he ?_
      have I2 : Inv X pins σ H1 { s1 with heap := h' } := I1.kept (t' := s1.toks) hk
      refine ⟨s1.heap.objs.size + 1, [s1.heap.objs.size + 1, s1.heap.objs.size], _, _, H1, rfl, I2, turn_enumT a (s1.heap.objs.size + 1) s1.heap.objs.size, ⟨⟨.none, he⟩, hit, Nat.succ_ne_self _⟩, fun b hb => fp b (by simpa using hb), q⟩
end Rg
namespace Rg
open PySem PySem.Spec PyProof.Rows L2
/-! ### tuples of the written part -/
def relAllS (vs : List V) (us : List Value) : Bool := He.relAll vs us && decide (us.length ≤ 1000)
theorem relAllS_ok {vs : List V} {us : Array Value} (h : relAllS vs us.toList = true) : Vals vs us.toList := He.relAll_ok (Bool.and_eq_true_iff.mp h).1
theorem relAllS_sz {vs : List V} {us : Array Value} (h : relAllS vs us.toList = true) : us.size ≤ sizeLine := by
  have := of_decide_eq_true (Bool.and_eq_true_iff.mp h).2
  rw [Array.length_toList] at this
  have : 1000 ≤ sizeLine := by decide
  omega
/-! ### own classes: x in o, o op u, for x in o -/
section
variable {X : Cx} {k : Nat} {f C : Addr} {fd : FuncData} {sp : Sp}
/-- x in o, by the class's own __contains__ -/
def rInOwn (C : Addr) (sp : Sp) (c : Bool → Bool) : R2 := fun x y H Q => ∃ a dx fs, y = .ref a ∧ H a = some (.ins C dx fs) ∧ sp [.ref a, x] H (fun v H1 => ∃ b, v = .bl b ∧ Q (.bl (c b)) H1) E0
theorem op_inOwn (hm : Meth X.K C "__contains__" f) (F : FnOk X.prog X.w X.K X.mg X.base CX0 k f fd ["self", "name"] sp) (hr : Room k X.A) (hb : Binds X.K fd ["self", "name"] []) : OpR X (compareOp .In) (rInOwn C sp fun b => b) := by
  intro pins s σ H x y v u Q I rx ry h
  obtain ⟨a, dx, fs, rfl, e, h⟩ := h
  obtain rfl : u = Value.ref a := ry
  obtain ⟨mA, O, _, _, _, _⟩ := ins_get I.hok e
  obtain ⟨od, at_, _⟩ := O.look
  obtain ⟨m, fr⟩ := I.fr
  refine PySem.W.in_K fr I.mod.kin at_ hm.at_ hm.fn ?_
  refine wpAny_mono (run_fn (us := [.ref a, v]) (vs := [.ref a, x]) F hr hb .nil pass0 I (.cons rfl (.cons rx .nil)) h) (fun r s' hq => ?_) fun _ _ z => z
  obtain ⟨z, H1, I1, rz, b, rfl, q⟩ := hq
  obtain rfl : r = Value.bool b := rz
  exact wpAny_truthy_bool ⟨.bl b, H1, I1, rfl, q⟩
theorem op_notInOwn (hm : Meth X.K C "__contains__" f) (F : FnOk X.prog X.w X.K X.mg X.base CX0 k f fd ["self", "name"] sp) (hr : Room k X.A) (hb : Binds X.K fd ["self", "name"] []) : OpR X (compareOp .NotIn) (rInOwn C sp fun b => !b) := by
  intro pins s σ H x y v u Q I rx ry h
  obtain ⟨a, dx, fs, rfl, e, h⟩ := h
  obtain rfl : u = Value.ref a := ry
  obtain ⟨mA, O, _, _, _, _⟩ := ins_get I.hok e
  obtain ⟨od, at_, _⟩ := O.look
  obtain ⟨m, fr⟩ := I.fr
  refine PySem.W.notIn_K fr I.mod.kin at_ hm.at_ hm.fn ?_
  refine wpAny_mono (run_fn (us := [.ref a, v]) (vs := [.ref a, x]) F hr hb .nil pass0 I (.cons rfl (.cons rx .nil)) h) (fun r s' hq => ?_) fun _ _ z => z
  obtain ⟨z, H1, I1, rz, b, rfl, q⟩ := hq
  obtain rfl : r = Value.bool b := rz
  exact wpAny_truthy_bool ⟨.bl (!b), H1, I1, rfl, q⟩
/-- o op u, both of the class C, by its own method -/
def rOpOwn (C : Addr) (sp : Sp) : R2 := fun x y H Q => ∃ a dx fs b dy gs, x = .ref a ∧ y = .ref b ∧ H a = some (.ins C dx fs) ∧ H b = some (.ins C dy gs) ∧ sp [.ref a, .ref b] H (fun v H1 => Q v H1) E0
theorem op_own {op : Operator} {ps : List Str} (hs : PySem.W.selfFirst X.K C = true) (hm : Meth X.K C (PySem.dunder op.info.2) f) (F : FnOk X.prog X.w X.K X.mg X.base CX0 k f fd ps sp) (hr : Room k X.A) (hb : Binds X.K fd ps []) : OpR X (binaryOp op) (rOpOwn C sp) := by
  intro pins s σ H x y v u Q I rx ry h
  obtain ⟨a, dx, fs, b, dy, gs, rfl, rfl, e, e', h⟩ := h
  obtain rfl : v = Value.ref a := rx
  obtain rfl : u = Value.ref b := ry
  obtain ⟨mA, O, _, _, _, _⟩ := ins_get I.hok e
  obtain ⟨od, at_, _⟩ := O.look
  obtain ⟨mB, O', _, _, _, _⟩ := ins_get I.hok e'
  obtain ⟨od', at', _⟩ := O'.look
  obtain ⟨m, fr⟩ := I.fr
  refine PySem.W.binop_K fr I.mod.kin at_ at'.type hs hm.at_ hm.fn ?_
  refine wpAny_mono (run_fn (us := [.ref a, .ref b]) (vs := [.ref a, .ref b]) F hr hb .nil pass0 I (.cons rfl (.cons rfl .nil)) h) (fun r s' hq => ?_) fun _ _ z => z
  obtain ⟨z, H1, I1, rz, q⟩ := hq
  cases z with
  | non => cases rz; exact ⟨.non, H1, I1, rfl, q⟩
  | bl b => cases rz; exact ⟨.bl b, H1, I1, rfl, q⟩
  | int i => obtain ⟨t, rfl⟩ := rz; exact ⟨.int i, H1, I1, ⟨t, rfl⟩, q⟩
  | str i => obtain ⟨t, rfl⟩ := rz; exact ⟨.str i, H1, I1, ⟨t, rfl⟩, q⟩
  | byt i => obtain ⟨t, rfl⟩ := rz; exact ⟨.byt i, H1, I1, ⟨t, rfl⟩, q⟩
  | flt i => obtain ⟨t, rfl⟩ := rz; exact ⟨.flt i, H1, I1, ⟨t, rfl⟩, q⟩
  | ref i => cases rz; exact ⟨.ref i, H1, I1, rfl, q⟩
  | ty i => cases rz; exact ⟨.ty i, H1, I1, rfl, q⟩
end
/-! ### iter(t), t a tuple; walks by an own __iter__ that hands it back -/
abbrev itT (l : Addr) : Obj := { cls := .type "tuple_iterator", data := .fields #[.ref l, .int 0 0] }
def ItTO (l it : Addr) : HO := .ext fun h => h.get? it = some (itT l)
theorem itTO_ok {P : Program} {w : World} {H : Hp} {h : Heap} {l it : Addr} (e : h.get? it = some (itT l)) : ObjOk P w H h it (ItTO l it) := ⟨e, ⟨_, e⟩, fun h1 h2 q k => k _ q⟩
theorem call_iter_tup {prog : Program} {w : World} {A : Around} {E : Value → Shared → Prop} {s : Shared} {l : Addr} {items : Array Value} {Q : Value → Shared → Prop} (hl : s.heap.IsTuple l items) (h : Q (.ref s.heap.objs.size) { s with heap := s.heap.push (itT l) }) : wpAny (model prog w) A (call (.builtin "iter") [.ref l]) Q E s := by
  refine Calls.call_function_entry (by decide +kernel) (by decide +kernel) PySem.W.kdk_entry_iter (PySem.W.kdk_args_iter _) ?_
  unfold Builtin.«iter»
  refine wpAny_bind (m := PySem.someArgs "iter" 1 2 _) (wpAny_of_eq (a := [Value.ref l]) (by first | rfl | kernel_rfl!) ?_)
  show wpAny _ _ (pyIter (.ref l) >>= _) _ _ _
  refine wpAny_bind (wpAny_pyIter_tuple hl ?_)
  exact wpAny_pure ⟨_, rfl, h⟩
def rIterT (K : PySem.W.Frag) (n : Nat) : List V → Hp → VK → Prop := fun xs H Q => ∃ (l : Addr) (zs : List V), xs = [.ref l] ∧ SqT K H l zs ∧ ∀ it, H it = none → n ≤ it → Q (.ref it) (upd H it (ItTO l it))
theorem call_iterT {X : Cx} : CallR X (.builtin "iter") (rIterT X.K X.s_0.heap.objs.size) := by
  intro pins s σ H xs us Q I r h
  obtain ⟨l, zs, rfl, hq, q⟩ := h
  obtain ⟨u, rfl, ru⟩ := vals1 r
  cases ru
  obtain ⟨its, rv, pl, hz⟩ := I.tuple hq
  refine call_iter_tup (show s.heap.IsTuple l its.toArray from pl) ?_
  exact ⟨.ref s.heap.objs.size, _, I.laid (t' := s.toks) (fun b u e => Heap.get?_push_of_some _ e) (Nat.le_refl _) (itTO_ok (Heap.get?_push_size _ rfl)), rfl, q _ (I.hok.fresh (Nat.le_refl _)) I.sz⟩
/-- a def whose promise knows how many objects there are at its entry -/
structure FnS (P : Program) (w : World) (K : PySem.W.Frag) (mg : Str → Option Value) (base : Heap) (k : Nat) (f : Addr) (fd : FuncData) (ps : List Str) (sp : Nat → Sp) : Prop where
  run : ∀ (A : Around) (outer : List Env) (s : Shared) (H : Hp) (args : Args) (us : List Value) (vs : List V) (Q : VK), Room k A → Env0 P w K mg base A outer s H → BindsTo s fd args (ps.zip us) → Vals vs us → sp s.heap.objs.size vs H Q E0 →
    codeAny (model P w) A (.call (.ref f) args) (CR CX0 outer P w H s Q E0) s
theorem _root_.L2.Fun.okS {P : Program} {w : World} {K : PySem.W.Frag} {mg : Str → Option Value} {base : Heap} {x qual : Str} {st : Stmt} {f : Addr} {fd : FuncData} {N ps : List Str} {k : Nat} {sp : Nat → Sp} (F : Fun K x qual st f fd) (S : FnScope N ps (defScope st)) (len : ∀ n vs H Q E, sp n vs H Q E → vs.length = ps.length)
    (hbody : ∀ (cdv : Value) (A : Around) (outer : List Env) (s : Shared) (H : Hp) (vs : List V) (Q : VK), Room k (A.deeper (envOfC qual (defScope st) s.heap.objs.size f cdv)) → sp s.heap.objs.size vs H Q E0 →
      ∃ t, PSs (cxOf CX0 P w K mg base N qual (defScope st) f cdv A outer s H E0) (defBody st) t ∧ t { nx := fun _ H' => Q .non H', rt := Q } (L2.start N vs) H) : FnS P w K mg base (k + 1) f fd ps sp := by
  obtain ⟨oc, od, kV, doc, pm, an, cdv, ct, osl, rfl, lk, hcd⟩ := F.ex
  exact ⟨fun A outer s H args us vs Q hr e0 hb r hsp => LamX.run_ofS lk hcd S hr e0 hb r (len _ _ _ _ _ hsp) fun hr' => hbody _ A outer s H vs Q hr' hsp⟩
/-- o walked: o's class at C has an own __iter__ that keeps sp and hands back a tuple's iterator -/
def iOwnT (K : PySem.W.Frag) (C : Addr) (sp : Nat → Sp) (te : TE) : TI := fun σ H R => te σ H fun x H1 => ∃ a dx fs, x = .ref a ∧ H1 a = some (.ins C dx fs) ∧
  ∀ n, sp n [.ref a] H1 (fun v H2 => ∃ it l xs, v = .ref it ∧ n ≤ it ∧ H2 it = some (ItTO l it) ∧ SqT K (ItX.dropH H2 it) l xs ∧ R (Itt K l) (ItX.dropH H2 it)) E0
theorem pi_ownT {X : Cx} {k : Nat} {f C : Addr} {fd : FuncData} {sp : Nat → Sp} {e tg : Expr} {te : TE} (hm : Meth X.K C "__iter__" f) (F : FnS X.prog X.w X.K X.mg X.base k f fd ["self"] sp) (hr : Room k X.A) (hb : Binds X.K fd ["self"] []) (he : PE X e te) : PI X tg e (iOwnT X.K C sp te) := by
  refine ⟨fun pins s σ H R I h => thn (he.run pins s σ H _ I h) fun v s1 ⟨x, H1, I1, r1, a, dx, fs, ex, ea, h⟩ => ?_⟩
  subst ex
  obtain rfl : v = Value.ref a := r1
  obtain ⟨mA, O, _, _, _, _⟩ := ins_get I1.hok ea
  obtain ⟨od, at_, _⟩ := O.look
  obtain ⟨m, fr⟩ := I1.fr
  refine PySem.W.owit_iter fr I1.mod.kin at_ hm.at_ hm.fn ?_
  refine wpAny_call (codeAny_mono (F.run X.A X.stack s1 H1 ⟨[.ref a], []⟩ [.ref a] [.ref a] _ hr I1.env0 (hb s1 [.ref a] I1.kIn rfl) (.cons rfl .nil) (h _)) fun r s2 hq => ?_)
  cases r with
  | error e => exact hq.elim
  | ok fl =>
    cases fl with
    | ret u =>
      obtain ⟨z, H2, os, bare, un, hok, rz, it, l, xs, rfl, young, hit, hl, hR⟩ := hq
      obtain rfl : u = Value.ref it := rz
      obtain ⟨hh, g, d, t, os'⟩ := s2
      obtain rfl : os' = s1.os := os
      have I2 : Inv X pins σ H2 ⟨hh, g, d, t, s1.os⟩ := I1.call (h' := hh) (g' := g) (d' := d) (t' := t) (ch := []) un hok bare (fun b z => absurd z (by simp))
      have I3 := ItX.inv_drop I2 hit
      have at3 : hh.get? it = some (itT l) := (I2.hok it _ hit).1
      unfold PySem.W.OwitIt
      have hst : hh.IsTupleIter it l 0 := ⟨_, at3, rfl, rfl⟩
      refine wpAny_specialOf (name := Str.ofString "__next__") (T := "tuple_iterator") (Heap.IsTupleIter.typeIs (s := ⟨hh, g, d, t, s1.os⟩) hst) PySem.F.slot_tuple_iterator_next.lookup ?_
      refine ⟨it, [it], _, Itt X.K l, _, rfl, I3, turn_tuple l it, hst, fun b hb => ?_, hR⟩
      have e : b = it := by simpa using hb
      subst e
      exact ItX.inv_fp I2 hit (Nat.le_trans I1.sz young)
    | next => exact False.elim hq
    | brk => exact False.elim hq
    | cont => exact False.elim hq
/-! ### a walk over a list or a tuple -/
def iSeq (K : PySem.W.Frag) (tl : TE) : TI := fun σ H R => tl σ H fun x H1 => ∃ a, x = .ref a ∧ (((∃ xs, SqL K H1 a xs) ∧ R (Itl K a) H1) ∨ ((∃ xs, SqT K H1 a xs) ∧ R (Itt K a) H1))
theorem pi_seq {X : Cx} {tg l : Expr} {tl : TE} (hl : PE X l tl) : PI X tg l (iSeq X.K tl) := by
  refine ⟨fun pins s σ H R I h => ?_⟩
  refine thn (hl.run pins s σ H _ I h) fun v s1 ⟨x, H1, I1, r1, q1⟩ => ?_
  obtain ⟨a, e, q⟩ := q1
  subst e
  cases r1
  rcases q with ⟨⟨xs, hq⟩, q⟩ | ⟨⟨xs, hq⟩, q⟩
  · obtain ⟨its, rv, p, hz⟩ := I1.list hq
    refine wpAny_pyIter_list p.isList ?_
    refine ⟨s1.heap.objs.size, [s1.heap.objs.size], _, _, H1, rfl, I1.kept (t' := s1.toks) fun b o e => Heap.get?_push_of_some _ e, turn_list a _, ⟨_, Heap.get?_push_size _ rfl, rfl, rfl⟩, fun b hb => ?_, q⟩
    have e : b = s1.heap.objs.size := by simpa using hb
    subst e
    exact I1.fpOk (Nat.le_refl _) (I1.hok.fresh (Nat.le_refl _))
  · obtain ⟨its, rv, p, hz⟩ := I1.tuple hq
    refine wpAny_pyIter_tuple (show s1.heap.IsTuple a its.toArray from p) ?_
    refine ⟨s1.heap.objs.size, [s1.heap.objs.size], _, _, H1, rfl, I1.kept (t' := s1.toks) fun b o e => Heap.get?_push_of_some _ e, turn_tuple a _, ⟨_, Heap.get?_push_size _ rfl, rfl, rfl⟩, fun b hb => ?_, q⟩
    have e : b = s1.heap.objs.size := by simpa using hb
    subst e
    exact I1.fpOk (Nat.le_refl _) (I1.hok.fresh (Nat.le_refl _))
/-! ### enumerate of a tuple that may be written -/
def iEnumT (K : PySem.W.Frag) (ta : TA) : TI := fun σ H R => ta σ H fun vs H1 => ∃ a xs, vs = [.ref a] ∧ SqT K H1 a xs ∧ R (IteT K a) H1
theorem pi_enumT {X : Cx} {e : Expr} {ta : TA} {p pos tpos : Pos} {elts : List Expr} {kk : Nat} (hg : Gl X "enumerate") (hm : X.mg "enumerate" = none) (ha : PA X [e] ta) (hs : starEach [e] X.env = [(false, eval e X.env)] := by rfl) :
    PI X (.Tuple elts kk tpos) (.Call (.Name "enumerate" p) [e] [] pos) (iEnumT X.K ta) := by
  refine ⟨fun pins s σ H R I h => ?_⟩
  refine Call_ (ld_blt I hg hm boot_enumerate (PyProof.Rows.callWith_type1 (thn (ha.run pos pins s σ H _ I h) fun us s1 ⟨vs, H1, I1, r1, q1⟩ => ?_) hs rfl))
  obtain ⟨a, xs, ex, hq, q⟩ := q1
  subst ex
  cases r1 with
  | cons r rr =>
    cases rr
    cases r
    have fp : ∀ b, b = s1.heap.objs.size + 1 ∨ b = s1.heap.objs.size → FpOk X pins H1 b := fun b e' => by
      have hle : s1.heap.objs.size ≤ b := by
        rcases e' with z | z
        · rw [z]; exact Nat.le_add_right _ _
        · rw [z]; exact Nat.le_refl _
      exact I1.fpOk hle (I1.hok.fresh hle)
    obtain ⟨its, rv, p', hz⟩ := I1.tuple hq
    refine call_enumerate_tuple p' fun h' he hit hsz hk => wpAny_pyIter_enum he ?_
    have I2 : Inv X pins σ H1 { s1 with heap := h' } := I1.kept (t' := s1.toks) hk
    refine ⟨s1.heap.objs.size + 1, [s1.heap.objs.size + 1, s1.heap.objs.size], _, _, H1, rfl, I2, turn_enumT a (s1.heap.objs.size + 1) s1.heap.objs.size, ⟨⟨.none, he⟩, hit, Nat.succ_ne_self _⟩, fun b hb => fp b (by simpa using hb), q⟩
/-! ### an object made, a static method called, where the body may raise -/
section
variable {X : Cx} {CX : CXT} {k : Nat} {f C g : Addr} {mc : Value} {fd : FuncData} {ps : List Str} {sp : Sp} {E : L2.St → XK} {x m : Str} {p pos apos : Pos} {e : Expr} {es : List Expr} {t : TA} {pl : Sem Bool}
theorem run_makeS {pins : List (Addr × Obj)} {σ : L2.St} {H : Hp} {s : Shared} {Q : VK} {us : List Value} {vs : List V} (M : Mk X.K C f) (F : FnOk X.prog X.w X.K X.mg X.base CX k f fd ps sp) (hr : Room (k + 1) X.A) (hb : Binds X.K fd ps []) (hx : PassesAt CX X σ (E σ)) (I : Inv X pins σ H s) (r : Vals vs us)
    (h : ∀ x dx, H x = none → H dx = none → dx ≠ x → sp (.ref x :: vs) (upd (upd H dx (.own x)) x (.ins C dx [])) (fun v H2 => v = .non ∧ Q (.ref x) H2) (E σ)) :
    wpAny (model X.prog X.w) X.A (call (.ref C) us) (EP X pins σ Q) X.xe s := by
  have hq := h (s.heap.objs.size + 1) s.heap.objs.size (I.hok.fresh (Nat.le_succ _)) (I.hok.fresh (Nat.le_refl _)) (Nat.ne_of_lt (Nat.lt_succ_self _))
  have I2 := Inv.made (C := C) I
  have r2 : Vals (V.ref (s.heap.objs.size + 1) :: vs) (Value.ref (s.heap.objs.size + 1) :: us) := .cons rfl r
  have hl : (Value.ref (s.heap.objs.size + 1) :: us).length = ps.length := by
    have e := r2.length
    rw [F.len _ _ _ _ hq] at e
    exact e.symm
  have b := hb _ (Value.ref (s.heap.objs.size + 1) :: us) I2.kIn (by rw [List.append_nil]; exact hl)
  rw [List.append_nil] at b
  refine wpAny_call (make_map (f := f) I.kIn M.makes M.init (beq_iff_eq.mp M.fn) (codeAny_mono (F.run _ X.stack _ _ ⟨Value.ref (s.heap.objs.size + 1) :: us, []⟩ (Value.ref (s.heap.objs.size + 1) :: us) _ _ (E σ) (hr.make C us [])
    (I2.env0.make C us []) b r2 hq) fun r s' hq' => ?_))
  cases r with
  | error e => exact hx pins _ _ e s' I2 hq'
  | ok fl =>
    cases fl with
    | ret u =>
      obtain ⟨v, H', I3, rv, ev, q3⟩ := I2.after hq'
      subst ev
      exact ⟨rv, ⟨V.ref (s.heap.objs.size + 1), H', I3, rfl, q3⟩⟩
    | next => exact False.elim hq'
    | brk => exact False.elim hq'
    | cont => exact False.elim hq'
def tMakeS (C : Addr) (sp : Sp) (E : L2.St → XK) (t : TA) : TE := fun σ H Q => t σ H fun vs H1 => ∀ x dx, H1 x = none → H1 dx = none → dx ≠ x → sp (.ref x :: vs) (upd (upd H1 dx (.own x)) x (.ins C dx [])) (fun v H2 => v = .non ∧ Q (.ref x) H2) (E σ)
theorem pe_makeS (M : Mk X.K C f) (F : FnOk X.prog X.w X.K X.mg X.base CX k f fd ps sp) (hr : Room (k + 1) X.A) (hg : Gl X x) (hm : X.mg x = some (.ref C)) (hb : Binds X.K fd ps []) (hx : ∀ σ, PassesAt CX X σ (E σ))
    (ha : PA X (e :: es) t) (hdb : (x == ("__debug__" : Str)) = false := by decide) (he : starEach (e :: es) X.env = (false, eval e X.env) :: starEach es X.env := by rfl) (hpl : (backTo pos (starEach es X.env)).any (·.1) = false := by rfl) :
    PE X (.Call (.Name x p) (e :: es) [] pos) (tMakeS C sp E t) := by
  refine ⟨fun pins s σ H Q I h => ?_⟩
  refine wpAny_Call_Name_kw (ld_glob I hg hm ?_ hdb)
  refine PySem.W.callWith_K (h₀ := X.base) I.ok.mod.kin M.kp (thn (ha.run pos pins s σ H _ I h) fun us s1 ⟨vs, H1, I1, r, q⟩ => ⟨I1.kIn, ?_⟩) he hpl
  exact run_makeS M F hr hb (hx σ) I1 r q
def tSMethS (sp : Sp) (E : L2.St → XK) (t : TA) : TE := fun σ H Q => t σ H fun vs H2 => sp vs H2 Q (E σ)
theorem pe_smethS (hmx : X.mg x = some (.ref C)) (r : ClX.CRead X.K C mc) (c : SMet X.K C mc m g) (F : FnOk X.prog X.w X.K X.mg X.base CX k g fd ps sp) (hr : Room k X.A) (hb : Binds X.K fd ps []) (hx : ∀ σ, PassesAt CX X σ (E σ)) (ha : PA X (e :: es) t) (hg : Gl X x := by rfl) (hdb : (x == ("__debug__" : Str)) = false := by decide)
    (hst : starEach (e :: es) X.env = (false, eval e X.env) :: starEach es X.env := by rfl) (hpl : (backTo pos (starEach es X.env)).any (·.1) = false := by rfl)
    (ht : eval (.Call (.Attribute (.Name x p) m apos) (e :: es) [] pos) X.env = (do
      let ov ← eval (.Name x p) X.env
      standAt apos.atName
      let (f, first) ← holding [ov] (getMethod ov m pl)
      callWith pos f first (backTo pos (starEach (e :: es) X.env)) (backToKw pos (keywordEach [] X.env))) := by rfl) :
    PE X (.Call (.Attribute (.Name x p) m apos) (e :: es) [] pos) (tSMethS sp E t) := by
  obtain ⟨q, at_, ⟨rest, hp⟩, hk⟩ := c.ex
  refine ⟨fun pins s σ H Q I h => ?_⟩
  refine PySem.W.methodCall_KW (pl := pl) (ld_glob I hg hmx ?_ hdb) ht
  refine PySem.W.method_cls I.kIn r.ga (PySem.W.cls_bind I.kIn r.rd at_ ?_)
  refine wpAny_call (PySem.W.sm_get (s := { s with toks := s.toks + 1 }) I.kIn hp (PySem.W.handed_on rfl ?_))
  refine PySem.W.callWith_K (f := .ref g) (first := []) (h₀ := X.base) I.ok.mod.kin hk (thn (ha.run pos pins _ σ H _ (I.tok _) h) fun us s1 ⟨vs, H1, I1, r1, q1⟩ => ⟨I1.kIn, ?_⟩) hst hpl
  exact run_fnS F hr hb (hx σ) I1 r1 q1
theorem pe_smeth0 (hmx : X.mg x = some (.ref C)) (r : ClX.CRead X.K C mc) (c : SMet X.K C mc m g) {E : XK} (F : FnOk X.prog X.w X.K X.mg X.base CX k g fd ps sp) (hr : Room k X.A) (hb : Binds X.K fd ps []) (hx : Passes CX X E) (hg : Gl X x := by rfl) (hdb : (x == ("__debug__" : Str)) = false := by decide)
    (ht : eval (.Call (.Attribute (.Name x p) m apos) [] [] pos) X.env = (do
      let ov ← eval (.Name x p) X.env
      standAt apos.atName
      let (f, first) ← holding [ov] (getMethod ov m pl)
      callWith pos f first (backTo pos (starEach [] X.env)) (backToKw pos (keywordEach [] X.env))) := by rfl) :
    PE X (.Call (.Attribute (.Name x p) m apos) [] [] pos) (fun σ H Q => sp [] H Q E) := by
  obtain ⟨q, at_, ⟨rest, hp⟩, hk⟩ := c.ex
  refine ⟨fun pins s σ H Q I h => ?_⟩
  refine PySem.W.methodCall_KW (pl := pl) (ld_glob I hg hmx ?_ hdb) ht
  refine PySem.W.method_cls I.kIn r.ga (PySem.W.cls_bind I.kIn r.rd at_ ?_)
  refine wpAny_call (PySem.W.sm_get (s := { s with toks := s.toks + 1 }) I.kIn hp (PySem.W.handed_on rfl ?_))
  exact PySem.W.callWith_K0 (first := []) (I.tok (s.toks + 1)).kIn hk (run_fn (us := []) (vs := []) F hr hb .nil hx (I.tok (s.toks + 1)) .nil h)
end
/-! ### isinstance(e, (c1, c2, ..)), e the exception that the suite holds -/
def rIsET (K : PySem.W.Frag) (D a : Addr) : List V → Hp → VK → Prop := fun xs H Q => ∃ (tp : Addr) (cs : List V) (us : List Value) (b : Bool), xs = [.ref a, .ref tp] ∧ H tp = some (.tup cs) ∧ Paired ClsV cs us ∧ PySem.W.kitAny K (.ref D) us = some b ∧ Q (.bl b) H
theorem call_isET {X : Cx} {a D : Addr} {oe : Obj} {pn : List (Addr × Obj)} (C : ExcC X.K D) (hz : Zc (.ref D) none oe) (hf : ∃ vs, oe.data = .fields vs) : CallR (X.suite a ((a, oe) :: pn)) (.builtin "isinstance") (rIsET X.K D a) := by
  intro pins s σ H xs us Q I r h
  obtain ⟨tp, cs, ws, b, rfl, hT, k, e, q⟩ := h
  cases r with
  | cons rx rr =>
    cases rr with
    | cons rt rr =>
      cases rr
      cases rx
      cases rt
      obtain ⟨hget, _⟩ := I.pin (a, oe) (List.mem_append.mpr (.inl List.mem_cons_self))
      obtain ⟨vs, hv⟩ := hf
      have J : PySem.W.InstAt s.heap a oe D none := by
        obtain ⟨oc, od, oda, osl⟩ := oe
        obtain ⟨h1, h2⟩ := hz
        dsimp only at h1 h2 hv
        subst h1 h2 hv
        exact ⟨hget, rfl, rfl, trivial⟩
      obtain ⟨_, its, rv, o, h1, h2, n, h3⟩ := (show ObjOk X.prog X.w H s.heap tp (.tup cs) from I.hok tp _ hT)
      have e3 := ClsV.all k rv
      subst e3
      obtain ⟨oc, od, dt, sl⟩ := o
      simp only at h2 h3
      subst h2 h3
      exact PySem.W.kia_tup (PySem.W.handS_kitx_exc C.hg C.hk C.hs C.hd C.ha C.hn C.ht C.hm) I.kIn J h1 e (fun z => nomatch z) fun tk => ⟨.bl b, H, I.kept (t' := tk) fun _ _ z => z, rfl, q⟩
end Rg
namespace Rg
open PySem PySem.Spec PyProof.Rows L2
theorem op_inK {X : Cx} {K : PySem.W.Frag} (hK : X.K = K := by rfl) : OpR X (compareOp .In) (rIn K false) := by
  subst hK
  exact op_in_seq
theorem pg_tupK {X : Cx} {K : PySem.W.Frag} {es : List Expr} {k n : Nat} {pos : Pos} {t : TGs} (hc : X.calm = true) (h : PGs X es t) (hn : (assignEach es X.env).length = n := by rfl) (hst : (assignEach es X.env).findIdx? (·.1) = none := by rfl) (hK : X.K = K := by rfl) : PG X (.Tuple es k pos) (gTup K n t) := by
  subst hK
  exact pg_tup hc h hn hst
def tTru (K : PySem.W.Frag) (ta : TE) : TT := fun σ H Q => ta σ H fun x H' => ∃ k, TruV K x H' k ∧ Q k H'
theorem pt_truthK {X : Cx} {K : PySem.W.Frag} {a : Expr} {ta : TE} (ha : PE X a ta) (he : ∀ whole, isTrue a X.env whole = (do let v ← whole; standAt a.pos; holding [v] (truthy v))) (hK : X.K = K := by rfl) : PT X a (tTru K ta) := by
  subst hK
  exact pt_truth ha he
theorem op_notInK {X : Cx} {K : PySem.W.Frag} (hK : X.K = K := by rfl) : OpR X (compareOp .NotIn) (rIn K true) := by
  subst hK
  exact op_notIn_seq
end Rg
namespace RT
open PySem PySem.Spec PyProof.Rows
open Builtin
section
variable {prog : Program} {w : World} {A : Around} {E : Value → Shared → Prop} {s : Shared}
theorem list_init_rev {R : Result → Shared → Prop} {it l S : Addr} {items : Array Value} (hh : A.handled = none) (hit : s.heap.IsRevIter it l ((items.size : Int) - 1)) (hl : s.heap.IsList l items) (hne : l ≠ it) (hn : items.size ≤ sizeLine) (hSi : S ≠ it) (hSl : S ≠ l)
    (hS : s.heap.get? S = some { cls := .type "list", data := .seq #[] })
    (hR : ∀ (h' : Heap) (tk : Nat) (acc' : Array Value) (c' : Nat), (∀ b o, b ≠ S → b ≠ it → s.heap.get? b = some o → h'.get? b = some o) → h'.get? S = some { cls := .type "list", dict := none, data := .seq acc' c', slots := #[] } → ItemsOf (fun i v => items[items.size - 1 - i]? = some v) acc' items.size → R (.ok (.ret .none)) { s with heap := h', toks := tk }) :
    wpAny (model prog w) A.in1 (Builtin.«list.__init__» ⟨[.ref S, .ref it], []⟩)
      (fun fin s' => match fin with | .done f => R (.ok f) s' | .again c' => c'.quiet = true ∧ codeAny (model prog w) A c' R s') (fun e s' => R (.error e) s') s := by
  have W := (Walks.listRev (prog := prog) (w := w) (A := A.in1) hh it l hne items).toS
  have hSf : S ∉ [it, l] := by simp only [List.mem_cons, List.not_mem_nil, or_false, not_or]; exact ⟨hSi, hSl⟩
  show wpAny _ A.in1 (do let old ← Builtin.List.listItems (.ref S); Builtin.List.listUpdate (.ref S) (fun _ => #[]); letGo old.toList.reverse; Builtin.List.listExtendWith (.ref S) (.ref it) .none) _ _ s
  refine wpAny_bind ?_
  unfold Builtin.List.listItems
  refine wpAny_bind (wpAny_seqItems hS rfl (wpAny_pure ?_))
  show wpAny _ A.in1 (updateSeq S (fun _ => #[]) >>= fun _ => letGo (#[] : Array Value).toList.reverse >>= fun _ => Builtin.List.listExtendWith (.ref S) (.ref it) .none) _ _ s
  refine wpAny_bind (wpAny_updateSeq hS rfl ?_)
  have hS₂ := Heap.get?_update_self (Obj.mapSeq (fun _ => (#[] : Array Value))) hS rfl
  have oth : ∀ b o, b ≠ S → s.heap.get? b = some o → (s.heap.update S (Obj.mapSeq (fun _ => (#[] : Array Value)))).get? b = some o :=
    fun b o hb e => (Heap.get?_update_other _ _ (Ne.symm hb)).trans e
  refine wpAny_bind (wpAny_letGo ?_)
  have hit1 : (s.heap.update S (Obj.mapSeq (fun _ => (#[] : Array Value)))).IsRevIter it l ((items.size : Int) - 1) := hit.at fun o e => oth _ _ (Ne.symm hSi) e
  obtain ⟨ol, hol, q1, q2⟩ := id hl
  have hl1 : (s.heap.update S (Obj.mapSeq (fun _ => (#[] : Array Value)))).IsList l items := ⟨ol, oth _ _ (Ne.symm hSl) hol, q1, q2⟩
  have hT : ({ s with heap := s.heap.update S (Obj.mapSeq (fun _ => (#[] : Array Value))) } : Shared).TypeIs (.ref it) "list_reverseiterator" := Heap.IsRevIter.typeIs (s := { s with heap := s.heap.update S (Obj.mapSeq (fun _ => (#[] : Array Value))) }) hit1
  have h1 : Builtin.List.listSameRef (.ref S) (.ref it) = false := by simp [Builtin.List.listSameRef, hSi]
  unfold Builtin.List.listExtendWith
  refine wpAny_bind (wpAny_typeOf hT ?_)
  rw [if_neg (by rw [h1]; decide)]
  refine wpAny_bind (wpAny_pyIter_revIter (s := { s with heap := s.heap.update S (Obj.mapSeq (fun _ => (#[] : Array Value))) }) hit1 ?_)
  refine wpAny_bind (wpAny_holding ?_)
  unfold Builtin.List.listLengthHint
  refine wpAny_bind (wpAny_specialOf hT nolen_lri ?_)
  show wpAny _ A.in1 (specialOf (Value.ref it) (Str.ofString "__length_hint__") >>= _) _ _ _
  refine wpAny_bind (wpAny_specialOf hT hint_lri ?_)
  generalize hid : ("list_reverseiterator.__length_hint__" : String) = id0
  wp_delta
  rw [show splitId id0 = some ("list_reverseiterator", "__length_hint__") from by subst hid; decide +kernel]
  subst hid
  refine wpAny_bind (wpAny_isInstance (b := true) hT (by rw [isSubtype_type]; kernel_rfl) ?_)
  refine wpAny_pure ?_
  rw [if_neg (by decide)]
  have e0 : ((items.size : Nat) : Int) - 1 - ((0 : Nat) : Int) = (items.size : Int) - 1 := by omega
  refine wpAny_pure ⟨plainId_quiet F.plain_extend_loop _, codeAny_extend_loopS W hn _ hSf _ items.size 0 _ _ _ rfl (Nat.zero_le _) ⟨Nat.zero_le _, by rw [e0]; exact hit1, hl1⟩ hS₂ (ItemsOf.nil _) fun s' acc' c' hm hS' hacc => ?_⟩
  rw [Moved.eq_with hm]
  refine hR s'.heap s'.toks acc' c' (fun b o hb hi e => hm.heap b o (fun hmem => ?_) (oth b o hb e)) hS' hacc
  rcases List.mem_cons.mp hmem with e' | hmem
  · exact hb e'
  · exact hi (List.mem_singleton.mp hmem)
theorem call_list_rev {it l : Addr} {items : Array Value} {Q : Value → Shared → Prop} (hh : A.handled = none) (hit : s.heap.IsRevIter it l ((items.size : Int) - 1)) (hl : s.heap.IsList l items) (hne : l ≠ it) (hn : items.size ≤ sizeLine)
    (hQ : ∀ (h' : Heap) (tk : Nat) (acc : Array Value) (c : Nat), (∀ b o, b ≠ it → s.heap.get? b = some o → h'.get? b = some o) → h'.get? s.heap.objs.size = some { cls := .type "list", dict := none, data := .seq acc c, slots := #[] } → ItemsOf (fun i v => items[items.size - 1 - i]? = some v) acc items.size → Q (.ref s.heap.objs.size) { s with heap := h', toks := tk }) :
    wpAny (model prog w) A (call (.type "list") [.ref it]) Q E s := by
  obtain ⟨oi, hoi, _⟩ := id hit
  obtain ⟨ol, hol, _⟩ := id hl
  have hSi : s.heap.objs.size ≠ it := Nat.ne_of_gt (Heap.lt_size hoi)
  have hSl : s.heap.objs.size ≠ l := Nat.ne_of_gt (Heap.lt_size hol)
  refine callType_codes (Q₁ := fun obj s₁ => obj = .ref s.heap.objs.size ∧ s₁ = { s with heap := s.heap.push { cls := .type "list", data := .seq #[] } }) F.called_list (F.typeCall_list_1 _) F.entry_list_init
    (code_list_new _ ⟨rfl, rfl⟩) fun obj s₁ h₁ => ?_
  obtain ⟨rfl, rfl⟩ := h₁
  have hS : (s.heap.push { cls := .type "list", data := .seq #[] }).get? s.heap.objs.size = some { cls := .type "list", data := .seq #[] } := Heap.get?_push_size _ rfl
  refine ⟨⟨_, hS, rfl⟩, F.args_list_init_2 _ _, list_init_rev (s := { s with heap := s.heap.push { cls := .type "list", data := .seq #[] } }) hh (hit.at fun o e => Heap.get?_push_of_some _ e) (hl.push _) hne hn hSi hSl hS fun h' tk acc' c' hk hS' hacc => ?_⟩
  exact ⟨rfl, hQ h' tk acc' c' (fun b o hb e => hk b o (Nat.ne_of_lt (Heap.lt_size e)) hb (Heap.get?_push_of_some _ e)) hS' hacc⟩
end
end RT
namespace Rg
open PySem PySem.Spec PyProof.Rows L2 RT
/-- list(reversed(x)), x a list: a new list -/
def tListRev (K : PySem.W.Frag) (te : TE) : TE := fun σ H Q => te σ H fun v H1 => ∃ (a : Addr) (xs : List V), v = .ref a ∧ SqL K H1 a xs ∧ ∀ q, H1 q = none → Q (.ref q) (upd H1 q (.lst xs.reverse))
theorem pe_listRev {X : Cx} {e : Expr} {te : TE} {p p2 pos pos2 : Pos} (hc : X.calm = true) (hg : Gl X "list") (hm : X.mg "list" = none) (hg2 : Gl X "reversed") (hm2 : X.mg "reversed" = none) (he : PE X e te)
    (hs : starEach [e] X.env = (false, eval e X.env) :: starEach [] X.env := by rfl)
    (hs2 : starEach [.Call (.Name "reversed" p2) [e] [] pos2] X.env = (false, eval (.Call (.Name "reversed" p2) [e] [] pos2) X.env) :: starEach [] X.env := by rfl) :
    PE X (.Call (.Name "list" p) [.Call (.Name "reversed" p2) [e] [] pos2] [] pos) (tListRev X.K te) := by
  refine ⟨fun pins s σ H Q I h => ?_⟩
  refine Call_ (ld_blt I hg hm boot_list (PyProof.Rows.callWith_type1 (args_cons (Call_ (ld_blt I hg2 hm2 PyProof.Rows.boot_reversed (PyProof.Rows.callWith_type1 (args_cons (thn (he.run pins s σ H _ I h) fun u s1 ⟨v, H1, I1, r1, q1⟩ => args_nil ?_) hs) hs rfl))) hs2) hs2 rfl))
  obtain ⟨a, xs, ev, hq, q⟩ := q1
  subst ev
  obtain rfl : u = Value.ref a := r1
  obtain ⟨its, rv, p', hz⟩ := I1.list hq
  refine call_reversed_list p'.isList (args_nil ?_)
  have k0 : ∀ b o, s1.heap.get? b = some o → (s1.heap.push (revObj a ((its.toArray.size : Int) - 1))).get? b = some o := fun b o e => Heap.get?_push_of_some _ e
  have I2 : Inv X pins σ H1 { s1 with heap := s1.heap.push (revObj a ((its.toArray.size : Int) - 1)) } := I1.kept (t' := s1.toks) k0
  obtain ⟨f0, f1, f2, f3, f4, f5⟩ := I1.fpOk (H' := H1) (b := s1.heap.objs.size) (Nat.le_refl _) (I1.hok.fresh (Nat.le_refl _))
  have hl := p'.isList
  obtain ⟨ol, hol, _⟩ := id hl
  have hne : a ≠ s1.heap.objs.size := Nat.ne_of_lt (Heap.lt_size hol)
  have hn : its.toArray.size ≤ sizeLine := by rw [List.size_toArray, ← rv.length]; exact hz
  have hsz : (s1.heap.push (revObj a ((its.toArray.size : Int) - 1))).objs.size = s1.heap.objs.size + 1 := Heap.size_push ..
  refine call_list_rev (s := { s1 with heap := s1.heap.push (revObj a ((its.toArray.size : Int) - 1)) }) (I1.ok.hd hc) ⟨_, Heap.get?_push_size _ rfl, rfl, rfl⟩ (hl.push _) hne hn fun h' tk acc c hk hS hi => ?_
  have hle : s1.heap.objs.size ≤ (s1.heap.push (revObj a ((its.toArray.size : Int) - 1))).objs.size := by rw [hsz]; exact Nat.le_succ _
  refine ⟨.ref (s1.heap.push (revObj a ((its.toArray.size : Int) - 1))).objs.size, upd H1 (s1.heap.push (revObj a ((its.toArray.size : Int) - 1))).objs.size (.lst xs.reverse), I1.laid (t' := tk) (fun b o e => hk b o (Nat.ne_of_lt (Heap.lt_size e)) (k0 b o e)) hle (show ObjOk X.prog X.w _ _ _ (.lst xs.reverse) from ⟨by rw [List.length_reverse]; exact hz, acc.toList, c, vals_rev rv hi, ?_⟩), rfl, q _ (I1.hok.fresh hle)⟩
  rw [Array.toArray_toList]
  exact hS
end Rg
namespace K87
open PySem PySem.Spec PyProof.Rows L2 Rg
/-! ### books of rules, in values -/
def Rs : List Str := ["copies", "mark", "words", "reuse", "late", "revoke", "lapse", "shelve", "frozen", "wait", "room", "told"]
def nm : List Str → Nat → List Str
  | [], _ => []
  | r :: t, n => if n % 2 = 1 then r :: nm t (n / 2) else nm t (n / 2)
def ord (B : List Str) : List Str := Rs.filter fun r => decide (r ∈ B)
/-- the weights of the first i rules that B has -/
def wts (B : List Str) (i : Nat) : List Int := ((List.range i).filter fun k => Rs[k]?.any fun r => decide (r ∈ B)).map fun k => (2 : Int) ^ k
def numB (B : List Str) : Int := (wts B 12).sum
theorem Rs_len : Rs.length = 12 := rfl
theorem Rs_nodup : Rs.Nodup := by decide +kernel
theorem nm_sub : ∀ {l : List Str} {n : Nat}, (nm l n).Sublist l
  | [], _ => .slnil
  | r :: t, n => by
    unfold nm
    split
    · exact nm_sub.cons_cons r
    · exact nm_sub.cons r
theorem filt_sub : ∀ {l B : List Str}, l.Nodup → B.Sublist l → (l.filter fun r => decide (r ∈ B)) = B
  | [], B, _, h => by
    cases h
    rfl
  | r :: t, B, hn, h => by
    have hn' := List.nodup_cons.mp hn
    cases h with
    | cons _ h =>
      have : r ∉ B := fun z => hn'.1 (h.subset z)
      rw [List.filter_cons, if_neg (by simpa using this)]
      exact filt_sub hn'.2 h
    | @cons_cons B' _ _ h =>
      rw [List.filter_cons, if_pos (by simp)]
      congr 1
      refine Eq.trans (List.filter_congr fun x hx => ?_) (filt_sub hn'.2 h)
      have : x ≠ r := fun z => hn'.1 (z ▸ hx)
      simp [this]
theorem ord_sub {B : List Str} (h : B.Sublist Rs) : ord B = B := filt_sub Rs_nodup h
theorem ord_subl {B : List Str} : (ord B).Sublist Rs := List.filter_sublist
theorem nm_take_s {l : List Str} {i n : Nat} {r : Str} (h : l[i]? = some r) : nm (l.take (i + 1)) n = nm (l.take i) n ++ if (n / 2 ^ i) % 2 = 1 then [r] else [] := by
  induction l generalizing i n with
  | nil => simp at h
  | cons a t ih =>
    cases i with
    | zero =>
      have : a = r := by simpa using h
      subst this
      simp only [List.take_succ_cons, List.take_zero, Nat.pow_zero, Nat.div_one]
      unfold nm
      split <;> simp [nm]
    | succ i =>
      have h' : t[i]? = some r := by simpa using h
      simp only [List.take_succ_cons]
      unfold nm
      rw [ih h', show n / 2 / 2 ^ i = n / 2 ^ (i + 1) by rw [Nat.div_div_eq_div_mul, Nat.pow_succ, Nat.mul_comm]]
      split <;> rfl
theorem wts_s {B : List Str} {i : Nat} {r : Str} (h : Rs[i]? = some r) : wts B (i + 1) = wts B i ++ if r ∈ B then [(2 : Int) ^ i] else [] := by
  unfold wts
  rw [List.range_succ, List.filter_append, List.map_append]
  congr 1
  by_cases z : r ∈ B
  · rw [if_pos z, List.filter_cons, if_pos (by rw [h]; simpa using z)]
    rfl
  · rw [if_neg z, List.filter_cons, if_neg (by rw [h]; simpa using z)]
    rfl
theorem wts_congr {B B' : List Str} {i : Nat} (h : ∀ r ∈ Rs, r ∈ B ↔ r ∈ B') : wts B i = wts B' i := by
  unfold wts
  congr 1
  refine List.filter_congr fun k _ => ?_
  cases q : Rs[k]? with
  | none => rfl
  | some r => exact decide_eq_decide.mpr (h r (List.mem_of_getElem? q))
theorem mem_ord {B : List Str} {r : Str} : r ∈ ord B ↔ r ∈ Rs ∧ r ∈ B := by
  unfold ord
  rw [List.mem_filter, decide_eq_true_eq]
theorem numB_ord {B : List Str} : numB (ord B) = numB B := by
  unfold numB
  rw [wts_congr fun r hr => ⟨fun h => (mem_ord.mp h).2, fun h => mem_ord.mpr ⟨hr, h⟩⟩]
theorem ord_congr {B B' : List Str} (h : ∀ r ∈ Rs, r ∈ B ↔ r ∈ B') : ord B = ord B' := List.filter_congr fun r hr => decide_eq_decide.mpr (h r hr)
theorem wts_len {B : List Str} {i : Nat} : (wts B i).length ≤ i := by
  unfold wts
  rw [List.length_map]
  exact Nat.le_trans (List.length_filter_le _ _) (by rw [List.length_range]; exact Nat.le_refl _)
theorem nm_len {l : List Str} {n : Nat} : (nm l n).length ≤ l.length := nm_sub.length_le
theorem nm_take_all {n : Nat} : nm (Rs.take 12) n = nm Rs n := rfl
/-- the written form -/
def txB (B : List Str) : Str := if B = [] then "none" else Txt.join " " B
theorem sp1 : TL.tl (" " : Str) = [32] := by decide +kernel
theorem no_sp : ∀ r ∈ Rs, 32 ∉ TL.tl r := by decide +kernel
theorem split_of {L : List Str} (h : L ≠ []) (hs : ∀ p ∈ L, 32 ∉ TL.tl p) : Txt.split (Txt.join " " L) " " = L := TL.split_join sp1 (by decide +kernel) h hs
/-- a list of names that is not a book's -/
theorem not_ord {L : List Str} (h : ¬ L.Sublist Rs) : ord L ≠ L := fun e => h (by rw [← e]; exact ord_subl)
theorem not_mem {L : List Str} {x : Str} (h : x ∈ L) (hx : x ∉ Rs) : ord L ≠ L := not_ord fun z => hx (z.subset h)
theorem not_nodup {L : List Str} (h : ¬ L.Nodup) : ord L ≠ L := not_ord fun z => h (z.nodup Rs_nodup)
/-- a text that is no book's: what its parts are -/
structure BadT (t : Str) (L : List Str) : Prop where
  ne : L ≠ []
  nsp : ∀ p ∈ L, 32 ∉ TL.tl p
  eq : t = Txt.join " " L
  nord : ord L ≠ L
  nnone : L ≠ [("none" : Str)]
  len : t.length ≤ 900
theorem BadT.split {t : Str} {L : List Str} (h : BadT t L) : Txt.split t " " = L := by rw [h.eq, split_of h.ne h.nsp]
theorem BadT.not {t : Str} {L : List Str} (h : BadT t L) : t ≠ "none" := fun e => h.nnone (by rw [← h.split, e]; decide +kernel)
theorem txB_split {B : List Str} (h : B.Sublist Rs) (hn : B ≠ []) : Txt.split (txB B) " " = B := by
  unfold txB
  rw [if_neg hn]
  exact split_of hn fun p hp => no_sp p (h.subset hp)
theorem txB_ne {B : List Str} (h : B.Sublist Rs) (hn : B ≠ []) : txB B ≠ "none" := fun e => by
  have := txB_split h hn
  rw [e] at this
  have e2 : Txt.split ("none" : Str) " " = [("none" : Str)] := by decide +kernel
  rw [e2] at this
  subst this
  exact absurd (h.subset (List.mem_singleton.mpr rfl)) (by decide +kernel)
end K87
namespace K87
open PySem PySem.Spec PyProof.Rows L2 Rg TL
theorem str_ext {a b : Str} (h : tl a = tl b) : a = b := by
  have := congrArg List.toArray h
  cases a; cases b
  simpa [tl] using this
theorem joinL_snoc {y x : List Nat} : ∀ {B : List (List Nat)}, B ≠ [] → joinL y (B ++ [x]) = joinL y B ++ (y ++ x)
  | [], h => absurd rfl h
  | [b], _ => rfl
  | b :: c :: t, _ => by
    show b ++ (y ++ joinL y (c :: t ++ [x])) = b ++ (y ++ joinL y (c :: t)) ++ (y ++ x)
    rw [joinL_snoc (by simp), List.append_assoc, List.append_assoc]
theorem joinL_cons {y x : List Nat} {B : List (List Nat)} (h : B ≠ []) : joinL y (x :: B) = x ++ (y ++ joinL y B) := by
  cases B with
  | nil => exact absurd rfl h
  | cons b t => rfl
theorem tl_jn {y : Str} {B : List Str} : tl (Txt.join y B) = joinL (tl y) (B.map tl) := by rw [join_eq, tl_join]
theorem join_snoc {B : List Str} {x : Str} (h : B ≠ []) : Txt.join " " (B ++ [x]) = Txt.join " " B ++ " " ++ x := str_ext (by
  rw [tl_jn, tl_append, tl_append, tl_jn, List.map_append, show [x].map tl = [tl x] from rfl, joinL_snoc (by simpa using h), List.append_assoc])
theorem join_cons {B : List Str} {x : Str} (h : B ≠ []) : Txt.join " " (x :: B) = x ++ " " ++ Txt.join " " B := str_ext (by
  rw [tl_jn, tl_append, tl_append, tl_jn, List.map_cons, joinL_cons (by simpa using h), List.append_assoc])
theorem joinL_last {y x z : List Nat} : ∀ {B : List (List Nat)}, joinL y (B ++ [z ++ x]) = joinL y (B ++ [z]) ++ x
  | [] => rfl
  | [b] => by
    show b ++ (y ++ (z ++ x)) = b ++ (y ++ z) ++ x
    rw [List.append_assoc, List.append_assoc]
  | b :: c :: t => by
    show b ++ (y ++ joinL y (c :: t ++ [z ++ x])) = b ++ (y ++ joinL y (c :: t ++ [z])) ++ x
    rw [joinL_last, List.append_assoc, List.append_assoc]
theorem join_last {B : List Str} {z x : Str} : Txt.join " " (B ++ [z ++ x]) = Txt.join " " (B ++ [z]) ++ x := str_ext (by
  rw [tl_append, tl_jn, tl_jn, List.map_append, List.map_append, show [z ++ x].map tl = [tl z ++ tl x] by rw [List.map_singleton, tl_append], show [z].map tl = [tl z] from rfl, joinL_last])
/-- an empty part between each two -/
def inter : List Str → List Str
  | [] => []
  | [b] => [b]
  | b :: c :: t => b :: "" :: inter (c :: t)
theorem inter_ne {b : Str} {t : List Str} : inter (b :: t) ≠ [] := by cases t <;> simp [inter]
theorem join_two : ∀ {B : List Str}, Txt.join "  " B = Txt.join " " (inter B)
  | [] => rfl
  | [b] => rfl
  | b :: c :: t => str_ext (by
    have ih := join_two (B := c :: t)
    have ih2 := congrArg tl ih
    rw [tl_jn, tl_jn] at ih2
    rw [tl_jn, tl_jn]
    show tl b ++ (tl "  " ++ joinL (tl "  ") ((c :: t).map tl)) = joinL (tl " ") (tl b :: tl "" :: (inter (c :: t)).map tl)
    rw [ih2, joinL_cons (by simp), joinL_cons (by simpa using inter_ne)]
    have e1 : tl ("  " : Str) = tl (" " : Str) ++ tl (" " : Str) := by decide +kernel
    have e2 : tl ("" : Str) = [] := by decide +kernel
    rw [e1, e2, List.nil_append, List.append_assoc])
theorem inter_mem : ∀ {B : List Str} {x : Str}, x ∈ inter B → x ∈ B ∨ x = ""
  | [], _, h => by cases h
  | [b], _, h => .inl h
  | b :: c :: t, x, h => by
    rcases List.mem_cons.mp h with e | h
    · exact .inl (by simp [e])
    · rcases List.mem_cons.mp h with e | h
      · exact .inr e
      · exact (inter_mem h).imp_left (List.mem_cons_of_mem _)
theorem inter_len : ∀ {B : List Str}, (inter B).length ≤ 2 * B.length
  | [] => Nat.zero_le _
  | [b] => by simp [inter]
  | b :: c :: t => by
    have := inter_len (B := c :: t)
    simp only [inter, List.length_cons] at this ⊢
    omega
theorem joinL_len {k : Nat} : ∀ {B : List (List Nat)}, (∀ p ∈ B, p.length ≤ k) → (joinL [32] B).length ≤ B.length * (k + 1)
  | [], _ => Nat.zero_le _
  | [b], h => by
    have := h b (by simp)
    show b.length ≤ 1 * (k + 1)
    omega
  | b :: c :: t, h => by
    have h1 := h b (by simp)
    have h2 := joinL_len (B := c :: t) fun p hp => h p (List.mem_cons_of_mem _ hp)
    show (b ++ ([32] ++ joinL [32] (c :: t))).length ≤ (t.length + 1 + 1) * (k + 1)
    rw [List.length_cons, Nat.succ_mul] at h2
    rw [List.length_append, List.length_append, List.length_singleton, Nat.succ_mul, Nat.succ_mul]
    omega
theorem join_len {B : List Str} {k : Nat} (h : ∀ p ∈ B, p.length ≤ k) : (Txt.join " " B).length ≤ B.length * (k + 1) := by
  rw [len_tl, tl_jn, show tl (" " : Str) = [32] by decide +kernel]
  have := joinL_len (k := k) (B := B.map tl) fun p hp => by
    obtain ⟨x, hx, rfl⟩ := List.mem_map.mp hp
    rw [← len_tl]
    exact h x hx
  rwa [List.length_map] at this
end K87
namespace K87
open PySem PySem.Spec PyProof.Rows L2 Rg
def top (i : Nat) : Stmt := PySem.Challenge.pw_lotsandties_k87_books.main.body.getD i (.Pass ⟨0, 0, 0, 0⟩)
abbrev s_written_names : Stmt := top 8
abbrev s_numbered_names : Stmt := top 9
abbrev s_Lfeed : Stmt := top 13
abbrev s_Lpick : Stmt := top 14
abbrev s_Lrules : Stmt := top 15
abbrev s_Lnames : Stmt := top 16
abbrev s_Lnumber : Stmt := top 17
abbrev s_Lis_book : Stmt := top 18
abbrev s_Lbad_text : Stmt := top 19
abbrev s_Lbad_number : Stmt := top 20
abbrev s_Lbad_names : Stmt := top 21
abbrev s_Lspoilt : Stmt := top 22
abbrev s_law : Stmt := top 23
abbrev s_RuleSet___init__ : Stmt := inClass (top 7) 1
abbrev s_RuleSet___contains__ : Stmt := inClass (top 7) 2
abbrev s_RuleSet___iter__ : Stmt := inClass (top 7) 3
abbrev s_RuleSet_text : Stmt := inClass (top 7) 4
abbrev s_Book___or__ : Stmt := inClass (top 11) 4
abbrev s_Book___sub__ : Stmt := inClass (top 11) 5
abbrev s_Book_read : Stmt := inClass (top 11) 1
abbrev s_Book_of_number : Stmt := inClass (top 11) 2
abbrev s_Book_full : Stmt := inClass (top 11) 3
theorem sc_written_names : FnScope ["text", "rules", "names", "rule"] ["text", "rules"] (defScope s_written_names) := ⟨rfl, rfl, rfl, by decide +kernel, rfl, by decide +kernel, by decide +kernel⟩
theorem sc_numbered_names : FnScope ["number", "rules", "k", "rule"] ["number", "rules"] (defScope s_numbered_names) := ⟨rfl, rfl, rfl, by decide +kernel, rfl, by decide +kernel, by decide +kernel⟩
theorem sc_Lfeed : FnScope ["_law_script", "_law_feed_here", "_law_cell", "_law_rest", "_law_k"] ["_law_script"] (defScope s_Lfeed) := ⟨rfl, rfl, rfl, by decide +kernel, rfl, by decide +kernel, by decide +kernel⟩
theorem sc_Lpick : FnScope ["_law_feed_here", "_law_limit"] ["_law_feed_here", "_law_limit"] (defScope s_Lpick) := ⟨rfl, rfl, rfl, by decide +kernel, rfl, by decide +kernel, by decide +kernel⟩
theorem sc_Lrules : FnScope ["_law_row"] [] (defScope s_Lrules) := ⟨rfl, rfl, rfl, by decide +kernel, rfl, by decide +kernel, by decide +kernel⟩
theorem sc_Lnames : FnScope ["_law_number_here", "_law_names_here", "_law_rest", "_law_name"] ["_law_number_here"] (defScope s_Lnames) := ⟨rfl, rfl, rfl, by decide +kernel, rfl, by decide +kernel, by decide +kernel⟩
theorem sc_Lnumber : FnScope ["_law_names_here", "_law_number_here", "_law_weight", "_law_name"] ["_law_names_here"] (defScope s_Lnumber) := ⟨rfl, rfl, rfl, by decide +kernel, rfl, by decide +kernel, by decide +kernel⟩
theorem sc_Lis_book : FnScope ["_law_book", "_law_names_here", "_law_name", "_law_number_here", "_law_due", "_law_text"] ["_law_book", "_law_names_here"] (defScope s_Lis_book) := ⟨rfl, rfl, rfl, by decide +kernel, rfl, by decide +kernel, by decide +kernel⟩
theorem sc_Lbad_text : FnScope ["_law_text", "e"] ["_law_text"] (defScope s_Lbad_text) := ⟨rfl, rfl, rfl, by decide +kernel, rfl, by decide +kernel, by decide +kernel⟩
theorem sc_Lbad_number : FnScope ["_law_number_here", "e"] ["_law_number_here"] (defScope s_Lbad_number) := ⟨rfl, rfl, rfl, by decide +kernel, rfl, by decide +kernel, by decide +kernel⟩
theorem sc_Lbad_names : FnScope ["_law_names_here", "e"] ["_law_names_here"] (defScope s_Lbad_names) := ⟨rfl, rfl, rfl, by decide +kernel, rfl, by decide +kernel, by decide +kernel⟩
theorem sc_Lspoilt : FnScope ["_law_names_here", "_law_at", "_law_texts", "_law_text", "_law_name", "_law_turned", "_law_k"] ["_law_names_here", "_law_at"] (defScope s_Lspoilt) := ⟨rfl, rfl, rfl, by decide +kernel, rfl, by decide +kernel, by decide +kernel⟩
theorem sc_law : FnScope ["_law_script", "_law_feed_here", "_law_first", "_law_second", "_law_at", "_law_names_here", "_law_others", "_law_book", "_law_other", "_law_both", "_law_name", "_law_text", "_law_number_here", "_law_word"] ["_law_script"] (defScope s_law) := ⟨rfl, rfl, rfl, by decide +kernel, rfl, by decide +kernel, by decide +kernel⟩
theorem sc_RuleSet___init__ : FnScope ["self", "names", "name", "rule", "k"] ["self", "names"] (defScope s_RuleSet___init__) := ⟨rfl, rfl, rfl, by decide +kernel, rfl, by decide +kernel, by decide +kernel⟩
theorem sc_RuleSet___contains__ : FnScope ["self", "name"] ["self", "name"] (defScope s_RuleSet___contains__) := ⟨rfl, rfl, rfl, by decide +kernel, rfl, by decide +kernel, by decide +kernel⟩
theorem sc_RuleSet___iter__ : FnScope ["self"] ["self"] (defScope s_RuleSet___iter__) := ⟨rfl, rfl, rfl, by decide +kernel, rfl, by decide +kernel, by decide +kernel⟩
theorem sc_RuleSet_text : FnScope ["self"] ["self"] (defScope s_RuleSet_text) := ⟨rfl, rfl, rfl, by decide +kernel, rfl, by decide +kernel, by decide +kernel⟩
theorem sc_Book___or__ : FnScope ["self", "other", "rule"] ["self", "other"] (defScope s_Book___or__) := ⟨rfl, rfl, rfl, by decide +kernel, rfl, by decide +kernel, by decide +kernel⟩
theorem sc_Book___sub__ : FnScope ["self", "other", "rule"] ["self", "other"] (defScope s_Book___sub__) := ⟨rfl, rfl, rfl, by decide +kernel, rfl, by decide +kernel, by decide +kernel⟩
theorem sc_Book_read : FnScope ["text"] ["text"] (defScope s_Book_read) := ⟨rfl, rfl, rfl, by decide +kernel, rfl, by decide +kernel, by decide +kernel⟩
theorem sc_Book_of_number : FnScope ["number"] ["number"] (defScope s_Book_of_number) := ⟨rfl, rfl, rfl, by decide +kernel, rfl, by decide +kernel, by decide +kernel⟩
theorem sc_Book_full : FnScope [] [] (defScope s_Book_full) := ⟨rfl, rfl, rfl, by decide +kernel, rfl, by decide +kernel, by decide +kernel⟩

structure Tx (K : PySem.W.Frag) (mg : Str → Option Value) where
  f_written_names : Addr
  fd_written_names : FuncData
  F_written_names : Fun K "written_names" "written_names" s_written_names f_written_names fd_written_names
  mg_written_names : mg "written_names" = some (.ref f_written_names)
  f_numbered_names : Addr
  fd_numbered_names : FuncData
  F_numbered_names : Fun K "numbered_names" "numbered_names" s_numbered_names f_numbered_names fd_numbered_names
  mg_numbered_names : mg "numbered_names" = some (.ref f_numbered_names)
  f_Lfeed : Addr
  fd_Lfeed : FuncData
  F_Lfeed : Fun K "_law_feed" "_law_feed" s_Lfeed f_Lfeed fd_Lfeed
  mg_Lfeed : mg "_law_feed" = some (.ref f_Lfeed)
  f_Lpick : Addr
  fd_Lpick : FuncData
  F_Lpick : Fun K "_law_pick" "_law_pick" s_Lpick f_Lpick fd_Lpick
  mg_Lpick : mg "_law_pick" = some (.ref f_Lpick)
  f_Lrules : Addr
  fd_Lrules : FuncData
  F_Lrules : Fun K "_law_rules" "_law_rules" s_Lrules f_Lrules fd_Lrules
  mg_Lrules : mg "_law_rules" = some (.ref f_Lrules)
  f_Lnames : Addr
  fd_Lnames : FuncData
  F_Lnames : Fun K "_law_names" "_law_names" s_Lnames f_Lnames fd_Lnames
  mg_Lnames : mg "_law_names" = some (.ref f_Lnames)
  f_Lnumber : Addr
  fd_Lnumber : FuncData
  F_Lnumber : Fun K "_law_number" "_law_number" s_Lnumber f_Lnumber fd_Lnumber
  mg_Lnumber : mg "_law_number" = some (.ref f_Lnumber)
  f_Lis_book : Addr
  fd_Lis_book : FuncData
  F_Lis_book : Fun K "_law_is_book" "_law_is_book" s_Lis_book f_Lis_book fd_Lis_book
  mg_Lis_book : mg "_law_is_book" = some (.ref f_Lis_book)
  f_Lbad_text : Addr
  fd_Lbad_text : FuncData
  F_Lbad_text : Fun K "_law_bad_text" "_law_bad_text" s_Lbad_text f_Lbad_text fd_Lbad_text
  mg_Lbad_text : mg "_law_bad_text" = some (.ref f_Lbad_text)
  f_Lbad_number : Addr
  fd_Lbad_number : FuncData
  F_Lbad_number : Fun K "_law_bad_number" "_law_bad_number" s_Lbad_number f_Lbad_number fd_Lbad_number
  mg_Lbad_number : mg "_law_bad_number" = some (.ref f_Lbad_number)
  f_Lbad_names : Addr
  fd_Lbad_names : FuncData
  F_Lbad_names : Fun K "_law_bad_names" "_law_bad_names" s_Lbad_names f_Lbad_names fd_Lbad_names
  mg_Lbad_names : mg "_law_bad_names" = some (.ref f_Lbad_names)
  f_Lspoilt : Addr
  fd_Lspoilt : FuncData
  F_Lspoilt : Fun K "_law_spoilt" "_law_spoilt" s_Lspoilt f_Lspoilt fd_Lspoilt
  mg_Lspoilt : mg "_law_spoilt" = some (.ref f_Lspoilt)
  f_law : Addr
  fd_law : FuncData
  F_law : Fun K "law" "law" s_law f_law fd_law
  mg_law : mg "law" = some (.ref f_law)
  f_RuleSet___init__ : Addr
  fd_RuleSet___init__ : FuncData
  F_RuleSet___init__ : Fun K "__init__" "RuleSet.__init__" s_RuleSet___init__ f_RuleSet___init__ fd_RuleSet___init__
  f_RuleSet___contains__ : Addr
  fd_RuleSet___contains__ : FuncData
  F_RuleSet___contains__ : Fun K "__contains__" "RuleSet.__contains__" s_RuleSet___contains__ f_RuleSet___contains__ fd_RuleSet___contains__
  f_RuleSet___iter__ : Addr
  fd_RuleSet___iter__ : FuncData
  F_RuleSet___iter__ : Fun K "__iter__" "RuleSet.__iter__" s_RuleSet___iter__ f_RuleSet___iter__ fd_RuleSet___iter__
  f_RuleSet_text : Addr
  fd_RuleSet_text : FuncData
  F_RuleSet_text : Fun K "text" "RuleSet.text" s_RuleSet_text f_RuleSet_text fd_RuleSet_text
  f_Book___or__ : Addr
  fd_Book___or__ : FuncData
  F_Book___or__ : Fun K "__or__" "Book.__or__" s_Book___or__ f_Book___or__ fd_Book___or__
  f_Book___sub__ : Addr
  fd_Book___sub__ : FuncData
  F_Book___sub__ : Fun K "__sub__" "Book.__sub__" s_Book___sub__ f_Book___sub__ fd_Book___sub__
  f_Book_read : Addr
  fd_Book_read : FuncData
  F_Book_read : Fun K "read" "Book.read" s_Book_read f_Book_read fd_Book_read
  f_Book_of_number : Addr
  fd_Book_of_number : FuncData
  F_Book_of_number : Fun K "of_number" "Book.of_number" s_Book_of_number f_Book_of_number fd_Book_of_number
  f_Book_full : Addr
  fd_Book_full : FuncData
  F_Book_full : Fun K "full" "Book.full" s_Book_full f_Book_full fd_Book_full
  C_RuleSet : Addr
  mg_RuleSet : mg "RuleSet" = some (.ref C_RuleSet)
  cl_RuleSet : Cls K C_RuleSet
  mc_RuleSet : Value
  cr_RuleSet : ClX.CRead K C_RuleSet mc_RuleSet
  tA_RuleSet_RULES : Addr
  tt_RuleSet_RULES : ∀ H : Hp, SqT K H tA_RuleSet_RULES []
  tv_RuleSet_RULES : ClX.CVal K C_RuleSet mc_RuleSet "RULES" (.ref tA_RuleSet_RULES) (.ref tA_RuleSet_RULES)
  C_Book : Addr
  mg_Book : mg "Book" = some (.ref C_Book)
  cl_Book : Cls K C_Book
  na_Book_names : NoAttr K C_Book "names"
  na_Book_number : NoAttr K C_Book "number"
  mc_Book : Value
  cr_Book : ClX.CRead K C_Book mc_Book
  tA_Book_RULES : Addr
  tt_Book_RULES : ∀ H : Hp, SqT K H tA_Book_RULES [.str "copies", .str "mark", .str "words", .str "reuse", .str "late", .str "revoke", .str "lapse", .str "shelve", .str "frozen", .str "wait", .str "room", .str "told"]
  tv_Book_RULES : ClX.CVal K C_Book mc_Book "RULES" (.ref tA_Book_RULES) (.ref tA_Book_RULES)
  tc_Book_RULES : Con K C_Book "RULES" (.ref tA_Book_RULES) (.ref tA_Book_RULES)
  m_RuleSet___contains__ : Meth K C_RuleSet "__contains__" f_RuleSet___contains__
  m_RuleSet___iter__ : Meth K C_RuleSet "__iter__" f_RuleSet___iter__
  m_RuleSet_text : Meth K C_RuleSet "text" f_RuleSet_text
  m_Book___or__ : Meth K C_Book "__or__" f_Book___or__
  m_Book___sub__ : Meth K C_Book "__sub__" f_Book___sub__
  sm_Book_read : SMet K C_Book mc_Book "read" f_Book_read
  sm_Book_of_number : SMet K C_Book mc_Book "of_number" f_Book_of_number
  sm_Book_full : SMet K C_Book mc_Book "full" f_Book_full
  C_StoreError : Addr
  mg_StoreError : mg "StoreError" = some (.ref C_StoreError)
  be_StoreError : PySem.W.subIn K (.ref C_StoreError) (.type "BaseException") = some true
  te_StoreError : PySem.W.typeIn K (.ref C_StoreError) = some (.type "type")
  ie_StoreError : PySem.W.isClsIn K C_StoreError = true
  C_BadText : Addr
  mg_BadText : mg "BadText" = some (.ref C_BadText)
  be_BadText : PySem.W.subIn K (.ref C_BadText) (.type "BaseException") = some true
  te_BadText : PySem.W.typeIn K (.ref C_BadText) = some (.type "type")
  ie_BadText : PySem.W.isClsIn K C_BadText = true
  xe_BadText : PySem.W.excIn K C_BadText [.type "ValueError", .type "Exception", .type "BaseException", .type "object"] "ValueError.__new__" = true
  ke_BadText : PySem.W.keepIn K (.ref C_BadText) = true
  ec_BadText : ExcC K C_BadText
  C_BadValue : Addr
  mg_BadValue : mg "BadValue" = some (.ref C_BadValue)
  be_BadValue : PySem.W.subIn K (.ref C_BadValue) (.type "BaseException") = some true
  te_BadValue : PySem.W.typeIn K (.ref C_BadValue) = some (.type "type")
  ie_BadValue : PySem.W.isClsIn K C_BadValue = true
  xe_BadValue : PySem.W.excIn K C_BadValue [.type "ValueError", .type "Exception", .type "BaseException", .type "object"] "ValueError.__new__" = true
  ke_BadValue : PySem.W.keepIn K (.ref C_BadValue) = true
  ec_BadValue : ExcC K C_BadValue
  C_Refused : Addr
  mg_Refused : mg "Refused" = some (.ref C_Refused)
  be_Refused : PySem.W.subIn K (.ref C_Refused) (.type "BaseException") = some true
  te_Refused : PySem.W.typeIn K (.ref C_Refused) = some (.type "type")
  ie_Refused : PySem.W.isClsIn K C_Refused = true
  C_NotNow : Addr
  mg_NotNow : mg "NotNow" = some (.ref C_NotNow)
  be_NotNow : PySem.W.subIn K (.ref C_NotNow) (.type "BaseException") = some true
  te_NotNow : PySem.W.typeIn K (.ref C_NotNow) = some (.type "type")
  ie_NotNow : PySem.W.isClsIn K C_NotNow = true
  sub_BadText_StoreError : PySem.W.subIn K (.ref C_BadText) (.ref C_StoreError) = some true
  sub_BadText_BadText : PySem.W.subIn K (.ref C_BadText) (.ref C_BadText) = some true
  sub_BadText_BadValue : PySem.W.subIn K (.ref C_BadText) (.ref C_BadValue) = some false
  sub_BadText_Refused : PySem.W.subIn K (.ref C_BadText) (.ref C_Refused) = some false
  sub_BadText_NotNow : PySem.W.subIn K (.ref C_BadText) (.ref C_NotNow) = some false
  sub_BadValue_StoreError : PySem.W.subIn K (.ref C_BadValue) (.ref C_StoreError) = some true
  sub_BadValue_BadText : PySem.W.subIn K (.ref C_BadValue) (.ref C_BadText) = some false
  sub_BadValue_BadValue : PySem.W.subIn K (.ref C_BadValue) (.ref C_BadValue) = some true
  sub_BadValue_Refused : PySem.W.subIn K (.ref C_BadValue) (.ref C_Refused) = some false
  sub_BadValue_NotNow : PySem.W.subIn K (.ref C_BadValue) (.ref C_NotNow) = some false
  bsub_BadText_ValueError : PySem.W.subIn K (.ref C_BadText) (.type "ValueError") = some true
  bsub_BadValue_ValueError : PySem.W.subIn K (.ref C_BadValue) (.type "ValueError") = some true
  mk_Book : Mk K C_Book f_RuleSet___init__
  bm_text : Meth K C_Book "text" f_RuleSet_text
  bm_contains : Meth K C_Book "__contains__" f_RuleSet___contains__
  bm_iter : Meth K C_Book "__iter__" f_RuleSet___iter__
  bm_or : Meth K C_Book "__or__" f_Book___or__
  bm_sub : Meth K C_Book "__sub__" f_Book___sub__
  sf_Book : PySem.W.selfFirst K C_Book = true
  sub_Book_RuleSet : PySem.W.subIn K (.ref C_Book) (.ref C_RuleSet) = some true
  te_RuleSet : PySem.W.typeIn K (.ref C_RuleSet) = some (.type "type")
  ie_RuleSet : PySem.W.isClsIn K C_RuleSet = true
  ixa_Book : PySem.W.findIn K (.ref C_Book) "__class__" = some (some (.builtin "object.__class__"))
  ixb_Book : PySem.W.specialIn K (.builtin "object.__class__") "__get__" = some (some (.builtin "getset_descriptor.__get__"))
  ixc_Book : PySem.W.takesIn K (.builtin "object.__class__") = some true
  ixd_Book : PySem.W.mroIn K C_Book (.type "object") = some true
  b_ValueError : mg "ValueError" = none
  b_abs : mg "abs" = none
  b_bool : mg "bool" = none
  b_iter : mg "iter" = none
  b_enumerate : mg "enumerate" = none
  b_int : mg "int" = none
  b_isinstance : mg "isinstance" = none
  b_len : mg "len" = none
  b_list : mg "list" = none
  b_range : mg "range" = none
  b_reversed : mg "reversed" = none
  b_str : mg "str" = none
  b_sum : mg "sum" = none
  b_tuple : mg "tuple" = none

section
variable {P : Program} {w : World} {K : PySem.W.Frag} {mg : Str → Option Value} {base : Heap}
theorem b_written_names (T : Tx K mg) : Binds K T.fd_written_names ["text", "rules"] [] := T.F_written_names.binds (ps := ["text", "rules"]) fun _ _ _ _ _ _ us hl => match us, hl with | [_, _], _ => rfl
theorem b_numbered_names (T : Tx K mg) : Binds K T.fd_numbered_names ["number", "rules"] [] := T.F_numbered_names.binds (ps := ["number", "rules"]) fun _ _ _ _ _ _ us hl => match us, hl with | [_, _], _ => rfl
theorem b_Lfeed (T : Tx K mg) : Binds K T.fd_Lfeed ["_law_script"] [] := T.F_Lfeed.binds (ps := ["_law_script"]) fun _ _ _ _ _ _ us hl => match us, hl with | [_], _ => rfl
theorem b_Lpick (T : Tx K mg) : Binds K T.fd_Lpick ["_law_feed_here", "_law_limit"] [] := T.F_Lpick.binds (ps := ["_law_feed_here", "_law_limit"]) fun _ _ _ _ _ _ us hl => match us, hl with | [_, _], _ => rfl
theorem b_Lrules (T : Tx K mg) : Binds K T.fd_Lrules [] [] := T.F_Lrules.binds (ps := []) fun _ _ _ _ _ _ us hl => match us, hl with | [], _ => rfl
theorem b_Lnames (T : Tx K mg) : Binds K T.fd_Lnames ["_law_number_here"] [] := T.F_Lnames.binds (ps := ["_law_number_here"]) fun _ _ _ _ _ _ us hl => match us, hl with | [_], _ => rfl
theorem b_Lnumber (T : Tx K mg) : Binds K T.fd_Lnumber ["_law_names_here"] [] := T.F_Lnumber.binds (ps := ["_law_names_here"]) fun _ _ _ _ _ _ us hl => match us, hl with | [_], _ => rfl
theorem b_Lis_book (T : Tx K mg) : Binds K T.fd_Lis_book ["_law_book", "_law_names_here"] [] := T.F_Lis_book.binds (ps := ["_law_book", "_law_names_here"]) fun _ _ _ _ _ _ us hl => match us, hl with | [_, _], _ => rfl
theorem b_Lbad_text (T : Tx K mg) : Binds K T.fd_Lbad_text ["_law_text"] [] := T.F_Lbad_text.binds (ps := ["_law_text"]) fun _ _ _ _ _ _ us hl => match us, hl with | [_], _ => rfl
theorem b_Lbad_number (T : Tx K mg) : Binds K T.fd_Lbad_number ["_law_number_here"] [] := T.F_Lbad_number.binds (ps := ["_law_number_here"]) fun _ _ _ _ _ _ us hl => match us, hl with | [_], _ => rfl
theorem b_Lbad_names (T : Tx K mg) : Binds K T.fd_Lbad_names ["_law_names_here"] [] := T.F_Lbad_names.binds (ps := ["_law_names_here"]) fun _ _ _ _ _ _ us hl => match us, hl with | [_], _ => rfl
theorem b_Lspoilt (T : Tx K mg) : Binds K T.fd_Lspoilt ["_law_names_here", "_law_at"] [] := T.F_Lspoilt.binds (ps := ["_law_names_here", "_law_at"]) fun _ _ _ _ _ _ us hl => match us, hl with | [_, _], _ => rfl
theorem b_law (T : Tx K mg) : Binds K T.fd_law ["_law_script"] [] := T.F_law.binds (ps := ["_law_script"]) fun _ _ _ _ _ _ us hl => match us, hl with | [_], _ => rfl
theorem b_RuleSet___init__ (T : Tx K mg) : Binds K T.fd_RuleSet___init__ ["self", "names"] [] := T.F_RuleSet___init__.binds (ps := ["self", "names"]) fun _ _ _ _ _ _ us hl => match us, hl with | [_, _], _ => rfl
theorem b_RuleSet___contains__ (T : Tx K mg) : Binds K T.fd_RuleSet___contains__ ["self", "name"] [] := T.F_RuleSet___contains__.binds (ps := ["self", "name"]) fun _ _ _ _ _ _ us hl => match us, hl with | [_, _], _ => rfl
theorem b_RuleSet___iter__ (T : Tx K mg) : Binds K T.fd_RuleSet___iter__ ["self"] [] := T.F_RuleSet___iter__.binds (ps := ["self"]) fun _ _ _ _ _ _ us hl => match us, hl with | [_], _ => rfl
theorem b_RuleSet_text (T : Tx K mg) : Binds K T.fd_RuleSet_text ["self"] [] := T.F_RuleSet_text.binds (ps := ["self"]) fun _ _ _ _ _ _ us hl => match us, hl with | [_], _ => rfl
theorem b_Book___or__ (T : Tx K mg) : Binds K T.fd_Book___or__ ["self", "other"] [] := T.F_Book___or__.binds (ps := ["self", "other"]) fun _ _ _ _ _ _ us hl => match us, hl with | [_, _], _ => rfl
theorem b_Book___sub__ (T : Tx K mg) : Binds K T.fd_Book___sub__ ["self", "other"] [] := T.F_Book___sub__.binds (ps := ["self", "other"]) fun _ _ _ _ _ _ us hl => match us, hl with | [_, _], _ => rfl
theorem b_Book_read (T : Tx K mg) : Binds K T.fd_Book_read ["text"] [] := T.F_Book_read.binds (ps := ["text"]) fun _ _ _ _ _ _ us hl => match us, hl with | [_], _ => rfl
theorem b_Book_of_number (T : Tx K mg) : Binds K T.fd_Book_of_number ["number"] [] := T.F_Book_of_number.binds (ps := ["number"]) fun _ _ _ _ _ _ us hl => match us, hl with | [_], _ => rfl
theorem b_Book_full (T : Tx K mg) : Binds K T.fd_Book_full [] [] := T.F_Book_full.binds (ps := []) fun _ _ _ _ _ _ us hl => match us, hl with | [], _ => rfl
end
end K87
namespace K87
open PySem PySem.Spec PyProof.Rows L2 Rg
section
variable {P : Program} {w : World} {K : PySem.W.Frag} {mg : Str → Option Value} {base : Heap}
/-! ### _law_pick -/
def sp_Lpick : Sp := fun vs H Q _ => ∃ (p : Addr) (fs : List Int) (lim : Int), vs = [.ref p, .int lim] ∧ H p = some (.lst (fs.map V.int)) ∧ 0 < lim ∧
  ∀ (r : Int) (fs' : List Int), 0 ≤ r → r < lim → fs'.length ≤ fs.length → Q (.int r) (upd H p (.lst (fs'.map V.int)))
theorem ok_Lpick (T : Tx K mg) : FnOk P w K mg base CX0 1 T.f_Lpick T.fd_Lpick ["_law_feed_here", "_law_limit"] sp_Lpick := by
  refine T.F_Lpick.ok sc_Lpick (fun vs H Q E h => ?_) (fun cdv A outer s H vs Q E hr h => ?_)
  · obtain ⟨p, fs, lim, rfl, _⟩ := h
    rfl
  · obtain ⟨p, fs, lim, rfl, hp, hl, k⟩ := h
    refine ⟨_, (pss_cons (ps_if (pt_cmpR op_eq (pe_callB call_len_seq rfl T.b_len (by decide +kernel) (pa_cons (pv 0) pa_nil)) pe_int (nomark _))
        (pss_one (ps_ret pe_int))
        pss_nil)
      (pss_one (ps_ret (pe_op op_mod (pe_callTy call_int1 rfl T.b_int (by decide +kernel) (pa_cons (pe_bm PySem.F.plainAttrs_list PySem.F.slot_list_pop PySem.F.type_list_pop mt_popAt (pv 0) (pa_cons pe_int pa_nil)) pa_nil)) (pv 1))))), ?_⟩
    refine ⟨_, rfl, p, fs.map V.int, rfl, .inl (.inl (.inl hp)), rfl, _, rfl, ite2 (fun e => ?_) (fun e => ?_)⟩
    · have := k 0 fs (Int.le_refl _) hl (Nat.le_refl _)
      rw [upd_id hp] at this
      exact this
    · cases fs with
      | nil => exact absurd (decide_eq_true rfl) e
      | cons x r =>
        refine ⟨.ref p, rfl, .inl ⟨rfl, _, .inl (.inl hp)⟩, p, _, 0, 0, .int x, rfl, rfl, hp, by decide, by decide, ?_, rfl, .inl ⟨x, rfl, ?_⟩⟩
        · rw [List.length_map]; simp [seqIndex?]
        · refine ⟨.int lim, rfl, _, _, rfl, rfl, hl, ?_⟩
          exact k _ r (Int.emod_nonneg _ (by omega)) (Int.emod_lt_of_pos _ hl) (by simp)

/-! ### _law_feed -/
def sp_Lfeed (K : PySem.W.Frag) : Sp := fun vs H Q _ => ∃ (a : Addr) (ns : List Int), vs = [.ref a] ∧ SqL K H a (ns.map V.int) ∧ ns.length ≤ 63 ∧
  ∀ (H' : Hp) (p : Addr) (fs : List Int), Same H H' → H p = none → H' p = some (.lst (fs.map V.int)) → fs.length ≤ 5000 → Q (.ref p) H'
theorem ok_Lfeed (T : Tx K mg) : FnOk P w K mg base CX0 1 T.f_Lfeed T.fd_Lfeed ["_law_script"] (sp_Lfeed K) := by
  refine T.F_Lfeed.ok sc_Lfeed (fun vs H Q E h => ?_) (fun cdv A outer s H vs Q E hr h => ?_)
  · obtain ⟨_, _, rfl, _⟩ := h; rfl
  · obtain ⟨a, ns, rfl, hS, hlen, k⟩ := h
    refine ⟨_, (pss_cons (ps_set (i := 1) sc_Lfeed.nd rfl (.inl rfl) (pe_lst pa_nil))
      (pss_cons (ps_for PassesOwn.never rfl (pi_list (pv 0)) (pg_name (i := 2) sc_Lfeed.nd rfl (.inl rfl))
        (pss_cons (ps_set (i := 3) sc_Lfeed.nd rfl (.inl rfl) (pe_callB call_abs rfl T.b_abs (by decide +kernel) (pa_cons (pv 2) pa_nil)))
        (Evl.pss_cut (ps_if (pt_cmpR op_lt (pv 3) (pe_op op_pow pe_int pe_int) (nomark _))
          (pss_cons (ps_set (i := 3) sc_Lfeed.nd rfl (.inl rfl) (pe_op op_mod (pe_callTy call_int1 rfl T.b_int (by decide +kernel) (pa_cons (pe_op op_add (pe_op op_mul (pv 3) pe_int) pe_int) pa_nil)) pe_int))
          (pss_cons (ps_expr (pe_bm PySem.F.plainAttrs_list PySem.F.slot_list_append PySem.F.type_list_append mt_append (pv 1) (pa_cons (pe_op op_mod (pe_callTy call_int1 rfl T.b_int (by decide +kernel) (pa_cons (pe_op op_add (pe_op op_mul (pv 3) pe_int) pe_int) pa_nil)) pe_int) pa_nil)))
          (pss_one (ps_set (i := 3) sc_Lfeed.nd rfl (.inl rfl) pe_int))))
          pss_nil)
        (pss_one (ps_for PassesOwn.never rfl (pi_range1 rfl T.b_range (pa_cons pe_int pa_nil)) (pg_name (i := 4) sc_Lfeed.nd rfl (.inl rfl))
          (pss_one (ps_if (pt_cmpR op_gt (pv 3) pe_int (nomark _))
            (pss_cons (ps_expr (pe_bm PySem.F.plainAttrs_list PySem.F.slot_list_append PySem.F.type_list_append mt_append (pv 1) (pa_cons (pe_op op_mod (pe_callTy call_int1 rfl T.b_int (by decide +kernel) (pa_cons (pv 3) pa_nil)) pe_int) pa_nil)))
            (pss_one (ps_set (i := 3) sc_Lfeed.nd rfl (.inl rfl) (pe_op op_fdiv (pv 3) pe_int))))
            pss_nil)))))))
      (pss_one (ps_ret (pv 1))))), ?_⟩
    refine ⟨Nat.zero_le _, fun p np => ?_⟩
    have s0 : Same H (upd H p (.lst [])) := same_upd np
    have npa : ∀ H2, SqL K H2 a (ns.map V.int) → True := fun _ _ => trivial
    refine ⟨_, rfl, a, rfl, ⟨_, s0.seq hS⟩, for_list (K := K) (a := a) (xs := ns.map V.int) (fun i σ H2 => ∃ (fs : List Int) (v2 v3 v4 : Option V), σ = [some (.ref a), some (.ref p), v2, v3, v4] ∧ H2 = upd H p (.lst (fs.map V.int)) ∧ fs.length ≤ 61 * i)
      ⟨[], none, none, none, rfl, rfl, Nat.zero_le _⟩ (fun i σ H2 _ ⟨_, _, _, _, _, e, _⟩ => by rw [e]; exact (same_upd np).seq hS) ?_ ?_⟩
    · rintro i y σ H2 hi ⟨fs, v2, v3, v4, rfl, rfl, hl⟩
      have hil : i < 63 := by
        have := (List.getElem?_eq_some_iff.mp hi).1
        rw [List.length_map] at this
        omega
      obtain ⟨z, rfl⟩ : ∃ z, y = V.int z := by
        rw [List.getElem?_map] at hi
        cases e : ns[i]? with
        | none => rw [e] at hi; cases hi
        | some z => rw [e] at hi; exact ⟨z, (Option.some.inj hi).symm⟩
      refine ⟨_, rfl, z, rfl, ?_⟩
      refine ⟨fun σ' H' => ∃ (fs : List Int) (R : Int) (v4 : Option V), σ' = [some (.ref a), some (.ref p), some (.int z), some (.int R), v4] ∧ H' = upd H p (.lst (fs.map V.int)) ∧ 0 ≤ R ∧ fs.length ≤ 61 * i + 1, ?_, ?_⟩
      · have hz : 0 ≤ (if z < 0 then -z else z) := by split <;> omega
        refine ⟨_, rfl, _, _, rfl, rfl, ⟨by decide, by decide, by decide⟩, _, _, rfl, rfl, _, rfl, ite2 (fun e => ?_) (fun e => ?_)⟩
        · have e1 : (if z < 0 then -z else z) < 10 ^ 18 := of_decide_eq_true e
          refine ⟨_, rfl, _, _, rfl, rfl, .inl ⟨by omega, by omega⟩, _, _, rfl, rfl, .inl ⟨_, rfl, _, _, rfl, rfl, (by show (0 : Int) < _; decide), ?_⟩⟩
          refine ⟨.ref p, rfl, .inl ⟨rfl, _, .inl (.inl upd_same)⟩, _, rfl, _, _, rfl, rfl, .inr ⟨by decide, by decide⟩, _, _, rfl, rfl, .inl ⟨_, rfl, _, _, rfl, rfl, (by show (0 : Int) < _; decide), p, _, _, rfl, rfl, upd_same, ?_, ?_⟩⟩
          · rw [List.length_map]; exact Nat.lt_of_lt_of_le (Nat.lt_succ_of_le hl) (by unfold sizeLine; omega)
          · exact ⟨fs ++ [_], 0, v4, rfl, upd_app, Int.le_refl _, by rw [List.length_append]; simp; omega⟩
        · exact ⟨fs, _, v4, rfl, rfl, hz, by omega⟩
      · rintro σ' H' ⟨fs, R, v4, rfl, rfl, hR, hl⟩
        refine ⟨60, rfl, by decide, by decide, for_range (lo := 0) (n := 60) (fun j σ' H' => ∃ (fs : List Int) (R : Int) (v4 : Option V), σ' = [some (.ref a), some (.ref p), some (.int z), some (.int R), v4] ∧ H' = upd H p (.lst (fs.map V.int)) ∧ 0 ≤ R ∧ fs.length ≤ 61 * i + 1 + j)
          ⟨fs, R, v4, rfl, rfl, hR, hl⟩ ?_ ?_⟩
        · rintro j σ' H' hj ⟨fs, R, v4, rfl, rfl, hR, hl⟩
          refine ⟨_, rfl, _, _, rfl, rfl, _, rfl, ite2 (fun e => ?_) (fun e => ?_)⟩
          · refine ⟨.ref p, rfl, .inl ⟨rfl, _, .inl (.inl upd_same)⟩, _, rfl, .inl ⟨_, rfl, _, _, rfl, rfl, (by show (0 : Int) < _; decide), p, _, _, rfl, rfl, upd_same, ?_, ?_⟩⟩
            · rw [List.length_map]; exact Nat.lt_of_lt_of_le (Nat.lt_succ_of_le hl) (by unfold sizeLine; omega)
            · refine ⟨_, rfl, _, _, rfl, rfl, ⟨by decide, by decide⟩, fs ++ [_], _, _, rfl, upd_app, Int.ediv_nonneg hR (by decide), by rw [List.length_append]; simp; omega⟩
          · exact ⟨fs, R, _, rfl, rfl, hR, by omega⟩
        · rintro σ' H' ⟨fs, R, v4, rfl, rfl, hR, hl⟩
          exact ⟨fs, _, _, _, rfl, rfl, by omega⟩
    · rintro σ H2 ⟨fs, v2, v3, v4, rfl, rfl, hl⟩
      rw [List.length_map] at hl
      exact ⟨_, rfl, k _ p fs (same_upd np) np upd_same (by omega)⟩
end
end K87
namespace K87
open PySem PySem.Spec PyProof.Rows L2 Rg
theorem inV_str {r : Str} {B : List Str} : inV (.str r) (B.map V.str) = decide (r ∈ B) := by
  unfold inV
  rw [List.any_map, Bool.eq_iff_iff, List.any_eq_true, decide_eq_true_eq]
  constructor
  · rintro ⟨x, hx, e⟩
    have : x = r := by simpa [eqV] using e
    exact this ▸ hx
  · intro h
    exact ⟨r, h, by simp [eqV]⟩
theorem flat_str {B : List Str} : (B.map V.str).all flatV = true := by
  rw [List.all_map, List.all_eq_true]
  intro x _
  rfl
theorem str_at {l : List Str} {i : Nat} {x : V} (h : (l.map V.str)[i]? = some x) : ∃ r, x = .str r ∧ l[i]? = some r := by
  rw [List.getElem?_map] at h
  obtain ⟨r, h1, h2⟩ := Option.map_eq_some_iff.mp h
  exact ⟨r, h2.symm, h1⟩
/-- a list or a tuple of texts -/
def SqS (K : PySem.W.Frag) (H : Hp) (a : Addr) (B : List Str) : Prop := SqL K H a (B.map V.str) ∨ SqT K H a (B.map V.str)
/-- all but instances stay -/
def KI (H H' : Hp) : Prop := ∀ x o, H x = some o → (∀ C dx fs, o ≠ .ins C dx fs) → H' x = some o
theorem KI.refl {H : Hp} : KI H H := fun _ _ e _ => e
theorem KI.of {H H' : Hp} (s : Same H H') : KI H H' := fun _ _ e _ => s _ _ e
theorem KI.same {H H1 H' : Hp} (a : KI H H1) (s : Same H1 H') : KI H H' := fun x o e n => s _ _ (a x o e n)
theorem KI.fld {H H1 : Hp} {p C dx C' dx' : Addr} {fs gs : List (Str × V)} (a : KI H H1) (e : H1 p = some (.ins C dx fs)) : KI H (upd H1 p (.ins C' dx' gs)) := fun x o ex n => by
  have h1 := a x o ex n
  rw [upd_ne]
  · exact h1
  · intro z
    rw [z, e] at h1
    exact n _ _ _ (Option.some.inj h1).symm
theorem rd_ki {H H' : Hp} {a : Addr} {u : HO} (k : KI H H') (h : Rd H a u) (n : ∀ C dx fs, u ≠ .ins C dx fs) : Rd H' a u := by
  rcases h with h | ⟨o, h⟩
  · exact .inl (k _ _ h n)
  · exact .inr ⟨o, k _ _ h fun _ _ _ z => nomatch z⟩
theorem SqS.ki {K : PySem.W.Frag} {H H' : Hp} {a : Addr} {B : List Str} (k : KI H H') (h : SqS K H a B) : SqS K H' a B := by
  rcases h with (h | h) | (h | h)
  · exact .inl (.inl (rd_ki k h fun _ _ _ z => nomatch z))
  · exact .inl (.inr h)
  · exact .inr (.inl (rd_ki k h fun _ _ _ z => nomatch z))
  · exact .inr (.inr h)
theorem SqS.same {K : PySem.W.Frag} {H H' : Hp} {a : Addr} {B : List Str} (s : Same H H') (h : SqS K H a B) : SqS K H' a B := h.ki (.of s)
theorem SqL.ki {K : PySem.W.Frag} {H H' : Hp} {a : Addr} {xs : List V} (k : KI H H') (h : SqL K H a xs) : SqL K H' a xs := by
  rcases h with h | h
  · exact .inl (rd_ki k h fun _ _ _ z => nomatch z)
  · exact .inr h
theorem SqT.ki {K : PySem.W.Frag} {H H' : Hp} {a : Addr} {xs : List V} (k : KI H H') (h : SqT K H a xs) : SqT K H' a xs := by
  rcases h with h | h
  · exact .inl (rd_ki k h fun _ _ _ z => nomatch z)
  · exact .inr h
/-- a for over a list or a tuple of texts -/
def forR (g : TG) (tb : TS) (D : Ends) (σ : L2.St) (J : It) (H1 : Hp) : Prop := ∃ W : Nat → Nat → L2.St → Hp → Prop, (∃ m, W 0 m σ H1) ∧ ∀ i m σ H, W i m σ H →
  (J.stop i H ∧ D.nx σ H) ∨ (J.go i H ∧ ∃ N : L2.St → Hp → Prop, (∀ σ' H', N σ' H' → ∃ m', m' < m ∧ W (i + 1) m' σ' H') ∧ ∀ x H', J.yld i H x H' → g x σ H' fun σ2 H2 => tb { D with nx := N, ct := N, bk := D.nx } σ2 H2)
theorem for_seq {K : PySem.W.Frag} {a : Addr} {B : List Str} {g : TG} {tb : TS} {D : Ends} {σ : L2.St} {H : Hp} (hq : SqS K H a B) (Pv : Nat → L2.St → Hp → Prop) (h0 : Pv 0 σ H) (hk : ∀ i σ H', i ≤ B.length → Pv i σ H' → KI H H')
    (hs : ∀ i r σ H', B[i]? = some r → Pv i σ H' → g (.str r) σ H' fun σ2 H2 => tb { D with nx := Pv (i + 1), ct := Pv (i + 1), bk := D.nx } σ2 H2) (hd : ∀ σ H', Pv B.length σ H' → D.nx σ H') :
    ((∃ xs, SqL K H a xs) ∧ forR g tb D σ (Itl K a) H) ∨ ((∃ xs, SqT K H a xs) ∧ forR g tb D σ (Itt K a) H) := by
  rcases hq with q | q
  · refine .inl ⟨⟨_, q⟩, for_list (K := K) (a := a) (xs := B.map V.str) Pv h0 (fun i σ H' hi hp => SqL.ki (hk i σ H' (by rw [List.length_map] at hi; exact hi) hp) q) (fun i x σ H' hx hp => ?_) (fun σ H' hp => hd σ H' (by rw [List.length_map] at hp; exact hp))⟩
    obtain ⟨r, rfl, hr⟩ := str_at hx
    exact hs i r σ H' hr hp
  · refine .inr ⟨⟨_, q⟩, for_tup (K := K) (a := a) (xs := B.map V.str) Pv h0 (fun i σ H' hi hp => SqT.ki (hk i σ H' (by rw [List.length_map] at hi; exact hi) hp) q) (fun i x σ H' hx hp => ?_) (fun σ H' hp => hd σ H' (by rw [List.length_map] at hp; exact hp))⟩
    obtain ⟨r, rfl, hr⟩ := str_at hx
    exact hs i r σ H' hr hp
/-- what a comprehension with a test has made of the first i texts -/
structure PvS (H0 : Hp) (D : Addr) (l : List Str) (p : Str → Bool) (i : Nat) (H' : Hp) : Prop where
  same : Same H0 H'
  at_ : H' D = some (.lst (((l.take i).filter p).map V.str))
theorem PvS.start {H0 H1 : Hp} {D : Addr} {l : List Str} {p : Str → Bool} (s : Same H0 H1) (h : H1 D = none) : PvS H0 D l p 0 (upd H1 D (.lst [])) := ⟨s.trans (same_upd h), upd_same⟩
theorem PvS.yes {H0 H' : Hp} {D : Addr} {l : List Str} {p : Str → Bool} {i : Nat} {x : Str} (h : PvS H0 D l p i H') (n : H0 D = none) (hx : l[i]? = some x) (hp : p x = true) : PvS H0 D l p (i + 1) (upd H' D (.lst (((l.take i).filter p).map V.str ++ [.str x]))) := by
  refine ⟨fun b o e => ?_, ?_⟩
  · rw [upd_ne (ne_of_none e n)]
    exact h.same _ _ e
  · rw [upd_same, takeB hx, List.filter_append, List.map_append, List.filter_cons, if_pos hp]
    rfl
theorem PvS.no {H0 H' : Hp} {D : Addr} {l : List Str} {p : Str → Bool} {i : Nat} {x : Str} (h : PvS H0 D l p i H') (hx : l[i]? = some x) (hp : p x = false) : PvS H0 D l p (i + 1) H' := by
  refine ⟨h.same, ?_⟩
  rw [h.at_, takeB hx, List.filter_append, List.filter_cons, if_neg (by rw [hp]; exact Bool.false_ne_true), List.filter_nil, List.append_nil]
theorem PvS.grow {H0 H' H1 : Hp} {D : Addr} {l : List Str} {p : Str → Bool} {i : Nat} (h : PvS H0 D l p i H') (s : Same H' H1) : PvS H0 D l p i H1 := ⟨h.same.trans s, s _ _ h.at_⟩
theorem PvS.all {H0 H' : Hp} {D : Addr} {l : List Str} {p : Str → Bool} (h : PvS H0 D l p l.length H') : Same H0 H' ∧ H' D = some (.lst ((l.filter p).map V.str)) := by
  have := h.at_
  rw [List.take_length] at this
  exact ⟨h.same, this⟩
theorem PvS.len {l : List Str} {p : Str → Bool} {i : Nat} (h : l.length < 900) : (((l.take i).filter p).map V.str).length < sizeLine := by
  rw [List.length_map]
  have h1 := List.length_filter_le p (l.take i)
  have h2 : (l.take i).length ≤ l.length := by rw [List.length_take]; exact Nat.min_le_right _ _
  exact small1000 (by omega)
/-- a book -/
structure BookAt (C : Addr) (H : Hp) (a : Addr) (B : List Str) : Prop where
  ob : ∃ dx tn, H a = some (.ins C dx [("names", .ref tn), ("number", .int (numB B))]) ∧ H tn = some (.tup (B.map V.str))
theorem BookAt.same {C : Addr} {H H' : Hp} {a : Addr} {B : List Str} (s : Same H H') (h : BookAt C H a B) : BookAt C H' a B := by
  obtain ⟨dx, tn, h1, h2⟩ := h.ob
  exact ⟨dx, tn, s _ _ h1, s _ _ h2⟩
theorem wts_f {B : List Str} {i : Nat} : (wts B i).length < 900 + i := by
  have := wts_len (B := B) (i := i)
  omega
/-- the numbers of the first i rules that B has -/
structure PvW (H0 : Hp) (D : Addr) (B : List Str) (i : Nat) (H' : Hp) : Prop where
  same : Same H0 H'
  at_ : H' D = some (.lst ((wts B i).map V.int))
section
variable {P : Program} {w : World} {K : PySem.W.Frag} {mg : Str → Option Value} {base : Heap}
def sp_RuleSet_init (K : PySem.W.Frag) (C CV : Addr) : Sp := fun vs H Q E => ∃ (p dx q : Addr) (ns : List Str), vs = [.ref p, .ref q] ∧ H p = some (.ins C dx []) ∧ SqS K H q ns ∧ ns.length < 900 ∧ (∀ r ∈ ns, r.length ≤ 1000) ∧
  ((∀ r ∈ ns, r ∈ Rs) → ∀ H' tn, KI H H' → H' p = some (.ins C dx [("names", .ref tn), ("number", .int (numB ns))]) → H' tn = some (.tup ((ord ns).map V.str)) → (∀ x o, x ≠ p → H x = some o → H' x = some o) → Q .non H') ∧
  ((∃ r ∈ ns, r ∉ Rs) → ∀ H', Same H H' → E (.ref CV) none H')
theorem ok_RuleSet_init (T : Tx K mg) : FnOk P w K mg base (L2N.CX P w) 1 T.f_RuleSet___init__ T.fd_RuleSet___init__ ["self", "names"] (sp_RuleSet_init K T.C_Book T.C_BadValue) := by
  refine T.F_RuleSet___init__.okN sc_RuleSet___init__ (fun vs H Q E h => ?_) (fun cdv A outer s H vs Q E hr h => ?_)
  · obtain ⟨_, _, _, _, rfl, _⟩ := h; rfl
  · obtain ⟨p, dx, q, ns, rfl, hp, hq, hlen, hsz, k, kE⟩ := h
    refine ⟨_, (pss_cons (ps_for (passes_of rfl) rfl (pi_seq (pv 1)) (pg_name (i := 2) sc_RuleSet___init__.nd rfl (.inl rfl))
        (pss_one (ps_if (pt_cmpR op_notIn_seq (pv 2) (pe_con (pv 0) rfl) rfl)
          (pss_one (L2N.ps_raise rfl (L2N.takes_of rfl rfl rfl rfl) (pmk_own1N PySem.F.excBase_ValueError T.xe_BadValue T.mg_BadValue T.ke_BadValue (raises_own T.be_BadValue T.te_BadValue) rfl (pe_joined (.cons pe_str (.cons (pe_fmt (pv 2)) .nil))))))
          pss_nil)))
      (PSs.nox (pss_cons (ps_fld (pv 0) (pe_callTy call_tuple_of rfl T.b_tuple (by decide +kernel) (pa_cons (pe_lc rfl (own := [("rule", 3)]) (g := gName 3) (tt := _) sc_RuleSet___init__.nd (pi_tup (pe_con (pv 0) rfl)) (blkOk_by (N := ["self", "names", "name", "rule", "k"]) (sc := defScope s_RuleSet___init__) (by decide +kernel)) (fun _ _ _ _ _ => pg_name (i := 3) sc_RuleSet___init__.nd rfl (Or.inl rfl)) (fun _ _ _ _ _ => pts_one (pt_cmpR (op_inK (K := K)) (pv 3) (pv 1) rfl)) (fun _ _ _ _ _ => (pv 3))) pa_nil)) rfl)
      (pss_one (ps_fld (pv 0) (pe_callB (cr_sum rfl) rfl T.b_sum (by decide +kernel) (pa_cons (pe_lc rfl (own := [("k", 4), ("rule", 3)]) (g := _) (tt := _) sc_RuleSet___init__.nd (pi_enumT (by rfl) T.b_enumerate (pa_cons (pe_con (pv 0) rfl) pa_nil)) (blkOk_by (N := ["self", "names", "name", "rule", "k"]) (sc := defScope s_RuleSet___init__) (by decide +kernel)) (fun _ _ _ _ _ => (pg_tupK (K := K) (n := 2) rfl (pgs_cons (pg_name (i := 4) sc_RuleSet___init__.nd rfl (.inl rfl)) (pgs_cons (pg_name (i := 3) sc_RuleSet___init__.nd rfl (.inl rfl)) pgs_nil)))) (fun _ _ _ _ _ => pts_one (pt_cmpR (op_inK (K := K)) (pv 3) (pv 1) rfl)) (fun _ _ _ _ _ => (pe_op op_shl pe_int (pv 4)))) pa_nil)) rfl))))), ?_⟩
    have hR : ∀ H, SqT K H T.tA_Book_RULES (Rs.map V.str) := T.tt_Book_RULES
    have hfs : ∀ x : Str, x.length ≤ 1000 → (Str.empty ++ "no rule: ").length ≤ sizeLine ∧ (Str.empty ++ "no rule: " ++ x).length ≤ sizeLine := fun x hx => by
      have e : (Str.empty ++ ("no rule: " : Str)).length = 9 := by decide
      have h1 : 2000 ≤ sizeLine := by decide
      rw [strLen_append (x := Str.empty ++ "no rule: ")]
      omega
    -- the names that are none
    refine ⟨_, rfl, q, rfl, ?_⟩
    refine for_seq hq (fun i σ H' => ∃ u2 : Option V, σ = [some (.ref p), some (.ref q), u2, none, none] ∧ H' = H ∧ ∀ r ∈ ns.take i, r ∈ Rs) ⟨_, rfl, rfl, fun r h => by simp at h⟩ (fun i σ H' _ ⟨_, _, e, _⟩ => by rw [e]; exact .refl) ?_ ?_
    · rintro i r σ H' hr ⟨u2, rfl, rfl, hin⟩
      refine ⟨_, rfl, _, rfl, p, _, _, _, _, _, rfl, hp, T.cl_Book, T.tc_Book_RULES, rfl, _, _, rfl, .inr (hR _), rfl, flat_str, _, rfl, ?_⟩
      by_cases z : r ∈ Rs
      · rw [if_pos rfl, inV_str, decide_eq_true z]
        refine iteF ⟨_, rfl, rfl, fun x hx => ?_⟩
        rw [takeB hr] at hx
        rcases List.mem_append.mp hx with y | y
        · exact hin x y
        · rw [List.mem_singleton.mp y]; exact z
      · rw [if_pos rfl, inV_str, decide_eq_false z]
        have hm := List.mem_of_getElem? hr
        obtain ⟨f1, f2⟩ := hfs r (hsz r hm)
        refine iteT ⟨_, rfl, f1, _, rfl, .inl ⟨_, rfl, ?_, _, rfl, f2, ?_⟩⟩
        · have := hsz r hm
          have h1 : 2000 ≤ sizeLine := by decide
          omega
        · exact kE ⟨r, hm, z⟩ _ (Same.refl _)
    rintro σ H' ⟨u2, rfl, rfl, hin⟩
    rw [List.take_length] at hin
    -- the names
    refine ⟨_, rfl, p, _, _, _, _, _, rfl, hp, T.cl_Book, T.tc_Book_RULES, rfl, _, rfl, ⟨_, hR _⟩, fun D hD => ?_⟩
    refine lc_tup (K := K) (a := T.tA_Book_RULES) (xs := Rs.map V.str) (PvS H' D Rs fun r => decide (r ∈ ns)) (PvS.start (Same.refl _) hD) (fun _ _ _ _ => hR _) ?_ ?_
    · rintro i x H1 hx hP
      obtain ⟨r, rfl, hr⟩ := str_at hx
      refine ⟨rfl, ?_⟩
      refine ⟨_, rfl, _, rfl, q, _, rfl, hq.same hP.same, rfl, flat_str, _, rfl, ?_⟩
      rw [if_neg Bool.false_ne_true, inV_str]
      by_cases z : r ∈ ns
      · rw [decide_eq_true z]
        exact iteT ⟨_, rfl, _, hP.at_, PvS.len (by decide), hP.yes hD hr (decide_eq_true z)⟩
      · rw [decide_eq_false z]
        exact iteF (hP.no hr (decide_eq_false z))
    intro H1 hP
    obtain ⟨s1, e1⟩ := PvS.all (l := Rs) hP
    refine ⟨D, _, rfl, .inl ⟨.of e1, fun tn htn => ?_⟩⟩
    have s2 := same_upd (o := .tup ((Rs.filter fun r => decide (r ∈ ns)).map V.str)) htn
    have e2 : upd H1 tn (.tup ((Rs.filter fun r => decide (r ∈ ns)).map V.str)) tn = some (.tup ((ord ns).map V.str)) := upd_same
    generalize upd H1 tn (.tup ((Rs.filter fun r => decide (r ∈ ns)).map V.str)) = H2 at s2 e2 ⊢
    have s02 := s1.trans s2
    have hp2 := s02 _ _ hp
    refine ⟨_, rfl, p, T.C_Book, dx, _, rfl, hp2, T.cl_Book, T.na_Book_names, (by show 0 < 1000; decide), ?_⟩
    have hnt : tn ≠ p := fun z => by rw [z, hp2] at e2; cases e2
    have k3 : KI H' (upd H2 p (.ins T.C_Book dx (putF "names" (.ref tn) []))) := (KI.of s02).fld hp2
    have e3 : upd H2 p (.ins T.C_Book dx (putF "names" (.ref tn) [])) p = some (.ins T.C_Book dx [("names", .ref tn)]) := upd_same
    have f3 : upd H2 p (.ins T.C_Book dx (putF "names" (.ref tn) [])) tn = some (.tup ((ord ns).map V.str)) := by rw [upd_ne hnt]; exact e2
    have o3 : ∀ x o, x ≠ p → H' x = some o → upd H2 p (.ins T.C_Book dx (putF "names" (.ref tn) [])) x = some o := fun x o hx ex => by rw [upd_ne hx]; exact s02 _ _ ex
    generalize upd H2 p (.ins T.C_Book dx (putF "names" (.ref tn) [])) = H3 at k3 e3 f3 o3 ⊢
    -- the number
    refine ⟨_, rfl, p, _, _, _, _, _, rfl, e3, T.cl_Book, T.tc_Book_RULES, rfl, _, _, rfl, hR _, fun D2 hD2 => ?_⟩
    refine lc_it (walk_enumT (K := K) (a := T.tA_Book_RULES) (xs := Rs.map V.str)) (PvW H3 D2 ns) ⟨same_upd hD2, upd_same⟩ (fun _ _ _ _ => hR _) ?_ ?_
    · rintro i x H4 H5 hi hP2 ⟨TT, y, z, rfl, hTT, rfl, hy, hz⟩
      cases hy
      obtain ⟨r, rfl, hr⟩ := str_at hz
      have h12 : i < 12 := hi
      have s45 := same_upd (o := .tup [.int (i : Nat), .str r]) hTT
      refine ⟨TT, _, rfl, .of upd_same, rfl, ?_⟩
      refine ⟨_, _, rfl, _, _, rfl, rfl, rfl, ?_⟩
      refine ⟨_, rfl, _, rfl, q, _, rfl, (hq.ki k3).same (hP2.same.trans s45), rfl, flat_str, _, rfl, ?_⟩
      rw [if_neg Bool.false_ne_true, inV_str]
      by_cases z : r ∈ ns
      · rw [decide_eq_true z]
        refine iteT ⟨_, rfl, _, _, rfl, rfl, ⟨by omega, by omega, by decide⟩, (wts ns i).map V.int, s45 _ _ hP2.at_, ?_, ?_, ?_⟩
        · rw [List.length_map]; exact small1000 (by have := wts_len (B := ns) (i := i); omega)
        · intro b o e
          rw [upd_ne (ne_of_none e hD2)]
          exact s45 _ _ (hP2.same _ _ e)
        · rw [upd_same, wts_s hr, if_pos z, List.map_append]
          show some (HO.lst (_ ++ [V.int (1 * 2 ^ (i : Int).toNat)])) = _
          rw [Int.one_mul, Int.toNat_natCast]
          rfl
      · rw [decide_eq_false z]
        refine iteF ⟨fun b o e => s45 _ _ (hP2.same _ _ e), ?_⟩
        rw [wts_s hr, if_neg z, List.append_nil]
        exact s45 _ _ hP2.at_
    intro H4 hP2
    refine ⟨D2, _, rfl, .of hP2.at_, ?_⟩
    have e4 := hP2.same _ _ e3
    refine ⟨_, rfl, p, T.C_Book, dx, _, rfl, e4, T.cl_Book, T.na_Book_number, (by show 1 < 1000; decide), ?_⟩
    refine k hin _ tn (((k3.same hP2.same)).fld e4) upd_same ?_ fun x o hx ex => by rw [upd_ne hx]; exact hP2.same _ _ (o3 x o hx ex)
    rw [upd_ne hnt]
    exact hP2.same _ _ f3
/-! ### in, iter, text -/
def sp_contains (C : Addr) : Sp := fun vs H Q _ => ∃ (a : Addr) (B : List Str) (x : Str), vs = [.ref a, .str x] ∧ BookAt C H a B ∧ Q (.bl (decide (x ∈ B))) H
theorem ok_contains (T : Tx K mg) : FnOk P w K mg base CX0 1 T.f_RuleSet___contains__ T.fd_RuleSet___contains__ ["self", "name"] (sp_contains T.C_Book) := by
  refine T.F_RuleSet___contains__.ok sc_RuleSet___contains__ (fun vs H Q E h => ?_) (fun cdv A outer s H vs Q E hr h => ?_)
  · obtain ⟨_, _, _, rfl, _⟩ := h; rfl
  · obtain ⟨a, B, x, rfl, ⟨dx, tn, e1, e2⟩, k⟩ := h
    refine ⟨_, (pss_one (ps_ret (pe_cmpR op_in_seq (pv 1) (pe_fld (pv 0) rfl) rfl))), ?_⟩
    refine ⟨_, rfl, _, rfl, a, _, _, _, _, rfl, e1, T.cl_Book, T.na_Book_names, rfl, tn, _, rfl, .inr (.of e2), rfl, flat_str, ?_⟩
    rw [if_neg Bool.false_ne_true, inV_str]
    exact k
def sp_iter (C : Addr) : Nat → Sp := fun n vs H Q _ => ∃ (a : Addr) (B : List Str), vs = [.ref a] ∧ BookAt C H a B ∧ ∀ it tn, H it = none → n ≤ it → H tn = some (.tup (B.map V.str)) → Q (.ref it) (upd H it (ItTO tn it))
theorem ok_iter (T : Tx K mg) : FnS P w K mg base 1 T.f_RuleSet___iter__ T.fd_RuleSet___iter__ ["self"] (sp_iter T.C_Book) := by
  refine T.F_RuleSet___iter__.okS sc_RuleSet___iter__ (fun n vs H Q E h => ?_) (fun cdv A outer s H vs Q hr h => ?_)
  · obtain ⟨_, _, rfl, _⟩ := h; rfl
  · obtain ⟨a, B, rfl, ⟨dx, tn, e1, e2⟩, k⟩ := h
    refine ⟨_, (pss_one (ps_ret (pe_callB call_iterT rfl T.b_iter (by decide +kernel) (pa_cons (pe_fld (pv 0) rfl) pa_nil)))), ?_⟩
    exact ⟨_, rfl, a, _, _, _, _, rfl, e1, T.cl_Book, T.na_Book_names, rfl, tn, _, rfl, .of e2, fun it hn hle => k it tn hn hle e2⟩
theorem join_size {B : List Str} (h : B.length ≤ 900) (hs : ∀ r ∈ B, r.length ≤ 1000) : (B.map (·.length)).sum + B.length * (" " : Str).length ≤ 16777216 := by
  have e : (" " : Str).length = 1 := by decide
  have : ∀ {B : List Str}, (∀ r ∈ B, r.length ≤ 1000) → (B.map (·.length)).sum ≤ B.length * 1000 := by
    intro B hs
    induction B with
    | nil => exact Nat.le_refl _
    | cons a t ih =>
      have h1 := hs a List.mem_cons_self
      have h2 := ih fun r hr => hs r (List.mem_cons_of_mem _ hr)
      rw [List.map_cons, List.sum_cons, List.length_cons]
      omega
  have := this hs
  rw [e]
  omega
theorem Rs_size : ∀ r ∈ Rs, r.length ≤ 10 := by decide +kernel
def sp_text (C : Addr) : Sp := fun vs H Q _ => ∃ (a : Addr) (B : List Str), vs = [.ref a] ∧ BookAt C H a B ∧ B.Sublist Rs ∧ Q (.str (txB B)) H
theorem ok_text (T : Tx K mg) : FnOk P w K mg base CX0 1 T.f_RuleSet_text T.fd_RuleSet_text ["self"] (sp_text T.C_Book) := by
  refine T.F_RuleSet_text.ok sc_RuleSet_text (fun vs H Q E h => ?_) (fun cdv A outer s H vs Q E hr h => ?_)
  · obtain ⟨_, _, rfl, _⟩ := h; rfl
  · obtain ⟨a, B, rfl, ⟨dx, tn, e1, e2⟩, hB, k⟩ := h
    refine ⟨_, (pss_one (ps_ret (pe_ifExp (pt_truth (pe_fld (pv 0) rfl) (fun _ => rfl)) (pe_join pe_str (pe_fld (pv 0) rfl)) pe_str))), ?_⟩
    refine ⟨_, rfl, a, _, _, _, _, rfl, e1, T.cl_Book, T.na_Book_names, rfl, !(B.map V.str).isEmpty, .inr (.inl ⟨_, .of e2, rfl⟩), ?_⟩
    have hl := hB.length_le
    by_cases z : B = []
    · subst z
      exact iteF (by unfold txB at k; rw [if_pos rfl] at k; exact k)
    · have e : (!(B.map V.str).isEmpty) = true := by cases B with | nil => exact absurd rfl z | cons _ _ => rfl
      rw [e]
      refine iteT ⟨⟨_, rfl⟩, _, rfl, a, _, _, _, _, rfl, e1, T.cl_Book, T.na_Book_names, rfl, _, tn, B, rfl, rfl, .inr (.of e2), join_size (by rw [Rs_len] at hl; omega) (fun r hr => by have := Rs_size r (hB.subset hr); omega), ?_⟩
      unfold txB at k
      rw [if_neg z] at k
      exact k
end
end K87
namespace K87
open PySem PySem.Spec PyProof.Rows L2 Rg
/-! ### lists of texts compared -/
def dT (l : List Str) : PyData := .list (l.map PyData.str)
theorem dpAllT {K : PySem.W.Frag} {H : Hp} : ∀ ns : List Str, DpAll K H (ns.map V.str) (ns.map PyData.str)
  | [] => .nil
  | n :: ns => .cons (.str n) (dpAllT ns)
theorem dpT {K : PySem.W.Frag} {H : Hp} {a : Addr} {ns : List Str} (h : H a = some (.lst (ns.map V.str))) : Dp K H (.ref a) (dT ns) := .lst (.of h) (dpAllT ns)
def okS (x : Str) : Bool := PyData.canLay0 (.str x)
theorem canT : ∀ ns : List Str, (∀ x ∈ ns, okS x = true) → PyData.canLayAll0 (ns.map PyData.str) = true
  | [], _ => rfl
  | n :: ns, h => by
    show (PyData.canLay0 (.str n) && PyData.canLayAll0 (ns.map PyData.str)) = true
    rw [canT ns fun x hx => h x (List.mem_cons_of_mem _ hx), show PyData.canLay0 (.str n) = true from h n List.mem_cons_self]
    rfl
theorem depT : ∀ ns : List Str, PyData.depthAll (ns.map PyData.str) = 0
  | [] => rfl
  | n :: ns => by
    show max (PyData.depth (.str n)) (PyData.depthAll (ns.map PyData.str)) = 0
    rw [depT ns]
    rfl
theorem shT (ns : List Str) (h : ∀ x ∈ ns, okS x = true) : SeqAt.shaped (dT ns) = true := by
  unfold SeqAt.shaped dT
  rw [Bool.and_eq_true]
  refine ⟨canT ns h, decide_eq_true ?_⟩
  show PyData.depthAll (ns.map PyData.str) + 1 ≤ 64
  rw [depT ns]
  decide
theorem eqvAllT : ∀ a b : List Str, PyData.eqvAll (a.map PyData.str) (b.map PyData.str) = decide (a = b)
  | [], [] => by simp [PyData.eqvAll]
  | [], _ :: _ => by simp [PyData.eqvAll]
  | _ :: _, [] => by simp [PyData.eqvAll]
  | x :: a, y :: b => by
    simp only [List.map_cons, PyData.eqvAll]
    rw [eqvAllT a b]
    by_cases h : x = y
    · subst h; simp [PyData.eqv]
    · simp [PyData.eqv, h]
theorem eqvT (a b : List Str) : PyData.eqv (dT a) (dT b) = decide (a = b) := by
  unfold dT
  simp only [PyData.eqv]
  exact eqvAllT a b
theorem Rs_ok : ∀ x ∈ Rs, okS x = true := by decide +kernel
theorem sub_ok {B : List Str} (h : B.Sublist Rs) : ∀ x ∈ B, okS x = true := fun x hx => Rs_ok x (h.subset hx)
theorem ixN_nat {n : Nat} {z : Int} {i : Nat} (e : z = i) (h : i < n) : ixN n z = some i := by
  subst e
  unfold ixN
  rw [if_pos (by omega), if_pos (by omega)]
  rfl
end K87
namespace K87
open PySem PySem.Spec PyProof.Rows L2 Rg
theorem book_made {K : PySem.W.Frag} {C CV : Addr} {H : Hp} {Q : VK} {E : XK} {q : Addr} {ns : List Str} (hq : SqS K H q ns) (hl : ns.length < 900) (hs : ∀ r ∈ ns, r.length ≤ 1000)
    (k : (∀ r ∈ ns, r ∈ Rs) → ∀ H' x, Same H H' → H x = none → BookAt C H' x (ord ns) → Q (.ref x) H') (kE : (∃ r ∈ ns, r ∉ Rs) → ∀ H', Same H H' → E (.ref CV) none H') :
    ∀ x dx, H x = none → H dx = none → dx ≠ x → sp_RuleSet_init K C CV [.ref x, .ref q] (upd (upd H dx (.own x)) x (.ins C dx [])) (fun v H2 => v = .non ∧ Q (.ref x) H2) E := fun x dx nx nd ne => by
  have s1 : Same H (upd H dx (.own x)) := same_upd nd
  have nx1 : upd H dx (.own x) x = none := by rw [upd_ne ne.symm]; exact nx
  have s2 : Same H (upd (upd H dx (.own x)) x (.ins C dx [])) := s1.trans (same_upd nx1)
  have e2 : upd (upd H dx (.own x)) x (.ins C dx []) x = some (.ins C dx []) := upd_same
  generalize upd (upd H dx (.own x)) x (.ins C dx []) = H2 at s2 e2 ⊢
  refine ⟨x, dx, q, ns, rfl, e2, hq.same s2, hl, hs, fun hin H' tn ki e1 e3 ho => ⟨rfl, k hin H' x (fun b o e => ho b o (ne_of_none e nx) (s2 _ _ e)) nx ⟨dx, tn, by rw [numB_ord]; exact e1, e3⟩⟩, fun hb H' sm => kE hb H' (s2.trans sm)⟩
theorem book_madeR {K : PySem.W.Frag} {C CV : Addr} {H : Hp} {R : Addr → Hp → Prop} {E : XK} {q : Addr} {ns : List Str} (hq : SqS K H q ns) (hl : ns.length < 900) (hs : ∀ r ∈ ns, r.length ≤ 1000)
    (k : (∀ r ∈ ns, r ∈ Rs) → ∀ H' x, Same H H' → H x = none → BookAt C H' x (ord ns) → R x H') (kE : (∃ r ∈ ns, r ∉ Rs) → ∀ H', Same H H' → E (.ref CV) none H') :
    ∀ x dx, H x = none → H dx = none → dx ≠ x → sp_RuleSet_init K C CV [.ref x, .ref q] (upd (upd H dx (.own x)) x (.ins C dx [])) (fun v H2 => v = .non ∧ R x H2) E := fun x dx nx nd ne => by
  have s1 : Same H (upd H dx (.own x)) := same_upd nd
  have nx1 : upd H dx (.own x) x = none := by rw [upd_ne ne.symm]; exact nx
  have s2 : Same H (upd (upd H dx (.own x)) x (.ins C dx [])) := s1.trans (same_upd nx1)
  have e2 : upd (upd H dx (.own x)) x (.ins C dx []) x = some (.ins C dx []) := upd_same
  generalize upd (upd H dx (.own x)) x (.ins C dx []) = H2 at s2 e2 ⊢
  refine ⟨x, dx, q, ns, rfl, e2, hq.same s2, hl, hs, fun hin H' tn ki e1 e3 ho => ⟨rfl, k hin H' x (fun b o e => ho b o (ne_of_none e nx) (s2 _ _ e)) nx ⟨dx, tn, by rw [numB_ord]; exact e1, e3⟩⟩, fun hb H' sm => kE hb H' (s2.trans sm)⟩
section
variable {P : Program} {w : World} {K : PySem.W.Frag} {mg : Str → Option Value} {base : Heap}
/-- the parts of a text -/
def partsT (t : Str) : List Str := if t = "none" then [] else Txt.split t " "
def sp_written (K : PySem.W.Frag) (CT : Addr) : Sp := fun vs H Q E => ∃ (t : Str) (q : Addr), vs = [.str t, .ref q] ∧ (∀ H, SqT K H q (Rs.map V.str)) ∧ t.length ≤ 5000 ∧ (partsT t).length < 900 ∧ (∀ x ∈ partsT t, okS x = true) ∧
  (ord (partsT t) = partsT t → ∀ H' p, Same H H' → H p = none → H' p = some (.lst ((partsT t).map V.str)) → Q (.ref p) H') ∧ (ord (partsT t) ≠ partsT t → ∀ H', Same H H' → E (.ref CT) none H')
theorem ok_written (T : Tx K mg) : FnOk P w K mg base (L2N.CX P w) 1 T.f_written_names T.fd_written_names ["text", "rules"] (sp_written K T.C_BadText) := by
  refine T.F_written_names.okN sc_written_names (fun vs H Q E h => ?_) (fun cdv A outer s H vs Q E hr h => ?_)
  · obtain ⟨_, _, rfl, _⟩ := h; rfl
  · obtain ⟨t, q, rfl, hq, ht, hl, hok, k, kE⟩ := h
    refine ⟨_, (Evl.pss_cut (ps_set (i := 2) sc_written_names.nd rfl (.inr rfl) (pe_ifExp (pt_cmpR op_eq (pv 0) pe_str (nomark _)) (pe_lst pa_nil) (pe_split (pv 0) pe_str)))
      (pss_cons (ps_if (pt_cmpR (op_neD hr.units) (pv 2) (pe_lc rfl (own := [("rule", 3)]) (g := gName 3) (tt := _) sc_written_names.nd (pi_tup (pv 1)) (blkOk_by (N := ["text", "rules", "names", "rule"]) (sc := defScope s_written_names) (by decide +kernel)) (fun _ _ _ _ _ => pg_name (i := 3) sc_written_names.nd rfl (Or.inl rfl)) (fun _ _ _ _ _ => pts_one (pt_cmpR (op_inK (K := K)) (pv 3) (pv 2) rfl)) (fun _ _ _ _ _ => (pv 3))) (nomark _))
        (pss_one (L2N.ps_raise rfl (L2N.takes_of rfl rfl rfl rfl) (pmk_own1N PySem.F.excBase_ValueError T.xe_BadText T.mg_BadText T.ke_BadText (raises_own T.be_BadText T.te_BadText) rfl (pe_joined (.cons pe_str (.cons (pe_fmt (pv 0)) .nil))))))
        pss_nil)
      (PSs.nox (pss_one (ps_ret (pv 2)))))), ?_⟩
    refine ⟨fun σ H1 => ∃ p, σ = [some (.str t), some (.ref q), some (.ref p), none] ∧ Same H H1 ∧ H p = none ∧ H1 p = some (.lst ((partsT t).map V.str)), ?_, ?_⟩
    · refine ⟨_, rfl, rfl, _, rfl, ?_⟩
      by_cases z : t = "none"
      · have e : partsT t = [] := if_pos z
        rw [decide_eq_true (by rw [z])]
        refine iteT ⟨Nat.zero_le _, fun p np => ⟨p, rfl, same_upd np, np, ?_⟩⟩
        rw [upd_same, e]
        rfl
      · have e : partsT t = Txt.split t " " := if_neg z
        rw [decide_eq_false (fun q => z (V.str.inj q))]
        refine iteF ⟨_, rfl, ⟨_, rfl⟩, t, " ", rfl, rfl, by decide, ?_, fun p np => ⟨p, rfl, same_upd np, np, by rw [upd_same, e]⟩⟩
        have : 6000 ≤ sizeLine := by decide
        omega
    rintro σ H1 ⟨p, rfl, s1, np, e1⟩
    refine ⟨_, rfl, _, rfl, q, rfl, ⟨_, hq _⟩, fun D hD => ?_⟩
    refine lc_tup (K := K) (a := q) (xs := Rs.map V.str) (PvS H1 D Rs fun r => decide (r ∈ partsT t)) (PvS.start (Same.refl _) hD) (fun _ _ _ _ => hq _) ?_ ?_
    · rintro i x H2 hx hP
      obtain ⟨r, rfl, hr⟩ := str_at hx
      refine ⟨rfl, ?_⟩
      refine ⟨_, rfl, _, rfl, p, _, rfl, .inl (.of (hP.same _ _ e1)), rfl, flat_str, _, rfl, ?_⟩
      rw [if_neg Bool.false_ne_true, inV_str]
      by_cases z : r ∈ partsT t
      · rw [decide_eq_true z]
        exact iteT ⟨_, rfl, _, hP.at_, PvS.len (by decide), hP.yes hD hr (decide_eq_true z)⟩
      · rw [decide_eq_false z]
        exact iteF (hP.no hr (decide_eq_false z))
    intro H2 hP
    obtain ⟨s2, e2⟩ := PvS.all (l := Rs) hP
    have e2 : H2 D = some (.lst ((ord (partsT t)).map V.str)) := e2
    refine ⟨_, _, dpT (s2 _ _ e1), dpT e2, shT _ hok, shT _ (sub_ok ord_subl), _, rfl, ?_⟩
    rw [eqvT]
    by_cases z : partsT t = ord (partsT t)
    · rw [decide_eq_true z]
      exact iteF ⟨_, rfl, k z.symm H2 p (s1.trans s2) np (s2 _ _ e1)⟩
    · rw [decide_eq_false z]
      have e : (Str.empty ++ ("not a set of rules: " : Str)).length = 20 := by decide
      have h1 : 6000 ≤ sizeLine := by decide
      refine iteT ⟨_, rfl, by omega, _, rfl, .inl ⟨_, rfl, by omega, _, rfl, ?_, kE (fun q => z q.symm) H2 (s1.trans s2)⟩⟩
      rw [strLen_append]
      omega
def sp_numbered (K : PySem.W.Frag) (CV : Addr) : Sp := fun vs H Q E => ∃ (n : Int) (q : Addr), vs = [.int n, .ref q] ∧ (∀ H, SqT K H q (Rs.map V.str)) ∧
  (∀ m : Nat, n = m → m < 4096 → ∀ H' p, Same H H' → H p = none → H' p = some (.lst ((nm Rs m).map V.str)) → Q (.ref p) H') ∧ (n < 0 ∨ 4096 ≤ n → ∀ H', Same H H' → E (.ref CV) none H')
/-- the names of the first i numbers -/
structure PvN (H0 : Hp) (D : Addr) (m i : Nat) (H' : Hp) : Prop where
  same : Same H0 H'
  at_ : H' D = some (.lst ((nm (Rs.take i) m).map V.str))
theorem ok_numbered (T : Tx K mg) : FnOk P w K mg base (L2N.CX P w) 1 T.f_numbered_names T.fd_numbered_names ["number", "rules"] (sp_numbered K T.C_BadValue) := by
  refine T.F_numbered_names.okN sc_numbered_names (fun vs H Q E h => ?_) (fun cdv A outer s H vs Q E hr h => ?_)
  · obtain ⟨_, _, rfl, _⟩ := h; rfl
  · obtain ⟨n, q, rfl, hq, k, kE⟩ := h
    refine ⟨_, (pss_cons (ps_if (pt_not (pt_chain op_le op_lt pe_int (pv 0) (pe_op op_shl pe_int (pe_callB call_len_seq rfl T.b_len (by decide +kernel) (pa_cons (pv 1) pa_nil)))))
        (pss_one (L2N.ps_raise rfl (L2N.takes_of rfl rfl rfl rfl) (L2N.pmk_own PySem.F.excBase_ValueError T.xe_BadValue T.mg_BadValue T.ke_BadValue (raises_own T.be_BadValue T.te_BadValue) rfl)))
        pss_nil)
      (PSs.nox (pss_one (ps_ret (pe_lc rfl (own := [("k", 2), ("rule", 3)]) (g := _) (tt := _) sc_numbered_names.nd (pi_enumT (by rfl) T.b_enumerate (pa_cons (pv 1) pa_nil)) (blkOk_by (N := ["number", "rules", "k", "rule"]) (sc := defScope s_numbered_names) (by decide +kernel)) (fun _ _ _ _ _ => (pg_tupK (K := K) (n := 2) rfl (pgs_cons (pg_name (i := 2) sc_numbered_names.nd rfl (.inl rfl)) (pgs_cons (pg_name (i := 3) sc_numbered_names.nd rfl (.inl rfl)) pgs_nil)))) (fun _ _ _ _ _ => pts_one (pt_truthK (K := K) (pe_op op_and (pe_op op_shr (pv 0) (pv 2)) pe_int) (fun _ => rfl))) (fun _ _ _ _ _ => (pv 3))))))), ?_⟩
    refine ⟨_, rfl, _, _, rfl, rfl, _, rfl, ?_⟩
    by_cases h0 : 0 ≤ n
    rotate_left
    · rw [decide_eq_false h0]
      exact iteF ⟨_, rfl, iteT (kE (.inl (by omega)) _ (Same.refl _))⟩
    rw [decide_eq_true h0]
    refine iteT ⟨_, rfl, q, _, rfl, .inr (hq _), _, _, rfl, rfl, ⟨by rw [List.length_map, Rs_len]; decide, by rw [List.length_map, Rs_len]; decide, by decide⟩, _, _, rfl, rfl, _, rfl, ?_⟩
    rw [List.length_map, Rs_len]
    have e12 : (1 : Int) * 2 ^ ((12 : Nat) : Int).toNat = 4096 := by decide
    rw [e12]
    by_cases h1 : n < 4096
    rotate_left
    · rw [decide_eq_false h1]
      exact iteT (kE (.inr (by omega)) _ (Same.refl _))
    rw [decide_eq_true h1]
    obtain ⟨m, rfl⟩ : ∃ m : Nat, n = m := ⟨n.toNat, by omega⟩
    refine iteF ⟨_, rfl, q, _, rfl, hq _, fun D hD => ?_⟩
    refine lc_it (walk_enumT (K := K) (a := q) (xs := Rs.map V.str)) (PvN H D m) ⟨same_upd hD, upd_same⟩ (fun _ _ _ _ => hq _) ?_ ?_
    · rintro i x H4 H5 hi hP2 ⟨TT, y, z, rfl, hTT, rfl, hy, hz⟩
      cases hy
      obtain ⟨r, rfl, hr⟩ := str_at hz
      have h12 : i < 12 := hi
      have s45 := same_upd (o := .tup [.int (i : Nat), .str r]) hTT
      refine ⟨TT, _, rfl, .of upd_same, rfl, ?_⟩
      refine ⟨_, _, rfl, _, _, rfl, rfl, rfl, ?_⟩
      refine ⟨_, rfl, _, rfl, _, _, rfl, rfl, by omega, _, _, rfl, rfl, _, rfl, ?_⟩
      have eb : Builtin.bitAnd ((m : Int) / 2 ^ ((i : Int)).toNat) 1 = ((m / 2 ^ i % 2 : Nat) : Int) := by
        have h := Bits.bitAnd_mask (x := (m : Int) / 2 ^ ((i : Int)).toNat) 1 (Int.ediv_nonneg (by omega) (by rw [Int.toNat_natCast]; exact Int.le_of_lt (Int.pow_pos (by decide))))
        rw [show (2 : Int) ^ 1 - 1 = 1 from rfl, show (2 : Int) ^ 1 = 2 from rfl] at h
        rw [h, Int.toNat_natCast]
        simp
      rw [eb]
      by_cases z : m / 2 ^ i % 2 = 1
      · rw [z]
        refine iteT ⟨_, rfl, (nm (Rs.take i) m).map V.str, s45 _ _ hP2.at_, ?_, ?_, ?_⟩
        · rw [List.length_map]
          have h1 := nm_len (l := Rs.take i) (n := m)
          have h2 : (Rs.take i).length ≤ 12 := by rw [List.length_take, Rs_len]; exact Nat.min_le_right _ _
          exact small1000 (by omega)
        · intro b o e
          rw [upd_ne (ne_of_none e hD)]
          exact s45 _ _ (hP2.same _ _ e)
        · rw [upd_same, nm_take_s hr, if_pos z, List.map_append]
          rfl
      · have z0 : m / 2 ^ i % 2 = 0 := by omega
        rw [z0]
        refine iteF ⟨fun b o e => s45 _ _ (hP2.same _ _ e), ?_⟩
        rw [nm_take_s hr, if_neg z, List.append_nil]
        exact s45 _ _ hP2.at_
    intro H4 hP2
    exact k m rfl (by omega) H4 D hP2.same hD hP2.at_
def sp_read (CB CT : Addr) : Sp := fun vs H Q E => ∃ (t : Str), vs = [.str t] ∧ t.length ≤ 5000 ∧ (partsT t).length < 900 ∧ (∀ x ∈ partsT t, okS x = true) ∧
  (ord (partsT t) = partsT t → ∀ H' x, Same H H' → H x = none → BookAt CB H' x (partsT t) → Q (.ref x) H') ∧ (ord (partsT t) ≠ partsT t → ∀ H', Same H H' → E (.ref CT) none H')
theorem ok_read (T : Tx K mg) : FnOk P w K mg base (L2N.CX P w) 3 T.f_Book_read T.fd_Book_read ["text"] (sp_read T.C_Book T.C_BadText) := by
  refine T.F_Book_read.okN sc_Book_read (fun vs H Q E h => ?_) (fun cdv A outer s H vs Q E hr h => ?_)
  · obtain ⟨_, rfl, _⟩ := h; rfl
  · obtain ⟨t, rfl, ht, hl, hok, k, kE⟩ := h
    have hr1 : Room 1 _ := hr.mono (by decide)
    refine ⟨_, (pss_one (ps_ret (pe_makeS T.mk_Book (ok_RuleSet_init T) hr rfl T.mg_Book (b_RuleSet___init__ T) (fun σ => L2N.passAt (L2N.takes_of rfl rfl rfl rfl) σ) (pa_cons (pe_callS (ok_written T) hr1 rfl T.mg_written_names T.F_written_names.kp (b_written_names T) (fun σ => L2N.passAt (L2N.takes_of rfl rfl rfl rfl) σ) (pa_cons (pv 0) (pa_cons (pe_cv T.mg_Book T.cr_Book ⟨_, T.tv_Book_RULES⟩) pa_nil))) pa_nil)))), ?_⟩
    refine ⟨_, rfl, t, T.tA_Book_RULES, rfl, T.tt_Book_RULES, ht, hl, hok, fun he H' p s1 np e1 => ?_, fun he H' s1 => kE he H' s1⟩
    have hin : ∀ r ∈ partsT t, r ∈ Rs := fun r hr => by rw [← he] at hr; exact (mem_ord.mp hr).1
    refine book_made (.inl (.of e1)) hl (fun r hr => by have := Rs_size r (hin r hr); omega) (fun _ H2 x s2 nx B => ?_) (fun ⟨r, hr, hn⟩ => absurd (hin r hr) hn)
    rw [he] at B
    exact k he H2 x (s1.trans s2) (s1.free nx) B
def sp_of_number (CB CV : Addr) : Sp := fun vs H Q E => ∃ (n : Int), vs = [.int n] ∧ (∀ m : Nat, n = m → m < 4096 → ∀ H' x, Same H H' → H x = none → BookAt CB H' x (nm Rs m) → Q (.ref x) H') ∧ (n < 0 ∨ 4096 ≤ n → ∀ H', Same H H' → E (.ref CV) none H')
theorem ok_of_number (T : Tx K mg) : FnOk P w K mg base (L2N.CX P w) 3 T.f_Book_of_number T.fd_Book_of_number ["number"] (sp_of_number T.C_Book T.C_BadValue) := by
  refine T.F_Book_of_number.okN sc_Book_of_number (fun vs H Q E h => ?_) (fun cdv A outer s H vs Q E hr h => ?_)
  · obtain ⟨_, rfl, _⟩ := h; rfl
  · obtain ⟨n, rfl, k, kE⟩ := h
    have hr1 : Room 1 _ := hr.mono (by decide)
    refine ⟨_, (pss_one (ps_ret (pe_makeS T.mk_Book (ok_RuleSet_init T) hr rfl T.mg_Book (b_RuleSet___init__ T) (fun σ => L2N.passAt (L2N.takes_of rfl rfl rfl rfl) σ) (pa_cons (pe_callS (ok_numbered T) hr1 rfl T.mg_numbered_names T.F_numbered_names.kp (b_numbered_names T) (fun σ => L2N.passAt (L2N.takes_of rfl rfl rfl rfl) σ) (pa_cons (pv 0) (pa_cons (pe_cv T.mg_Book T.cr_Book ⟨_, T.tv_Book_RULES⟩) pa_nil))) pa_nil)))), ?_⟩
    refine ⟨_, rfl, n, T.tA_Book_RULES, rfl, T.tt_Book_RULES, fun m em hm H' p s1 np e1 => ?_, fun he H' s1 => kE he H' s1⟩
    have hs : (nm Rs m).Sublist Rs := nm_sub
    refine book_made (.inl (.of e1)) (by have := hs.length_le; rw [Rs_len] at this; omega) (fun r hr => by have := Rs_size r (hs.subset hr); omega) (fun _ H2 x s2 nx B => ?_) (fun ⟨r, hr, hn⟩ => absurd (hs.subset hr) hn)
    rw [ord_sub hs] at B
    exact k m em hm H2 x (s1.trans s2) (s1.free nx) B
def sp_full (CB : Addr) : Sp := fun vs H Q _ => vs = [] ∧ ∀ H' x, Same H H' → H x = none → BookAt CB H' x Rs → Q (.ref x) H'
theorem ok_full (T : Tx K mg) : FnOk P w K mg base (L2N.CX P w) 3 T.f_Book_full T.fd_Book_full [] (sp_full T.C_Book) := by
  refine T.F_Book_full.okN sc_Book_full (fun vs H Q E h => ?_) (fun cdv A outer s H vs Q E hr h => ?_)
  · obtain ⟨rfl, _⟩ := h; rfl
  · obtain ⟨rfl, k⟩ := h
    refine ⟨_, (pss_one (ps_ret (pe_makeS T.mk_Book (ok_RuleSet_init T) hr rfl T.mg_Book (b_RuleSet___init__ T) (fun σ => L2N.passAt (L2N.takes_of rfl rfl rfl rfl) σ) (pa_cons (pe_cv T.mg_Book T.cr_Book ⟨_, T.tv_Book_RULES⟩) pa_nil)))), ?_⟩
    refine book_made (.inr (T.tt_Book_RULES _)) (by rw [show (List.length _) = 12 from Rs_len]; decide) (fun r hr => by have := Rs_size r hr; omega) (fun _ H2 x s2 nx B => ?_) (fun ⟨r, hr, hn⟩ => absurd hr hn)
    rw [ord_sub (List.Sublist.refl _)] at B
    exact k H2 x s2 nx B
theorem passL0 {X : Cx} (σ : L2.St) : PassesAt (L2N.CX X.prog X.w) X σ E0 := fun pins H s e s' I c => passLN pins σ H s e s' I c
def sp_or (CB : Addr) : Sp := fun vs H Q _ => ∃ (a b : Addr) (B D : List Str), vs = [.ref a, .ref b] ∧ BookAt CB H a B ∧ BookAt CB H b D ∧ ∀ H' x, Same H H' → H x = none → BookAt CB H' x (ord (B ++ D)) → Q (.ref x) H'
theorem ok_or (T : Tx K mg) : FnOk P w K mg base CX0 3 T.f_Book___or__ T.fd_Book___or__ ["self", "other"] (sp_or T.C_Book) := by
  refine T.F_Book___or__.ok sc_Book___or__ (fun vs H Q E h => ?_) (fun cdv A outer s H vs Q E hr h => ?_)
  · obtain ⟨_, _, _, _, rfl, _⟩ := h; rfl
  · obtain ⟨a, b, B, D, rfl, ⟨dx, tn, e1, e2⟩, ⟨dy, tm, g1, g2⟩, k⟩ := h
    refine ⟨_, (pss_one (ps_ret (pe_makeS T.mk_Book (ok_RuleSet_init T) hr rfl T.mg_Book (b_RuleSet___init__ T) passL0 (pa_cons (pe_lc rfl (own := [("rule", 2)]) (g := gName 2) (tt := _) sc_Book___or__.nd (pi_tup (pe_con (pv 0) rfl)) (blkOk_by (N := ["self", "other", "rule"]) (sc := defScope s_Book___or__) (by decide +kernel)) (fun _ _ _ _ _ => pg_name (i := 2) sc_Book___or__.nd rfl (Or.inl rfl)) (fun _ _ _ _ _ => pts_one (PW.pt (pw_or (pt_cmpR (op_inK (K := K)) (pv 2) (pe_fldK (K := K) (pv 0) rfl) rfl) (pw_or1 (pt_cmpR (op_inK (K := K)) (pv 2) (pe_fldK (K := K) (pv 1) rfl) rfl))))) (fun _ _ _ _ _ => (pv 2))) pa_nil)))), ?_⟩
    refine ⟨_, rfl, a, _, _, _, _, _, rfl, e1, T.cl_Book, T.tc_Book_RULES, rfl, _, rfl, ⟨_, T.tt_Book_RULES _⟩, fun G hG => ?_⟩
    refine lc_tup (K := K) (a := T.tA_Book_RULES) (xs := Rs.map V.str) (PvS H G Rs fun r => decide (r ∈ B ++ D)) (PvS.start (Same.refl _) hG) (fun _ _ _ _ => T.tt_Book_RULES _) ?_ ?_
    · rintro i x H1 hx hP
      obtain ⟨r, rfl, hr⟩ := str_at hx
      have s1 := hP.same
      refine ⟨rfl, ?_⟩
      refine ⟨_, rfl, _, rfl, a, _, _, _, _, rfl, s1 _ _ e1, T.cl_Book, T.na_Book_names, rfl, tn, _, rfl, .inr (.of (s1 _ _ e2)), rfl, flat_str, _, rfl, ?_⟩
      rw [if_neg Bool.false_ne_true, inV_str]
      by_cases z : r ∈ B
      · rw [decide_eq_true z]
        exact iteT (iteT ⟨_, rfl, _, hP.at_, PvS.len (by decide), hP.yes hG hr (decide_eq_true (List.mem_append_left _ z))⟩)
      · rw [decide_eq_false z]
        refine iteF ⟨_, rfl, _, rfl, b, _, _, _, _, rfl, s1 _ _ g1, T.cl_Book, T.na_Book_names, rfl, tm, _, rfl, .inr (.of (s1 _ _ g2)), rfl, flat_str, _, rfl, ?_⟩
        rw [if_neg Bool.false_ne_true, inV_str]
        by_cases y : r ∈ D
        · rw [decide_eq_true y]
          exact iteT ⟨_, rfl, _, hP.at_, PvS.len (by decide), hP.yes hG hr (decide_eq_true (List.mem_append_right _ y))⟩
        · rw [decide_eq_false y]
          exact iteF (hP.no hr (decide_eq_false (by simp [z, y])))
    intro H1 hP
    obtain ⟨s1, e3⟩ := PvS.all (l := Rs) hP
    have e3 : H1 G = some (.lst ((ord (B ++ D)).map V.str)) := e3
    have hs : (ord (B ++ D)).Sublist Rs := ord_subl
    refine book_made (.inl (.of e3)) (by have := hs.length_le; rw [Rs_len] at this; omega) (fun r hr => by have := Rs_size r (hs.subset hr); omega) (fun _ H2 x s2 nx Bk => ?_) (fun ⟨r, hr, hn⟩ => absurd (hs.subset hr) hn)
    rw [ord_sub hs] at Bk
    exact k H2 x (s1.trans s2) (s1.free nx) Bk
def sp_sub (CB : Addr) : Sp := fun vs H Q _ => ∃ (a b : Addr) (B D : List Str), vs = [.ref a, .ref b] ∧ BookAt CB H a B ∧ BookAt CB H b D ∧ B.Sublist Rs ∧ ∀ H' x, Same H H' → H x = none → BookAt CB H' x (B.filter fun r => decide (r ∉ D)) → Q (.ref x) H'
theorem ok_sub (T : Tx K mg) : FnOk P w K mg base CX0 3 T.f_Book___sub__ T.fd_Book___sub__ ["self", "other"] (sp_sub T.C_Book) := by
  refine T.F_Book___sub__.ok sc_Book___sub__ (fun vs H Q E h => ?_) (fun cdv A outer s H vs Q E hr h => ?_)
  · obtain ⟨_, _, _, _, rfl, _⟩ := h; rfl
  · obtain ⟨a, b, B, D, rfl, ⟨dx, tn, e1, e2⟩, ⟨dy, tm, g1, g2⟩, hB, k⟩ := h
    refine ⟨_, (pss_one (ps_ret (pe_makeS T.mk_Book (ok_RuleSet_init T) hr rfl T.mg_Book (b_RuleSet___init__ T) passL0 (pa_cons (pe_lc rfl (own := [("rule", 2)]) (g := gName 2) (tt := _) sc_Book___sub__.nd (pi_tup (pe_fld (pv 0) rfl)) (blkOk_by (N := ["self", "other", "rule"]) (sc := defScope s_Book___sub__) (by decide +kernel)) (fun _ _ _ _ _ => pg_name (i := 2) sc_Book___sub__.nd rfl (Or.inl rfl)) (fun _ _ _ _ _ => pts_one (pt_cmpR (op_notInK (K := K)) (pv 2) (pe_fldK (K := K) (pv 1) rfl) rfl)) (fun _ _ _ _ _ => (pv 2))) pa_nil)))), ?_⟩
    refine ⟨_, rfl, a, _, _, _, _, rfl, e1, T.cl_Book, T.na_Book_names, rfl, tn, rfl, ⟨_, .of e2⟩, fun G hG => ?_⟩
    have hl := hB.length_le
    rw [Rs_len] at hl
    refine lc_tup (K := K) (a := tn) (xs := B.map V.str) (PvS H G B fun r => decide (r ∉ D)) (PvS.start (Same.refl _) hG) (fun _ _ _ h => .of (h.same _ _ e2)) ?_ ?_
    · rintro i x H1 hx hP
      obtain ⟨r, rfl, hr⟩ := str_at hx
      have s1 := hP.same
      refine ⟨rfl, ?_⟩
      refine ⟨_, rfl, _, rfl, b, _, _, _, _, rfl, s1 _ _ g1, T.cl_Book, T.na_Book_names, rfl, tm, _, rfl, .inr (.of (s1 _ _ g2)), rfl, flat_str, _, rfl, ?_⟩
      rw [if_pos rfl, inV_str]
      by_cases y : r ∈ D
      · rw [decide_eq_true y]
        exact iteF (hP.no hr (decide_eq_false (by simpa using y)))
      · rw [decide_eq_false y]
        exact iteT ⟨_, rfl, _, hP.at_, PvS.len (by omega), hP.yes hG hr (decide_eq_true y)⟩
    intro H1 hP
    have hP : PvS H G B (fun r => decide (r ∉ D)) B.length H1 := by rw [List.length_map] at hP; exact hP
    obtain ⟨s1, e3⟩ := PvS.all hP
    have hs : (B.filter fun r => decide (r ∉ D)).Sublist Rs := List.filter_sublist.trans hB
    refine book_made (.inl (.of e3)) (by have := hs.length_le; rw [Rs_len] at this; omega) (fun r hr => by have := Rs_size r (hs.subset hr); omega) (fun _ H2 x s2 nx Bk => ?_) (fun ⟨r, hr, hn⟩ => absurd (hs.subset hr) hn)
    rw [ord_sub hs] at Bk
    exact k H2 x (s1.trans s2) (s1.free nx) Bk
end
end K87
namespace K87
open PySem PySem.Spec PyProof.Rows L2 Rg
theorem pow_nat (i : Nat) : ((2 : Int) ^ i) = ((2 ^ i : Nat) : Int) := by simp
theorem div_pow (n i : Nat) : ((n / 2 ^ i : Nat) : Int) / 2 = ((n / 2 ^ (i + 1) : Nat) : Int) := by
  rw [show ((n / 2 ^ i : Nat) : Int) / 2 = ((n / 2 ^ i / 2 : Nat) : Int) from rfl, Nat.div_div_eq_div_mul, Nat.pow_succ]
theorem bl_dec (b c : Bool) : decide (V.bl b = V.bl c) = (b == c) := by cases b <;> cases c <;> decide
section
variable {P : Program} {w : World} {K : PySem.W.Frag} {mg : Str → Option Value} {base : Heap}
def sp_Lrules : Sp := fun vs H Q _ => vs = [] ∧ ∀ H' p, Same H H' → H p = none → H' p = some (.lst (Rs.map V.str)) → Q (.ref p) H'
theorem ok_Lrules (T : Tx K mg) : FnOk P w K mg base CX0 1 T.f_Lrules T.fd_Lrules [] sp_Lrules := by
  refine T.F_Lrules.ok sc_Lrules (fun vs H Q E h => ?_) (fun cdv A outer s H vs Q E hr h => ?_)
  · obtain ⟨rfl, _⟩ := h; rfl
  · obtain ⟨rfl, k⟩ := h
    refine ⟨_, (pss_cons (ps_set (i := 0) sc_Lrules.nd rfl (.inl rfl) (pe_lst (pa_cons pe_str (pa_cons pe_str (pa_cons pe_str (pa_cons pe_str (pa_cons pe_str (pa_cons pe_str (pa_cons pe_str (pa_cons pe_str (pa_cons pe_str (pa_cons pe_str (pa_cons pe_str (pa_cons pe_str pa_nil))))))))))))))
      (pss_one (ps_ret (pv 0)))), ?_⟩
    refine ⟨(by show 12 ≤ sizeLine; decide), fun p np => ⟨_, rfl, k _ p (same_upd np) np upd_same⟩⟩
def sp_Lnames : Sp := fun vs H Q _ => ∃ n : Nat, vs = [.int n] ∧ ∀ H' p, Same H H' → H p = none → H' p = some (.lst ((nm Rs n).map V.str)) → Q (.ref p) H'
theorem ok_Lnames (T : Tx K mg) : FnOk P w K mg base CX0 2 T.f_Lnames T.fd_Lnames ["_law_number_here"] sp_Lnames := by
  refine T.F_Lnames.ok sc_Lnames (fun vs H Q E h => ?_) (fun cdv A outer s H vs Q E hr h => ?_)
  · obtain ⟨_, rfl, _⟩ := h; rfl
  · obtain ⟨n, rfl, k⟩ := h
    refine ⟨_, (pss_cons (ps_set (i := 1) sc_Lnames.nd rfl (.inl rfl) (pe_lst pa_nil))
      (pss_cons (ps_set (i := 2) sc_Lnames.nd rfl (.inl rfl) (pv 0))
      (pss_cons (ps_for PassesOwn.never rfl (pi_list (pe_call0 (ok_Lrules T) hr rfl T.mg_Lrules T.F_Lrules.kp (b_Lrules T) .nil pass0)) (pg_name (i := 3) sc_Lnames.nd rfl (.inl rfl))
        (pss_cons (ps_if (pt_cmpR op_eq (pe_op op_mod (pe_callTy call_int1 rfl T.b_int (by decide +kernel) (pa_cons (pv 2) pa_nil)) pe_int) pe_int (nomark _))
          (pss_one (ps_expr (pe_bm PySem.F.plainAttrs_list PySem.F.slot_list_append PySem.F.type_list_append mt_append (pv 1) (pa_cons (pv 3) pa_nil))))
          pss_nil)
        (pss_one (ps_set (i := 2) sc_Lnames.nd rfl (.inl rfl) (pe_op op_fdiv (pv 2) pe_int)))))
      (pss_one (ps_ret (pv 1)))))), ?_⟩
    refine ⟨Nat.zero_le _, fun p np => ?_⟩
    have s0 := same_upd (o := .lst []) np
    have e0 : upd H p (.lst []) p = some (.lst []) := upd_same
    generalize upd H p (.lst []) = H0 at s0 e0 ⊢
    refine ⟨_, rfl, rfl, fun H1 q s1 nq eq => ⟨q, rfl, ⟨_, .of eq⟩, ?_⟩⟩
    have hpq : q ≠ p := fun z => by rw [z, e0] at nq; cases nq
    refine for_list (K := K) (a := q) (xs := Rs.map V.str) (fun i σ H' => ∃ u3 : Option V, σ = [some (.int n), some (.ref p), some (.int ((n / 2 ^ i : Nat) : Int)), u3] ∧ Same H H' ∧ H' p = some (.lst ((nm (Rs.take i) n).map V.str)) ∧ H' q = some (.lst (Rs.map V.str)))
      ⟨none, by rw [Nat.pow_zero, Nat.div_one]; rfl, s0.trans s1, s1 _ _ e0, eq⟩ (fun _ _ _ _ ⟨_, _, _, _, e⟩ => .of e) ?_ ?_
    · rintro i x σ H2 hx ⟨u3, rfl, s2, ep, eq2⟩
      obtain ⟨r, rfl, hr⟩ := str_at hx
      refine ⟨_, rfl, .inl ⟨_, rfl, _, _, rfl, rfl, (by show (0 : Int) < 2; decide), rfl, _, rfl, ?_⟩⟩
      rw [dec_iv]
      have em : ((n / 2 ^ i : Nat) : Int) % 2 = ((n / 2 ^ i % 2 : Nat) : Int) := rfl
      by_cases z : n / 2 ^ i % 2 = 1
      · rw [decide_eq_true (show ((n / 2 ^ i : Nat) : Int) % 2 = 1 by rw [em, z]; rfl)]
        refine iteT ⟨_, rfl, .inl ⟨rfl, _, .inl (.inl ep)⟩, _, rfl, p, _, _, rfl, rfl, ep, ?_, ?_⟩
        · rw [List.length_map]
          have h1 := nm_len (l := Rs.take i) (n := n)
          have h2 : (Rs.take i).length ≤ 12 := by rw [List.length_take, Rs_len]; exact Nat.min_le_right _ _
          exact small1000 (by omega)
        refine ⟨_, rfl, _, _, rfl, rfl, ⟨by decide, by decide⟩, _, by rw [← div_pow]; rfl, ?_, ?_, ?_⟩
        · intro b o e
          rw [upd_ne (ne_of_none e np)]
          exact s2 _ _ e
        · rw [upd_same, nm_take_s hr, if_pos z, List.map_append]
          rfl
        · rw [upd_ne hpq]; exact eq2
      · rw [decide_eq_false (show ¬ ((n / 2 ^ i : Nat) : Int) % 2 = 1 by rw [em]; omega)]
        refine iteF ⟨_, rfl, _, _, rfl, rfl, ⟨by decide, by decide⟩, _, by rw [← div_pow]; rfl, s2, ?_, eq2⟩
        rw [nm_take_s hr, if_neg z, List.append_nil]
        exact ep
    rintro σ H2 ⟨u3, rfl, s2, ep, _⟩
    exact ⟨_, rfl, k H2 p s2 np ep⟩
def sp_Lnumber : Sp := fun vs H Q _ => ∃ (q : Addr) (B : List Str), vs = [.ref q] ∧ H q = some (.lst (B.map V.str)) ∧ ∀ H', Same H H' → Q (.int (numB B)) H'
theorem ok_Lnumber (T : Tx K mg) : FnOk P w K mg base CX0 2 T.f_Lnumber T.fd_Lnumber ["_law_names_here"] sp_Lnumber := by
  refine T.F_Lnumber.ok sc_Lnumber (fun vs H Q E h => ?_) (fun cdv A outer s H vs Q E hr h => ?_)
  · obtain ⟨_, _, rfl, _⟩ := h; rfl
  · obtain ⟨q, B, rfl, hq, k⟩ := h
    refine ⟨_, (pss_cons (ps_set (i := 1) sc_Lnumber.nd rfl (.inl rfl) pe_int)
      (pss_cons (ps_set (i := 2) sc_Lnumber.nd rfl (.inl rfl) pe_int)
      (pss_cons (ps_for PassesOwn.never rfl (pi_list (pe_call0 (ok_Lrules T) hr rfl T.mg_Lrules T.F_Lrules.kp (b_Lrules T) .nil pass0)) (pg_name (i := 3) sc_Lnumber.nd rfl (.inl rfl))
        (pss_cons (ps_if (pt_cmpR op_in_seq (pv 3) (pv 0) rfl)
          (pss_one (ps_set (i := 1) sc_Lnumber.nd rfl (.inl rfl) (pe_op op_add (pv 1) (pv 2))))
          pss_nil)
        (pss_one (ps_set (i := 2) sc_Lnumber.nd rfl (.inl rfl) (pe_op op_mul (pv 2) pe_int)))))
      (pss_one (ps_ret (pv 1)))))), ?_⟩
    refine ⟨rfl, fun H1 p s1 np ep => ⟨p, rfl, ⟨_, .of ep⟩, ?_⟩⟩
    refine for_list (K := K) (a := p) (xs := Rs.map V.str) (fun i σ H' => ∃ u3 : Option V, σ = [some (.ref q), some (.int (wts B i).sum), some (.int (2 ^ i)), u3] ∧ H' = H1) ⟨none, rfl, rfl⟩ (fun _ _ _ _ ⟨_, _, e⟩ => by rw [e]; exact .of ep) ?_ ?_
    · rintro i x σ H2 hx ⟨u3, rfl, rfl⟩
      obtain ⟨r, rfl, hr⟩ := str_at hx
      have h12 : i < 12 := (List.getElem?_eq_some_iff.mp hr).1
      have hm : CMul ((2 : Int) ^ i) 2 := .inr ⟨by decide, by decide⟩
      have ep : (2 : Int) ^ i * 2 = 2 ^ (i + 1) := by rw [Int.pow_succ]
      refine ⟨_, rfl, _, rfl, q, _, rfl, .inl (.of (s1 _ _ hq)), rfl, flat_str, _, rfl, ?_⟩
      rw [if_neg Bool.false_ne_true, inV_str]
      by_cases z : r ∈ B
      · rw [decide_eq_true z]
        refine iteT ⟨_, rfl, _, rfl, _, _, rfl, rfl, _, rfl, _, _, rfl, rfl, hm, some (.str r), ?_, rfl⟩
        have es : (wts B (i + 1)).sum = (wts B i).sum + 2 ^ i := by rw [wts_s hr, if_pos z, List.sum_append]; simp
        rw [← ep, es]
        rfl
      · rw [decide_eq_false z]
        refine iteF ⟨_, rfl, _, _, rfl, rfl, hm, some (.str r), ?_, rfl⟩
        rw [← ep, wts_s hr, if_neg z, List.append_nil]
        rfl
    rintro σ H2 ⟨u3, rfl, rfl⟩
    exact ⟨_, rfl, k _ s1⟩
end
end K87
namespace K87
open PySem PySem.Spec PyProof.Rows L2 Rg
section
variable {P : Program} {w : World} {K : PySem.W.Frag} {mg : Str → Option Value} {base : Heap}
def sp_Lis_book (CB : Addr) : Sp := fun vs H Q _ => ∃ (a q : Addr) (B : List Str), vs = [.ref a, .ref q] ∧ BookAt CB H a B ∧ H q = some (.lst (B.map V.str)) ∧ B.Sublist Rs ∧ ∀ H', Same H H' → Q (.bl true) H'
theorem ok_Lis_book (T : Tx K mg) : FnOk P w K mg base CX0 3 T.f_Lis_book T.fd_Lis_book ["_law_book", "_law_names_here"] (sp_Lis_book T.C_Book) := by
  refine T.F_Lis_book.ok sc_Lis_book (fun vs H Q E h => ?_) (fun cdv A outer s H vs Q E hr h => ?_)
  · obtain ⟨_, _, _, rfl, _⟩ := h; rfl
  · obtain ⟨a, q, B, rfl, bk, hq, hB, k⟩ := h
    have hr1 : Room 1 _ := hr.mono (by decide)
    refine ⟨_, (pss_cons (ps_if (PW.pt (pw_or (pt_not (pt_val (pe_callB call_isi rfl T.b_isinstance (by decide +kernel) (pa_cons (pv 0) (pa_cons (pe_glob (v := .ref T.C_Book) rfl T.mg_Book rfl) pa_nil))))) (pw_or1 (pt_not (pt_val (pe_callB call_isi rfl T.b_isinstance (by decide +kernel) (pa_cons (pv 0) (pa_cons (pe_glob (v := .ref T.C_RuleSet) rfl T.mg_RuleSet rfl) pa_nil))))))))
        (pss_one (ps_ret pe_bl))
        pss_nil)
      (pss_cons (ps_if (PW.pt (pw_or (pt_not (pt_val (pe_callB call_isi rfl T.b_isinstance (by decide +kernel) (pa_cons (pe_fld (pv 0) rfl) (pa_cons (pe_bltn (v := .ty "tuple") rfl T.b_tuple (by decide +kernel) rfl) pa_nil))))) (pw_or (pt_cmpR (op_neD hr.units) (pe_callTy call_list_of rfl T.b_list (by decide +kernel) (pa_cons (pe_fld (pv 0) rfl) pa_nil)) (pv 1) (nomark _)) (pw_or1 (pt_cmpR (op_neD hr.units) (pe_lc rfl (own := [("_law_name", 2)]) (g := gName 2) (tt := tYes) sc_Lis_book.nd (pi_ownT T.bm_iter (ok_iter T) hr1 (b_RuleSet___iter__ T) (pv 0)) (blkOk_by (N := ["_law_book", "_law_names_here", "_law_name", "_law_number_here", "_law_due", "_law_text"]) (sc := defScope s_Lis_book) (by decide +kernel)) (fun _ _ _ _ _ => pg_name (i := 2) sc_Lis_book.nd rfl (Or.inl rfl)) (fun _ _ _ _ _ => pts_nil) (fun _ _ _ _ _ => (pv 2))) (pv 1) (nomark _))))))
        (pss_one (ps_ret pe_bl))
        pss_nil)
      (pss_cons (ps_set (i := 3) sc_Lis_book.nd rfl (.inl rfl) (pe_fld (pv 0) rfl))
      (pss_cons (ps_if (PW.pt (pw_or (pt_not (pt_val (pe_callB call_isi rfl T.b_isinstance (by decide +kernel) (pa_cons (pv 3) (pa_cons (pe_bltn (v := .ty "int") rfl T.b_int (by decide +kernel) rfl) pa_nil))))) (pw_or (pt_val (pe_callB call_isi rfl T.b_isinstance (by decide +kernel) (pa_cons (pv 3) (pa_cons (pe_bltn (v := .ty "bool") rfl T.b_bool (by decide +kernel) rfl) pa_nil)))) (pw_or1 (pt_cmpR op_ne (pv 3) (pe_call (ok_Lnumber T) hr rfl T.mg_Lnumber T.F_Lnumber.kp (b_Lnumber T) .nil pass0 (pa_cons (pv 1) pa_nil)) (nomark _))))))
        (pss_one (ps_ret pe_bl))
        pss_nil)
      (pss_cons (ps_for PassesOwn.never rfl (pi_list (pe_call0 (ok_Lrules T) hr1 rfl T.mg_Lrules T.F_Lrules.kp (b_Lrules T) .nil pass0)) (pg_name (i := 2) sc_Lis_book.nd rfl (.inl rfl))
        (pss_one (ps_if (pt_cmpR op_ne (pe_cmpR (op_inOwn T.bm_contains (ok_contains T) hr1 (b_RuleSet___contains__ T)) (pv 2) (pv 0) rfl) (pe_cmpR op_in_seq (pv 2) (pv 1) rfl) (nomark _))
          (pss_one (ps_ret pe_bl))
          pss_nil)))
      (pss_cons (ps_set (i := 4) sc_Lis_book.nd rfl (.inl rfl) pe_str)
      (Evl.pss_cut (ps_if (pt_cmpR op_gt (pe_callB call_len_seq rfl T.b_len (by decide +kernel) (pa_cons (pv 1) pa_nil)) pe_int (nomark _))
        (pss_one (ps_set (i := 4) sc_Lis_book.nd rfl (.inl rfl) (pe_join pe_str (pv 1))))
        pss_nil)
      (pss_cons (ps_set (i := 5) sc_Lis_book.nd rfl (.inl rfl) (pe_meth0 (pv 0) T.cl_Book T.bm_text (ok_text T) hr1 (b_RuleSet_text T) .nil pass0))
      (pss_one (ps_ret (pe_and (pe_callB call_isi rfl T.b_isinstance (by decide +kernel) (pa_cons (pv 5) (pa_cons (pe_bltn (v := .ty "str") rfl T.b_str (by decide +kernel) rfl) pa_nil))) (pe_one (pe_cmpR op_eq (pv 5) (pv 4) (nomark _)))))))))))))), ?_⟩
    obtain ⟨dx, tn, e1, e2⟩ := bk.ob
    have hl := hB.length_le
    rw [Rs_len] at hl
    have tyB : TyX K H (.ref a) (.ref T.C_Book) := .base (.ins e1 T.cl_Book T.ixa_Book T.ixb_Book T.ixc_Book T.ixd_Book)
    refine ⟨_, rfl, _, _, _, _, true, rfl, .own _, tyB, kit_self, _, rfl, iteF ⟨_, rfl, _, _, _, _, true, rfl, .own _, tyB, kit_subT T.ie_RuleSet T.te_RuleSet T.sub_Book_RuleSet, _, rfl, iteF ?_⟩⟩
    refine ⟨_, rfl, a, _, _, _, _, rfl, e1, T.cl_Book, T.na_Book_names, rfl, _, _, _, _, true, rfl, .ty _, .base (.tup e2), kit_ty (by decide +kernel), _, rfl, iteF ?_⟩
    refine ⟨_, rfl, a, _, _, _, _, rfl, e1, T.cl_Book, T.na_Book_names, rfl, tn, _, rfl, .inr (.of e2), fun l nl => ?_⟩
    have s1 := same_upd (o := .lst (B.map V.str)) nl
    have el : upd H l (.lst (B.map V.str)) l = some (.lst (B.map V.str)) := upd_same
    generalize upd H l (.lst (B.map V.str)) = H1 at s1 el ⊢
    refine ⟨_, rfl, _, _, dpT el, dpT (s1 _ _ hq), shT _ (sub_ok hB), shT _ (sub_ok hB), _, rfl, ?_⟩
    rw [eqvT, decide_eq_true rfl]
    refine iteF ⟨_, rfl, a, dx, _, rfl, s1 _ _ e1, fun n => ⟨a, B, rfl, bk.same s1, fun it tn' hn hle htn => ⟨it, tn', B.map V.str, rfl, hle, upd_same, ?_, ?_⟩⟩⟩
    · rw [ItX.dropH_upd hn]; exact .of htn
    rw [ItX.dropH_upd hn]
    refine fun D hD => ?_
    refine lc_tup (K := K) (a := tn') (xs := B.map V.str) (PvS H1 D B fun _ => true) (PvS.start (Same.refl _) hD) (fun _ _ _ h => .of (h.same _ _ htn)) ?_ ?_
    · rintro i x H2 hx hP
      obtain ⟨r, rfl, hr'⟩ := str_at hx
      refine ⟨rfl, ?_⟩
      refine yes_ ?_
      exact ⟨_, rfl, _, hP.at_, PvS.len (by omega), hP.yes hD hr' rfl⟩
    intro H2 hP
    have hP : PvS H1 D B (fun _ => true) B.length H2 := by rw [List.length_map] at hP; exact hP
    obtain ⟨s2, e3⟩ := hP.all
    rw [show B.filter (fun _ => true) = B from List.filter_eq_self.mpr fun _ _ => rfl] at e3
    have s12 := s1.trans s2
    refine ⟨_, rfl, _, _, dpT e3, dpT (s12 _ _ hq), shT _ (sub_ok hB), shT _ (sub_ok hB), _, rfl, ?_⟩
    rw [eqvT, decide_eq_true rfl]
    refine iteF ?_
    -- the number
    refine ⟨_, rfl, a, _, _, _, _, rfl, s12 _ _ e1, T.cl_Book, T.na_Book_number, rfl, ?_⟩
    refine ⟨_, rfl, _, _, _, _, true, rfl, .ty _, .base (.int _), kit_ty (by decide +kernel), _, rfl, iteF ⟨_, rfl, _, _, _, _, false, rfl, .ty _, .base (.int _), kit_ty (by decide +kernel), _, rfl, iteF ⟨_, rfl, _, rfl, q, B, rfl, s12 _ _ hq, fun H3 s3 => ⟨rfl, _, rfl, ?_⟩⟩⟩⟩
    rw [dec_iv, decide_eq_true rfl]
    refine iteF ⟨rfl, fun H4 p s4 np ep => ⟨p, rfl, ⟨_, .of ep⟩, ?_⟩⟩
    have s14 := (s12.trans s3).trans s4
    refine for_list (K := K) (a := p) (xs := Rs.map V.str) (fun i σ H' => ∃ u2 : Option V, σ = [some (.ref a), some (.ref q), u2, some (.int (numB B)), none, none] ∧ H' = H4) ⟨_, rfl, rfl⟩ (fun _ _ _ _ ⟨_, _, e⟩ => by rw [e]; exact .of ep) ?_ ?_
    · rintro i x σ H5 hx ⟨u2, rfl, rfl⟩
      obtain ⟨r, rfl, hr'⟩ := str_at hx
      refine ⟨_, rfl, _, rfl, a, dx, _, rfl, s14 _ _ e1, a, B, r, rfl, bk.same s14, _, rfl, ?_⟩
      refine ⟨_, rfl, _, rfl, q, _, rfl, .inl (.of (s14 _ _ hq)), rfl, flat_str, ?_⟩
      rw [if_neg Bool.false_ne_true, inV_str]
      refine ⟨rfl, _, rfl, ?_⟩
      rw [decide_eq_true rfl]
      exact iteF ⟨_, rfl, rfl⟩
    rintro σ H5 ⟨u2, rfl, rfl⟩
    refine ⟨fun σ H' => H' = H5 ∧ σ = [some (.ref a), some (.ref q), u2, some (.int (numB B)), some (.str (txB B)), none], ?_, ?_⟩
    · refine ⟨_, rfl, q, _, rfl, .inl (.of (s14 _ _ hq)), _, _, rfl, rfl, _, rfl, ?_⟩
      rw [List.length_map]
      by_cases z : B = []
      · subst z
        refine iteF ⟨rfl, ?_⟩
        unfold txB
        rw [if_pos rfl]
        rfl
      · rw [decide_eq_true (show ((B.length : Nat) : Int) > 0 by have := List.length_pos_iff.mpr z; omega)]
        refine iteT ⟨⟨_, rfl⟩, _, rfl, _, q, B, rfl, rfl, .inl (.of (s14 _ _ hq)), join_size (by omega) (fun r hr => by have := Rs_size r (hB.subset hr); omega), rfl, ?_⟩
        unfold txB
        rw [if_neg z]
        rfl
    rintro σ H6 ⟨rfl, rfl⟩
    refine ⟨_, rfl, a, dx, _, rfl, s14 _ _ e1, rfl, a, B, rfl, bk.same s14, hB, ?_⟩
    refine ⟨_, rfl, _, _, _, _, true, rfl, .ty _, .base (.str _), kit_ty (by decide +kernel), _, rfl, iteT ⟨_, rfl, _, rfl, rfl, ?_⟩⟩
    rw [decide_eq_true rfl]
    exact k _ s14
end
end K87
namespace K87
open PySem PySem.Spec PyProof.Rows L2 Rg
theorem cls_ne {K : PySem.W.Frag} {A B : Addr} (h1 : PySem.W.subIn K (.ref A) (.ref A) = some true) (h2 : PySem.W.subIn K (.ref A) (.ref B) = some false) : A ≠ B := fun e => by
  rw [← e, h1] at h2
  cases h2
section
variable {P : Program} {w : World} {K : PySem.W.Frag} {mg : Str → Option Value} {base : Heap}
def sp_Lbad_text : Sp := fun vs H Q _ => ∃ (t : Str), vs = [.str t] ∧ t.length ≤ 5000 ∧ (partsT t).length < 900 ∧ (∀ x ∈ partsT t, okS x = true) ∧ ord (partsT t) ≠ partsT t ∧ ∀ H', Same H H' → Q (.bl true) H'
theorem ok_Lbad_text (T : Tx K mg) : FnOk P w K mg base CX0 4 T.f_Lbad_text T.fd_Lbad_text ["_law_text"] sp_Lbad_text := by
  refine T.F_Lbad_text.ok sc_Lbad_text (fun vs H Q E h => ?_) (fun cdv A0 outer s H vs Q E hr h => ?_)
  · obtain ⟨_, rfl, _⟩ := h; rfl
  · obtain ⟨t, rfl, ht, hl, hok, hne, k⟩ := h
    refine ⟨_, (pss_cons (L2N.ps_try_as (i := 1) rfl rfl sc_Lbad_text.nd rfl rfl ⟨rfl, by decide, .inl T.mg_StoreError⟩ takes0N
        (fun W pn xe tk _ => pss_one (ps_expr (by exact (pe_smethS T.mg_Book T.cr_Book T.sm_Book_read (ok_read T) hr (b_Book_read T) (fun σ => L2N.passAt tk σ) (pa_cons (pv 0) pa_nil)))))
        (fun a oe cls d pn hz hf => pss_only (cls := cls) (d := d) (D := T.C_BadText) fun e1 e2 => by
            subst e1
            subst e2
            exact pss_one (ps_ret (pe_and (pe_callB (call_isE T.ec_BadText hz.zc hf) rfl T.b_isinstance (by decide +kernel) (pa_cons (pv 1) (pa_cons (pe_glob (v := .ref T.C_BadText) rfl T.mg_BadText rfl) pa_nil))) (pe_and (pe_callB (call_isE T.ec_BadText hz.zc hf) rfl T.b_isinstance (by decide +kernel) (pa_cons (pv 1) (pa_cons (pe_bltn (v := .ty "ValueError") rfl T.b_ValueError (by decide +kernel) rfl) pa_nil))) (pe_one (pe_not (pe_callB (call_isET T.ec_BadText hz.zc hf) rfl T.b_isinstance (by decide +kernel) (pa_cons (pv 1) (pa_cons (pe_tup (pa_cons (pe_glob (v := .ref T.C_BadValue) rfl T.mg_BadValue rfl) (pa_cons (pe_glob (v := .ref T.C_Refused) rfl T.mg_Refused rfl) (pa_cons (pe_glob (v := .ref T.C_NotNow) rfl T.mg_NotNow rfl) pa_nil)))) pa_nil))))))))))
      (pss_one (ps_ret pe_bl))), ?_⟩
    refine ⟨_, rfl, t, rfl, ht, hl, hok, fun e => absurd e hne, fun _ H' s1 => ?_⟩
    refine ⟨true, exm_sub T.be_StoreError T.ie_StoreError T.te_StoreError T.sub_BadText_StoreError, fun _ a ha => ⟨rfl, rfl, ?_⟩, fun q => nomatch q⟩
    refine ⟨_, rfl, _, _, true, rfl, fun u hu => hu, kit_self, _, rfl, iteT ⟨_, rfl, _, _, true, rfl, fun u hu => hu, kit_blt (by decide +kernel) T.bsub_BadText_ValueError, _, rfl, iteT ⟨_, rfl, (by show 3 ≤ sizeLine; decide), fun tp ntp => ?_⟩⟩⟩
    have st := same_upd (o := .tup [.ref T.C_BadValue, .ref T.C_Refused, .ref T.C_NotNow]) ntp
    refine ⟨tp, _, _, false, rfl, upd_same, .cons (.own _) (.cons (.own _) (.cons (.own _) .nil)), ?_, _, rfl, k _ (s1.trans st)⟩
    exact kitAny_cons (kit_sub (cls_ne T.sub_BadText_BadText T.sub_BadText_BadValue) T.ie_BadValue T.te_BadValue T.sub_BadText_BadValue) (fun _ => kitAny_cons (kit_sub (cls_ne T.sub_BadText_BadText T.sub_BadText_Refused) T.ie_Refused T.te_Refused T.sub_BadText_Refused) (fun _ => kitAny_cons (kit_sub (cls_ne T.sub_BadText_BadText T.sub_BadText_NotNow) T.ie_NotNow T.te_NotNow T.sub_BadText_NotNow) (fun _ => kitAny_nil) (fun z => nomatch z)) (fun z => nomatch z)) (fun z => nomatch z)
def sp_Lbad_number : Sp := fun vs H Q _ => ∃ (n : Int), vs = [.int n] ∧ (n < 0 ∨ 4096 ≤ n) ∧ ∀ H', Same H H' → Q (.bl true) H'
theorem ok_Lbad_number (T : Tx K mg) : FnOk P w K mg base CX0 4 T.f_Lbad_number T.fd_Lbad_number ["_law_number_here"] sp_Lbad_number := by
  refine T.F_Lbad_number.ok sc_Lbad_number (fun vs H Q E h => ?_) (fun cdv A0 outer s H vs Q E hr h => ?_)
  · obtain ⟨_, rfl, _⟩ := h; rfl
  · obtain ⟨n, rfl, hn, k⟩ := h
    refine ⟨_, (pss_cons (L2N.ps_try_as (i := 1) rfl rfl sc_Lbad_number.nd rfl rfl ⟨rfl, by decide, .inl T.mg_StoreError⟩ takes0N
        (fun W pn xe tk _ => pss_one (ps_expr (by exact (pe_smethS T.mg_Book T.cr_Book T.sm_Book_of_number (ok_of_number T) hr (b_Book_of_number T) (fun σ => L2N.passAt tk σ) (pa_cons (pv 0) pa_nil)))))
        (fun a oe cls d pn hz hf => pss_only (cls := cls) (d := d) (D := T.C_BadValue) fun e1 e2 => by
            subst e1
            subst e2
            exact pss_one (ps_ret (pe_and (pe_callB (call_isE T.ec_BadValue hz.zc hf) rfl T.b_isinstance (by decide +kernel) (pa_cons (pv 1) (pa_cons (pe_glob (v := .ref T.C_BadValue) rfl T.mg_BadValue rfl) pa_nil))) (pe_and (pe_callB (call_isE T.ec_BadValue hz.zc hf) rfl T.b_isinstance (by decide +kernel) (pa_cons (pv 1) (pa_cons (pe_bltn (v := .ty "ValueError") rfl T.b_ValueError (by decide +kernel) rfl) pa_nil))) (pe_one (pe_not (pe_callB (call_isET T.ec_BadValue hz.zc hf) rfl T.b_isinstance (by decide +kernel) (pa_cons (pv 1) (pa_cons (pe_tup (pa_cons (pe_glob (v := .ref T.C_BadText) rfl T.mg_BadText rfl) (pa_cons (pe_glob (v := .ref T.C_Refused) rfl T.mg_Refused rfl) (pa_cons (pe_glob (v := .ref T.C_NotNow) rfl T.mg_NotNow rfl) pa_nil)))) pa_nil))))))))))
      (pss_one (ps_ret pe_bl))), ?_⟩
    refine ⟨_, rfl, n, rfl, fun m e h => by omega, fun _ H' s1 => ?_⟩
    refine ⟨true, exm_sub T.be_StoreError T.ie_StoreError T.te_StoreError T.sub_BadValue_StoreError, fun _ a ha => ⟨rfl, rfl, ?_⟩, fun q => nomatch q⟩
    refine ⟨_, rfl, _, _, true, rfl, fun u hu => hu, kit_self, _, rfl, iteT ⟨_, rfl, _, _, true, rfl, fun u hu => hu, kit_blt (by decide +kernel) T.bsub_BadValue_ValueError, _, rfl, iteT ⟨_, rfl, (by show 3 ≤ sizeLine; decide), fun tp ntp => ?_⟩⟩⟩
    have st := same_upd (o := .tup [.ref T.C_BadText, .ref T.C_Refused, .ref T.C_NotNow]) ntp
    refine ⟨tp, _, _, false, rfl, upd_same, .cons (.own _) (.cons (.own _) (.cons (.own _) .nil)), ?_, _, rfl, k _ (s1.trans st)⟩
    exact kitAny_cons (kit_sub (cls_ne T.sub_BadValue_BadValue T.sub_BadValue_BadText) T.ie_BadText T.te_BadText T.sub_BadValue_BadText) (fun _ => kitAny_cons (kit_sub (cls_ne T.sub_BadValue_BadValue T.sub_BadValue_Refused) T.ie_Refused T.te_Refused T.sub_BadValue_Refused) (fun _ => kitAny_cons (kit_sub (cls_ne T.sub_BadValue_BadValue T.sub_BadValue_NotNow) T.ie_NotNow T.te_NotNow T.sub_BadValue_NotNow) (fun _ => kitAny_nil) (fun z => nomatch z)) (fun z => nomatch z)) (fun z => nomatch z)
def sp_Lbad_names : Sp := fun vs H Q _ => ∃ (q : Addr) (B : List Str), vs = [.ref q] ∧ H q = some (.lst (B.map V.str)) ∧ B.length < 900 ∧ (∀ r ∈ B, r.length ≤ 1000) ∧ (∃ r ∈ B, r ∉ Rs) ∧ ∀ H', Same H H' → Q (.bl true) H'
theorem ok_Lbad_names (T : Tx K mg) : FnOk P w K mg base CX0 4 T.f_Lbad_names T.fd_Lbad_names ["_law_names_here"] sp_Lbad_names := by
  refine T.F_Lbad_names.ok sc_Lbad_names (fun vs H Q E h => ?_) (fun cdv A0 outer s H vs Q E hr h => ?_)
  · obtain ⟨_, _, rfl, _⟩ := h; rfl
  · obtain ⟨q, B, rfl, hq, hl, hs, ⟨rr, hr1, hr2⟩, k⟩ := h
    refine ⟨_, (pss_cons (L2N.ps_try_as (i := 1) rfl rfl sc_Lbad_names.nd rfl rfl ⟨rfl, by decide, .inl T.mg_StoreError⟩ takes0N
        (fun W pn xe tk _ => pss_one (ps_expr (by exact (pe_makeS T.mk_Book (ok_RuleSet_init T) (hr.mono (by decide)) rfl T.mg_Book (b_RuleSet___init__ T) (fun σ => L2N.passAt tk σ) (pa_cons (pv 0) pa_nil)))))
        (fun a oe cls d pn hz hf => pss_only (cls := cls) (d := d) (D := T.C_BadValue) fun e1 e2 => by
            subst e1
            subst e2
            exact pss_one (ps_ret (pe_and (pe_callB (call_isE T.ec_BadValue hz.zc hf) rfl T.b_isinstance (by decide +kernel) (pa_cons (pv 1) (pa_cons (pe_glob (v := .ref T.C_BadValue) rfl T.mg_BadValue rfl) pa_nil))) (pe_and (pe_callB (call_isE T.ec_BadValue hz.zc hf) rfl T.b_isinstance (by decide +kernel) (pa_cons (pv 1) (pa_cons (pe_bltn (v := .ty "ValueError") rfl T.b_ValueError (by decide +kernel) rfl) pa_nil))) (pe_one (pe_not (pe_callB (call_isET T.ec_BadValue hz.zc hf) rfl T.b_isinstance (by decide +kernel) (pa_cons (pv 1) (pa_cons (pe_tup (pa_cons (pe_glob (v := .ref T.C_BadText) rfl T.mg_BadText rfl) (pa_cons (pe_glob (v := .ref T.C_Refused) rfl T.mg_Refused rfl) (pa_cons (pe_glob (v := .ref T.C_NotNow) rfl T.mg_NotNow rfl) pa_nil)))) pa_nil))))))))))
      (pss_one (ps_ret pe_bl))), ?_⟩
    refine ⟨_, rfl, ?_⟩
    dsimp only [tNil, List.nil_append, List.cons_append]
    refine book_made (Q := fun _ H2 => tRet (tC (V.bl false)) { nx := fun x H' => Q V.non H', rt := Q } (L2.start ["_law_names_here", "e"] [V.ref q]) H2) (.inl (.of hq)) hl hs (fun hin => absurd (hin rr hr1) hr2) fun _ H' s1 => ?_
    refine ⟨true, exm_sub T.be_StoreError T.ie_StoreError T.te_StoreError T.sub_BadValue_StoreError, fun _ a ha => ⟨rfl, rfl, ?_⟩, fun q => nomatch q⟩
    refine ⟨_, rfl, _, _, true, rfl, fun u hu => hu, kit_self, _, rfl, iteT ⟨_, rfl, _, _, true, rfl, fun u hu => hu, kit_blt (by decide +kernel) T.bsub_BadValue_ValueError, _, rfl, iteT ⟨_, rfl, (by show 3 ≤ sizeLine; decide), fun tp ntp => ?_⟩⟩⟩
    have st := same_upd (o := .tup [.ref T.C_BadText, .ref T.C_Refused, .ref T.C_NotNow]) ntp
    refine ⟨tp, _, _, false, rfl, upd_same, .cons (.own _) (.cons (.own _) (.cons (.own _) .nil)), ?_, _, rfl, k _ (s1.trans st)⟩
    exact kitAny_cons (kit_sub (cls_ne T.sub_BadValue_BadValue T.sub_BadValue_BadText) T.ie_BadText T.te_BadText T.sub_BadValue_BadText) (fun _ => kitAny_cons (kit_sub (cls_ne T.sub_BadValue_BadValue T.sub_BadValue_Refused) T.ie_Refused T.te_Refused T.sub_BadValue_Refused) (fun _ => kitAny_cons (kit_sub (cls_ne T.sub_BadValue_BadValue T.sub_BadValue_NotNow) T.ie_NotNow T.te_NotNow T.sub_BadValue_NotNow) (fun _ => kitAny_nil) (fun z => nomatch z)) (fun z => nomatch z)) (fun z => nomatch z)
end
end K87
namespace K87
open PySem PySem.Spec PyProof.Rows L2 Rg TL
def BadTx (t : Str) : Prop := t.length ≤ 5000 ∧ (partsT t).length < 900 ∧ (∀ x ∈ partsT t, okS x = true) ∧ ord (partsT t) ≠ partsT t
theorem badOf {L : List Str} (h1 : L ≠ []) (hs : ∀ p ∈ L, 32 ∉ tl p ∧ okS p = true ∧ p.length ≤ 20) (hl : L.length ≤ 30) (hn : ¬ L.Sublist Rs) (hn2 : L ≠ [("none" : Str)]) : BadTx (Txt.join " " L) := by
  have e := split_of h1 fun p hp => (hs p hp).1
  have hne : Txt.join " " L ≠ "none" := fun z => hn2 (by rw [← e, z]; decide +kernel)
  have ep : partsT (Txt.join " " L) = L := by unfold partsT; rw [if_neg hne, e]
  refine ⟨?_, by rw [ep]; omega, by rw [ep]; exact fun x hx => (hs x hx).2.1, by rw [ep]; exact not_ord hn⟩
  have := join_len (B := L) (k := 20) fun p hp => (hs p hp).2.2
  have : L.length * 21 ≤ 30 * 21 := Nat.mul_le_mul_right _ hl
  omega
def T0 : List Str := ["", "None", "copies mark copies", "mark copies", "told room", "copies  mark", "none copies", "Copies"]
theorem bad0 : ∀ t ∈ T0, t.length ≤ 5000 ∧ (partsT t).length < 900 ∧ (∀ x ∈ partsT t, okS x = true) ∧ ord (partsT t) ≠ partsT t := by decide +kernel
theorem RsF : ∀ p ∈ Rs, 32 ∉ tl p ∧ okS p = true ∧ p.length ≤ 20 := by decide +kernel
theorem xF : ∀ p ∈ Rs, 32 ∉ tl (p ++ "x") ∧ okS (p ++ "x") = true ∧ (p ++ "x").length ≤ 20 ∧ p ++ "x" ∉ Rs := by decide +kernel
theorem eF : 32 ∉ tl ("" : Str) ∧ okS "" = true ∧ ("" : Str).length ≤ 20 ∧ ("" : Str) ∉ Rs := by decide +kernel
theorem nF : 32 ∉ tl ("none" : Str) ∧ okS "none" = true ∧ ("none" : Str).length ≤ 20 ∧ ("none" : Str) ∉ Rs := by decide +kernel
theorem nsub {L : List Str} {x : Str} (h : x ∈ L) (hx : x ∉ Rs) : ¬ L.Sublist Rs := fun z => hx (z.subset h)
theorem ndup {L : List Str} (h : ¬ L.Nodup) : ¬ L.Sublist Rs := fun z => h (z.nodup Rs_nodup)
theorem nn_mem {L : List Str} {x : Str} (h : x ∈ L) (hx : x ∈ Rs) : L ≠ [("none" : Str)] := fun z => by
  subst z
  have := List.mem_singleton.mp h
  subst this
  exact nF.2.2.2 hx
section
variable {B : List Str} (hB : B.Sublist Rs) (hn : B ≠ [])
theorem fB (hB : B.Sublist Rs) : ∀ p ∈ B, 32 ∉ tl p ∧ okS p = true ∧ p.length ≤ 20 := fun p hp => RsF p (hB.subset hp)
theorem lB (hB : B.Sublist Rs) : B.length ≤ 12 := by have := hB.length_le; rwa [Rs_len] at this
theorem bad1 (hB : B.Sublist Rs) (hn : B ≠ []) : BadTx (Txt.join " " B ++ " ") := by
  have e : Txt.join " " B ++ " " = Txt.join " " (B ++ [("" : Str)]) := by rw [join_snoc hn]; exact str_ext (by simp [tl_append, show tl ("" : Str) = [] by decide +kernel])
  have := lB hB
  rw [e]
  obtain ⟨b, hb⟩ := List.exists_mem_of_ne_nil _ hn
  exact badOf (by simp) (fun p hp => (List.mem_append.mp hp).elim (fB hB p) fun z => by rw [List.mem_singleton.mp z]; exact ⟨eF.1, eF.2.1, eF.2.2.1⟩) (by rw [List.length_append, List.length_singleton]; omega) (nsub (x := "") (by simp) eF.2.2.2) (nn_mem (List.mem_append_left _ hb) (hB.subset hb))
theorem bad2 (hB : B.Sublist Rs) (hn : B ≠ []) : BadTx (" " ++ Txt.join " " B) := by
  have e : " " ++ Txt.join " " B = Txt.join " " (("" : Str) :: B) := by rw [join_cons hn]; exact str_ext (by simp [tl_append, show tl ("" : Str) = [] by decide +kernel])
  have := lB hB
  rw [e]
  obtain ⟨b, hb⟩ := List.exists_mem_of_ne_nil _ hn
  exact badOf (by simp) (fun p hp => (List.mem_cons.mp hp).elim (fun z => by rw [z]; exact ⟨eF.1, eF.2.1, eF.2.2.1⟩) (fB hB p)) (by rw [List.length_cons]; omega) (nsub (x := "") (by simp) eF.2.2.2) (nn_mem (List.mem_cons_of_mem _ hb) (hB.subset hb))
theorem bad3 {x : Str} (hB : B.Sublist Rs) (hn : B ≠ []) (hx : x ∈ B) : BadTx (Txt.join " " B ++ " " ++ x) := by
  have := lB hB
  rw [← join_snoc hn]
  exact badOf (by simp) (fun p hp => (List.mem_append.mp hp).elim (fB hB p) fun z => by rw [List.mem_singleton.mp z]; exact fB hB x hx) (by rw [List.length_append, List.length_singleton]; omega) (ndup fun z => by
    have := (List.nodup_append.mp z).2.2 x hx x (List.mem_singleton.mpr rfl)
    exact this rfl) (nn_mem (List.mem_append_left _ hx) (hB.subset hx))
theorem bad4 {x : Str} (hB : B.Sublist Rs) (hn : B ≠ []) (hx : x ∈ B) : BadTx (x ++ " " ++ Txt.join " " B) := by
  have := lB hB
  rw [← join_cons hn]
  exact badOf (by simp) (fun p hp => (List.mem_cons.mp hp).elim (fun z => by rw [z]; exact fB hB x hx) (fB hB p)) (by rw [List.length_cons]; omega) (ndup fun z => (List.nodup_cons.mp z).1 hx) (nn_mem (List.mem_cons_of_mem _ hx) (hB.subset hx))
theorem bad5 (hB : B.Sublist Rs) (hn : B ≠ []) : BadTx (Txt.join " " B ++ " none") := by
  have e : Txt.join " " B ++ " none" = Txt.join " " (B ++ [("none" : Str)]) := by rw [join_snoc hn]; exact str_ext (by rw [tl_append, tl_append, tl_append, List.append_assoc]; congr 1)
  have := lB hB
  rw [e]
  obtain ⟨b, hb⟩ := List.exists_mem_of_ne_nil _ hn
  exact badOf (by simp) (fun p hp => (List.mem_append.mp hp).elim (fB hB p) fun z => by rw [List.mem_singleton.mp z]; exact ⟨nF.1, nF.2.1, nF.2.2.1⟩) (by rw [List.length_append, List.length_singleton]; omega) (nsub (x := "none") (by simp) nF.2.2.2) (nn_mem (List.mem_append_left _ hb) (hB.subset hb))
theorem bad6 (hB : B.Sublist Rs) (hn : B ≠ []) : BadTx (Txt.join " " B ++ "x") := by
  have eB : B = B.dropLast ++ [B.getLast hn] := (List.dropLast_concat_getLast hn).symm
  have hm : B.getLast hn ∈ Rs := hB.subset (List.getLast_mem hn)
  have e : Txt.join " " B ++ "x" = Txt.join " " (B.dropLast ++ [B.getLast hn ++ "x"]) := by rw [join_last, ← eB]
  have := lB hB
  rw [e]
  obtain ⟨f1, f2, f3, f4⟩ := xF _ hm
  refine badOf (by simp) (fun p hp => (List.mem_append.mp hp).elim (fun z => fB hB p (List.dropLast_subset _ z)) fun z => by rw [List.mem_singleton.mp z]; exact ⟨f1, f2, f3⟩) (by rw [List.length_append, List.length_singleton, List.length_dropLast]; omega) (nsub (x := B.getLast hn ++ "x") (by simp) f4) (fun z => ?_)
  have hl := congrArg List.length z
  have h0 : B.dropLast = [] := by
    rw [List.length_append, List.length_singleton, List.length_singleton] at hl
    exact List.length_eq_zero_iff.mp (by omega)
  rw [h0, List.nil_append] at z
  have := List.singleton_inj.mp z
  have h5 : ∀ p ∈ Rs, p ++ "x" ≠ "none" := by decide +kernel
  exact h5 _ hm this
theorem bad7 {k : Nat} {a b : Str} (hB : B.Sublist Rs) (h1 : B[k]? = some a) (h2 : B[k + 1]? = some b) : BadTx (Txt.join " " ((B.set k b).set (k + 1) a)) := by
  have hk := (List.getElem?_eq_some_iff.mp h2).1
  have := lB hB
  have ma := List.mem_of_getElem? h1
  have mb := List.mem_of_getElem? h2
  have hmem : ∀ p, p ∈ (B.set k b).set (k + 1) a → p ∈ B := fun p hp => by
    rcases List.mem_or_eq_of_mem_set hp with h | h
    · rcases List.mem_or_eq_of_mem_set h with h | h
      · exact h
      · rw [h]; exact mb
    · rw [h]; exact ma
  have hnd := hB.nodup Rs_nodup
  have hmem2 : ∀ p, p ∈ B → p ∈ (B.set k b).set (k + 1) a := fun p hp => by
    obtain ⟨i, hi, e⟩ := List.getElem_of_mem hp
    by_cases e1 : i = k
    · refine List.mem_of_getElem? (i := k + 1) ?_
      rw [List.getElem?_set_self (by rw [List.length_set]; exact hk)]
      subst e1
      rw [List.getElem?_eq_getElem hi] at h1
      rw [← e, Option.some.inj h1]
    · by_cases e2 : i = k + 1
      · refine List.mem_of_getElem? (i := k) ?_
        rw [List.getElem?_set_ne (by omega), List.getElem?_set_self (by omega)]
        subst e2
        rw [List.getElem?_eq_getElem hi] at h2
        rw [← e, Option.some.inj h2]
      · refine List.mem_of_getElem? (i := i) ?_
        rw [List.getElem?_set_ne (by omega), List.getElem?_set_ne (by omega), List.getElem?_eq_getElem hi, e]
  have hne : (B.set k b).set (k + 1) a ≠ B := fun z => by
    have e1 := congrArg (fun l => l[k]?) z
    rw [List.getElem?_set_ne (by omega), List.getElem?_set_self (by omega), h1] at e1
    have e2 := Option.some.inj e1
    have hk1 : k < B.length := by omega
    rw [List.getElem?_eq_getElem hk1] at h1
    rw [List.getElem?_eq_getElem hk] at h2
    have e3 : B[k] = B[k + 1] := by rw [Option.some.inj h1, Option.some.inj h2, e2]
    exact (List.pairwise_iff_getElem.mp hnd) k (k + 1) hk1 hk (by omega) e3
  refine badOf (fun z => by have := congrArg List.length z; simp at this; rw [this] at hk; simp at hk) (fun p hp => fB hB p (hmem p hp)) (by rw [List.length_set, List.length_set]; omega) (fun z => hne ?_) (nn_mem (hmem2 a ma) (hB.subset ma))
  have e1 := ord_congr (B := (B.set k b).set (k + 1) a) (B' := B) fun r _ => ⟨hmem r, hmem2 r⟩
  rw [ord_sub z, ord_sub hB] at e1
  exact e1
theorem bad8 (hB : B.Sublist Rs) (hn : 1 < B.length) : BadTx (Txt.join "  " B) := by
  have := lB hB
  rw [join_two]
  match B, hn with
  | b :: c :: t, _ =>
    refine badOf inter_ne (fun p hp => (inter_mem hp).elim (fB hB p) fun z => by rw [z]; exact ⟨eF.1, eF.2.1, eF.2.2.1⟩) (Nat.le_trans inter_len (by omega)) (nsub (x := "") (by simp [inter]) eF.2.2.2) (nn_mem (x := b) (by simp [inter]) (hB.subset (by simp)))
end
end K87
namespace K87
open PySem PySem.Spec PyProof.Rows L2 Rg
section
variable {P : Program} {w : World} {K : PySem.W.Frag} {mg : Str → Option Value} {base : Heap}
def sp_Lspoilt : Sp := fun vs H Q _ => ∃ (q : Addr) (B : List Str) (at_ : Nat), vs = [.ref q, .int at_] ∧ H q = some (.lst (B.map V.str)) ∧ B.Sublist Rs ∧
  ∀ H' p (ts : List Str), Same H H' → H p = none → H' p = some (.lst (ts.map V.str)) → ts.length < 900 → (∀ t ∈ ts, BadTx t) → Q (.ref p) H'
theorem ok_Lspoilt (T : Tx K mg) : FnOk P w K mg base CX0 1 T.f_Lspoilt T.fd_Lspoilt ["_law_names_here", "_law_at"] sp_Lspoilt := by
  refine T.F_Lspoilt.ok sc_Lspoilt (fun vs H Q E h => ?_) (fun cdv A outer s H vs Q E hr h => ?_)
  · obtain ⟨_, _, _, rfl, _⟩ := h; rfl
  · obtain ⟨q, B, n, rfl, hq, hB, k⟩ := h
    refine ⟨_, (pss_cons (ps_set (i := 2) sc_Lspoilt.nd rfl (.inl rfl) (pe_lst (pa_cons pe_str (pa_cons pe_str (pa_cons pe_str (pa_cons pe_str (pa_cons pe_str (pa_cons pe_str (pa_cons pe_str (pa_cons pe_str pa_nil))))))))))
      (Evl.pss_cut (ps_if (pt_cmpR op_gt (pe_callB call_len_seq rfl T.b_len (by decide +kernel) (pa_cons (pv 0) pa_nil)) pe_int (nomark _))
        (pss_cons (ps_set (i := 3) sc_Lspoilt.nd rfl (.inl rfl) (pe_join pe_str (pv 0)))
        (pss_cons (ps_set (i := 4) sc_Lspoilt.nd rfl (.inl rfl) (pe_ix ix_list (pv 0) (pe_op op_mod (pv 1) (pe_callB call_len_seq rfl T.b_len (by decide +kernel) (pa_cons (pv 0) pa_nil))) (fun _ _ => rfl)))
        (pss_one (ps_expr (pe_bm PySem.F.plainAttrs_list PySem.F.slot_list_extend PySem.F.type_list_extend mt_extend (pv 2) (pa_cons (pe_lst (pa_cons (pe_op op_add_str (pv 3) pe_str) (pa_cons (pe_op op_add_str pe_str (pv 3)) (pa_cons (pe_op op_add_str (pe_op op_add_str (pv 3) pe_str) (pv 4)) (pa_cons (pe_op op_add_str (pe_op op_add_str (pv 4) pe_str) (pv 3)) (pa_cons (pe_op op_add_str (pv 3) pe_str) (pa_cons (pe_op op_add_str (pv 3) pe_str) pa_nil))))))) pa_nil))))))
        pss_nil)
      (Evl.pss_cut (ps_if (pt_cmpR op_gt (pe_callB call_len_seq rfl T.b_len (by decide +kernel) (pa_cons (pv 0) pa_nil)) pe_int (nomark _))
        (pss_cons (ps_set (i := 5) sc_Lspoilt.nd rfl (.inl rfl) (pe_callTy call_list_of rfl T.b_list (by decide +kernel) (pa_cons (pv 0) pa_nil)))
        (pss_cons (ps_set (i := 6) sc_Lspoilt.nd rfl (.inl rfl) (pe_op op_mod (pv 1) (pe_op op_sub (pe_callB call_len_seq rfl T.b_len (by decide +kernel) (pa_cons (pv 0) pa_nil)) pe_int)))
        (pss_cons (ps_asg (pe_ix ix_list (pv 0) (pe_op op_add (pv 6) pe_int) (fun _ _ => rfl)) (pg_sub (pv 5) (pv 6) set_list))
        (pss_cons (ps_asg (pe_ix ix_list (pv 0) (pv 6) (fun _ _ => rfl)) (pg_sub (pv 5) (pe_op op_add (pv 6) pe_int) set_list))
        (pss_cons (ps_expr (pe_bm PySem.F.plainAttrs_list PySem.F.slot_list_append PySem.F.type_list_append mt_append (pv 2) (pa_cons (pe_join pe_str (pv 5)) pa_nil)))
        (pss_one (ps_expr (pe_bm PySem.F.plainAttrs_list PySem.F.slot_list_append PySem.F.type_list_append mt_append (pv 2) (pa_cons (pe_join pe_str (pv 0)) pa_nil)))))))))
        pss_nil)
      (pss_one (ps_ret (pv 2)))))), ?_⟩
    have hl := lB hB
    have hsz : ∀ r ∈ B, r.length ≤ 1000 := fun r hr => by have := Rs_size r (hB.subset hr); omega
    refine ⟨(by show 8 ≤ sizeLine; decide), fun p np => ?_⟩
    have s0 := same_upd (o := .lst (T0.map V.str)) np
    have e0 : upd H p (.lst (T0.map V.str)) p = some (.lst (T0.map V.str)) := upd_same
    change Same H (upd H p (.lst [V.str _, V.str _, V.str _, V.str _, V.str _, V.str _, V.str _, V.str _])) at s0
    change upd H p (.lst [V.str _, V.str _, V.str _, V.str _, V.str _, V.str _, V.str _, V.str _]) p = _ at e0
    generalize upd H p (.lst [V.str _, V.str _, V.str _, V.str _, V.str _, V.str _, V.str _, V.str _]) = H0 at s0 e0 ⊢
    -- the mid-condition
    refine ⟨fun σ H' => ∃ (u3 u4 : Option V) (ts : List Str), σ = [some (.ref q), some (.int n), some (.ref p), u3, u4, none, none] ∧ Same H H' ∧ H' p = some (.lst (ts.map V.str)) ∧ ts.length ≤ 20 ∧ ∀ t ∈ ts, BadTx t, ?_, ?_⟩
    · refine ⟨_, rfl, q, _, rfl, .inl (.of (s0 _ _ hq)), _, _, rfl, rfl, _, rfl, ?_⟩
      rw [List.length_map]
      by_cases hn : B = []
      · subst hn
        exact iteF ⟨none, none, T0, rfl, s0, e0, by decide, bad0⟩
      have h0 : 0 < B.length := List.length_pos_iff.mpr hn
      rw [decide_eq_true (show ((B.length : Nat) : Int) > 0 by omega)]
      obtain ⟨x, hx⟩ : ∃ x, B[n % B.length]? = some x := ⟨_, List.getElem?_eq_getElem (Nat.mod_lt _ h0)⟩
      have mx := List.mem_of_getElem? hx
      have jl : (Txt.join " " B).length ≤ 300 := by
        have := join_len (B := B) (k := 20) fun r hr => by have := Rs_size r (hB.subset hr); omega
        have : B.length * 21 ≤ 12 * 21 := Nat.mul_le_mul_right _ hl
        omega
      have xl := Rs_size x (hB.subset mx)
      have sl : 2000 ≤ sizeLine := by decide
      have l1 : (" " : Str).length = 1 := by decide
      have l2 : (" none" : Str).length = 5 := by decide
      have l3 : ("x" : Str).length = 1 := by decide
      have em : (n : Int) % ((B.length : Nat) : Int) = ((n % B.length : Nat) : Int) := rfl
      refine iteT ⟨⟨_, rfl⟩, _, rfl, _, q, B, rfl, rfl, .inl (.of (s0 _ _ hq)), join_size (by omega) hsz, ?_⟩
      refine ⟨_, rfl, _, rfl, _, rfl, q, _, rfl, .inl (.of (s0 _ _ hq)), _, _, rfl, rfl, (by show (0 : Int) < ((B.map V.str).length : Nat); rw [List.length_map]; omega), q, _, _, .str x, rfl, rfl, .of (s0 _ _ hq), at_of (j := n % B.length) (by rw [List.length_map]; exact em) (by rw [List.getElem?_map, hx]; rfl), ?_⟩
      refine ⟨_, rfl, .inl ⟨rfl, _, .inl (.inl e0)⟩, ?_⟩
      refine ⟨_, rfl, _, _, rfl, rfl, by rw [l1]; omega, _, rfl, _, _, rfl, rfl, by rw [l1]; omega, _, rfl, _, _, rfl, rfl, by rw [l1]; omega, _, rfl, _, _, rfl, rfl, by rw [strLen_append, l1]; omega, _, rfl, _, _, rfl, rfl, by rw [l1]; omega, _, rfl, _, _, rfl, rfl, by rw [strLen_append, l1]; omega, _, rfl, _, _, rfl, rfl, by rw [l2]; omega, _, rfl, _, _, rfl, rfl, by rw [l3]; omega, (by show 6 ≤ sizeLine; decide), fun g ng => ?_⟩
      have s1 := same_upd (o := .lst ([Txt.join " " B ++ " ", " " ++ Txt.join " " B, Txt.join " " B ++ " " ++ x, x ++ " " ++ Txt.join " " B, Txt.join " " B ++ " none", Txt.join " " B ++ "x"].map V.str)) ng
      have e1 : upd H0 g (.lst ([Txt.join " " B ++ " ", " " ++ Txt.join " " B, Txt.join " " B ++ " " ++ x, x ++ " " ++ Txt.join " " B, Txt.join " " B ++ " none", Txt.join " " B ++ "x"].map V.str)) g = _ := upd_same
      have hgp : p ≠ g := ne_of_none e0 ng
      refine ⟨p, g, _, _, rfl, rfl, s1 _ _ e0, e1, (by show 8 + 6 ≤ sizeLine; decide), ?_⟩
      refine ⟨_, _, T0 ++ [Txt.join " " B ++ " ", " " ++ Txt.join " " B, Txt.join " " B ++ " " ++ x, x ++ " " ++ Txt.join " " B, Txt.join " " B ++ " none", Txt.join " " B ++ "x"], rfl, ?_, ?_, (by show 14 ≤ 20; decide), ?_⟩
      · intro b o e
        rw [upd_ne (ne_of_none e np)]
        exact s1 _ _ (s0 _ _ e)
      · rw [upd_same]
        rfl
      · intro t ht
        rcases List.mem_append.mp ht with z | z
        · exact bad0 t z
        · simp only [List.mem_cons, List.not_mem_nil, or_false] at z
          rcases z with rfl | rfl | rfl | rfl | rfl | rfl
          · exact bad1 hB hn
          · exact bad2 hB hn
          · exact bad3 hB hn mx
          · exact bad4 hB hn mx
          · exact bad5 hB hn
          · exact bad6 hB hn
    rintro σ H1 ⟨u3, u4, ts, rfl, s1, e1, lt, ht⟩
    refine ⟨fun σ H' => ∃ (u5 u6 : Option V) (ts : List Str), σ = [some (.ref q), some (.int n), some (.ref p), u3, u4, u5, u6] ∧ Same H H' ∧ H' p = some (.lst (ts.map V.str)) ∧ ts.length ≤ 30 ∧ ∀ t ∈ ts, BadTx t, ?_, ?_⟩
    · refine ⟨_, rfl, q, _, rfl, .inl (.of (s1 _ _ hq)), _, _, rfl, rfl, _, rfl, ?_⟩
      rw [List.length_map]
      by_cases h1 : ((B.length : Nat) : Int) > 1
      · rw [decide_eq_true h1]
        obtain ⟨m, hm⟩ : ∃ m : Nat, (n : Int) % ((B.length : Nat) - 1) = m ∧ m + 1 < B.length := ⟨n % (B.length - 1), by
          rw [show ((B.length : Nat) : Int) - 1 = ((B.length - 1 : Nat) : Int) by omega]
          rfl, by have := Nat.mod_lt n (show 0 < B.length - 1 by omega); omega⟩
        obtain ⟨hm, hm2⟩ := hm
        obtain ⟨x, hx⟩ : ∃ x, B[m]? = some x := ⟨_, List.getElem?_eq_getElem (by omega)⟩
        obtain ⟨y, hy⟩ : ∃ y, B[m + 1]? = some y := ⟨_, List.getElem?_eq_getElem hm2⟩
        refine iteT ⟨_, rfl, q, _, rfl, .inl (.of (s1 _ _ hq)), fun g ng => ?_⟩
        have s2 := same_upd (o := .lst (B.map V.str)) ng
        have eg : upd H1 g (.lst (B.map V.str)) g = some (.lst (B.map V.str)) := upd_same
        have hgp : p ≠ g := ne_of_none e1 ng
        have hgq : q ≠ g := ne_of_none (s1 _ _ hq) ng
        have ngH := s1.free ng
        generalize upd H1 g (.lst (B.map V.str)) = H2 at s2 eg ⊢
        have s12 := s1.trans s2
        refine ⟨_, rfl, _, rfl, q, _, rfl, .inl (.of (s12 _ _ hq)), _, _, rfl, rfl, _, _, rfl, rfl, (by show (0 : Int) < ((B.map V.str).length : Nat) - 1; rw [List.length_map]; omega), ?_⟩
        dsimp only
        rw [List.length_map, hm]
        -- turned[k] = names[k + 1]
        refine ⟨_, rfl, _, rfl, _, _, rfl, rfl, q, _, _, .str y, rfl, rfl, .of (s12 _ _ hq), at_of (j := m + 1) (by omega) (by rw [List.getElem?_map, hy]; rfl), ?_⟩
        refine ⟨_, rfl, _, rfl, g, _, _, m, rfl, rfl, eg, ixN_nat rfl (by rw [List.length_map]; omega), ?_⟩
        have hq3 : upd H2 g (.lst ((B.map V.str).set m (.str y))) q = some (.lst (B.map V.str)) := by rw [upd_ne hgq]; exact s12 _ _ hq
        refine ⟨_, rfl, _, rfl, q, _, _, .str x, rfl, rfl, .of hq3, at_of (j := m) rfl (by rw [List.getElem?_map, hx]; rfl), ?_⟩
        refine ⟨_, rfl, _, rfl, _, _, rfl, rfl, g, _, _, m + 1, rfl, rfl, upd_same, ixN_nat (by omega) (by rw [List.length_set, List.length_map]; omega), ?_⟩
        rw [upd_upd]
        have el : ((B.map V.str).set m (.str y)).set (m + 1) (.str x) = ((B.set m y).set (m + 1) x).map V.str := by rw [List.map_set, List.map_set]
        rw [el]
        have s3 : Same H (upd H2 g (.lst (((B.set m y).set (m + 1) x).map V.str))) := fun b o e => by
          rw [upd_ne (ne_of_none e ngH)]
          exact s12 _ _ e
        have e3 : upd H2 g (.lst (((B.set m y).set (m + 1) x).map V.str)) g = some (.lst (((B.set m y).set (m + 1) x).map V.str)) := upd_same
        have p3 : upd H2 g (.lst (((B.set m y).set (m + 1) x).map V.str)) p = some (.lst (ts.map V.str)) := by rw [upd_ne hgp]; exact s2 _ _ e1
        generalize upd H2 g (.lst (((B.set m y).set (m + 1) x).map V.str)) = H3 at s3 e3 p3 ⊢
        have mem3 : ∀ r ∈ (B.set m y).set (m + 1) x, r ∈ B := fun r hr => by
          rcases List.mem_or_eq_of_mem_set hr with h | h
          · rcases List.mem_or_eq_of_mem_set h with h | h
            · exact h
            · rw [h]; exact List.mem_of_getElem? hy
          · rw [h]; exact List.mem_of_getElem? hx
        refine ⟨_, rfl, .inl ⟨rfl, _, .inl (.inl p3)⟩, ⟨_, rfl⟩, _, rfl, _, g, _, rfl, rfl, .inl (.of e3), join_size (by rw [List.length_set, List.length_set]; omega) (fun r hr => hsz r (mem3 r hr)), p, _, _, rfl, rfl, p3, by rw [List.length_map]; exact small1000 (by omega), ?_⟩
        have s4 : Same H (upd H3 p (.lst (ts.map V.str ++ [.str (Txt.join " " ((B.set m y).set (m + 1) x))]))) := fun b o e => by
          rw [upd_ne (ne_of_none e np)]
          exact s3 _ _ e
        have p4 : upd H3 p (.lst (ts.map V.str ++ [.str (Txt.join " " ((B.set m y).set (m + 1) x))])) p = some (.lst ((ts ++ [Txt.join " " ((B.set m y).set (m + 1) x)]).map V.str)) := by rw [upd_same, List.map_append]; rfl
        generalize upd H3 p (.lst (ts.map V.str ++ [.str (Txt.join " " ((B.set m y).set (m + 1) x))])) = H4 at s4 p4 ⊢
        have js2 : (B.map (·.length)).sum + B.length * ("  " : Str).length ≤ 16777216 := by
          have := join_size (B := B) (by omega) hsz
          have e1 : (" " : Str).length = 1 := by decide
          have e2 : ("  " : Str).length = 2 := by decide
          rw [e1] at this
          rw [e2]
          have h3 : ∀ {B : List Str}, (∀ r ∈ B, r.length ≤ 1000) → (B.map (·.length)).sum ≤ B.length * 1000 := by
            intro B hs
            induction B with
            | nil => exact Nat.le_refl _
            | cons a t ih =>
              have h1 := hs a List.mem_cons_self
              have h2 := ih fun r hr => hs r (List.mem_cons_of_mem _ hr)
              rw [List.map_cons, List.sum_cons, List.length_cons]
              omega
          have := h3 hsz
          omega
        refine ⟨_, rfl, .inl ⟨rfl, _, .inl (.inl p4)⟩, ⟨_, rfl⟩, _, rfl, _, q, B, rfl, rfl, .inl (.of (s4 _ _ hq)), js2, p, _, _, rfl, rfl, p4, by rw [List.length_map, List.length_append, List.length_singleton]; exact small1000 (by omega), ?_⟩
        refine ⟨_, _, ts ++ [Txt.join " " ((B.set m y).set (m + 1) x)] ++ [Txt.join "  " B], rfl, ?_, ?_, ?_, ?_⟩
        · intro b o e
          rw [upd_ne (ne_of_none e np)]
          exact s4 _ _ e
        · rw [upd_same, List.map_append (l₁ := ts ++ _)]
          rfl
        · rw [List.length_append, List.length_append, List.length_singleton, List.length_singleton]; omega
        · intro t h
          rcases List.mem_append.mp h with h | h
          · rcases List.mem_append.mp h with h | h
            · exact ht t h
            · rw [List.mem_singleton.mp h]; exact bad7 hB hx hy
          · rw [List.mem_singleton.mp h]; exact bad8 hB (by omega)
      · rw [decide_eq_false h1]
        exact iteF ⟨none, none, ts, rfl, s1, e1, by omega, ht⟩
    rintro σ H2 ⟨u5, u6, ts2, rfl, s2, e2, lt2, ht2⟩
    exact ⟨_, rfl, k H2 p ts2 s2 np e2 (by omega) ht2⟩
end
end K87
namespace K87
open PySem PySem.Spec PyProof.Rows L2 Rg
theorem parts_tx {B : List Str} (h : B.Sublist Rs) : partsT (txB B) = B := by
  unfold partsT
  by_cases z : B = []
  · subst z
    rw [if_pos (by unfold txB; rw [if_pos rfl])]
  · rw [if_neg (txB_ne h z), txB_split h z]
theorem tx_len {B : List Str} (h : B.Sublist Rs) : (txB B).length ≤ 5000 := by
  unfold txB
  split
  · decide
  · have := join_len (B := B) (k := 20) fun r hr => by have := Rs_size r (h.subset hr); omega
    have : B.length * 21 ≤ 12 * 21 := Nat.mul_le_mul_right _ (lB h)
    omega
def W5 : List Str := ["copy", "", "none", "told ", "first"]
theorem bad5w : ∀ r ∈ W5, r ∉ Rs ∧ r.length ≤ 1000 := by decide +kernel
section
variable {P : Program} {w : World} {K : PySem.W.Frag} {mg : Str → Option Value} {base : Heap}
def sp_law (K : PySem.W.Frag) : Sp := fun vs H Q _ => ∃ (a : Addr) (ns : List Int), vs = [.ref a] ∧ SqL K H a (ns.map V.int) ∧ ns.length ≤ 63 ∧ ∀ H', Q (.bl true) H'
theorem ok_law (T : Tx K mg) : FnOk P w K mg base CX0 5 T.f_law T.fd_law ["_law_script"] (sp_law K) := by
  refine T.F_law.ok sc_law (fun vs H Q E h => ?_) (fun cdv A0 outer s H vs Q E hr h => ?_)
  · obtain ⟨_, _, rfl, _⟩ := h; rfl
  · obtain ⟨a, ns, rfl, hS, hlen, k⟩ := h
    have hr1 : Room 1 _ := hr.mono (by decide)
    have hr2 : Room 2 _ := hr.mono (by decide)
    have hr3 : Room 3 _ := hr.mono (by decide)
    refine ⟨_, (pss_cons (ps_set (i := 1) sc_law.nd rfl (.inl rfl) (pe_call (ok_Lfeed T) hr1 rfl T.mg_Lfeed T.F_Lfeed.kp (b_Lfeed T) .nil pass0 (pa_cons (pv 0) pa_nil)))
      (pss_cons (ps_set (i := 2) sc_law.nd rfl (.inl rfl) (pe_op op_add (pe_call (ok_Lpick T) hr1 rfl T.mg_Lpick T.F_Lpick.kp (b_Lpick T) .nil pass0 (pa_cons (pv 1) (pa_cons pe_int pa_nil))) (pe_op op_mul pe_int (pe_call (ok_Lpick T) hr1 rfl T.mg_Lpick T.F_Lpick.kp (b_Lpick T) .nil pass0 (pa_cons (pv 1) (pa_cons pe_int pa_nil))))))
      (pss_cons (ps_set (i := 3) sc_law.nd rfl (.inl rfl) (pe_op op_add (pe_call (ok_Lpick T) hr1 rfl T.mg_Lpick T.F_Lpick.kp (b_Lpick T) .nil pass0 (pa_cons (pv 1) (pa_cons pe_int pa_nil))) (pe_op op_mul pe_int (pe_call (ok_Lpick T) hr1 rfl T.mg_Lpick T.F_Lpick.kp (b_Lpick T) .nil pass0 (pa_cons (pv 1) (pa_cons pe_int pa_nil))))))
      (pss_cons (ps_set (i := 4) sc_law.nd rfl (.inl rfl) (pe_call (ok_Lpick T) hr1 rfl T.mg_Lpick T.F_Lpick.kp (b_Lpick T) .nil pass0 (pa_cons (pv 1) (pa_cons pe_int pa_nil))))
      (pss_cons (ps_set (i := 5) sc_law.nd rfl (.inr rfl) (pe_call (ok_Lnames T) hr2 rfl T.mg_Lnames T.F_Lnames.kp (b_Lnames T) .nil pass0 (pa_cons (pv 2) pa_nil)))
      (pss_cons (ps_set (i := 6) sc_law.nd rfl (.inr rfl) (pe_call (ok_Lnames T) hr2 rfl T.mg_Lnames T.F_Lnames.kp (b_Lnames T) .nil pass0 (pa_cons (pv 3) pa_nil)))
      (pss_cons (ps_set (i := 7) sc_law.nd rfl (.inl rfl) (pe_smethS T.mg_Book T.cr_Book T.sm_Book_of_number (ok_of_number T) hr3 (b_Book_of_number T) passL0 (pa_cons (pv 2) pa_nil)))
      (pss_cons (ps_set (i := 8) sc_law.nd rfl (.inl rfl) (pe_makeS T.mk_Book (ok_RuleSet_init T) hr2 rfl T.mg_Book (b_RuleSet___init__ T) passL0 (pa_cons (pe_op op_cat (pe_listRev rfl rfl T.b_list rfl T.b_reversed (pv 6)) (pv 6)) pa_nil)))
      (pss_cons (ps_if (PW.pt (pw_or (pt_not (pt_val (pe_call (ok_Lis_book T) hr3 rfl T.mg_Lis_book T.F_Lis_book.kp (b_Lis_book T) .nil pass0 (pa_cons (pv 7) (pa_cons (pv 5) pa_nil))))) (pw_or1 (pt_not (pt_val (pe_call (ok_Lis_book T) hr3 rfl T.mg_Lis_book T.F_Lis_book.kp (b_Lis_book T) .nil pass0 (pa_cons (pv 8) (pa_cons (pv 6) pa_nil))))))))
        (pss_one (ps_ret pe_bl))
        pss_nil)
      (pss_cons (ps_if (PW.pt (pw_or (pt_not (pt_val (pe_call (ok_Lis_book T) hr3 rfl T.mg_Lis_book T.F_Lis_book.kp (b_Lis_book T) .nil pass0 (pa_cons (pe_smethS T.mg_Book T.cr_Book T.sm_Book_read (ok_read T) hr3 (b_Book_read T) passL0 (pa_cons (pe_meth0 (pv 7) T.cl_Book T.bm_text (ok_text T) hr1 (b_RuleSet_text T) .nil pass0) pa_nil)) (pa_cons (pv 5) pa_nil))))) (pw_or1 (pt_not (pt_val (pe_call (ok_Lis_book T) hr3 rfl T.mg_Lis_book T.F_Lis_book.kp (b_Lis_book T) .nil pass0 (pa_cons (pe_makeS T.mk_Book (ok_RuleSet_init T) hr2 rfl T.mg_Book (b_RuleSet___init__ T) passL0 (pa_cons (pe_callTy call_tuple_of rfl T.b_tuple (by decide +kernel) (pa_cons (pv 5) pa_nil)) pa_nil)) (pa_cons (pv 5) pa_nil))))))))
        (pss_one (ps_ret pe_bl))
        pss_nil)
      (pss_cons (ps_setLc (i := 9) (own := [("_law_name", 10)]) (g := gName 10) (tt := _) rfl sc_law.nd rfl rfl (sw_true rfl rfl rfl (by decide +kernel)) (pi_list (pe_call0 (ok_Lrules T) hr1 rfl T.mg_Lrules T.F_Lrules.kp (b_Lrules T) .nil pass0)) (blkOk_by (N := ["_law_script", "_law_feed_here", "_law_first", "_law_second", "_law_at", "_law_names_here", "_law_others", "_law_book", "_law_other", "_law_both", "_law_name", "_law_text", "_law_number_here", "_law_word"]) (sc := defScope s_law) (by decide +kernel)) (fun _ _ _ _ _ => pg_name (i := 10) sc_law.nd rfl (Or.inl rfl)) (fun _ _ _ _ _ => pts_one (PW.pt (pw_or (pt_cmpR (op_inK (K := K)) (pv 10) (pv 5) rfl) (pw_or1 (pt_cmpR (op_inK (K := K)) (pv 10) (pv 6) rfl))))) (fun _ _ _ _ _ => (pv 10)))
      (pss_cons (ps_if (pt_not (pt_val (pe_call (ok_Lis_book T) hr3 rfl T.mg_Lis_book T.F_Lis_book.kp (b_Lis_book T) .nil pass0 (pa_cons (pe_op (op_own T.sf_Book T.bm_or (ok_or T) hr3 (b_Book___or__ T)) (pv 7) (pv 8)) (pa_cons (pv 9) pa_nil)))))
        (pss_one (ps_ret pe_bl))
        pss_nil)
      (pss_cons (ps_if (pt_not (pt_val (pe_call (ok_Lis_book T) hr3 rfl T.mg_Lis_book T.F_Lis_book.kp (b_Lis_book T) .nil pass0 (pa_cons (pe_op (op_own T.sf_Book T.bm_sub (ok_sub T) hr3 (b_Book___sub__ T)) (pv 7) (pv 8)) (pa_cons (pe_lc rfl (own := [("_law_name", 10)]) (g := gName 10) (tt := _) sc_law.nd (pi_list (pv 5)) (blkOk_by (N := ["_law_script", "_law_feed_here", "_law_first", "_law_second", "_law_at", "_law_names_here", "_law_others", "_law_book", "_law_other", "_law_both", "_law_name", "_law_text", "_law_number_here", "_law_word"]) (sc := defScope s_law) (by decide +kernel)) (fun _ _ _ _ _ => pg_name (i := 10) sc_law.nd rfl (Or.inl rfl)) (fun _ _ _ _ _ => pts_one (pt_cmpR (op_notInK (K := K)) (pv 10) (pv 6) rfl)) (fun _ _ _ _ _ => (pv 10))) pa_nil)))))
        (pss_one (ps_ret pe_bl))
        pss_nil)
      (pss_cons (ps_if (PW.pt (pw_or (pt_not (pt_val (pe_call (ok_Lis_book T) hr3 rfl T.mg_Lis_book T.F_Lis_book.kp (b_Lis_book T) .nil pass0 (pa_cons (pv 7) (pa_cons (pv 5) pa_nil))))) (pw_or1 (pt_not (pt_val (pe_call (ok_Lis_book T) hr3 rfl T.mg_Lis_book T.F_Lis_book.kp (b_Lis_book T) .nil pass0 (pa_cons (pv 8) (pa_cons (pv 6) pa_nil))))))))
        (pss_one (ps_ret pe_bl))
        pss_nil)
      (pss_cons (ps_if (PW.pt (pw_or (pt_not (pt_val (pe_call (ok_Lis_book T) hr3 rfl T.mg_Lis_book T.F_Lis_book.kp (b_Lis_book T) .nil pass0 (pa_cons (pe_smeth0 T.mg_Book T.cr_Book T.sm_Book_full (ok_full T) hr3 (b_Book_full T) passLN) (pa_cons (pe_call0 (ok_Lrules T) hr1 rfl T.mg_Lrules T.F_Lrules.kp (b_Lrules T) .nil pass0) pa_nil))))) (pw_or1 (pt_not (pt_val (pe_call (ok_Lis_book T) hr3 rfl T.mg_Lis_book T.F_Lis_book.kp (b_Lis_book T) .nil pass0 (pa_cons (pe_makeS T.mk_Book (ok_RuleSet_init T) hr2 rfl T.mg_Book (b_RuleSet___init__ T) passL0 (pa_cons (pe_lst pa_nil) pa_nil)) (pa_cons (pe_lst pa_nil) pa_nil))))))))
        (pss_one (ps_ret pe_bl))
        pss_nil)
      (pss_cons (ps_for PassesOwn.never rfl (pi_list (pe_call (ok_Lspoilt T) hr1 rfl T.mg_Lspoilt T.F_Lspoilt.kp (b_Lspoilt T) .nil pass0 (pa_cons (pv 5) (pa_cons (pv 4) pa_nil)))) (pg_name (i := 11) sc_law.nd rfl (.inl rfl))
        (pss_one (ps_if (pt_not (pt_val (pe_call (ok_Lbad_text T) hr rfl T.mg_Lbad_text T.F_Lbad_text.kp (b_Lbad_text T) .nil pass0 (pa_cons (pv 11) pa_nil))))
          (pss_one (ps_ret pe_bl))
          pss_nil)))
      (pss_cons (ps_for PassesOwn.never rfl (pi_list (pe_lst (pa_cons (pe_un un_neg pe_int) (pa_cons (pe_op op_sub (pe_un un_neg pe_int) (pv 2)) (pa_cons pe_int (pa_cons (pe_op op_add pe_int (pv 3)) pa_nil)))))) (pg_name (i := 12) sc_law.nd rfl (.inl rfl))
        (pss_one (ps_if (pt_not (pt_val (pe_call (ok_Lbad_number T) hr rfl T.mg_Lbad_number T.F_Lbad_number.kp (b_Lbad_number T) .nil pass0 (pa_cons (pv 12) pa_nil))))
          (pss_one (ps_ret pe_bl))
          pss_nil)))
      (pss_cons (ps_for PassesOwn.never rfl (pi_list (pe_lst (pa_cons pe_str (pa_cons pe_str (pa_cons pe_str (pa_cons pe_str (pa_cons pe_str pa_nil))))))) (pg_name (i := 13) sc_law.nd rfl (.inl rfl))
        (pss_one (ps_if (PW.pt (pw_or (pt_not (pt_val (pe_call (ok_Lbad_names T) hr rfl T.mg_Lbad_names T.F_Lbad_names.kp (b_Lbad_names T) .nil pass0 (pa_cons (pe_op op_cat (pv 5) (pe_lst (pa_cons (pv 13) pa_nil))) pa_nil)))) (pw_or1 (pt_not (pt_val (pe_call (ok_Lbad_names T) hr rfl T.mg_Lbad_names T.F_Lbad_names.kp (b_Lbad_names T) .nil pass0 (pa_cons (pe_op op_cat (pe_lst (pa_cons (pv 13) pa_nil)) (pv 6)) pa_nil)))))))
          (pss_one (ps_ret pe_bl))
          pss_nil)))
      (pss_one (ps_ret (pe_and (pe_cmpR op_eq (pe_callB call_len_seq rfl T.b_len (by decide +kernel) (pa_cons (pe_cv T.mg_RuleSet T.cr_RuleSet ⟨_, T.tv_RuleSet_RULES⟩) pa_nil)) pe_int (nomark _)) (pe_one (pe_cmpR (op_eqD hr.units) (pe_callTy call_list_of rfl T.b_list (by decide +kernel) (pa_cons (pe_cv T.mg_Book T.cr_Book ⟨_, T.tv_Book_RULES⟩) pa_nil)) (pe_call0 (ok_Lrules T) hr1 rfl T.mg_Lrules T.F_Lrules.kp (b_Lrules T) .nil pass0) (nomark _)))))))))))))))))))))))), ?_⟩
    refine ⟨_, rfl, a, ns, rfl, hS, hlen, fun H1 fa fs S1 nfa efa lfs => ?_⟩
    refine ⟨_, rfl, fa, fs, 64, rfl, efa, by decide, fun r1 f1 r10 r11 fl1 => ?_⟩
    refine ⟨_, rfl, fa, f1, 64, rfl, upd_same, by decide, fun r2 f2 r20 r21 fl2 => ⟨_, _, rfl, rfl, .inl ⟨by decide, by decide⟩, _, _, rfl, rfl, ?_⟩⟩
    refine ⟨_, rfl, fa, f2, 64, rfl, upd_same, by decide, fun r3 f3 r30 r31 fl3 => ?_⟩
    refine ⟨_, rfl, fa, f3, 64, rfl, upd_same, by decide, fun r4 f4 r40 r41 fl4 => ⟨_, _, rfl, rfl, .inl ⟨by decide, by decide⟩, _, _, rfl, rfl, ?_⟩⟩
    refine ⟨_, rfl, fa, f4, 99, rfl, upd_same, by decide, fun r5 f5 r50 r51 fl5 => ?_⟩
    obtain ⟨n1, e1⟩ : ∃ n1 : Nat, r1 + 64 * r2 = n1 := ⟨(r1 + 64 * r2).toNat, by omega⟩
    obtain ⟨n2, e2⟩ : ∃ n2 : Nat, r3 + 64 * r4 = n2 := ⟨(r3 + 64 * r4).toNat, by omega⟩
    obtain ⟨n5, rfl⟩ : ∃ n5 : Nat, r5 = n5 := ⟨r5.toNat, by omega⟩
    dsimp only
    rw [e1, e2]
    generalize upd _ fa (.lst (f5.map V.int)) = HA
    have hB1 : (nm Rs n1).Sublist Rs := nm_sub
    have hB2 : (nm Rs n2).Sublist Rs := nm_sub
    have l1 := lB hB1
    have l2 := lB hB2
    -- the names
    refine ⟨_, rfl, n1, rfl, fun HB q1 sB nq1 eq1 => ?_⟩
    refine ⟨_, rfl, n2, rfl, fun HC q2 sC nq2 eq2 => ?_⟩
    have eq1 := sC _ _ eq1
    -- the books
    refine ⟨_, rfl, n1, rfl, fun m em hm HD x1 sD nx1 bk1 => ?_, fun h => by omega⟩
    obtain rfl : m = n1 := by omega
    have eq1 := sD _ _ eq1
    have eq2 := sD _ _ eq2
    generalize nm Rs m = B1 at *
    generalize nm Rs n2 = B2 at *
    have z1 : ∀ r ∈ B1, r.length ≤ 1000 := fun r hr => by have := Rs_size r (hB1.subset hr); omega
    have z2 : ∀ r ∈ B2, r.length ≤ 1000 := fun r hr => by have := Rs_size r (hB2.subset hr); omega
    refine ⟨_, rfl, q2, _, rfl, .of eq2, fun g ng => ?_⟩
    have s1 := same_upd (o := .lst (B2.map V.str).reverse) ng
    have eg : upd HD g (.lst (B2.map V.str).reverse) g = some (.lst (B2.map V.str).reverse) := upd_same
    generalize upd HD g (.lst (B2.map V.str).reverse) = HE at s1 eg ⊢
    refine ⟨_, rfl, g, q2, _, _, rfl, rfl, eg, s1 _ _ eq2, ?_, fun p np => ?_⟩
    · rw [List.length_reverse, List.length_map]
      have : 100 ≤ sizeLine := by decide
      omega
    have s2 := same_upd (o := .lst ((B2.map V.str).reverse ++ B2.map V.str)) np
    have ep : upd HE p (.lst ((B2.map V.str).reverse ++ B2.map V.str)) p = some (.lst ((B2.reverse ++ B2).map V.str)) := by rw [upd_same, List.map_append, List.map_reverse]
    generalize upd HE p (.lst ((B2.map V.str).reverse ++ B2.map V.str)) = HF at s2 ep ⊢
    have sDF := s1.trans s2
    have mem2 : ∀ r ∈ B2.reverse ++ B2, r ∈ B2 := fun r hr => (List.mem_append.mp hr).elim (fun z => List.mem_reverse.mp z) id
    dsimp only [tNil, List.nil_append, List.cons_append]
    refine book_madeR (.inl (.of ep)) (by rw [List.length_append, List.length_reverse]; omega) (fun r hr => z2 r (mem2 r hr)) (fun _ HG x2 sG nx2 bk2 => ?_) (fun ⟨r, hr, hn⟩ => absurd (hB2.subset (mem2 r hr)) hn)
    rw [ord_congr (B' := B2) fun r _ => ⟨mem2 r, fun h => List.mem_append_right _ h⟩, ord_sub hB2] at bk2
    have sDG := sDF.trans sG
    have eq1 := sDG _ _ eq1
    have eq2 := sDG _ _ eq2
    have bk1 := bk1.same sDG
    clear sDG sDF s1 s2 sG
    -- they are books
    refine ⟨_, rfl, _, rfl, x1, q1, B1, rfl, bk1, eq1, hB1, fun H2 s2 => ⟨_, rfl, iteF ⟨_, rfl, _, rfl, x2, q2, B2, rfl, bk2.same s2, s2 _ _ eq2, hB2, fun H3 s3 => ⟨_, rfl, iteF ?_⟩⟩⟩⟩
    have s23 := s2.trans s3
    have eq1 := s23 _ _ eq1
    have eq2 := s23 _ _ eq2
    have bk1 := bk1.same s23
    have bk2 := bk2.same s23
    clear s23 s2 s3
    -- read, tuple
    obtain ⟨dx1, tn1, o1, _⟩ := bk1.ob
    refine ⟨_, rfl, x1, dx1, _, rfl, o1, rfl, x1, B1, rfl, bk1, hB1, txB B1, rfl, tx_len hB1, ?_, ?_, fun _ H4 x3 s4 nx3 bk3 => ?_, fun hne => absurd (by rw [parts_tx hB1, ord_sub hB1]) hne⟩
    · rw [parts_tx hB1]; omega
    · rw [parts_tx hB1]; exact sub_ok hB1
    rw [parts_tx hB1] at bk3
    refine ⟨_, rfl, x3, q1, B1, rfl, bk3, s4 _ _ eq1, hB1, fun H5 s5 => ⟨_, rfl, iteF ?_⟩⟩
    have s45 := s4.trans s5
    refine ⟨_, rfl, q1, _, rfl, .inl ⟨.of (s45 _ _ eq1), fun t nt => ?_⟩⟩
    have s6 := same_upd (o := .tup (B1.map V.str)) nt
    have et : upd H5 t (.tup (B1.map V.str)) t = some (.tup (B1.map V.str)) := upd_same
    generalize upd H5 t (.tup (B1.map V.str)) = H6 at s6 et ⊢
    dsimp only [tNil, List.nil_append, List.cons_append]
    refine book_madeR (.inr (.of et)) (by omega) z1 (fun _ H7 x4 s7 nx4 bk4 => ?_) (fun ⟨r, hr, hn⟩ => absurd (hB1.subset hr) hn)
    rw [ord_sub hB1] at bk4
    have s37 := (s45.trans s6).trans s7
    refine ⟨_, rfl, x4, q1, B1, rfl, bk4, s37 _ _ eq1, hB1, fun H8 s8 => ⟨_, rfl, iteF ?_⟩⟩
    have s38 := s37.trans s8
    have eq1 := s38 _ _ eq1
    have eq2 := s38 _ _ eq2
    have bk1 := bk1.same s38
    have bk2 := bk2.same s38
    clear s38 s37 s45 s4 s5 s6 s7 s8 o1
    -- both
    refine ⟨rfl, fun H9 p9 s9 np9 ep9 => ⟨p9, rfl, ⟨_, .of ep9⟩, fun D hD => ?_⟩⟩
    have eq1 := s9 _ _ eq1
    have eq2 := s9 _ _ eq2
    have bk1 := bk1.same s9
    have bk2 := bk2.same s9
    refine lc_list (K := K) (a := p9) (xs := Rs.map V.str) (PvS H9 D Rs fun r => decide (r ∈ B1 ++ B2)) (PvS.start (Same.refl _) hD) (fun _ _ _ h => .of (h.same _ _ ep9)) ?_ ?_
    · rintro i x HX hx hP
      obtain ⟨r, rfl, hr'⟩ := str_at hx
      refine ⟨rfl, ?_⟩
      refine ⟨_, rfl, _, rfl, q1, _, rfl, .inl (.of (hP.same _ _ eq1)), rfl, flat_str, _, rfl, ?_⟩
      rw [if_neg Bool.false_ne_true, inV_str]
      by_cases z : r ∈ B1
      · rw [decide_eq_true z]
        exact iteT (iteT ⟨_, rfl, _, hP.at_, PvS.len (by decide), hP.yes hD hr' (decide_eq_true (List.mem_append_left _ z))⟩)
      · rw [decide_eq_false z]
        refine iteF ⟨_, rfl, _, rfl, q2, _, rfl, .inl (.of (hP.same _ _ eq2)), rfl, flat_str, _, rfl, ?_⟩
        rw [if_neg Bool.false_ne_true, inV_str]
        by_cases y : r ∈ B2
        · rw [decide_eq_true y]
          exact iteT ⟨_, rfl, _, hP.at_, PvS.len (by decide), hP.yes hD hr' (decide_eq_true (List.mem_append_right _ y))⟩
        · rw [decide_eq_false y]
          exact iteF (hP.no hr' (decide_eq_false (by simp [z, y])))
    intro H10 hP
    obtain ⟨s10, e10⟩ := PvS.all (l := Rs) hP
    have e10 : H10 D = some (.lst ((ord (B1 ++ B2)).map V.str)) := e10
    have eq1 := s10 _ _ eq1
    have eq2 := s10 _ _ eq2
    have bk1 := bk1.same s10
    have bk2 := bk2.same s10
    clear s9 s10 ep9
    obtain ⟨dx1, tn1, o1, _⟩ := bk1.ob
    obtain ⟨dx2, tn2, o2, _⟩ := bk2.ob
    refine ⟨_, rfl, _, rfl, x1, dx1, _, x2, dx2, _, rfl, rfl, o1, o2, x1, x2, B1, B2, rfl, bk1, bk2, fun H11 x5 s11 nx5 bk5 => ?_⟩
    refine ⟨_, rfl, x5, D, _, rfl, bk5, s11 _ _ e10, ord_subl, fun H12 s12 => ⟨_, rfl, iteF ?_⟩⟩
    have s := s11.trans s12
    have eq1 := s _ _ eq1
    have eq2 := s _ _ eq2
    have bk1 := bk1.same s
    have bk2 := bk2.same s
    clear s s11 s12 o1 o2
    -- without
    obtain ⟨dx1, tn1, o1, _⟩ := bk1.ob
    obtain ⟨dx2, tn2, o2, _⟩ := bk2.ob
    refine ⟨_, rfl, _, rfl, x1, dx1, _, x2, dx2, _, rfl, rfl, o1, o2, x1, x2, B1, B2, rfl, bk1, bk2, hB1, fun H13 x6 s13 nx6 bk6 => ?_⟩
    have eq1 := s13 _ _ eq1
    have eq2 := s13 _ _ eq2
    have bk1 := bk1.same s13
    have bk2 := bk2.same s13
    clear s13 o1 o2
    refine ⟨_, rfl, q1, rfl, ⟨_, .of eq1⟩, fun D2 hD2 => ?_⟩
    refine lc_list (K := K) (a := q1) (xs := B1.map V.str) (PvS H13 D2 B1 fun r => decide (r ∉ B2)) (PvS.start (Same.refl _) hD2) (fun _ _ _ h => .of (h.same _ _ eq1)) ?_ ?_
    · rintro i x HX hx hP
      obtain ⟨r, rfl, hr'⟩ := str_at hx
      refine ⟨rfl, ?_⟩
      refine ⟨_, rfl, _, rfl, q2, _, rfl, .inl (.of (hP.same _ _ eq2)), rfl, flat_str, _, rfl, ?_⟩
      rw [if_pos rfl, inV_str]
      by_cases y : r ∈ B2
      · rw [decide_eq_true y]
        exact iteF (hP.no hr' (decide_eq_false (by simpa using y)))
      · rw [decide_eq_false y]
        exact iteT ⟨_, rfl, _, hP.at_, PvS.len (by omega), hP.yes hD2 hr' (decide_eq_true y)⟩
    intro H14 hP
    have hP : PvS H13 D2 B1 (fun r => decide (r ∉ B2)) B1.length H14 := by rw [List.length_map] at hP; exact hP
    obtain ⟨s14, e14⟩ := hP.all
    refine ⟨x6, D2, _, rfl, bk6.same s14, e14, List.filter_sublist.trans hB1, fun H15 s15 => ⟨_, rfl, iteF ?_⟩⟩
    have s := s14.trans s15
    have eq1 := s _ _ eq1
    have eq2 := s _ _ eq2
    have bk1 := bk1.same s
    have bk2 := bk2.same s
    clear s s14 s15
    -- they stayed
    refine ⟨_, rfl, _, rfl, x1, q1, B1, rfl, bk1, eq1, hB1, fun H2 s2 => ⟨_, rfl, iteF ⟨_, rfl, _, rfl, x2, q2, B2, rfl, bk2.same s2, s2 _ _ eq2, hB2, fun H3 s3 => ⟨_, rfl, iteF ?_⟩⟩⟩⟩
    have s := s2.trans s3
    have eq1 := s _ _ eq1
    have eq2 := s _ _ eq2
    clear s s2 s3 bk1 bk2
    -- full, none
    refine ⟨rfl, fun H4 x7 s4 nx7 bk7 => ⟨rfl, fun H5 p5 s5 np5 ep5 => ⟨x7, p5, Rs, rfl, bk7.same s5, ep5, List.Sublist.refl _, fun H6 s6 => ⟨_, rfl, iteF ?_⟩⟩⟩⟩
    refine ⟨Nat.zero_le _, fun g7 ng7 => ?_⟩
    have s7 := same_upd (o := .lst []) ng7
    have e7 : upd H6 g7 (.lst []) g7 = some (.lst (([] : List Str).map V.str)) := upd_same
    generalize upd H6 g7 (.lst []) = H7 at s7 e7 ⊢
    dsimp only [tNil, List.nil_append, List.cons_append]
    refine book_madeR (.inl (.of e7)) (by decide) (fun r hr => nomatch hr) (fun _ H8 x8 s8 nx8 bk8 => ?_) (fun ⟨r, hr, hn⟩ => nomatch hr)
    rw [show ord [] = [] from ord_sub (List.nil_sublist _)] at bk8
    refine ⟨Nat.zero_le _, fun g9 ng9 => ?_⟩
    have s9 := same_upd (o := .lst []) ng9
    have e9 : upd H8 g9 (.lst []) g9 = some (.lst (([] : List Str).map V.str)) := upd_same
    generalize upd H8 g9 (.lst []) = H9' at s9 e9 ⊢
    refine ⟨x8, g9, [], rfl, bk8.same s9, e9, List.nil_sublist _, fun H10' s10 => ⟨_, rfl, iteF ?_⟩⟩
    have s := (((((s4.trans s5).trans s6).trans s7).trans s8).trans s9).trans s10
    have eq1 := s _ _ eq1
    have eq2 := s _ _ eq2
    clear s s4 s5 s6 s7 s8 s9 s10
    -- spoilt texts
    refine ⟨_, rfl, _, rfl, q1, B1, n5, rfl, eq1, hB1, fun HT pT ts sT npT epT ltT bad => ?_⟩
    refine ⟨pT, rfl, ⟨_, .of epT⟩, ?_⟩
    refine for_list (K := K) (a := pT) (xs := ts.map V.str) (fun i σ H' => ∃ u11 : Option V, σ = [some (.ref a), some (.ref fa), some (.int m), some (.int n2), some (.int n5), some (.ref q1), some (.ref q2), some (.ref x1), some (.ref x2), some (.ref D), none, u11, none, none] ∧ Same HT H') ⟨_, rfl, Same.refl _⟩ (fun _ _ _ _ ⟨_, _, e⟩ => .of (e _ _ epT)) ?_ ?_
    · rintro i x σ H' hx ⟨u11, rfl, sx⟩
      obtain ⟨t, rfl, ht⟩ := str_at hx
      obtain ⟨b1, b2, b3, b4⟩ := bad t (List.mem_of_getElem? ht)
      exact ⟨_, rfl, t, rfl, b1, b2, b3, b4, fun H2 s2 => ⟨_, rfl, iteF ⟨_, rfl, sx.trans s2⟩⟩⟩
    rintro σ HU ⟨u11, rfl, sU⟩
    have s := sT.trans sU
    have eq1 := s _ _ eq1
    have eq2 := s _ _ eq2
    clear s sT sU
    -- numbers
    refine ⟨_, rfl, _, rfl, _, rfl, _, _, rfl, rfl, _, rfl, _, _, rfl, rfl, (by show 4 ≤ sizeLine; decide), fun lN nlN => ?_⟩
    have sN := same_upd (o := .lst ([-1, -1 - (m : Int), 4096, 4096 + (n2 : Int)].map V.int)) nlN
    have eN : upd HU lN (.lst ([-1, -1 - (m : Int), 4096, 4096 + (n2 : Int)].map V.int)) lN = some (.lst ([-1, -1 - (m : Int), 4096, 4096 + (n2 : Int)].map V.int)) := upd_same
    change Same HU (upd HU lN (.lst [V.int _, V.int _, V.int _, V.int _])) at sN
    change upd HU lN (.lst [V.int _, V.int _, V.int _, V.int _]) lN = _ at eN
    generalize upd HU lN (.lst [V.int _, V.int _, V.int _, V.int _]) = HV at sN eN ⊢
    refine ⟨lN, rfl, ⟨_, .of eN⟩, ?_⟩
    refine for_list (K := K) (a := lN) (xs := [-1, -1 - (m : Int), 4096, 4096 + (n2 : Int)].map V.int) (fun i σ H' => ∃ u12 : Option V, σ = [some (.ref a), some (.ref fa), some (.int m), some (.int n2), some (.int n5), some (.ref q1), some (.ref q2), some (.ref x1), some (.ref x2), some (.ref D), none, u11, u12, none] ∧ Same HV H') ⟨_, rfl, Same.refl _⟩ (fun _ _ _ _ ⟨_, _, e⟩ => .of (e _ _ eN)) ?_ ?_
    · rintro i x σ H' hx ⟨u12, rfl, sx⟩
      obtain ⟨n, rfl, hn⟩ : ∃ n : Int, x = .int n ∧ (n < 0 ∨ 4096 ≤ n) := by
        rw [List.getElem?_map] at hx
        obtain ⟨n, h1, h2⟩ := Option.map_eq_some_iff.mp hx
        refine ⟨n, h2.symm, ?_⟩
        have := List.mem_of_getElem? h1
        simp only [List.mem_cons, List.not_mem_nil, or_false] at this
        omega
      exact ⟨_, rfl, n, rfl, hn, fun H2 s2 => ⟨_, rfl, iteF ⟨_, rfl, sx.trans s2⟩⟩⟩
    rintro σ HW ⟨u12, rfl, sW⟩
    have s := sN.trans sW
    have eq1 := s _ _ eq1
    have eq2 := s _ _ eq2
    clear s sN sW
    -- words
    refine ⟨(by show 5 ≤ sizeLine; decide), fun lW nlW => ?_⟩
    have sN := same_upd (o := .lst (W5.map V.str)) nlW
    have eN : upd HW lW (.lst (W5.map V.str)) lW = some (.lst (W5.map V.str)) := upd_same
    change Same HW (upd HW lW (.lst [V.str _, V.str _, V.str _, V.str _, V.str _])) at sN
    change upd HW lW (.lst [V.str _, V.str _, V.str _, V.str _, V.str _]) lW = _ at eN
    generalize upd HW lW (.lst [V.str _, V.str _, V.str _, V.str _, V.str _]) = HY at sN eN ⊢
    have eq1 := sN _ _ eq1
    have eq2 := sN _ _ eq2
    refine ⟨lW, rfl, ⟨_, .of eN⟩, ?_⟩
    refine for_list (K := K) (a := lW) (xs := W5.map V.str) (fun i σ H' => ∃ u13 : Option V, σ = [some (.ref a), some (.ref fa), some (.int m), some (.int n2), some (.int n5), some (.ref q1), some (.ref q2), some (.ref x1), some (.ref x2), some (.ref D), none, u11, u12, u13] ∧ Same HY H') ⟨_, rfl, Same.refl _⟩ (fun _ _ _ _ ⟨_, _, e⟩ => .of (e _ _ eN)) ?_ ?_
    · rintro i x σ H' hx ⟨u13, rfl, sx⟩
      obtain ⟨r, rfl, hr'⟩ := str_at hx
      obtain ⟨w1, w2⟩ := bad5w r (List.mem_of_getElem? hr')
      have eq1 := sx _ _ eq1
      have eq2 := sx _ _ eq2
      refine ⟨_, rfl, _, rfl, (by show 1 ≤ sizeLine; decide), fun g1 ng1 => ?_⟩
      have t1 := same_upd (o := .lst ([r].map V.str)) ng1
      have i1 : upd H' g1 (.lst ([r].map V.str)) g1 = some (.lst ([r].map V.str)) := upd_same
      change Same H' (upd H' g1 (.lst [V.str r])) at t1
      change upd H' g1 (.lst [V.str r]) g1 = _ at i1
      generalize upd H' g1 (.lst [V.str r]) = G1 at t1 i1 ⊢
      refine ⟨_, g1, _, _, rfl, rfl, t1 _ _ eq1, i1, ?_, fun g2 ng2 => ?_⟩
      · rw [List.length_map, List.length_map, List.length_singleton]
        have : 100 ≤ sizeLine := by decide
        omega
      have t2 := same_upd (o := .lst (B1.map V.str ++ [r].map V.str)) ng2
      have i2 : upd G1 g2 (.lst (B1.map V.str ++ [r].map V.str)) g2 = some (.lst ((B1 ++ [r]).map V.str)) := by rw [upd_same, List.map_append]
      generalize upd G1 g2 (.lst (B1.map V.str ++ [r].map V.str)) = G2 at t2 i2 ⊢
      refine ⟨g2, B1 ++ [r], rfl, i2, by rw [List.length_append, List.length_singleton]; omega, fun y hy => (List.mem_append.mp hy).elim (z1 y) fun z => by rw [List.mem_singleton.mp z]; exact w2, ⟨r, by simp, w1⟩, fun G3 t3 => ⟨_, rfl, iteF ?_⟩⟩
      have t13 := (t1.trans t2).trans t3
      have eq2 := t13 _ _ eq2
      refine ⟨_, rfl, (by show 1 ≤ sizeLine; decide), fun g4 ng4 => ?_⟩
      have t4 := same_upd (o := .lst ([r].map V.str)) ng4
      have i4 : upd G3 g4 (.lst ([r].map V.str)) g4 = some (.lst ([r].map V.str)) := upd_same
      change Same G3 (upd G3 g4 (.lst [V.str r])) at t4
      change upd G3 g4 (.lst [V.str r]) g4 = _ at i4
      generalize upd G3 g4 (.lst [V.str r]) = G4 at t4 i4 ⊢
      refine ⟨_, rfl, g4, _, _, _, rfl, rfl, i4, t4 _ _ eq2, ?_, fun g5 ng5 => ?_⟩
      · rw [List.length_map, List.length_map, List.length_singleton]
        have : 100 ≤ sizeLine := by decide
        omega
      have t5 := same_upd (o := .lst ([r].map V.str ++ B2.map V.str)) ng5
      have i5 : upd G4 g5 (.lst ([r].map V.str ++ B2.map V.str)) g5 = some (.lst (([r] ++ B2).map V.str)) := by rw [upd_same, List.map_append]
      generalize upd G4 g5 (.lst ([r].map V.str ++ B2.map V.str)) = G5 at t5 i5 ⊢
      refine ⟨g5, [r] ++ B2, rfl, i5, by rw [List.length_append, List.length_singleton]; omega, fun y hy => (List.mem_append.mp hy).elim (fun z => by rw [List.mem_singleton.mp z]; exact w2) (z2 y), ⟨r, by simp, w1⟩, fun G6 t6 => ⟨_, rfl, iteF ⟨_, rfl, ?_⟩⟩⟩
      exact (((sx.trans t13).trans t4).trans t5).trans t6
    rintro σ HZ ⟨u13, rfl, sZ⟩
    -- the classes' rules
    refine ⟨_, _, rfl, .inr (T.tt_RuleSet_RULES _), rfl, _, rfl, ?_⟩
    rw [show decide (V.int (([] : List V).length : Nat) = V.int 0) = true from by decide]
    refine iteT ⟨_, _, rfl, .inr (T.tt_Book_RULES _), fun gF ngF => ?_⟩
    have t1 := same_upd (o := .lst (Rs.map V.str)) ngF
    have i1 : upd HZ gF (.lst (Rs.map V.str)) gF = some (.lst (Rs.map V.str)) := upd_same
    change Same HZ (upd HZ gF (.lst [V.str _, V.str _, V.str _, V.str _, V.str _, V.str _, V.str _, V.str _, V.str _, V.str _, V.str _, V.str _])) at t1
    change upd HZ gF (.lst [V.str _, V.str _, V.str _, V.str _, V.str _, V.str _, V.str _, V.str _, V.str _, V.str _, V.str _, V.str _]) gF = _ at i1
    generalize upd HZ gF (.lst [V.str _, V.str _, V.str _, V.str _, V.str _, V.str _, V.str _, V.str _, V.str _, V.str _, V.str _, V.str _]) = HZ1 at t1 i1 ⊢
    refine ⟨rfl, fun HZ2 gG tG ngG iG => ⟨_, _, dpT (tG _ _ i1), dpT iG, shT _ Rs_ok, shT _ Rs_ok, ?_⟩⟩
    rw [eqvT, decide_eq_true rfl]
    exact k _
end
end K87
namespace K87
open PySem PySem.Spec PyProof.Rows L2 Rg
theorem law_binds {K : PySem.W.Frag} {mg : Str → Option Value} (T : Tx K mg) (s : Shared) (v : Value) : BindsTo s T.fd_law ⟨[v], []⟩ [("_law_script", v)] := by
  obtain ⟨oc, od, kV, doc, pm, an, cdv, ct, osl, e, lk, hcd⟩ := T.F_law.ex
  rw [e]
  exact .of_eq rfl
theorem fin_F {P : Program} {w : World} {K : PySem.W.Frag} {mg : Str → Option Value} {fa : Addr} (z : Nonempty (Tx K mg)) (hmg : mg "law" = some (.ref fa)) :
    ∃ fd : FuncData, (∀ (s : Shared) (u : Value), BindsTo s fd ⟨[u], []⟩ [("_law_script", u)]) ∧ ∀ base : Heap, K.In base → base.Ns mainGlobals mg → FnOk P w K mg base CX0 5 fa fd ["_law_script"] (sp_law K) := by
  obtain ⟨T⟩ := z
  have e : T.f_law = fa := Value.ref.inj (Option.some.inj (T.mg_law.symm.trans hmg))
  subst e
  exact ⟨T.fd_law, fun s v => law_binds T s v, fun base _ _ => ok_law T⟩
theorem all_mk {w : World} {K : PySem.W.Frag} {h : Heap} {mg : Str → Option Value} (X : K.In h) (G : h.Ns mainGlobals mg)
    {a_written_names : Addr}
    {od_written_names an_written_names : Option Addr} {sl_written_names : Array (Option Value)} {oc_written_names kV_written_names dc_written_names pm_written_names cd_written_names ct_written_names : Value}
    (l_written_names : K.lookup a_written_names = some ⟨oc_written_names, od_written_names, .func (PySem.W.fnOf "written_names" "written_names" (defArgs s_written_names) (defBody s_written_names) (defScope s_written_names) .none kV_written_names dc_written_names pm_written_names an_written_names cd_written_names ct_written_names), sl_written_names⟩)
    (c_written_names : PySem.W.codeIn K cd_written_names "written_names" = true)
    (k_written_names : PySem.W.keepIn K (.ref a_written_names) = true)
    (g_written_names : PySem.W.nsIn K mainGlobals "written_names" = some (some (.ref a_written_names)))
    {a_numbered_names : Addr}
    {od_numbered_names an_numbered_names : Option Addr} {sl_numbered_names : Array (Option Value)} {oc_numbered_names kV_numbered_names dc_numbered_names pm_numbered_names cd_numbered_names ct_numbered_names : Value}
    (l_numbered_names : K.lookup a_numbered_names = some ⟨oc_numbered_names, od_numbered_names, .func (PySem.W.fnOf "numbered_names" "numbered_names" (defArgs s_numbered_names) (defBody s_numbered_names) (defScope s_numbered_names) .none kV_numbered_names dc_numbered_names pm_numbered_names an_numbered_names cd_numbered_names ct_numbered_names), sl_numbered_names⟩)
    (c_numbered_names : PySem.W.codeIn K cd_numbered_names "numbered_names" = true)
    (k_numbered_names : PySem.W.keepIn K (.ref a_numbered_names) = true)
    (g_numbered_names : PySem.W.nsIn K mainGlobals "numbered_names" = some (some (.ref a_numbered_names)))
    {a_Lfeed : Addr}
    {od_Lfeed an_Lfeed : Option Addr} {sl_Lfeed : Array (Option Value)} {oc_Lfeed kV_Lfeed dc_Lfeed pm_Lfeed cd_Lfeed ct_Lfeed : Value}
    (l_Lfeed : K.lookup a_Lfeed = some ⟨oc_Lfeed, od_Lfeed, .func (PySem.W.fnOf "_law_feed" "_law_feed" (defArgs s_Lfeed) (defBody s_Lfeed) (defScope s_Lfeed) .none kV_Lfeed dc_Lfeed pm_Lfeed an_Lfeed cd_Lfeed ct_Lfeed), sl_Lfeed⟩)
    (c_Lfeed : PySem.W.codeIn K cd_Lfeed "_law_feed" = true)
    (k_Lfeed : PySem.W.keepIn K (.ref a_Lfeed) = true)
    (g_Lfeed : PySem.W.nsIn K mainGlobals "_law_feed" = some (some (.ref a_Lfeed)))
    {a_Lpick : Addr}
    {od_Lpick an_Lpick : Option Addr} {sl_Lpick : Array (Option Value)} {oc_Lpick kV_Lpick dc_Lpick pm_Lpick cd_Lpick ct_Lpick : Value}
    (l_Lpick : K.lookup a_Lpick = some ⟨oc_Lpick, od_Lpick, .func (PySem.W.fnOf "_law_pick" "_law_pick" (defArgs s_Lpick) (defBody s_Lpick) (defScope s_Lpick) .none kV_Lpick dc_Lpick pm_Lpick an_Lpick cd_Lpick ct_Lpick), sl_Lpick⟩)
    (c_Lpick : PySem.W.codeIn K cd_Lpick "_law_pick" = true)
    (k_Lpick : PySem.W.keepIn K (.ref a_Lpick) = true)
    (g_Lpick : PySem.W.nsIn K mainGlobals "_law_pick" = some (some (.ref a_Lpick)))
    {a_Lrules : Addr}
    {od_Lrules an_Lrules : Option Addr} {sl_Lrules : Array (Option Value)} {oc_Lrules kV_Lrules dc_Lrules pm_Lrules cd_Lrules ct_Lrules : Value}
    (l_Lrules : K.lookup a_Lrules = some ⟨oc_Lrules, od_Lrules, .func (PySem.W.fnOf "_law_rules" "_law_rules" (defArgs s_Lrules) (defBody s_Lrules) (defScope s_Lrules) .none kV_Lrules dc_Lrules pm_Lrules an_Lrules cd_Lrules ct_Lrules), sl_Lrules⟩)
    (c_Lrules : PySem.W.codeIn K cd_Lrules "_law_rules" = true)
    (k_Lrules : PySem.W.keepIn K (.ref a_Lrules) = true)
    (g_Lrules : PySem.W.nsIn K mainGlobals "_law_rules" = some (some (.ref a_Lrules)))
    {a_Lnames : Addr}
    {od_Lnames an_Lnames : Option Addr} {sl_Lnames : Array (Option Value)} {oc_Lnames kV_Lnames dc_Lnames pm_Lnames cd_Lnames ct_Lnames : Value}
    (l_Lnames : K.lookup a_Lnames = some ⟨oc_Lnames, od_Lnames, .func (PySem.W.fnOf "_law_names" "_law_names" (defArgs s_Lnames) (defBody s_Lnames) (defScope s_Lnames) .none kV_Lnames dc_Lnames pm_Lnames an_Lnames cd_Lnames ct_Lnames), sl_Lnames⟩)
    (c_Lnames : PySem.W.codeIn K cd_Lnames "_law_names" = true)
    (k_Lnames : PySem.W.keepIn K (.ref a_Lnames) = true)
    (g_Lnames : PySem.W.nsIn K mainGlobals "_law_names" = some (some (.ref a_Lnames)))
    {a_Lnumber : Addr}
    {od_Lnumber an_Lnumber : Option Addr} {sl_Lnumber : Array (Option Value)} {oc_Lnumber kV_Lnumber dc_Lnumber pm_Lnumber cd_Lnumber ct_Lnumber : Value}
    (l_Lnumber : K.lookup a_Lnumber = some ⟨oc_Lnumber, od_Lnumber, .func (PySem.W.fnOf "_law_number" "_law_number" (defArgs s_Lnumber) (defBody s_Lnumber) (defScope s_Lnumber) .none kV_Lnumber dc_Lnumber pm_Lnumber an_Lnumber cd_Lnumber ct_Lnumber), sl_Lnumber⟩)
    (c_Lnumber : PySem.W.codeIn K cd_Lnumber "_law_number" = true)
    (k_Lnumber : PySem.W.keepIn K (.ref a_Lnumber) = true)
    (g_Lnumber : PySem.W.nsIn K mainGlobals "_law_number" = some (some (.ref a_Lnumber)))
    {a_Lis_book : Addr}
    {od_Lis_book an_Lis_book : Option Addr} {sl_Lis_book : Array (Option Value)} {oc_Lis_book kV_Lis_book dc_Lis_book pm_Lis_book cd_Lis_book ct_Lis_book : Value}
    (l_Lis_book : K.lookup a_Lis_book = some ⟨oc_Lis_book, od_Lis_book, .func (PySem.W.fnOf "_law_is_book" "_law_is_book" (defArgs s_Lis_book) (defBody s_Lis_book) (defScope s_Lis_book) .none kV_Lis_book dc_Lis_book pm_Lis_book an_Lis_book cd_Lis_book ct_Lis_book), sl_Lis_book⟩)
    (c_Lis_book : PySem.W.codeIn K cd_Lis_book "_law_is_book" = true)
    (k_Lis_book : PySem.W.keepIn K (.ref a_Lis_book) = true)
    (g_Lis_book : PySem.W.nsIn K mainGlobals "_law_is_book" = some (some (.ref a_Lis_book)))
    {a_Lbad_text : Addr}
    {od_Lbad_text an_Lbad_text : Option Addr} {sl_Lbad_text : Array (Option Value)} {oc_Lbad_text kV_Lbad_text dc_Lbad_text pm_Lbad_text cd_Lbad_text ct_Lbad_text : Value}
    (l_Lbad_text : K.lookup a_Lbad_text = some ⟨oc_Lbad_text, od_Lbad_text, .func (PySem.W.fnOf "_law_bad_text" "_law_bad_text" (defArgs s_Lbad_text) (defBody s_Lbad_text) (defScope s_Lbad_text) .none kV_Lbad_text dc_Lbad_text pm_Lbad_text an_Lbad_text cd_Lbad_text ct_Lbad_text), sl_Lbad_text⟩)
    (c_Lbad_text : PySem.W.codeIn K cd_Lbad_text "_law_bad_text" = true)
    (k_Lbad_text : PySem.W.keepIn K (.ref a_Lbad_text) = true)
    (g_Lbad_text : PySem.W.nsIn K mainGlobals "_law_bad_text" = some (some (.ref a_Lbad_text)))
    {a_Lbad_number : Addr}
    {od_Lbad_number an_Lbad_number : Option Addr} {sl_Lbad_number : Array (Option Value)} {oc_Lbad_number kV_Lbad_number dc_Lbad_number pm_Lbad_number cd_Lbad_number ct_Lbad_number : Value}
    (l_Lbad_number : K.lookup a_Lbad_number = some ⟨oc_Lbad_number, od_Lbad_number, .func (PySem.W.fnOf "_law_bad_number" "_law_bad_number" (defArgs s_Lbad_number) (defBody s_Lbad_number) (defScope s_Lbad_number) .none kV_Lbad_number dc_Lbad_number pm_Lbad_number an_Lbad_number cd_Lbad_number ct_Lbad_number), sl_Lbad_number⟩)
    (c_Lbad_number : PySem.W.codeIn K cd_Lbad_number "_law_bad_number" = true)
    (k_Lbad_number : PySem.W.keepIn K (.ref a_Lbad_number) = true)
    (g_Lbad_number : PySem.W.nsIn K mainGlobals "_law_bad_number" = some (some (.ref a_Lbad_number)))
    {a_Lbad_names : Addr}
    {od_Lbad_names an_Lbad_names : Option Addr} {sl_Lbad_names : Array (Option Value)} {oc_Lbad_names kV_Lbad_names dc_Lbad_names pm_Lbad_names cd_Lbad_names ct_Lbad_names : Value}
    (l_Lbad_names : K.lookup a_Lbad_names = some ⟨oc_Lbad_names, od_Lbad_names, .func (PySem.W.fnOf "_law_bad_names" "_law_bad_names" (defArgs s_Lbad_names) (defBody s_Lbad_names) (defScope s_Lbad_names) .none kV_Lbad_names dc_Lbad_names pm_Lbad_names an_Lbad_names cd_Lbad_names ct_Lbad_names), sl_Lbad_names⟩)
    (c_Lbad_names : PySem.W.codeIn K cd_Lbad_names "_law_bad_names" = true)
    (k_Lbad_names : PySem.W.keepIn K (.ref a_Lbad_names) = true)
    (g_Lbad_names : PySem.W.nsIn K mainGlobals "_law_bad_names" = some (some (.ref a_Lbad_names)))
    {a_Lspoilt : Addr}
    {od_Lspoilt an_Lspoilt : Option Addr} {sl_Lspoilt : Array (Option Value)} {oc_Lspoilt kV_Lspoilt dc_Lspoilt pm_Lspoilt cd_Lspoilt ct_Lspoilt : Value}
    (l_Lspoilt : K.lookup a_Lspoilt = some ⟨oc_Lspoilt, od_Lspoilt, .func (PySem.W.fnOf "_law_spoilt" "_law_spoilt" (defArgs s_Lspoilt) (defBody s_Lspoilt) (defScope s_Lspoilt) .none kV_Lspoilt dc_Lspoilt pm_Lspoilt an_Lspoilt cd_Lspoilt ct_Lspoilt), sl_Lspoilt⟩)
    (c_Lspoilt : PySem.W.codeIn K cd_Lspoilt "_law_spoilt" = true)
    (k_Lspoilt : PySem.W.keepIn K (.ref a_Lspoilt) = true)
    (g_Lspoilt : PySem.W.nsIn K mainGlobals "_law_spoilt" = some (some (.ref a_Lspoilt)))
    {a_law : Addr}
    {od_law an_law : Option Addr} {sl_law : Array (Option Value)} {oc_law kV_law dc_law pm_law cd_law ct_law : Value}
    (l_law : K.lookup a_law = some ⟨oc_law, od_law, .func (PySem.W.fnOf "law" "law" (defArgs s_law) (defBody s_law) (defScope s_law) .none kV_law dc_law pm_law an_law cd_law ct_law), sl_law⟩)
    (c_law : PySem.W.codeIn K cd_law "law" = true)
    (k_law : PySem.W.keepIn K (.ref a_law) = true)
    (g_law : PySem.W.nsIn K mainGlobals "law" = some (some (.ref a_law)))
    {a_RuleSet___init__ : Addr}
    {od_RuleSet___init__ an_RuleSet___init__ : Option Addr} {sl_RuleSet___init__ : Array (Option Value)} {oc_RuleSet___init__ kV_RuleSet___init__ dc_RuleSet___init__ pm_RuleSet___init__ cd_RuleSet___init__ ct_RuleSet___init__ : Value}
    (l_RuleSet___init__ : K.lookup a_RuleSet___init__ = some ⟨oc_RuleSet___init__, od_RuleSet___init__, .func (PySem.W.fnOf "__init__" "RuleSet.__init__" (defArgs s_RuleSet___init__) (defBody s_RuleSet___init__) (defScope s_RuleSet___init__) .none kV_RuleSet___init__ dc_RuleSet___init__ pm_RuleSet___init__ an_RuleSet___init__ cd_RuleSet___init__ ct_RuleSet___init__), sl_RuleSet___init__⟩)
    (c_RuleSet___init__ : PySem.W.codeIn K cd_RuleSet___init__ "RuleSet.__init__" = true)
    (k_RuleSet___init__ : PySem.W.keepIn K (.ref a_RuleSet___init__) = true)
    {a_RuleSet___contains__ : Addr}
    {od_RuleSet___contains__ an_RuleSet___contains__ : Option Addr} {sl_RuleSet___contains__ : Array (Option Value)} {oc_RuleSet___contains__ kV_RuleSet___contains__ dc_RuleSet___contains__ pm_RuleSet___contains__ cd_RuleSet___contains__ ct_RuleSet___contains__ : Value}
    (l_RuleSet___contains__ : K.lookup a_RuleSet___contains__ = some ⟨oc_RuleSet___contains__, od_RuleSet___contains__, .func (PySem.W.fnOf "__contains__" "RuleSet.__contains__" (defArgs s_RuleSet___contains__) (defBody s_RuleSet___contains__) (defScope s_RuleSet___contains__) .none kV_RuleSet___contains__ dc_RuleSet___contains__ pm_RuleSet___contains__ an_RuleSet___contains__ cd_RuleSet___contains__ ct_RuleSet___contains__), sl_RuleSet___contains__⟩)
    (c_RuleSet___contains__ : PySem.W.codeIn K cd_RuleSet___contains__ "RuleSet.__contains__" = true)
    (k_RuleSet___contains__ : PySem.W.keepIn K (.ref a_RuleSet___contains__) = true)
    {a_RuleSet___iter__ : Addr}
    {od_RuleSet___iter__ an_RuleSet___iter__ : Option Addr} {sl_RuleSet___iter__ : Array (Option Value)} {oc_RuleSet___iter__ kV_RuleSet___iter__ dc_RuleSet___iter__ pm_RuleSet___iter__ cd_RuleSet___iter__ ct_RuleSet___iter__ : Value}
    (l_RuleSet___iter__ : K.lookup a_RuleSet___iter__ = some ⟨oc_RuleSet___iter__, od_RuleSet___iter__, .func (PySem.W.fnOf "__iter__" "RuleSet.__iter__" (defArgs s_RuleSet___iter__) (defBody s_RuleSet___iter__) (defScope s_RuleSet___iter__) .none kV_RuleSet___iter__ dc_RuleSet___iter__ pm_RuleSet___iter__ an_RuleSet___iter__ cd_RuleSet___iter__ ct_RuleSet___iter__), sl_RuleSet___iter__⟩)
    (c_RuleSet___iter__ : PySem.W.codeIn K cd_RuleSet___iter__ "RuleSet.__iter__" = true)
    (k_RuleSet___iter__ : PySem.W.keepIn K (.ref a_RuleSet___iter__) = true)
    {a_RuleSet_text : Addr}
    {od_RuleSet_text an_RuleSet_text : Option Addr} {sl_RuleSet_text : Array (Option Value)} {oc_RuleSet_text kV_RuleSet_text dc_RuleSet_text pm_RuleSet_text cd_RuleSet_text ct_RuleSet_text : Value}
    (l_RuleSet_text : K.lookup a_RuleSet_text = some ⟨oc_RuleSet_text, od_RuleSet_text, .func (PySem.W.fnOf "text" "RuleSet.text" (defArgs s_RuleSet_text) (defBody s_RuleSet_text) (defScope s_RuleSet_text) .none kV_RuleSet_text dc_RuleSet_text pm_RuleSet_text an_RuleSet_text cd_RuleSet_text ct_RuleSet_text), sl_RuleSet_text⟩)
    (c_RuleSet_text : PySem.W.codeIn K cd_RuleSet_text "RuleSet.text" = true)
    (k_RuleSet_text : PySem.W.keepIn K (.ref a_RuleSet_text) = true)
    {a_Book___or__ : Addr}
    {od_Book___or__ an_Book___or__ : Option Addr} {sl_Book___or__ : Array (Option Value)} {oc_Book___or__ kV_Book___or__ dc_Book___or__ pm_Book___or__ cd_Book___or__ ct_Book___or__ : Value}
    (l_Book___or__ : K.lookup a_Book___or__ = some ⟨oc_Book___or__, od_Book___or__, .func (PySem.W.fnOf "__or__" "Book.__or__" (defArgs s_Book___or__) (defBody s_Book___or__) (defScope s_Book___or__) .none kV_Book___or__ dc_Book___or__ pm_Book___or__ an_Book___or__ cd_Book___or__ ct_Book___or__), sl_Book___or__⟩)
    (c_Book___or__ : PySem.W.codeIn K cd_Book___or__ "Book.__or__" = true)
    (k_Book___or__ : PySem.W.keepIn K (.ref a_Book___or__) = true)
    {a_Book___sub__ : Addr}
    {od_Book___sub__ an_Book___sub__ : Option Addr} {sl_Book___sub__ : Array (Option Value)} {oc_Book___sub__ kV_Book___sub__ dc_Book___sub__ pm_Book___sub__ cd_Book___sub__ ct_Book___sub__ : Value}
    (l_Book___sub__ : K.lookup a_Book___sub__ = some ⟨oc_Book___sub__, od_Book___sub__, .func (PySem.W.fnOf "__sub__" "Book.__sub__" (defArgs s_Book___sub__) (defBody s_Book___sub__) (defScope s_Book___sub__) .none kV_Book___sub__ dc_Book___sub__ pm_Book___sub__ an_Book___sub__ cd_Book___sub__ ct_Book___sub__), sl_Book___sub__⟩)
    (c_Book___sub__ : PySem.W.codeIn K cd_Book___sub__ "Book.__sub__" = true)
    (k_Book___sub__ : PySem.W.keepIn K (.ref a_Book___sub__) = true)
    {a_Book_read : Addr}
    {od_Book_read an_Book_read : Option Addr} {sl_Book_read : Array (Option Value)} {oc_Book_read kV_Book_read dc_Book_read pm_Book_read cd_Book_read ct_Book_read : Value}
    (l_Book_read : K.lookup a_Book_read = some ⟨oc_Book_read, od_Book_read, .func (PySem.W.fnOf "read" "Book.read" (defArgs s_Book_read) (defBody s_Book_read) (defScope s_Book_read) .none kV_Book_read dc_Book_read pm_Book_read an_Book_read cd_Book_read ct_Book_read), sl_Book_read⟩)
    (c_Book_read : PySem.W.codeIn K cd_Book_read "Book.read" = true)
    (k_Book_read : PySem.W.keepIn K (.ref a_Book_read) = true)
    {a_Book_of_number : Addr}
    {od_Book_of_number an_Book_of_number : Option Addr} {sl_Book_of_number : Array (Option Value)} {oc_Book_of_number kV_Book_of_number dc_Book_of_number pm_Book_of_number cd_Book_of_number ct_Book_of_number : Value}
    (l_Book_of_number : K.lookup a_Book_of_number = some ⟨oc_Book_of_number, od_Book_of_number, .func (PySem.W.fnOf "of_number" "Book.of_number" (defArgs s_Book_of_number) (defBody s_Book_of_number) (defScope s_Book_of_number) .none kV_Book_of_number dc_Book_of_number pm_Book_of_number an_Book_of_number cd_Book_of_number ct_Book_of_number), sl_Book_of_number⟩)
    (c_Book_of_number : PySem.W.codeIn K cd_Book_of_number "Book.of_number" = true)
    (k_Book_of_number : PySem.W.keepIn K (.ref a_Book_of_number) = true)
    {a_Book_full : Addr}
    {od_Book_full an_Book_full : Option Addr} {sl_Book_full : Array (Option Value)} {oc_Book_full kV_Book_full dc_Book_full pm_Book_full cd_Book_full ct_Book_full : Value}
    (l_Book_full : K.lookup a_Book_full = some ⟨oc_Book_full, od_Book_full, .func (PySem.W.fnOf "full" "Book.full" (defArgs s_Book_full) (defBody s_Book_full) (defScope s_Book_full) .none kV_Book_full dc_Book_full pm_Book_full an_Book_full cd_Book_full ct_Book_full), sl_Book_full⟩)
    (c_Book_full : PySem.W.codeIn K cd_Book_full "Book.full" = true)
    (k_Book_full : PySem.W.keepIn K (.ref a_Book_full) = true)
    {aC_RuleSet : Addr}
    (g_RuleSet : PySem.W.nsIn K mainGlobals "RuleSet" = some (some (.ref aC_RuleSet)))
    (pg_RuleSet : PySem.W.plainGet K aC_RuleSet Str.empty = true)
    (hd_RuleSet : PySem.W.hasDictIn K aC_RuleSet = true)
    (po_RuleSet : PySem.W.plainOver K aC_RuleSet = true)
    (sa_RuleSet : PySem.W.findIn K (.ref aC_RuleSet) "__setattr__" = some (some (.builtin "object.__setattr__")))
    {mcv_RuleSet : Value}
    (tp_RuleSet : PySem.W.typeIn K (.ref aC_RuleSet) = some mcv_RuleSet)
    (rd_RuleSet : PySem.W.readsIn K aC_RuleSet mcv_RuleSet = true)
    (ga_RuleSet : PySem.W.specialIn K (.ref aC_RuleSet) "__getattribute__" = some (some (.builtin "type.__getattribute__")))
    {tA_RuleSet_RULES : Addr}
    {tod_RuleSet_RULES : Option Addr} {tsl_RuleSet_RULES : Array (Option Value)} {tn_RuleSet_RULES : Nat} {tits_RuleSet_RULES : Array Value}
    (tk_RuleSet_RULES : K.lookup tA_RuleSet_RULES = some ⟨.type "tuple", tod_RuleSet_RULES, .seq tits_RuleSet_RULES tn_RuleSet_RULES, tsl_RuleSet_RULES⟩)
    (tr_RuleSet_RULES : Rg.relAllS [] tits_RuleSet_RULES.toList = true)
    (tv1_RuleSet_RULES : PySem.W.findCls K (.ref aC_RuleSet) mcv_RuleSet "RULES" = some (.val (.ref tA_RuleSet_RULES)))
    {aC_Book : Addr}
    (g_Book : PySem.W.nsIn K mainGlobals "Book" = some (some (.ref aC_Book)))
    (pg_Book : PySem.W.plainGet K aC_Book Str.empty = true)
    (hd_Book : PySem.W.hasDictIn K aC_Book = true)
    (po_Book : PySem.W.plainOver K aC_Book = true)
    (sa_Book : PySem.W.findIn K (.ref aC_Book) "__setattr__" = some (some (.builtin "object.__setattr__")))
    (n_Book_names : PySem.W.findIn K (.ref aC_Book) "names" = some none)
    (n_Book_number : PySem.W.findIn K (.ref aC_Book) "number" = some none)
    {mcv_Book : Value}
    (tp_Book : PySem.W.typeIn K (.ref aC_Book) = some mcv_Book)
    (rd_Book : PySem.W.readsIn K aC_Book mcv_Book = true)
    (ga_Book : PySem.W.specialIn K (.ref aC_Book) "__getattribute__" = some (some (.builtin "type.__getattribute__")))
    {tA_Book_RULES : Addr}
    {tod_Book_RULES : Option Addr} {tsl_Book_RULES : Array (Option Value)} {tn_Book_RULES : Nat} {tits_Book_RULES : Array Value}
    (tk_Book_RULES : K.lookup tA_Book_RULES = some ⟨.type "tuple", tod_Book_RULES, .seq tits_Book_RULES tn_Book_RULES, tsl_Book_RULES⟩)
    (tr_Book_RULES : Rg.relAllS [.str "copies", .str "mark", .str "words", .str "reuse", .str "late", .str "revoke", .str "lapse", .str "shelve", .str "frozen", .str "wait", .str "room", .str "told"] tits_Book_RULES.toList = true)
    (tv1_Book_RULES : PySem.W.findCls K (.ref aC_Book) mcv_Book "RULES" = some (.val (.ref tA_Book_RULES)))
    (tc1_Book_RULES : PySem.W.findIn K (.ref aC_Book) "RULES" = some (some (.ref tA_Book_RULES)))
    (tc2_Book_RULES : PySem.W.specialIn K (.ref tA_Book_RULES) "__get__" = some none)
    (m1_RuleSet___contains__ : PySem.W.findIn K (.ref aC_RuleSet) "__contains__" = some (some (.ref a_RuleSet___contains__)))
    (m2_RuleSet___contains__ : PySem.W.isFn K (.ref a_RuleSet___contains__) = true)
    (m1_RuleSet___iter__ : PySem.W.findIn K (.ref aC_RuleSet) "__iter__" = some (some (.ref a_RuleSet___iter__)))
    (m2_RuleSet___iter__ : PySem.W.isFn K (.ref a_RuleSet___iter__) = true)
    (m1_RuleSet_text : PySem.W.findIn K (.ref aC_RuleSet) "text" = some (some (.ref a_RuleSet_text)))
    (m2_RuleSet_text : PySem.W.isFn K (.ref a_RuleSet_text) = true)
    (m1_Book___or__ : PySem.W.findIn K (.ref aC_Book) "__or__" = some (some (.ref a_Book___or__)))
    (m2_Book___or__ : PySem.W.isFn K (.ref a_Book___or__) = true)
    (m1_Book___sub__ : PySem.W.findIn K (.ref aC_Book) "__sub__" = some (some (.ref a_Book___sub__)))
    (m2_Book___sub__ : PySem.W.isFn K (.ref a_Book___sub__) = true)
    {sp_Book_read : Addr} {sr_Book_read : List Value}
    (s1_Book_read : PySem.W.findCls K (.ref aC_Book) mcv_Book "read" = some (.get (.builtin "staticmethod.__get__") (.ref sp_Book_read) .none (.ref aC_Book)))
    (s2_Book_read : PySem.W.recIn K sp_Book_read "staticmethod" = some (.ref a_Book_read :: sr_Book_read))
    {sp_Book_of_number : Addr} {sr_Book_of_number : List Value}
    (s1_Book_of_number : PySem.W.findCls K (.ref aC_Book) mcv_Book "of_number" = some (.get (.builtin "staticmethod.__get__") (.ref sp_Book_of_number) .none (.ref aC_Book)))
    (s2_Book_of_number : PySem.W.recIn K sp_Book_of_number "staticmethod" = some (.ref a_Book_of_number :: sr_Book_of_number))
    {sp_Book_full : Addr} {sr_Book_full : List Value}
    (s1_Book_full : PySem.W.findCls K (.ref aC_Book) mcv_Book "full" = some (.get (.builtin "staticmethod.__get__") (.ref sp_Book_full) .none (.ref aC_Book)))
    (s2_Book_full : PySem.W.recIn K sp_Book_full "staticmethod" = some (.ref a_Book_full :: sr_Book_full))
    {aC_StoreError : Addr}
    (g_StoreError : PySem.W.nsIn K mainGlobals "StoreError" = some (some (.ref aC_StoreError)))
    (be1_StoreError : PySem.W.subIn K (.ref aC_StoreError) (.type "BaseException") = some true)
    (te1_StoreError : PySem.W.typeIn K (.ref aC_StoreError) = some (.type "type"))
    (ie1_StoreError : PySem.W.isClsIn K aC_StoreError = true)
    {aC_BadText : Addr}
    (g_BadText : PySem.W.nsIn K mainGlobals "BadText" = some (some (.ref aC_BadText)))
    (be1_BadText : PySem.W.subIn K (.ref aC_BadText) (.type "BaseException") = some true)
    (te1_BadText : PySem.W.typeIn K (.ref aC_BadText) = some (.type "type"))
    (ie1_BadText : PySem.W.isClsIn K aC_BadText = true)
    (xe1_BadText : PySem.W.excIn K aC_BadText [.type "ValueError", .type "Exception", .type "BaseException", .type "object"] "ValueError.__new__" = true)
    (ke1_BadText : PySem.W.keepIn K (.ref aC_BadText) = true)
    (ec1_BadText : PySem.W.findIn K (.ref aC_BadText) "__getattribute__" = some (some (.builtin "BaseException.__getattribute__")))
    (ec2_BadText : PySem.W.findIn K (.ref aC_BadText) "__getattr__" = some none)
    (ec4_BadText : PySem.W.hasDictIn K aC_BadText = true)
    (ec5_BadText : PySem.W.findIn K (.ref aC_BadText) "__class__" = some (some (.builtin "object.__class__")))
    (ec6_BadText : PySem.W.specialIn K (.builtin "object.__class__") "__get__" = some (some (.builtin "getset_descriptor.__get__")))
    (ec7_BadText : PySem.W.takesIn K (.builtin "object.__class__") = some true)
    (ec8_BadText : PySem.W.mroIn K aC_BadText (.type "object") = some true)
    {aC_BadValue : Addr}
    (g_BadValue : PySem.W.nsIn K mainGlobals "BadValue" = some (some (.ref aC_BadValue)))
    (be1_BadValue : PySem.W.subIn K (.ref aC_BadValue) (.type "BaseException") = some true)
    (te1_BadValue : PySem.W.typeIn K (.ref aC_BadValue) = some (.type "type"))
    (ie1_BadValue : PySem.W.isClsIn K aC_BadValue = true)
    (xe1_BadValue : PySem.W.excIn K aC_BadValue [.type "ValueError", .type "Exception", .type "BaseException", .type "object"] "ValueError.__new__" = true)
    (ke1_BadValue : PySem.W.keepIn K (.ref aC_BadValue) = true)
    (ec1_BadValue : PySem.W.findIn K (.ref aC_BadValue) "__getattribute__" = some (some (.builtin "BaseException.__getattribute__")))
    (ec2_BadValue : PySem.W.findIn K (.ref aC_BadValue) "__getattr__" = some none)
    (ec4_BadValue : PySem.W.hasDictIn K aC_BadValue = true)
    (ec5_BadValue : PySem.W.findIn K (.ref aC_BadValue) "__class__" = some (some (.builtin "object.__class__")))
    (ec6_BadValue : PySem.W.specialIn K (.builtin "object.__class__") "__get__" = some (some (.builtin "getset_descriptor.__get__")))
    (ec7_BadValue : PySem.W.takesIn K (.builtin "object.__class__") = some true)
    (ec8_BadValue : PySem.W.mroIn K aC_BadValue (.type "object") = some true)
    {aC_Refused : Addr}
    (g_Refused : PySem.W.nsIn K mainGlobals "Refused" = some (some (.ref aC_Refused)))
    (be1_Refused : PySem.W.subIn K (.ref aC_Refused) (.type "BaseException") = some true)
    (te1_Refused : PySem.W.typeIn K (.ref aC_Refused) = some (.type "type"))
    (ie1_Refused : PySem.W.isClsIn K aC_Refused = true)
    {aC_NotNow : Addr}
    (g_NotNow : PySem.W.nsIn K mainGlobals "NotNow" = some (some (.ref aC_NotNow)))
    (be1_NotNow : PySem.W.subIn K (.ref aC_NotNow) (.type "BaseException") = some true)
    (te1_NotNow : PySem.W.typeIn K (.ref aC_NotNow) = some (.type "type"))
    (ie1_NotNow : PySem.W.isClsIn K aC_NotNow = true)
    (sb_BadText_StoreError : PySem.W.subIn K (.ref aC_BadText) (.ref aC_StoreError) = some true)
    (sb_BadText_BadText : PySem.W.subIn K (.ref aC_BadText) (.ref aC_BadText) = some true)
    (sb_BadText_BadValue : PySem.W.subIn K (.ref aC_BadText) (.ref aC_BadValue) = some false)
    (sb_BadText_Refused : PySem.W.subIn K (.ref aC_BadText) (.ref aC_Refused) = some false)
    (sb_BadText_NotNow : PySem.W.subIn K (.ref aC_BadText) (.ref aC_NotNow) = some false)
    (sb_BadValue_StoreError : PySem.W.subIn K (.ref aC_BadValue) (.ref aC_StoreError) = some true)
    (sb_BadValue_BadText : PySem.W.subIn K (.ref aC_BadValue) (.ref aC_BadText) = some false)
    (sb_BadValue_BadValue : PySem.W.subIn K (.ref aC_BadValue) (.ref aC_BadValue) = some true)
    (sb_BadValue_Refused : PySem.W.subIn K (.ref aC_BadValue) (.ref aC_Refused) = some false)
    (sb_BadValue_NotNow : PySem.W.subIn K (.ref aC_BadValue) (.ref aC_NotNow) = some false)
    (bs_BadText_ValueError : PySem.W.subIn K (.ref aC_BadText) (.type "ValueError") = some true)
    (bs_BadValue_ValueError : PySem.W.subIn K (.ref aC_BadValue) (.type "ValueError") = some true)
    (mk1_Book : PySem.W.makesIn K aC_Book = true)
    (mk2_Book : PySem.W.findIn K (.ref aC_Book) "__init__" = some (some (.ref a_RuleSet___init__)))
    (mk3_Book : PySem.W.isFn K (.ref a_RuleSet___init__) = true)
    (mk4_Book : PySem.W.keepIn K (.ref aC_Book) = true)
    (bm1_text : PySem.W.findIn K (.ref aC_Book) "text" = some (some (.ref a_RuleSet_text)))
    (bm2_text : PySem.W.isFn K (.ref a_RuleSet_text) = true)
    (bm1_contains : PySem.W.findIn K (.ref aC_Book) "__contains__" = some (some (.ref a_RuleSet___contains__)))
    (bm2_contains : PySem.W.isFn K (.ref a_RuleSet___contains__) = true)
    (bm1_iter : PySem.W.findIn K (.ref aC_Book) "__iter__" = some (some (.ref a_RuleSet___iter__)))
    (bm2_iter : PySem.W.isFn K (.ref a_RuleSet___iter__) = true)
    (bm1_or : PySem.W.findIn K (.ref aC_Book) "__or__" = some (some (.ref a_Book___or__)))
    (bm2_or : PySem.W.isFn K (.ref a_Book___or__) = true)
    (bm1_sub : PySem.W.findIn K (.ref aC_Book) "__sub__" = some (some (.ref a_Book___sub__)))
    (bm2_sub : PySem.W.isFn K (.ref a_Book___sub__) = true)
    (sf1_Book : PySem.W.selfFirst K aC_Book = true)
    (sb_Book_RuleSet : PySem.W.subIn K (.ref aC_Book) (.ref aC_RuleSet) = some true)
    (te1_RuleSet : PySem.W.typeIn K (.ref aC_RuleSet) = some (.type "type"))
    (ie1_RuleSet : PySem.W.isClsIn K aC_RuleSet = true)
    (ix1_Book : PySem.W.findIn K (.ref aC_Book) "__class__" = some (some (.builtin "object.__class__")))
    (ix2_Book : PySem.W.specialIn K (.builtin "object.__class__") "__get__" = some (some (.builtin "getset_descriptor.__get__")))
    (ix3_Book : PySem.W.takesIn K (.builtin "object.__class__") = some true)
    (ix4_Book : PySem.W.mroIn K aC_Book (.type "object") = some true)
    (nb_ValueError : PySem.W.nsIn K mainGlobals "ValueError" = some none)
    (nb_abs : PySem.W.nsIn K mainGlobals "abs" = some none)
    (nb_bool : PySem.W.nsIn K mainGlobals "bool" = some none)
    (nb_iter : PySem.W.nsIn K mainGlobals "iter" = some none)
    (nb_enumerate : PySem.W.nsIn K mainGlobals "enumerate" = some none)
    (nb_int : PySem.W.nsIn K mainGlobals "int" = some none)
    (nb_isinstance : PySem.W.nsIn K mainGlobals "isinstance" = some none)
    (nb_len : PySem.W.nsIn K mainGlobals "len" = some none)
    (nb_list : PySem.W.nsIn K mainGlobals "list" = some none)
    (nb_range : PySem.W.nsIn K mainGlobals "range" = some none)
    (nb_reversed : PySem.W.nsIn K mainGlobals "reversed" = some none)
    (nb_str : PySem.W.nsIn K mainGlobals "str" = some none)
    (nb_sum : PySem.W.nsIn K mainGlobals "sum" = some none)
    (nb_tuple : PySem.W.nsIn K mainGlobals "tuple" = some none)
    : Nonempty (Tx K mg) := ⟨{
      f_written_names := a_written_names,
      fd_written_names := PySem.W.fnOf "written_names" "written_names" (defArgs s_written_names) (defBody s_written_names) (defScope s_written_names) .none kV_written_names dc_written_names pm_written_names an_written_names cd_written_names ct_written_names,
      F_written_names := fun_mk (st := s_written_names) l_written_names c_written_names k_written_names,
      mg_written_names := PySem.W.mg_of X G g_written_names,
      f_numbered_names := a_numbered_names,
      fd_numbered_names := PySem.W.fnOf "numbered_names" "numbered_names" (defArgs s_numbered_names) (defBody s_numbered_names) (defScope s_numbered_names) .none kV_numbered_names dc_numbered_names pm_numbered_names an_numbered_names cd_numbered_names ct_numbered_names,
      F_numbered_names := fun_mk (st := s_numbered_names) l_numbered_names c_numbered_names k_numbered_names,
      mg_numbered_names := PySem.W.mg_of X G g_numbered_names,
      f_Lfeed := a_Lfeed,
      fd_Lfeed := PySem.W.fnOf "_law_feed" "_law_feed" (defArgs s_Lfeed) (defBody s_Lfeed) (defScope s_Lfeed) .none kV_Lfeed dc_Lfeed pm_Lfeed an_Lfeed cd_Lfeed ct_Lfeed,
      F_Lfeed := fun_mk (st := s_Lfeed) l_Lfeed c_Lfeed k_Lfeed,
      mg_Lfeed := PySem.W.mg_of X G g_Lfeed,
      f_Lpick := a_Lpick,
      fd_Lpick := PySem.W.fnOf "_law_pick" "_law_pick" (defArgs s_Lpick) (defBody s_Lpick) (defScope s_Lpick) .none kV_Lpick dc_Lpick pm_Lpick an_Lpick cd_Lpick ct_Lpick,
      F_Lpick := fun_mk (st := s_Lpick) l_Lpick c_Lpick k_Lpick,
      mg_Lpick := PySem.W.mg_of X G g_Lpick,
      f_Lrules := a_Lrules,
      fd_Lrules := PySem.W.fnOf "_law_rules" "_law_rules" (defArgs s_Lrules) (defBody s_Lrules) (defScope s_Lrules) .none kV_Lrules dc_Lrules pm_Lrules an_Lrules cd_Lrules ct_Lrules,
      F_Lrules := fun_mk (st := s_Lrules) l_Lrules c_Lrules k_Lrules,
      mg_Lrules := PySem.W.mg_of X G g_Lrules,
      f_Lnames := a_Lnames,
      fd_Lnames := PySem.W.fnOf "_law_names" "_law_names" (defArgs s_Lnames) (defBody s_Lnames) (defScope s_Lnames) .none kV_Lnames dc_Lnames pm_Lnames an_Lnames cd_Lnames ct_Lnames,
      F_Lnames := fun_mk (st := s_Lnames) l_Lnames c_Lnames k_Lnames,
      mg_Lnames := PySem.W.mg_of X G g_Lnames,
      f_Lnumber := a_Lnumber,
      fd_Lnumber := PySem.W.fnOf "_law_number" "_law_number" (defArgs s_Lnumber) (defBody s_Lnumber) (defScope s_Lnumber) .none kV_Lnumber dc_Lnumber pm_Lnumber an_Lnumber cd_Lnumber ct_Lnumber,
      F_Lnumber := fun_mk (st := s_Lnumber) l_Lnumber c_Lnumber k_Lnumber,
      mg_Lnumber := PySem.W.mg_of X G g_Lnumber,
      f_Lis_book := a_Lis_book,
      fd_Lis_book := PySem.W.fnOf "_law_is_book" "_law_is_book" (defArgs s_Lis_book) (defBody s_Lis_book) (defScope s_Lis_book) .none kV_Lis_book dc_Lis_book pm_Lis_book an_Lis_book cd_Lis_book ct_Lis_book,
      F_Lis_book := fun_mk (st := s_Lis_book) l_Lis_book c_Lis_book k_Lis_book,
      mg_Lis_book := PySem.W.mg_of X G g_Lis_book,
      f_Lbad_text := a_Lbad_text,
      fd_Lbad_text := PySem.W.fnOf "_law_bad_text" "_law_bad_text" (defArgs s_Lbad_text) (defBody s_Lbad_text) (defScope s_Lbad_text) .none kV_Lbad_text dc_Lbad_text pm_Lbad_text an_Lbad_text cd_Lbad_text ct_Lbad_text,
      F_Lbad_text := fun_mk (st := s_Lbad_text) l_Lbad_text c_Lbad_text k_Lbad_text,
      mg_Lbad_text := PySem.W.mg_of X G g_Lbad_text,
      f_Lbad_number := a_Lbad_number,
      fd_Lbad_number := PySem.W.fnOf "_law_bad_number" "_law_bad_number" (defArgs s_Lbad_number) (defBody s_Lbad_number) (defScope s_Lbad_number) .none kV_Lbad_number dc_Lbad_number pm_Lbad_number an_Lbad_number cd_Lbad_number ct_Lbad_number,
      F_Lbad_number := fun_mk (st := s_Lbad_number) l_Lbad_number c_Lbad_number k_Lbad_number,
      mg_Lbad_number := PySem.W.mg_of X G g_Lbad_number,
      f_Lbad_names := a_Lbad_names,
      fd_Lbad_names := PySem.W.fnOf "_law_bad_names" "_law_bad_names" (defArgs s_Lbad_names) (defBody s_Lbad_names) (defScope s_Lbad_names) .none kV_Lbad_names dc_Lbad_names pm_Lbad_names an_Lbad_names cd_Lbad_names ct_Lbad_names,
      F_Lbad_names := fun_mk (st := s_Lbad_names) l_Lbad_names c_Lbad_names k_Lbad_names,
      mg_Lbad_names := PySem.W.mg_of X G g_Lbad_names,
      f_Lspoilt := a_Lspoilt,
      fd_Lspoilt := PySem.W.fnOf "_law_spoilt" "_law_spoilt" (defArgs s_Lspoilt) (defBody s_Lspoilt) (defScope s_Lspoilt) .none kV_Lspoilt dc_Lspoilt pm_Lspoilt an_Lspoilt cd_Lspoilt ct_Lspoilt,
      F_Lspoilt := fun_mk (st := s_Lspoilt) l_Lspoilt c_Lspoilt k_Lspoilt,
      mg_Lspoilt := PySem.W.mg_of X G g_Lspoilt,
      f_law := a_law,
      fd_law := PySem.W.fnOf "law" "law" (defArgs s_law) (defBody s_law) (defScope s_law) .none kV_law dc_law pm_law an_law cd_law ct_law,
      F_law := fun_mk (st := s_law) l_law c_law k_law,
      mg_law := PySem.W.mg_of X G g_law,
      f_RuleSet___init__ := a_RuleSet___init__,
      fd_RuleSet___init__ := PySem.W.fnOf "__init__" "RuleSet.__init__" (defArgs s_RuleSet___init__) (defBody s_RuleSet___init__) (defScope s_RuleSet___init__) .none kV_RuleSet___init__ dc_RuleSet___init__ pm_RuleSet___init__ an_RuleSet___init__ cd_RuleSet___init__ ct_RuleSet___init__,
      F_RuleSet___init__ := fun_mk (st := s_RuleSet___init__) l_RuleSet___init__ c_RuleSet___init__ k_RuleSet___init__,
      f_RuleSet___contains__ := a_RuleSet___contains__,
      fd_RuleSet___contains__ := PySem.W.fnOf "__contains__" "RuleSet.__contains__" (defArgs s_RuleSet___contains__) (defBody s_RuleSet___contains__) (defScope s_RuleSet___contains__) .none kV_RuleSet___contains__ dc_RuleSet___contains__ pm_RuleSet___contains__ an_RuleSet___contains__ cd_RuleSet___contains__ ct_RuleSet___contains__,
      F_RuleSet___contains__ := fun_mk (st := s_RuleSet___contains__) l_RuleSet___contains__ c_RuleSet___contains__ k_RuleSet___contains__,
      f_RuleSet___iter__ := a_RuleSet___iter__,
      fd_RuleSet___iter__ := PySem.W.fnOf "__iter__" "RuleSet.__iter__" (defArgs s_RuleSet___iter__) (defBody s_RuleSet___iter__) (defScope s_RuleSet___iter__) .none kV_RuleSet___iter__ dc_RuleSet___iter__ pm_RuleSet___iter__ an_RuleSet___iter__ cd_RuleSet___iter__ ct_RuleSet___iter__,
      F_RuleSet___iter__ := fun_mk (st := s_RuleSet___iter__) l_RuleSet___iter__ c_RuleSet___iter__ k_RuleSet___iter__,
      f_RuleSet_text := a_RuleSet_text,
      fd_RuleSet_text := PySem.W.fnOf "text" "RuleSet.text" (defArgs s_RuleSet_text) (defBody s_RuleSet_text) (defScope s_RuleSet_text) .none kV_RuleSet_text dc_RuleSet_text pm_RuleSet_text an_RuleSet_text cd_RuleSet_text ct_RuleSet_text,
      F_RuleSet_text := fun_mk (st := s_RuleSet_text) l_RuleSet_text c_RuleSet_text k_RuleSet_text,
      f_Book___or__ := a_Book___or__,
      fd_Book___or__ := PySem.W.fnOf "__or__" "Book.__or__" (defArgs s_Book___or__) (defBody s_Book___or__) (defScope s_Book___or__) .none kV_Book___or__ dc_Book___or__ pm_Book___or__ an_Book___or__ cd_Book___or__ ct_Book___or__,
      F_Book___or__ := fun_mk (st := s_Book___or__) l_Book___or__ c_Book___or__ k_Book___or__,
      f_Book___sub__ := a_Book___sub__,
      fd_Book___sub__ := PySem.W.fnOf "__sub__" "Book.__sub__" (defArgs s_Book___sub__) (defBody s_Book___sub__) (defScope s_Book___sub__) .none kV_Book___sub__ dc_Book___sub__ pm_Book___sub__ an_Book___sub__ cd_Book___sub__ ct_Book___sub__,
      F_Book___sub__ := fun_mk (st := s_Book___sub__) l_Book___sub__ c_Book___sub__ k_Book___sub__,
      f_Book_read := a_Book_read,
      fd_Book_read := PySem.W.fnOf "read" "Book.read" (defArgs s_Book_read) (defBody s_Book_read) (defScope s_Book_read) .none kV_Book_read dc_Book_read pm_Book_read an_Book_read cd_Book_read ct_Book_read,
      F_Book_read := fun_mk (st := s_Book_read) l_Book_read c_Book_read k_Book_read,
      f_Book_of_number := a_Book_of_number,
      fd_Book_of_number := PySem.W.fnOf "of_number" "Book.of_number" (defArgs s_Book_of_number) (defBody s_Book_of_number) (defScope s_Book_of_number) .none kV_Book_of_number dc_Book_of_number pm_Book_of_number an_Book_of_number cd_Book_of_number ct_Book_of_number,
      F_Book_of_number := fun_mk (st := s_Book_of_number) l_Book_of_number c_Book_of_number k_Book_of_number,
      f_Book_full := a_Book_full,
      fd_Book_full := PySem.W.fnOf "full" "Book.full" (defArgs s_Book_full) (defBody s_Book_full) (defScope s_Book_full) .none kV_Book_full dc_Book_full pm_Book_full an_Book_full cd_Book_full ct_Book_full,
      F_Book_full := fun_mk (st := s_Book_full) l_Book_full c_Book_full k_Book_full,
      C_RuleSet := aC_RuleSet,
      mg_RuleSet := PySem.W.mg_of X G g_RuleSet,
      cl_RuleSet := ⟨pg_RuleSet, hd_RuleSet, po_RuleSet, sa_RuleSet⟩,
      mc_RuleSet := mcv_RuleSet,
      cr_RuleSet := ⟨rd_RuleSet, ga_RuleSet⟩,
      tA_RuleSet_RULES := tA_RuleSet_RULES,
      tt_RuleSet_RULES := fun H => .inr ⟨_, _, _, tk_RuleSet_RULES, rfl, rfl, Rg.relAllS_sz tr_RuleSet_RULES, Rg.relAllS_ok tr_RuleSet_RULES⟩,
      tv_RuleSet_RULES := ⟨tv1_RuleSet_RULES, rfl⟩,
      C_Book := aC_Book,
      mg_Book := PySem.W.mg_of X G g_Book,
      cl_Book := ⟨pg_Book, hd_Book, po_Book, sa_Book⟩,
      na_Book_names := n_Book_names,
      na_Book_number := n_Book_number,
      mc_Book := mcv_Book,
      cr_Book := ⟨rd_Book, ga_Book⟩,
      tA_Book_RULES := tA_Book_RULES,
      tt_Book_RULES := fun H => .inr ⟨_, _, _, tk_Book_RULES, rfl, rfl, Rg.relAllS_sz tr_Book_RULES, Rg.relAllS_ok tr_Book_RULES⟩,
      tv_Book_RULES := ⟨tv1_Book_RULES, rfl⟩,
      tc_Book_RULES := ⟨tc1_Book_RULES, rfl, tc2_Book_RULES, by decide +kernel⟩,
      m_RuleSet___contains__ := ⟨m1_RuleSet___contains__, m2_RuleSet___contains__, k_RuleSet___contains__⟩,
      m_RuleSet___iter__ := ⟨m1_RuleSet___iter__, m2_RuleSet___iter__, k_RuleSet___iter__⟩,
      m_RuleSet_text := ⟨m1_RuleSet_text, m2_RuleSet_text, k_RuleSet_text⟩,
      m_Book___or__ := ⟨m1_Book___or__, m2_Book___or__, k_Book___or__⟩,
      m_Book___sub__ := ⟨m1_Book___sub__, m2_Book___sub__, k_Book___sub__⟩,
      sm_Book_read := ⟨_, s1_Book_read, ⟨_, s2_Book_read⟩, k_Book_read⟩,
      sm_Book_of_number := ⟨_, s1_Book_of_number, ⟨_, s2_Book_of_number⟩, k_Book_of_number⟩,
      sm_Book_full := ⟨_, s1_Book_full, ⟨_, s2_Book_full⟩, k_Book_full⟩,
      C_StoreError := aC_StoreError,
      mg_StoreError := PySem.W.mg_of X G g_StoreError,
      be_StoreError := be1_StoreError,
      te_StoreError := te1_StoreError,
      ie_StoreError := ie1_StoreError,
      C_BadText := aC_BadText,
      mg_BadText := PySem.W.mg_of X G g_BadText,
      be_BadText := be1_BadText,
      te_BadText := te1_BadText,
      ie_BadText := ie1_BadText,
      xe_BadText := xe1_BadText,
      ke_BadText := ke1_BadText,
      ec_BadText := ⟨ec1_BadText, ec2_BadText, be1_BadText, ec4_BadText, ec5_BadText, ec6_BadText, ec7_BadText, ec8_BadText⟩,
      C_BadValue := aC_BadValue,
      mg_BadValue := PySem.W.mg_of X G g_BadValue,
      be_BadValue := be1_BadValue,
      te_BadValue := te1_BadValue,
      ie_BadValue := ie1_BadValue,
      xe_BadValue := xe1_BadValue,
      ke_BadValue := ke1_BadValue,
      ec_BadValue := ⟨ec1_BadValue, ec2_BadValue, be1_BadValue, ec4_BadValue, ec5_BadValue, ec6_BadValue, ec7_BadValue, ec8_BadValue⟩,
      C_Refused := aC_Refused,
      mg_Refused := PySem.W.mg_of X G g_Refused,
      be_Refused := be1_Refused,
      te_Refused := te1_Refused,
      ie_Refused := ie1_Refused,
      C_NotNow := aC_NotNow,
      mg_NotNow := PySem.W.mg_of X G g_NotNow,
      be_NotNow := be1_NotNow,
      te_NotNow := te1_NotNow,
      ie_NotNow := ie1_NotNow,
      sub_BadText_StoreError := sb_BadText_StoreError,
      sub_BadText_BadText := sb_BadText_BadText,
      sub_BadText_BadValue := sb_BadText_BadValue,
      sub_BadText_Refused := sb_BadText_Refused,
      sub_BadText_NotNow := sb_BadText_NotNow,
      sub_BadValue_StoreError := sb_BadValue_StoreError,
      sub_BadValue_BadText := sb_BadValue_BadText,
      sub_BadValue_BadValue := sb_BadValue_BadValue,
      sub_BadValue_Refused := sb_BadValue_Refused,
      sub_BadValue_NotNow := sb_BadValue_NotNow,
      bsub_BadText_ValueError := bs_BadText_ValueError,
      bsub_BadValue_ValueError := bs_BadValue_ValueError,
      mk_Book := ⟨mk1_Book, mk2_Book, mk3_Book, mk4_Book⟩,
      bm_text := ⟨bm1_text, bm2_text, k_RuleSet_text⟩,
      bm_contains := ⟨bm1_contains, bm2_contains, k_RuleSet___contains__⟩,
      bm_iter := ⟨bm1_iter, bm2_iter, k_RuleSet___iter__⟩,
      bm_or := ⟨bm1_or, bm2_or, k_Book___or__⟩,
      bm_sub := ⟨bm1_sub, bm2_sub, k_Book___sub__⟩,
      sf_Book := sf1_Book,
      sub_Book_RuleSet := sb_Book_RuleSet,
      te_RuleSet := te1_RuleSet,
      ie_RuleSet := ie1_RuleSet,
      ixa_Book := ix1_Book,
      ixb_Book := ix2_Book,
      ixc_Book := ix3_Book,
      ixd_Book := ix4_Book,
      b_ValueError := PySem.W.mg_none_of X G nb_ValueError,
      b_abs := PySem.W.mg_none_of X G nb_abs,
      b_bool := PySem.W.mg_none_of X G nb_bool,
      b_iter := PySem.W.mg_none_of X G nb_iter,
      b_enumerate := PySem.W.mg_none_of X G nb_enumerate,
      b_int := PySem.W.mg_none_of X G nb_int,
      b_isinstance := PySem.W.mg_none_of X G nb_isinstance,
      b_len := PySem.W.mg_none_of X G nb_len,
      b_list := PySem.W.mg_none_of X G nb_list,
      b_range := PySem.W.mg_none_of X G nb_range,
      b_reversed := PySem.W.mg_none_of X G nb_reversed,
      b_str := PySem.W.mg_none_of X G nb_str,
      b_sum := PySem.W.mg_none_of X G nb_sum,
      b_tuple := PySem.W.mg_none_of X G nb_tuple
    }⟩
end K87
open PySem PySem.W PyProof.Rows
set_option maxRecDepth 100000 in
set_option maxHeartbeats 0 in
theorem PySem.Challenge.cw_lotsandties_k87_books_holds : PySem.Challenge.rw_lotsandties_k87_books.Holds := by
  w_on; o_law; k_head; (case hw => w_witness2)
  k_fill
  refine L2.walk_of (l := PySem.Challenge.rw_lotsandties_k87_books) (n := 63) (k := 5) (x := "_law_script") (CX := fun _ => L2.CX0) (sp := fun w => K87.sp_law _) rfl (by decide) rfl ⟨rfl, by decide, by decide⟩ (fun w h Y => PySem.W.kIn_of Y) ?F (fun _ _ a ns hl _ hS => ⟨a, ns, rfl, hS, hl, fun _ => rfl⟩) (fun _ _ _ _ _ h => h)
  case F =>
    intro w mg fa h KX G hmg
    refine K87.fin_F ?_ hmg
    refine' K87.all_mk (w := w) KX G ?l_written_names ?c_written_names ?k_written_names ?g_written_names ?l_numbered_names ?c_numbered_names ?k_numbered_names ?g_numbered_names ?l_Lfeed ?c_Lfeed ?k_Lfeed ?g_Lfeed ?l_Lpick ?c_Lpick ?k_Lpick ?g_Lpick ?l_Lrules ?c_Lrules ?k_Lrules ?g_Lrules ?l_Lnames ?c_Lnames ?k_Lnames ?g_Lnames ?l_Lnumber ?c_Lnumber ?k_Lnumber ?g_Lnumber ?l_Lis_book ?c_Lis_book ?k_Lis_book ?g_Lis_book ?l_Lbad_text ?c_Lbad_text ?k_Lbad_text ?g_Lbad_text ?l_Lbad_number ?c_Lbad_number ?k_Lbad_number ?g_Lbad_number ?l_Lbad_names ?c_Lbad_names ?k_Lbad_names ?g_Lbad_names ?l_Lspoilt ?c_Lspoilt ?k_Lspoilt ?g_Lspoilt ?l_law ?c_law ?k_law ?g_law ?l_RuleSet___init__ ?c_RuleSet___init__ ?k_RuleSet___init__ ?l_RuleSet___contains__ ?c_RuleSet___contains__ ?k_RuleSet___contains__ ?l_RuleSet___iter__ ?c_RuleSet___iter__ ?k_RuleSet___iter__ ?l_RuleSet_text ?c_RuleSet_text ?k_RuleSet_text ?l_Book___or__ ?c_Book___or__ ?k_Book___or__ ?l_Book___sub__ ?c_Book___sub__ ?k_Book___sub__ ?l_Book_read ?c_Book_read ?k_Book_read ?l_Book_of_number ?c_Book_of_number ?k_Book_of_number ?l_Book_full ?c_Book_full ?k_Book_full ?g_RuleSet ?pg_RuleSet ?hd_RuleSet ?po_RuleSet ?sa_RuleSet ?tp_RuleSet ?rd_RuleSet ?ga_RuleSet ?tk_RuleSet_RULES ?tr_RuleSet_RULES ?tv1_RuleSet_RULES ?g_Book ?pg_Book ?hd_Book ?po_Book ?sa_Book ?n_Book_names ?n_Book_number ?tp_Book ?rd_Book ?ga_Book ?tk_Book_RULES ?tr_Book_RULES ?tv1_Book_RULES ?tc1_Book_RULES ?tc2_Book_RULES ?m1_RuleSet___contains__ ?m2_RuleSet___contains__ ?m1_RuleSet___iter__ ?m2_RuleSet___iter__ ?m1_RuleSet_text ?m2_RuleSet_text ?m1_Book___or__ ?m2_Book___or__ ?m1_Book___sub__ ?m2_Book___sub__ ?s1_Book_read ?s2_Book_read ?s1_Book_of_number ?s2_Book_of_number ?s1_Book_full ?s2_Book_full ?g_StoreError ?be1_StoreError ?te1_StoreError ?ie1_StoreError ?g_BadText ?be1_BadText ?te1_BadText ?ie1_BadText ?xe1_BadText ?ke1_BadText ?ec1_BadText ?ec2_BadText ?ec4_BadText ?ec5_BadText ?ec6_BadText ?ec7_BadText ?ec8_BadText ?g_BadValue ?be1_BadValue ?te1_BadValue ?ie1_BadValue ?xe1_BadValue ?ke1_BadValue ?ec1_BadValue ?ec2_BadValue ?ec4_BadValue ?ec5_BadValue ?ec6_BadValue ?ec7_BadValue ?ec8_BadValue ?g_Refused ?be1_Refused ?te1_Refused ?ie1_Refused ?g_NotNow ?be1_NotNow ?te1_NotNow ?ie1_NotNow ?sb_BadText_StoreError ?sb_BadText_BadText ?sb_BadText_BadValue ?sb_BadText_Refused ?sb_BadText_NotNow ?sb_BadValue_StoreError ?sb_BadValue_BadText ?sb_BadValue_BadValue ?sb_BadValue_Refused ?sb_BadValue_NotNow ?bs_BadText_ValueError ?bs_BadValue_ValueError ?mk1_Book ?mk2_Book ?mk3_Book ?mk4_Book ?bm1_text ?bm2_text ?bm1_contains ?bm2_contains ?bm1_iter ?bm2_iter ?bm1_or ?bm2_or ?bm1_sub ?bm2_sub ?sf1_Book ?sb_Book_RuleSet ?te1_RuleSet ?ie1_RuleSet ?ix1_Book ?ix2_Book ?ix3_Book ?ix4_Book ?nb_ValueError ?nb_abs ?nb_bool ?nb_iter ?nb_enumerate ?nb_int ?nb_isinstance ?nb_len ?nb_list ?nb_range ?nb_reversed ?nb_str ?nb_sum ?nb_tuple
    (case g_written_names => k_is)
    (case g_numbered_names => k_is)
    (case g_Lfeed => k_is)
    (case g_Lpick => k_is)
    (case g_Lrules => k_is)
    (case g_Lnames => k_is)
    (case g_Lnumber => k_is)
    (case g_Lis_book => k_is)
    (case g_Lbad_text => k_is)
    (case g_Lbad_number => k_is)
    (case g_Lbad_names => k_is)
    (case g_Lspoilt => k_is)
    (case g_law => k_is)
    (case g_RuleSet => k_is)
    (case g_Book => k_is)
    (case g_StoreError => k_is)
    (case g_BadText => k_is)
    (case g_BadValue => k_is)
    (case g_Refused => k_is)
    (case g_NotNow => k_is)
    (case tp_RuleSet => k_is)
    (case tp_Book => k_is)
    (case mk2_Book => k_is)
    (case m1_RuleSet___contains__ => k_is)
    (case m1_RuleSet___iter__ => k_is)
    (case m1_RuleSet_text => k_is)
    (case m1_Book___or__ => k_is)
    (case m1_Book___sub__ => k_is)
    (case s1_Book_read => k_is)
    (case s1_Book_of_number => k_is)
    (case s1_Book_full => k_is)
    (case s2_Book_read => k_is)
    (case s2_Book_of_number => k_is)
    (case s2_Book_full => k_is)
    (case tv1_RuleSet_RULES => k_is)
    (case tv1_Book_RULES => k_is)
    (case tc1_Book_RULES => k_is)
    (case tk_RuleSet_RULES => k_is)
    (case tk_Book_RULES => k_is)
    (case l_written_names => k_is)
    (case c_written_names => k_is)
    (case k_written_names => k_is)
    (case l_numbered_names => k_is)
    (case c_numbered_names => k_is)
    (case k_numbered_names => k_is)
    (case l_Lfeed => k_is)
    (case c_Lfeed => k_is)
    (case k_Lfeed => k_is)
    (case l_Lpick => k_is)
    (case c_Lpick => k_is)
    (case k_Lpick => k_is)
    (case l_Lrules => k_is)
    (case c_Lrules => k_is)
    (case k_Lrules => k_is)
    (case l_Lnames => k_is)
    (case c_Lnames => k_is)
    (case k_Lnames => k_is)
    (case l_Lnumber => k_is)
    (case c_Lnumber => k_is)
    (case k_Lnumber => k_is)
    (case l_Lis_book => k_is)
    (case c_Lis_book => k_is)
    (case k_Lis_book => k_is)
    (case l_Lbad_text => k_is)
    (case c_Lbad_text => k_is)
    (case k_Lbad_text => k_is)
    (case l_Lbad_number => k_is)
    (case c_Lbad_number => k_is)
    (case k_Lbad_number => k_is)
    (case l_Lbad_names => k_is)
    (case c_Lbad_names => k_is)
    (case k_Lbad_names => k_is)
    (case l_Lspoilt => k_is)
    (case c_Lspoilt => k_is)
    (case k_Lspoilt => k_is)
    (case l_law => k_is)
    (case c_law => k_is)
    (case k_law => k_is)
    (case l_RuleSet___init__ => k_is)
    (case c_RuleSet___init__ => k_is)
    (case k_RuleSet___init__ => k_is)
    (case l_RuleSet___contains__ => k_is)
    (case c_RuleSet___contains__ => k_is)
    (case k_RuleSet___contains__ => k_is)
    (case l_RuleSet___iter__ => k_is)
    (case c_RuleSet___iter__ => k_is)
    (case k_RuleSet___iter__ => k_is)
    (case l_RuleSet_text => k_is)
    (case c_RuleSet_text => k_is)
    (case k_RuleSet_text => k_is)
    (case l_Book___or__ => k_is)
    (case c_Book___or__ => k_is)
    (case k_Book___or__ => k_is)
    (case l_Book___sub__ => k_is)
    (case c_Book___sub__ => k_is)
    (case k_Book___sub__ => k_is)
    (case l_Book_read => k_is)
    (case c_Book_read => k_is)
    (case k_Book_read => k_is)
    (case l_Book_of_number => k_is)
    (case c_Book_of_number => k_is)
    (case k_Book_of_number => k_is)
    (case l_Book_full => k_is)
    (case c_Book_full => k_is)
    (case k_Book_full => k_is)
    (case pg_RuleSet => k_is)
    (case hd_RuleSet => k_is)
    (case po_RuleSet => k_is)
    (case sa_RuleSet => k_is)
    (case rd_RuleSet => k_is)
    (case ga_RuleSet => k_is)
    (case tr_RuleSet_RULES => first | rfl | decide +kernel | k_is)
    (case pg_Book => k_is)
    (case hd_Book => k_is)
    (case po_Book => k_is)
    (case sa_Book => k_is)
    (case n_Book_names => k_is)
    (case n_Book_number => k_is)
    (case rd_Book => k_is)
    (case ga_Book => k_is)
    (case tr_Book_RULES => first | rfl | decide +kernel | k_is)
    (case tc2_Book_RULES => k_is)
    (case m2_RuleSet___contains__ => k_is)
    (case m2_RuleSet___iter__ => k_is)
    (case m2_RuleSet_text => k_is)
    (case m2_Book___or__ => k_is)
    (case m2_Book___sub__ => k_is)
    (case be1_StoreError => k_is)
    (case te1_StoreError => k_is)
    (case ie1_StoreError => k_is)
    (case be1_BadText => k_is)
    (case te1_BadText => k_is)
    (case ie1_BadText => k_is)
    (case xe1_BadText => first | k_exc | k_is)
    (case ke1_BadText => k_is)
    (case ec1_BadText => k_is)
    (case ec2_BadText => k_is)
    (case ec4_BadText => k_is)
    (case ec5_BadText => k_is)
    (case ec6_BadText => k_is)
    (case ec7_BadText => k_is)
    (case ec8_BadText => k_is)
    (case be1_BadValue => k_is)
    (case te1_BadValue => k_is)
    (case ie1_BadValue => k_is)
    (case xe1_BadValue => first | k_exc | k_is)
    (case ke1_BadValue => k_is)
    (case ec1_BadValue => k_is)
    (case ec2_BadValue => k_is)
    (case ec4_BadValue => k_is)
    (case ec5_BadValue => k_is)
    (case ec6_BadValue => k_is)
    (case ec7_BadValue => k_is)
    (case ec8_BadValue => k_is)
    (case be1_Refused => k_is)
    (case te1_Refused => k_is)
    (case ie1_Refused => k_is)
    (case be1_NotNow => k_is)
    (case te1_NotNow => k_is)
    (case ie1_NotNow => k_is)
    (case sb_BadText_StoreError => first | rfl | k_is)
    (case sb_BadText_BadText => first | rfl | k_is)
    (case sb_BadText_BadValue => first | rfl | k_is)
    (case sb_BadText_Refused => first | rfl | k_is)
    (case sb_BadText_NotNow => first | rfl | k_is)
    (case sb_BadValue_StoreError => first | rfl | k_is)
    (case sb_BadValue_BadText => first | rfl | k_is)
    (case sb_BadValue_BadValue => first | rfl | k_is)
    (case sb_BadValue_Refused => first | rfl | k_is)
    (case sb_BadValue_NotNow => first | rfl | k_is)
    (case bs_BadText_ValueError => k_is)
    (case bs_BadValue_ValueError => k_is)
    (case mk1_Book => k_is)
    (case mk3_Book => k_is)
    (case mk4_Book => k_is)
    (case bm2_text => k_is)
    (case bm2_contains => k_is)
    (case bm2_iter => k_is)
    (case bm2_or => k_is)
    (case bm2_sub => k_is)
    (case sf1_Book => k_is)
    (case sb_Book_RuleSet => first | rfl | k_is)
    (case te1_RuleSet => k_is)
    (case ie1_RuleSet => k_is)
    (case ix1_Book => k_is)
    (case ix2_Book => k_is)
    (case ix3_Book => k_is)
    (case ix4_Book => k_is)
    (case nb_ValueError => k_is)
    (case nb_abs => k_is)
    (case nb_bool => k_is)
    (case nb_iter => k_is)
    (case nb_enumerate => k_is)
    (case nb_int => k_is)
    (case nb_isinstance => k_is)
    (case nb_len => k_is)
    (case nb_list => k_is)
    (case nb_range => k_is)
    (case nb_reversed => k_is)
    (case nb_str => k_is)
    (case nb_sum => k_is)
    (case nb_tuple => k_is)
    (case bm1_text => k_is)
    (case bm1_contains => k_is)
    (case bm1_iter => k_is)
    (case bm1_or => k_is)
    (case bm1_sub => k_is)
