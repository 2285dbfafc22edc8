import PyProof.Rows.All
import Wide.All
import OpenK.AllK
import Wide.FinOn
import HandS.ForMost
import HandS.IsInst
import HandS.Evl
import HandS.ClsMeth
import HandS.MakeKwOnly
import HandS.TryOnly
import HandS.ExcOwn
import HandS.ExcIs
import HandS.ExcCtx
import HandS.HotCalls
import HandS.WordsExc
import HandS.Conv
import HandS.FStr
import HandS.RaiseMore
import HandS.Style
import HandS.Small
import HandS.More
import HandS.Star
import KE.GoesMore
import HandS.Walk
import HandS.HeadHook2
import KE.KOwnIter
import HandS.IterVal
import HandS.Lambda
import HandS.RevTup
import HandS.Rev
import HandS.EndTab
import HandS.TupMul
import HandS.Zip
import HandS.Dict
import HandS.StrMore
import HandS.HeadHook4
import KE.KNestM
import HandS.AnyAll
import HandS.GenOver
import PySem.Challenge.RW_lotsandties_k46_live_copies
set_option Elab.async false
set_option linter.all false
set_option maxRecDepth 100000
set_option maxHeartbeats 4000000
namespace Rg
open PySem PySem.Spec PyProof.Rows L2
/-! ### heaps -/
theorem same_upd {H : Hp} {p : Addr} {o : HO} (h : H p = none) : Same H (upd H p o) := fun b x e => by
  rw [upd_ne (ne_of_none e h)]
  exact e
theorem upd_id {H : Hp} {p : Addr} {o : HO} (h : H p = some o) : upd H p o = H := by
  funext b
  by_cases e : b = p
  · rw [e, upd_same, h]
  · rw [upd_ne e]
theorem yes_ {σ : L2.St} {H : Hp} {A B : Hp → Prop} (h : A H) : tYes σ H fun b H3 => if b = true then A H3 else B H3 := by
  show if true = true then A H else B H
  rw [if_pos rfl]
  exact h
/-- what is free behind a store was free, and is another place -/
theorem un {H : Hp} {a b : Addr} {o : HO} (e : upd H a o b = none) : H b = none := by
  by_cases z : b = a
  · rw [z, upd_same] at e; cases e
  · rw [upd_ne z] at e; exact e
theorem unn {H : Hp} {a b : Addr} {o : HO} (e : upd H a o b = none) : b ≠ a := fun z => by
  rw [z, upd_same] at e; cases e
theorem unn' {H : Hp} {a b : Addr} {o : HO} (e : upd H a o b = none) : a ≠ b := fun z => unn e z.symm
theorem upd_comm {H : Hp} {p q : Addr} {o o' : HO} (h : p ≠ q) : upd (upd H p o) q o' = upd (upd H q o') p o := by
  funext b
  by_cases e : b = p
  · rw [e, upd_same, upd_ne h, upd_same]
  · by_cases e2 : b = q
    · rw [e2, upd_same, upd_ne h.symm, upd_same]
    · rw [upd_ne e2, upd_ne e, upd_ne e, upd_ne e2]
theorem upd_app {H : Hp} {p : Addr} {fs : List Int} {x : Int} : upd (upd H p (.lst (fs.map V.int))) p (.lst (fs.map V.int ++ [V.int x])) = upd H p (.lst ((fs ++ [x]).map V.int)) := by
  rw [upd_upd, List.map_append]
  rfl
/-- kept but for what stands at S -/
def Kp (S : List Addr) (H H' : Hp) : Prop := ∀ x o, H x = some o → x ∉ S → H' x = some o
theorem Kp.refl {S : List Addr} {H : Hp} : Kp S H H := fun _ _ e _ => e
theorem Kp.new {S : List Addr} {H H1 : Hp} {a : Addr} {o : HO} (k : Kp S H H1) (h : H1 a = none) : Kp S H (upd H1 a o) := fun x u e n => by
  rw [upd_ne (ne_of_none (k x u e n) h)]
  exact k x u e n
theorem Kp.own {S : List Addr} {H H1 : Hp} {a : Addr} {o : HO} (k : Kp S H H1) (h : a ∈ S) : Kp S H (upd H1 a o) := fun x u e n => by
  have z : x ≠ a := fun z => by rw [z] at n; exact n h
  rw [upd_ne z]
  exact k x u e n
theorem Kp.own1 {p : Addr} {H H1 : Hp} {o : HO} (k : Kp [p] H H1) : Kp [p] H (upd H1 p o) := k.own (by simp)
theorem Kp.trans {S : List Addr} {H H1 H2 : Hp} (a : Kp S H H1) (b : Kp S H1 H2) : Kp S H H2 := fun x o e n => b x o (a x o e n) n
theorem Kp.same {S : List Addr} {H H1 H2 : Hp} (a : Kp S H H1) (b : Same H1 H2) : Kp S H H2 := fun x o e n => b x o (a x o e n)
theorem Kp.of {S : List Addr} {H H1 : Hp} (b : Same H H1) : Kp S H H1 := fun x o e _ => b x o e
theorem Kp.mono {S S' : List Addr} {H H1 : Hp} (a : Kp S H H1) (h : ∀ x, x ∈ S → x ∈ S') : Kp S' H H1 := fun x o e n => a x o e fun z => n (h x z)
theorem Kp.free {S : List Addr} {H H1 : Hp} {x : Addr} (a : Kp S H H1) (n : x ∉ S) (h : H1 x = none) : H x = none := by
  cases q : H x with
  | none => rfl
  | some o => rw [a x o q n] at h; cases h
theorem Kp.at1 {p x : Addr} {H H' : Hp} {o : HO} (k : Kp [p] H H') (e : H x = some o) (n : x ≠ p) : H' x = some o := k x o e (by simp [n])
theorem Kp.ret {a : Addr} {S : List Addr} {H H' : Hp} {o : HO} (k : Kp (a :: S) H H') (h : H a = none) : Kp S H H' := fun x u e n => k x u e (by
  intro z
  rcases List.mem_cons.mp z with z | z
  · rw [z, h] at e; cases e
  · exact n z)
theorem own_f {H H' : Hp} {p : Addr} {o : HO} (h : upd H p o = H') : H' p = some o ∧ Kp [p] H H' ∧ ∀ x, H' x = none → H x = none ∧ x ≠ p := by
  subst h
  exact ⟨upd_same, Kp.refl.own1, fun x e => ⟨un e, unn e⟩⟩
theorem new_f {H H' : Hp} {a : Addr} {o : HO} (h : upd H a o = H') (n : H a = none) : H' a = some o ∧ Same H H' ∧ ∀ x, H' x = none → H x = none ∧ x ≠ a := by
  subst h
  exact ⟨upd_same, same_upd n, fun x e => ⟨un e, unn e⟩⟩
/-- a whole-number constant of the module -/
theorem pe_gc {X : Cx} {x : Str} {n : Int} {pos : Pos} (hm : ∃ t, X.mg x = some (.int n t)) (hg : Gl X x := by rfl) (hd : (x == ("__debug__" : Str)) = false := by decide) : PE X (.Name x pos) (tC (.int n)) :=
  let ⟨t, h⟩ := hm
  pe_glob hg h ⟨t, rfl⟩ hd
/-- a text constant of the module -/
theorem pe_gs {X : Cx} {x z : Str} {pos : Pos} (hm : ∃ t, X.mg x = some (.str z t)) (hg : Gl X x := by rfl) (hd : (x == ("__debug__" : Str)) = false := by decide) : PE X (.Name x pos) (tC (.str z)) :=
  let ⟨t, h⟩ := hm
  pe_glob hg h ⟨t, rfl⟩ hd
/-- C.f, C a class of the module, f a value of the class -/
theorem pe_cv {X : Cx} {x f : Str} {C : Addr} {mc : Value} {v : V} {p pos : Pos} (hm : X.mg x = some (.ref C)) (r : ClX.CRead X.K C mc) (k : ∃ u, ClX.CVal X.K C mc f v u) (hg : Gl X x := by rfl) (hd : (x == ("__debug__" : Str)) = false := by decide)
    (hb : attributeBase (.Name x p) f X.env (eval (.Name x p) X.env) = eval (.Name x p) X.env := by rfl) : PE X (.Attribute (.Name x p) f pos) (tC v) := by
  obtain ⟨u, k⟩ := k
  have := (ClX.pe_cval (pos := pos) (pe_glob (X := X) (x := x) (v := .ref C) (u := .ref C) (pos := p) hg hm rfl hd) hb)
  exact ⟨fun pins s σ H Q I h => this.run pins s σ H Q I ⟨C, mc, v, u, rfl, r, k, h⟩⟩
/-! ### the same rules with the written part named (inside a comprehension) -/
section
variable {X : Cx} {K : PySem.W.Frag}
def rListOf (K : PySem.W.Frag) : List V → Hp → VK → Prop := fun xs H Q => ∃ p ys, xs = [.ref p] ∧ (SqL K H p ys ∨ SqT K H p ys) ∧ ∀ l, H l = none → Q (.ref l) (upd H l (.lst ys))
theorem pe_listof {e : Expr} {te : TE} {p pos : Pos} (he : PE X e te) (hm : X.mg "list" = none) (hK : X.K = K := by rfl) (hg : Gl X "list" := by rfl) (hs : starEach [e] X.env = (false, eval e X.env) :: starEach [] X.env := by rfl) : PE X (.Call (.Name "list" p) [e] [] pos) (tCB (rListOf K) (tCons te tNil)) := by
  subst hK
  exact pe_callTy call_list_of hg hm (by decide +kernel) (pa_cons he pa_nil hs) (he := hs)
theorem pe_fldK {e : Expr} {f : Str} {pos : Pos} {ta : TE} (he : PE X e ta) (hb : attributeBase e f X.env (eval e X.env) = eval e X.env) (hK : X.K = K := by rfl) : PE X (.Attribute e f pos) (tFld K ta f) := by
  subst hK
  exact pe_fld he hb
theorem pe_ixK {a b : Expr} {pos : Pos} {ta tb : TE} (ha : PE X a ta) (hb : PE X b tb) (hs : PlainIx b) (hK : X.K = K := by rfl) : PE X (.Subscript a b pos) (tOp (rIxL K) ta tb) := by
  subst hK
  exact pe_ix ix_list ha hb hs
theorem pe_lenK {e : Expr} {te : TE} {p pos : Pos} (he : PE X e te) (hm : X.mg "len" = none) (hK : X.K = K := by rfl) (hg : Gl X "len" := by rfl) (hs : starEach [e] X.env = (false, eval e X.env) :: starEach [] X.env := by rfl) : PE X (.Call (.Name "len" p) [e] [] pos) (tCB (fun xs H Q => ∃ p ys, xs = [.ref p] ∧ (SqL K H p ys ∨ SqT K H p ys) ∧ Q (.int ys.length) H) (tCons te tNil)) := by
  subst hK
  exact pe_callB call_len_seq hg hm (by decide +kernel) (pa_cons he pa_nil hs) (he := hs)
end
/-! ### static methods, called off the class -/
structure SMet (K : PySem.W.Frag) (C : Addr) (mc : Value) (m : Str) (g : Addr) : Prop where
  ex : ∃ p, PySem.W.findCls K (.ref C) mc m = some (.get (.builtin "staticmethod.__get__") (.ref p) .none (.ref C)) ∧ (∃ rest, PySem.W.recIn K p "staticmethod" = some (.ref g :: rest)) ∧ PySem.W.keepIn K (.ref g) = true
/-- C.m(e, ..), C the class at C, m a static method -/
def tSMeth (sp : Sp) (dvs : List V) (E : XK) (t : TA) : TE := fun σ H Q => t σ H fun vs H2 => sp (vs ++ dvs) H2 Q E
section
variable {X : Cx} {CX : CXT} {k : Nat} {C g : Addr} {mc : Value} {sp : Sp} {E : XK} {x : Str} {e : Expr} {es : List Expr} {m : Str} {p pos apos : Pos} {t : TA} {pl : Sem Bool} {fd : FuncData} {ps : List Str} {ds : List Value} {dvs : List V}
theorem pe_smeth (hmx : X.mg x = some (.ref C)) (r : ClX.CRead X.K C mc) (c : SMet X.K C mc m g) (F : FnOk X.prog X.w X.K X.mg X.base CX k g fd ps sp) (hr : Room k X.A) (hb : Binds X.K fd ps ds) (hd : Vals dvs ds) (hx : Passes CX X E) (ha : PA X (e :: es) t) (hg : Gl X x := by rfl) (hdb : (x == ("__debug__" : Str)) = false := by decide)
    (hst : starEach (e :: es) X.env = (false, eval e X.env) :: starEach es X.env := by rfl) (hpl : (backTo pos (starEach es X.env)).any (·.1) = false := by rfl)
    (ht : eval (.Call (.Attribute (.Name x p) m apos) (e :: es) [] pos) X.env = (do
      let ov ← eval (.Name x p) X.env
      standAt apos.atName
      let (f, first) ← holding [ov] (getMethod ov m pl)
      callWith pos f first (backTo pos (starEach (e :: es) X.env)) (backToKw pos (keywordEach [] X.env))) := by rfl) :
    PE X (.Call (.Attribute (.Name x p) m apos) (e :: es) [] pos) (tSMeth sp dvs E t) := by
  obtain ⟨q, at_, ⟨rest, hp⟩, hk⟩ := c.ex
  refine ⟨fun pins s σ H Q I h => ?_⟩
  refine PySem.W.methodCall_KW (pl := pl) (ld_glob I hg hmx ?_ hdb) ht
  refine PySem.W.method_cls I.kIn r.ga (PySem.W.cls_bind I.kIn r.rd at_ ?_)
  refine wpAny_call (PySem.W.sm_get (s := { s with toks := s.toks + 1 }) I.kIn hp (PySem.W.handed_on rfl ?_))
  refine PySem.W.callWith_K (f := .ref g) (first := []) (h₀ := X.base) I.ok.mod.kin hk (thn (ha.run pos pins _ σ H _ (I.tok _) h) fun us s1 ⟨vs, H1, I1, r1, q1⟩ => ⟨I1.kIn, ?_⟩) hst hpl
  exact run_fn F hr hb hd hx I1 r1 q1
end
/-! ### errors -/
theorem exm_sub {K : PySem.W.Frag} {D S : Addr} (h1 : PySem.W.subIn K (.ref S) (.type "BaseException") = some true) (h2 : PySem.W.isClsIn K S = true) (h3 : PySem.W.typeIn K (.ref S) = some (.type "type")) (h4 : PySem.W.subIn K (.ref D) (.ref S) = some true) :
    PySem.W.exmOne K (.ref D) (.ref S) = some true := by
  have e1 : (PySem.W.subIn K (.ref S) (.type "BaseException") == some true) = true := by rw [h1] <;> rfl
  have e2 : ((PySem.W.clsIn K S).isSome && PySem.W.typeIn K (.ref S) == some (.type "type")) = true := by
    have h2' : (PySem.W.clsIn K S).isSome = true := h2
    rw [h2', h3] <;> rfl
  show (if (PySem.W.subIn K (.ref S) (.type "BaseException") == some true) = true then (if ((PySem.W.clsIn K S).isSome && PySem.W.typeIn K (.ref S) == some (.type "type")) = true then PySem.W.subIn K (.ref D) (.ref S) else none) else none) = some true
  rw [if_pos e1, if_pos e2]
  exact h4
theorem kit_sub {K : PySem.W.Frag} {D S : Addr} {b : Bool} (hne : D ≠ S) (h2 : PySem.W.isClsIn K S = true) (h3 : PySem.W.typeIn K (.ref S) = some (.type "type")) (h4 : PySem.W.subIn K (.ref D) (.ref S) = some b) :
    PySem.W.kitOne K (.ref D) (.ref S) = some b := by
  have e2 : ((PySem.W.clsIn K S).isSome && PySem.W.typeIn K (.ref S) == some (.type "type")) = true := by
    have h2' : (PySem.W.clsIn K S).isSome = true := h2
    rw [h2', h3] <;> rfl
  unfold PySem.W.kitOne
  rw [if_neg (by intro z; exact hne (Value.ref.inj (beq_iff_eq.mp z)))]
  show (if ((PySem.W.clsIn K S).isSome && PySem.W.typeIn K (.ref S) == some (.type "type")) = true then PySem.W.subIn K (.ref D) (.ref S) else none) = some b
  rw [if_pos e2]
  exact h4
/-- a suite that is come to by an error of the class at D alone (no fields of its own) -/
def tOnly (cls : Value) (d : Option Addr) (D : Addr) (t : TS) : TS := fun E σ H => cls = .ref D ∧ d = none ∧ t E σ H
theorem pss_only {X : Cx} {sts : List Stmt} {t : TS} {cls : Value} {d : Option Addr} {D : Addr} (h : cls = .ref D → d = none → PSs X sts t) : PSs X sts (tOnly cls d D t) :=
  ⟨fun pins s σ H E I hh => (h hh.1 hh.2.1).run pins s σ H E I hh.2.2⟩
theorem kit_self {K : PySem.W.Frag} {D : Addr} : PySem.W.kitOne K (.ref D) (.ref D) = some true := by
  unfold PySem.W.kitOne
  rw [if_pos (beq_self_eq_true _)]
theorem dec_iv (a d : Int) : decide (V.int a = V.int d) = decide (a = d) := by
  by_cases e : a = d
  · subst e; simp
  · rw [decide_eq_false e, decide_eq_false fun q => e (V.int.inj q)]
end Rg
namespace Rg
open PySem PySem.Spec PyProof.Rows L2
/-! ### tests that are known -/
theorem wT {c A B : Prop} [Decidable c] (h : c) (a : A) : if decide c = true then A else B := by rw [decide_eq_true h, if_pos rfl]; exact a
theorem wF {c A B : Prop} [Decidable c] (h : ¬ c) (a : B) : if decide c = true then A else B := by rw [decide_eq_false h, if_neg Bool.false_ne_true]; exact a
theorem wTv {a b : Int} {A B : Prop} (h : a = b) (k : A) : if decide (V.int a = V.int b) = true then A else B := wT (by rw [h]) k
theorem wFv {a b : Int} {A B : Prop} (h : ¬ a = b) (k : B) : if decide (V.int a = V.int b) = true then A else B := wF (fun z => h (V.int.inj z)) k
theorem wI {a b : Int} {A B : Prop} (h1 : a = b → A) (h2 : ¬ a = b → B) : if decide (V.int a = V.int b) = true then A else B := by
  by_cases e : a = b
  · exact wTv e (h1 e)
  · exact wFv e (h2 e)
theorem wD {c A B : Prop} [Decidable c] (h1 : c → A) (h2 : ¬ c → B) : if decide c = true then A else B := by
  by_cases e : c
  · exact wT e (h1 e)
  · exact wF e (h2 e)
theorem wTn {c A B : Prop} [Decidable c] (h : ¬ c) (a : A) : if (!decide c) = true then A else B := by rw [decide_eq_false h]; exact iteT a
theorem wFn {c A B : Prop} [Decidable c] (h : c) (a : B) : if (!decide c) = true then A else B := by rw [decide_eq_true h]; exact iteF a
theorem wTb {b : Bool} {A B : Prop} (h : b = true) (a : A) : if b = true then A else B := by rw [if_pos h]; exact a
theorem wFb {b : Bool} {A B : Prop} (h : b = false) (a : B) : if b = true then A else B := by rw [if_neg (by rw [h]; decide)]; exact a
/-- what was free before may be written -/
theorem Kp.put {S : List Addr} {H H1 : Hp} {a : Addr} {o : HO} (k : Kp S H H1) (h : H a = none) : Kp S H (upd H1 a o) := fun x u e n => by
  rw [upd_ne (ne_of_none e h)]
  exact k x u e n
theorem wNT {a b : Int} {A B : Prop} (h : ¬ a = b) (k : A) : if (!decide (V.int a = V.int b)) = true then A else B := wTn (fun z => h (V.int.inj z)) k
theorem wNF {a b : Int} {A B : Prop} (h : a = b) (k : B) : if (!decide (V.int a = V.int b)) = true then A else B := wFn (by rw [h]) k
theorem wNe {a b : Int} {A B : Prop} (h1 : ¬ a = b → A) (h2 : a = b → B) : if (!decide (V.int a = V.int b)) = true then A else B := by
  by_cases e : a = b
  · exact wNF e (h2 e)
  · exact wNT e (h1 e)
theorem wND {c A B : Prop} [Decidable c] (h1 : ¬ c → A) (h2 : c → B) : if (!decide c) = true then A else B := by
  by_cases e : c
  · exact wFn e (h2 e)
  · exact wTn e (h1 e)
theorem CMul_l {i j : Int} (h : -(2 ^ 64) < i ∧ i < 2 ^ 64) : CMul i j := .inl h
theorem CMul_r {i j : Int} (h : -(2 ^ 64) < j ∧ j < 2 ^ 64) : CMul i j := .inr h
theorem lt_line {n : Nat} (h : n ≤ 10000) : n < sizeLine := Nat.lt_of_le_of_lt h (by decide)
end Rg
namespace Rg
open PySem PySem.Spec PyProof.Rows L2
/-! ### an error that a suite holds, handed to a def of one's own -/
section
variable {prog : Program} {w : World} {A : Around} {E : Value → Shared → Prop} {s : Shared}
/-- a walk over a list comes to its end while an error is handled -/
theorem list_end_hot {it l x1 : Addr} {i : Nat} {items} {Q : Option Value → Shared → Prop} (hot : HotX.HotAt A x1 s.heap) (hit : s.heap.IsListIter it l i) (hl : s.heap.IsList l items) (hx : items[i]? = none)
    (hQ : ∀ h', Heap.ExtBut it s.heap h' → Q none { s with heap := h' }) : wpAny (model prog w) A (pyNext (.ref it)) Q E s := by
  obtain ⟨hh, o1, vs1, h1, d1, c1⟩ := hot; obtain ⟨o, ho, hc, hd⟩ := id hit
  obtain ⟨ol, hol, _, nl, hdl⟩ := hl; unfold pyNext
  have ni : it ≠ x1 := fun z => by
    rw [← z, ho] at h1
    cases h1
    rw [hd] at d1
    cases d1
    simp at c1
  refine wpAny_bind (wpAny_attempt (wpAny_callSpecial?_slot (name := Str.ofString "__next__") hit.typeIs slot_listiter_next (wpAny_call_entry slot_listiter_next hit.typeIs entry_listiter_next ?_ (args_listiter_next _))))
  refine (show wpAny _ _ (field (.ref it) 0 >>= _) _ _ s from ?_); refine wpAny_bind (wpAny_field ho hd (x := .ref l) rfl ?_)
  refine (show wpAny _ _ (if (Value.ref l == Value.none) = true then _ else _) _ _ s from ?_); rw [if_neg (show ¬ ((Value.ref l == Value.none) = true) from Bool.false_ne_true)]
  refine (show wpAny _ _ (field (.ref it) 1 >>= _) _ _ s from ?_); refine wpAny_bind (wpAny_field ho hd (x := .int i 0) rfl ?_)
  refine (show wpAny _ _ (seqItems? (.ref l) >>= _) _ _ s from ?_); refine wpAny_bind (wpAny_seqItems hol hdl ?_)
  simp only [Int.toNat_natCast, hx]; refine wpAny_bind (wpAny_rule (wpAny_bind (wpAny_setField ho hd (by simp) ?_)))
  refine (show wpAny _ _ (newExc (.type "StopIteration") [] >>= _) _ _ _ from ?_); refine wpAny_bind ?_
  simp only [newExc, newTuple]; refine wpAny_bind (wpAny_newObj_type ?_ (by size_fits))
  refine wpAny_bind (m := firstArgMember _ _) (wpAny_of_eq (a := Value.none) (by first | rfl | (simp only [firstArgMember]; rfl)) ?_); refine wpAny_newObj_type ?_ (by size_fits)
  have g1 : ∀ f : Obj → Obj, (s.heap.update it f).get? x1 = some o1 := fun f => by rw [Heap.get?_update_other _ _ ni]; exact h1
  refine HotX.raiseNew_hot ⟨hh, o1, vs1, Heap.get?_push_of_some _ (Heap.get?_push_of_some _ (g1 _)), d1, c1⟩ (Nat.ne_of_lt (Heap.lt_size (Heap.get?_push_of_some _ (g1 _)))) (Heap.get?_push_size _ rfl) rfl (by first | (simp; done) | (simp; omega) | (simp only [Array.size_append]; simp; omega)) ?_
  refine wpAny_bind (wpAny_isInstance (T := "StopIteration") (b := true) ⟨_, Heap.get?_update_self _ (Heap.get?_push_size _ rfl) rfl, rfl⟩ isSubtype_stop ?_); refine wpAny_pure (hQ _ fun b o' nb e => ?_)
  have e2 : ∀ f oo, ((s.heap.update it f).push oo).get? b = some o' := fun f oo => (Heap.SameBut.update ..).extBut.push _ b o' nb e
  rw [Heap.get?_update_other _ _ (Nat.ne_of_gt (Heap.lt_size (e2 _ _)))]; exact Heap.get?_push_of_some _ (e2 _ _)
end
/-- the turns of a walk over a list while an error is handled -/
theorem turn_listH {P : Program} {w : World} {K : PySem.W.Frag} {tg : Expr} (a it : Addr) : L2H.TurnH P w K tg (Itl K a) [it] it (fun i h => h.IsListIter it a i) where
  mem := by simp
  obj := fun i h st b hb => (turn_list (P := P) (w := w) (K := K) (tg := tg) a it).obj i h st b hb
  keep := fun i h h' st k => (turn_list (P := P) (w := w) (K := K) (tg := tg) a it).keep i h h' st k
  item := by
    intro X hP hw hK hc i pins s σ H E I hf st hg; subst hP hw hK
    obtain ⟨xs, x, hq, hx⟩ := hg; obtain ⟨its, rv, p, hz⟩ := I.list hq
    obtain ⟨u, hu, ru⟩ := rv.get hx; obtain ⟨f0, f1, f2, f3, f4, f5⟩ := hf it (by simp)
    refine wpAny_pyNext_list_item st p.isList (x := u) (by simpa using hu) fun h' st' sb => ?_
    have I1 : Inv X pins σ H { s with heap := h' } := I.turned (t' := s.toks) (fun b o hb e => (sb.2 b hb).trans e) f0 f1 f3 f4 f5
    obtain ⟨o, e, c, d⟩ := id st'
    exact ⟨u, rfl, go_of (s := { s with heap := h' }) e c d (by decide) ⟨x, H, I1, ru, ⟨rfl, fun ys hy => by rw [I.list_inj hy hq]; exact hx⟩, st', fun b hb => (hf b hb).1⟩⟩
  done := by
    intro X hP hw hK hc i pins s σ H E I hf st hg; subst hP hw hK
    obtain ⟨xs, hq, hx⟩ := hg; obtain ⟨its, rv, p, hz⟩ := I.list hq
    obtain ⟨f0, f1, f2, f3, f4, f5⟩ := hf it (by simp); obtain ⟨x1, hot⟩ := hc.at I
    have hl := rv.length
    exact list_end_hot hot st p.isList (by simp; omega) fun h' eb => ⟨rfl, I.turned (t' := s.toks) (fun b o hb e => eb b o hb e) f0 f1 f3 f4 f5⟩
  self := fun _ _ _ _ _ st h => wpAny_pyIter_listiter st h
theorem pi_listH {X : Cx} {tg l : Expr} {tl : TE} (hl : PE X l tl) : L2H.PIH X tg l (iList X.K tl) := by
  refine ⟨fun pins s σ H R I h => thn (hl.run pins s σ H _ I h) fun v s1 ⟨x, H1, I1, r1, q1⟩ => ?_⟩
  obtain ⟨a, e, ⟨xs, hq⟩, q⟩ := q1; subst e; cases r1
  obtain ⟨its, rv, p, hz⟩ := I1.list hq; refine wpAny_pyIter_list p.isList ?_
  refine ⟨s1.heap.objs.size, [s1.heap.objs.size], _, _, H1, rfl, I1.kept (t' := s1.toks) (fun b o e => Heap.get?_push_of_some _ e), turn_listH a _, ⟨_, Heap.get?_push_size _ rfl, rfl, rfl⟩, fun b hb => ?_, q⟩
  have e : b = s1.heap.objs.size := by simpa using hb
  subst e; exact I1.fpOk (Nat.le_refl _) (I1.hok.fresh (Nat.le_refl _))
/-- a def that is called with the error that a suite holds (of the class at D) and lets nothing out -/
structure FnE (P : Program) (w : World) (K : PySem.W.Frag) (mg : Str → Option Value) (base : Heap) (k : Nat) (f : Addr) (fd : FuncData) (ps : List Str) (D : Addr) (sp : Addr → Sp) : Prop where
  len : ∀ a vs H Q E, sp a vs H Q E → vs.length = ps.length
  run : ∀ (A : Around) (outer : List Env) (s : Shared) (H : Hp) (args : Args) (us : List Value) (vs : List V) (Q : VK) (E : XK) (p : Addr × Obj), L2H.RoomH k A → L2H.Hot1 A p → Zc (.ref D) none p.2 → L2H.PinOk outer H s p → Env0 P w K mg base A outer s H →
    BindsTo s fd args (ps.zip us) → Vals vs us → sp p.1 vs H Q E → codeAny (model P w) A (.call (.ref f) args) (CR CX0 outer P w H s Q E) s
section
variable {P : Program} {w : World} {K : PySem.W.Frag} {mg : Str → Option Value} {base : Heap}
theorem _root_.L2.Fun.okE {x qual : Str} {st : Stmt} {f D : Addr} {fd : FuncData} {N ps : List Str} {k : Nat} {sp : Addr → Sp} (F : Fun K x qual st f fd) (S : FnScope N ps (defScope st)) (len : ∀ a vs H Q E, sp a vs H Q E → vs.length = ps.length)
    (hbody : ∀ (cdv : Value) (A : Around) (outer : List Env) (s : Shared) (H : Hp) (vs : List V) (Q : VK) (E : XK) (p : Addr × Obj), L2H.Hot1 A p → Zc (.ref D) none p.2 → L2H.RoomH k (A.deeper (envOfC qual (defScope st) s.heap.objs.size f cdv)) → sp p.1 vs H Q E →
      ∃ t, PSs (L2H.cxH CX0 P w K mg base N qual (defScope st) f cdv A outer s H E p) (defBody st) t ∧ t { nx := fun _ H' => Q .non H', rt := Q } (L2.start N vs) H) : FnE P w K mg base (k + 1) f fd ps D sp := by
  obtain ⟨oc, od, kV, doc, pm, an, cdv, ct, osl, rfl, lk, hcd⟩ := F.ex
  refine ⟨len, fun A outer s H args us vs Q E p hr hot hz hpin e0 hb r hsp => ?_⟩
  have hl := len _ _ _ _ _ hsp; have KX : K.In s.heap := e0.mod.kin.keeps fun b o e => (e0.bs b o e).1
  have lim : s.heap.NoLimit := e0.mod.nolimit.keeps fun b o e => (e0.bs b o e).1; have bb := hb
  have hkind : ∀ y ∈ ps.zip us, (defScope st).names.lookup y.1 = some .local ∨ ((defScope st).names.lookup y.1 = some .cell ∧ ((cellsFrom (s.heap.objs.size + 1) (defScope st).names []).lookup y.1).isSome = true) := fun ⟨n, v⟩ hy =>
    (S.par n (List.of_mem_zip hy).1).elim .inl fun q => .inr ⟨q, PySem.W.cellsFrom_some _ _ _ (.inl q)⟩
  refine codeAny_call_function hr.depth (KX _ _ lk) rfl S.co S.gen rfl (PySem.W.codeRec_of KX hcd) (bb _ _ _ _ (wpAny_newFunctionEnv_cells S.kind hkind fun env he s1 x => ?_))
  subst he; refine ⟨lim.keeps x.toInCall.keep, codeAny_func ?_⟩
  obtain ⟨t, ht, hq⟩ := hbody cdv A outer s H vs Q E p hot hz (hr.deeper _) hsp
  have I := L2H.inv_startH (CX := CX0) (E := E) S hpin e0 hl r x
  refine wpAny_mono (ht.run [] s1 (L2.start N vs) H _ I hq) (fun fl s' hs => ?_) fun _ _ hs => hs
  cases fl with
  | ret u => exact hs.elim fun v ⟨σ', H', J, rv, q⟩ => ⟨v, H', J.os, J.bare, J.base, J.hok, rv, q⟩
  | next => exact hs.elim fun σ' ⟨H', J, q⟩ => ⟨V.non, H', J.os, J.bare, J.base, J.hok, rfl, q⟩
  | brk => exact hs.elim fun _ ⟨_, _, q⟩ => q.elim
  | cont => exact hs.elim fun _ ⟨_, _, q⟩ => q.elim
end
section
variable {X : Cx} {k : Nat} {f D : Addr} {fd : FuncData} {ps : List Str} {sp : Addr → Sp} {x : Str} {q pos : Pos} {e : Expr} {es : List Expr} {t : TA}
/-- f(e, ..), f a def for the error at a -/
def tCallE (sp : Addr → Sp) (a : Addr) (t : TA) : TE := fun σ H Q => t σ H fun vs H1 => sp a vs H1 Q E0
theorem pe_callE (F : FnE X.prog X.w X.K X.mg X.base k f fd ps D sp) (hr : L2H.RoomH k X.A) {p : Addr × Obj} (hot : L2H.Hot1 X.A p) (hz : Zc (.ref D) none p.2) (hp : p ∈ X.pn) (hg : Gl X x) (hm : X.mg x = some (.ref f)) (hk : PySem.W.keepIn X.K (.ref f) = true) (hb : Binds X.K fd ps [])
    (ha : PA X (e :: es) t) (hdb : (x == ("__debug__" : Str)) = false := by decide) (he : starEach (e :: es) X.env = (false, eval e X.env) :: starEach es X.env := by rfl) (hpl : (backTo pos (starEach es X.env)).any (·.1) = false := by rfl) :
    PE X (.Call (.Name x q) (e :: es) [] pos) (tCallE sp p.1 t) := by
  refine ⟨fun pins s σ H Q I h => wpAny_Call_Name_kw (ld_glob I hg hm ?_ hdb)⟩
  refine PySem.W.callWith_K (h₀ := X.base) I.ok.mod.kin hk (thn (ha.run pos pins s σ H _ I h) fun us s1 ⟨vs, H1, I1, r, q⟩ => ⟨I1.kIn, ?_⟩) he hpl
  have hl : us.length = ps.length := by rw [← r.length]; exact F.len _ _ _ _ _ q
  have b := hb s1 us I1.kIn (by rw [List.append_nil]; exact hl)
  rw [List.append_nil] at b
  have P1 := I1.pin p (List.mem_append_left _ hp)
  have hpin : L2H.PinOk X.stack H1 s1 p := ⟨P1.1, P1.2.1, fun hm' => (List.mem_cons.mp (I1.stkSub p.1 hm')).elim P1.2.2.1 P1.2.2.2.1, P1.2.2.2.2⟩
  refine wpAny_call (codeAny_mono (F.run X.A X.stack s1 H1 ⟨us, []⟩ us vs Q E0 p hr hot hz hpin I1.env0 b r q) fun r' s' hq => ?_)
  cases r' with
  | error e => exact False.elim hq
  | ok fl =>
    cases fl with
    | ret u => exact I1.after hq
    | _ => exact False.elim hq
/-- isinstance of the error that is handled, in whatever def it is asked -/
theorem call_isP {a D : Addr} {oe : Obj} (C : ExcC X.K D) (hz : Zc (.ref D) none oe) (hf : ∃ vs, oe.data = .fields vs) (hp : (a, oe) ∈ X.pn) : CallR X (.builtin "isinstance") (rIsE X.K D a) := by
  rintro pins s σ H xs us Q I r ⟨c, cv, b, rfl, hcv, e, q⟩
  obtain ⟨vs, hv⟩ := hf
  cases r with
  | cons rx rr =>
    cases rr with
    | cons rt rr =>
      cases rr; cases rx
      have ec := hcv _ rt
      subst ec
      have hget := (I.pin (a, oe) (List.mem_append_left _ hp)).1
      have J : PySem.W.InstAt s.heap a oe D none := by
        obtain ⟨oc, od, oda, osl⟩ := oe
        obtain ⟨h1, h2⟩ := hz
        subst hv
        cases h1
        cases h2
        exact ⟨hget, rfl, rfl, trivial⟩
      exact PySem.W.kia_one (PySem.W.handS_kitx_exc C.hg C.hk C.hs C.hd C.ha C.hn C.ht C.hm) I.kIn J e (fun z => nomatch z) fun tk => ⟨.bl b, H, I.kept (t' := tk) fun _ _ z => z, rfl, q⟩
end
/-! ### defs that raise: the error's context is told to be None -/
section
variable {P : Program} {w : World} {K : PySem.W.Frag} {mg : Str → Option Value} {base : Heap}
theorem _root_.L2.Fun.okN {x qual : Str} {st : Stmt} {f : Addr} {fd : FuncData} {N ps : List Str} {k : Nat} {sp : Sp} (F : Fun K x qual st f fd) (S : FnScope N ps (defScope st)) (len : ∀ vs H Q E, sp vs H Q E → vs.length = ps.length)
    (hbody : ∀ (cdv : Value) (A : Around) (outer : List Env) (s : Shared) (H : Hp) (vs : List V) (Q : VK) (E : XK), Room k (A.deeper (envOfC qual (defScope st) s.heap.objs.size f cdv)) → sp vs H Q E →
      ∃ t, PSs (cxOf (L2N.CX P w) P w K mg base N qual (defScope st) f cdv A outer s H E) (defBody st) t ∧ t { nx := fun _ H' => Q .non H', rt := Q } (L2.start N vs) H) : FnOk P w K mg base (L2N.CX P w) (k + 1) f fd ps sp := by
  obtain ⟨oc, od, kV, doc, pm, an, cdv, ct, osl, rfl, lk, hcd⟩ := F.ex
  exact fn_of lk hcd S len fun A outer s H vs Q E hr hsp => hbody cdv A outer s H vs Q E hr hsp
theorem takes0N {X : Cx} : L2N.Takes X (fun _ _ _ _ => False) := fun _ _ x => by
  obtain ⟨_, _, _, _, _, _, _, _, _, _, _, _, _, _, _, _, z⟩ := x
  cases z
end
section
variable {X : Cx} {C : Addr} {bmB : List Value} {B newId initId : String}
/-- X(e) -/
theorem pmk_own1N {x : Str} {e : Expr} {ta : TE} {p pos : Pos} (F : ExcBaseFacts B newId initId bmB) (q : PySem.W.excIn X.K C bmB newId = true) (gC : X.mg x = some (.ref C)) (kC : PySem.W.keepIn X.K (.ref C) = true) (r : Raises X (.ref C)) (hg : Gl X x) (he : PE X e ta)
    (hs : starEach [e] X.env = (false, eval e X.env) :: starEach [] X.env := by rfl) (hdb : (x == ("__debug__" : Str)) = false := by decide) : L2N.PMk X (.Call (.Name x p) [e] [] pos) (fun σ H Q => ta σ H fun _ H1 => Q (.ref C) none H1) := by
  intro pins s σ H Q I h; refine wpAny_Call_Name_kw (ld_glob I hg gC ?_ hdb)
  refine PySem.W.callWith_K (h₀ := X.base) I.ok.mod.kin kC ?_ hs (by rfl); rw [hs]
  refine (show wpAny _ _ (spliced ((false, eval e X.env) :: backTo pos (starEach [] X.env))) _ _ s from ?_)
  refine Calls.spliced_cons (thn (he.run pins s σ H _ I h) fun u s1 ⟨v, H1, I1, r1, q1⟩ => Calls.spliced_nil ⟨I1.kIn, ?_⟩)
  refine (show wpAny _ _ (call (.ref C) [u]) _ _ _ from ?_)
  obtain ⟨bm, N, nm, qn, bs, hdct, sn, sub, ab, col, dd, k0, k1, k2, k3, k5, mN, hC, hN, hni, T⟩ := exc_obj I1.kIn q
  exact wpAny_call_exc_subT F T hC hN hni (fun h' e' hm => L2N.mk_of I1 hm r q1 (I1.hok.gone hm.new)) (by show 1 ≤ sizeLine; rw [sizeLine_eq]; omega)
end
/-! ### which class an error is of -/
theorem kit_subT {K : PySem.W.Frag} {D S : Addr} (h2 : PySem.W.isClsIn K S = true) (h3 : PySem.W.typeIn K (.ref S) = some (.type "type")) (h4 : PySem.W.subIn K (.ref D) (.ref S) = some true) : PySem.W.kitOne K (.ref D) (.ref S) = some true := by
  by_cases e : D = S
  · subst e
    exact kit_self
  · exact kit_sub e h2 h3 h4
theorem kit_blt {K : PySem.W.Frag} {D : Addr} {b : String} {r : Bool} (hm : PySem.W.kitMeta b = true) (h : PySem.W.subIn K (.ref D) (.type b) = some r) : PySem.W.kitOne K (.ref D) (.type b) = some r := by
  unfold PySem.W.kitOne
  rw [if_neg (by intro z; exact nomatch (beq_iff_eq.mp z))]
  unfold PySem.W.kitCls
  simpa [hm] using h
theorem takeB {α : Type} {l : List α} {i : Nat} {x : α} (h : l[i]? = some x) : l.take (i + 1) = l.take i ++ [x] := by
  rw [List.take_succ, h]
  rfl
/-! ### unpacking a tuple while an error is handled -/
section
variable {prog : Program} {w : World} {A : Around} {E : Value → Shared → Prop} {s : Shared}
theorem tup_end_hot {it l x1 : Addr} {i : Nat} {items} {Q : Option Value → Shared → Prop} (hot : HotX.HotAt A x1 s.heap) (hit : IsTupIter s.heap it l i) (hl : IsTup s.heap l items) (hx : items[i]? = none)
    (hQ : ∀ h', Heap.ExtBut it s.heap h' → Q none { s with heap := h' }) : wpAny (model prog w) A (pyNext (.ref it)) Q E s := by
  obtain ⟨hh, o1, vs1, h1, d1, c1⟩ := hot; obtain ⟨o, ho, hc, hd⟩ := id hit
  obtain ⟨ol, hol, _, nl, hdl⟩ := hl; unfold pyNext
  have ni : it ≠ x1 := fun z => by
    rw [← z, ho] at h1
    cases h1
    rw [hd] at d1
    cases d1
    simp at c1
  refine wpAny_bind (wpAny_attempt (wpAny_callSpecial?_slot (name := Str.ofString "__next__") hit.typeIs slot_tupleiter_next (wpAny_call_entry slot_tupleiter_next hit.typeIs entry_tupleiter_next ?_ (args_tupleiter_next _))))
  refine (show wpAny _ _ (field (.ref it) 0 >>= _) _ _ s from ?_); refine wpAny_bind (wpAny_field ho hd (x := .ref l) rfl ?_)
  refine (show wpAny _ _ (if (Value.ref l == Value.none) = true then _ else _) _ _ s from ?_); rw [if_neg (show ¬ ((Value.ref l == Value.none) = true) from Bool.false_ne_true)]
  refine (show wpAny _ _ (field (.ref it) 1 >>= _) _ _ s from ?_); refine wpAny_bind (wpAny_field ho hd (x := .int i 0) rfl ?_)
  refine (show wpAny _ _ (seqItems? (.ref l) >>= _) _ _ s from ?_); refine wpAny_bind (wpAny_seqItems hol hdl ?_)
  simp only [Int.toNat_natCast, hx]; refine wpAny_bind (wpAny_rule (wpAny_bind (wpAny_setField ho hd (by simp) ?_)))
  refine (show wpAny _ _ (newExc (.type "StopIteration") [] >>= _) _ _ _ from ?_); refine wpAny_bind ?_
  simp only [newExc, newTuple]; refine wpAny_bind (wpAny_newObj_type ?_ (by size_fits))
  refine wpAny_bind (m := firstArgMember _ _) (wpAny_of_eq (a := Value.none) (by first | rfl | (simp only [firstArgMember]; rfl)) ?_); refine wpAny_newObj_type ?_ (by size_fits)
  have g1 : ∀ f : Obj → Obj, (s.heap.update it f).get? x1 = some o1 := fun f => by rw [Heap.get?_update_other _ _ ni]; exact h1
  refine HotX.raiseNew_hot ⟨hh, o1, vs1, Heap.get?_push_of_some _ (Heap.get?_push_of_some _ (g1 _)), d1, c1⟩ (Nat.ne_of_lt (Heap.lt_size (Heap.get?_push_of_some _ (g1 _)))) (Heap.get?_push_size _ rfl) rfl (by first | (simp; done) | (simp; omega) | (simp only [Array.size_append]; simp; omega)) ?_
  refine wpAny_bind (wpAny_isInstance (T := "StopIteration") (b := true) ⟨_, Heap.get?_update_self _ (Heap.get?_push_size _ rfl) rfl, rfl⟩ isSubtype_stop ?_); refine wpAny_pure (hQ _ fun b o' nb e => ?_)
  have e2 : ∀ f oo, ((s.heap.update it f).push oo).get? b = some o' := fun f oo => (Heap.SameBut.update ..).extBut.push _ b o' nb e
  rw [Heap.get?_update_other _ _ (Nat.ne_of_gt (Heap.lt_size (e2 _ _)))]; exact Heap.get?_push_of_some _ (e2 _ _)
theorem unpack_hot {t x1 : Addr} {items : Array Value} {Q : List Value → Shared → Prop} (hot : HotX.HotAt A x1 s.heap) (ht : IsTup s.heap t items)
    (hQ : ∀ h', Heap.ExtBut s.heap.objs.size s.heap h' → Q items.toList { s with heap := h' }) : wpAny (model prog w) A (unpackItems (.ref t) items.size none) Q E s := by
  have hlt : t ≠ s.heap.objs.size := ht.elim fun o ho => Nat.ne_of_lt (Heap.lt_size ho.1)
  have hx : x1 ≠ s.heap.objs.size := hot.2.elim fun o ho => ho.elim fun _ h => Nat.ne_of_lt (Heap.lt_size h.1)
  unfold unpackItems notIterableAtAll; refine wpAny_bind (wpAny_bind (wpAny_specialOf ht.typeIs slot_tuple_iter.lookup (wpAny_pure ?_)))
  simp only [Bool.false_eq_true, if_false]; refine wpAny_bind (wpAny_holding (iter_tuple ht (wpAny_bind (wpAny_holding (draw_tuple hlt items.size 0 _ _ ⟨_, Heap.get?_push_size _ rfl, rfl, rfl⟩ (ht.push _) (by omega) fun h₁ hit₁ hs₁ => ?_)))))
  have hall : List.take items.size (List.drop 0 items.toList) = items.toList := by rw [List.drop_zero]; exact List.take_of_length_le (by simp)
  rw [hall, if_neg (by simp)]
  have ht₁ := (ht.push { cls := .type "tuple_iterator", data := .fields #[.ref t, .int 0 0] }).extBut hs₁.extBut hlt
  have hot₁ : HotX.HotAt A x1 h₁ := hot.2.elim fun o ho => ho.elim fun vv h => ⟨hot.1, o, vv, hs₁.extBut x1 o hx (Heap.get?_push_of_some _ h.1), h.2.1, h.2.2⟩
  refine wpAny_bind (wpAny_holding (tup_end_hot hot₁ hit₁ ht₁ (by simp) fun h₂ he₂ => ?_))
  simp only [Option.isSome_none, Bool.false_eq_true, if_false]; exact wpAny_pure (hQ h₂ fun b o hb e => he₂ b o hb (hs₁.extBut b o hb (Heap.get?_push_of_some _ e)))
end
/-- (a, b, ..) = a tuple, while an error is handled -/
theorem pg_tupH {X : Cx} {pos : Pos} {es : List Expr} {k : Nat} {t : TGs} {n : Nat} (hc : L2H.HotC X) (h : PGs X es t) (hn : (assignEach es X.env).length = n := by rfl) (hst : (assignEach es X.env).findIdx? (·.1) = none := by rfl) : PG X (.Tuple es k pos) (gTup X.K n t) := by
  refine ⟨fun pins s σ H v u Q I r hw => ?_⟩
  obtain ⟨a, xs, e1, hq, hl, hw⟩ := hw; subst e1; cases r
  obtain ⟨its, rv, ht, hz⟩ := I.tuple hq; obtain ⟨x1, hot⟩ := hc.at I
  rw [assign_Tuple]; refine wpAny_bind (wpAny_standAt ?_); unfold unpack
  rw [show (assignEach es X.env).length = its.toArray.size by simp [hn, ← hl, rv.length], hst]
  refine wpAny_bind (wpAny_holding (unpack_hot hot ht fun h' hx => ?_))
  have I1 : Inv X pins σ H { s with heap := h' } := I.kept (t' := s.toks) fun b o e => hx b o (Nat.ne_of_lt (Heap.lt_size e)) e
  exact h.run pins _ σ H xs _ Q I1 (by simpa using rv) hw
/-- a def that may raise, called where it does not -/
theorem passLN {X : Cx} : Passes (L2N.CX X.prog X.w) X E0 := fun _ _ _ _ _ _ _ h => by
  obtain ⟨_, _, _, _, _, _, _, _, _, _, _, _, z⟩ := h
  exact False.elim z
end Rg
namespace Rg
open PySem PySem.Spec PyProof.Rows L2
/-! ### enumerate(tuple) -/
open Sem (wp)
open AutoSeq1 (wpAny_loadPart')
theorem meets_enumerate_newT (l : Addr) (items : Array Value) (n : Nat) (dct : Option Addr) (sl : Array (Option Value)) :
    Meets (Builtin.«enumerate.__new__» ⟨[.type "enumerate", .ref l], []⟩) (fun _ R s => s.heap.get? l = some { cls := .type "tuple", dict := dct, data := .seq items n, slots := sl } ∧
      R (.ok (.ret (.ref (s.heap.push { cls := .type "tuple_iterator", data := .fields #[.ref l, .int 0 0] }).objs.size)))
        { s with heap := (s.heap.push { cls := .type "tuple_iterator", data := .fields #[.ref l, .int 0 0] }).push { cls := .type "enumerate", data := .fields #[.none, .bool false, .ref s.heap.objs.size, rawInt 0, .none, .none] } }) :=
  .of_wp fun prog w A R s h => by
    obtain ⟨hp, g, d, tk, os⟩ := s; obtain ⟨hl, h⟩ := h
    have hsub := sub_enumerate
    have hL : Heap.IsTuple (Shared.heap ⟨hp, g, d, tk, os⟩) l items := ⟨_, hl, rfl, n, rfl⟩
    wp_walk using wpAny_loadPart' hl
    refine wpAny_stack_any fun st => wpAny_pure ?_
    split
    · rename_i c _ _ _ _ _
      cases (c == Value.type "enumerate")
      · wp_walk using wpAny_loadPart' hl, wpAny_pyIter_tuple hL
        exact ⟨_, rfl, h⟩
      · wp_walk using wpAny_loadPart' hl, wpAny_pyIter_tuple hL
        exact ⟨_, rfl, h⟩
    · wp_walk using wpAny_loadPart' hl, wpAny_pyIter_tuple hL
      exact ⟨_, rfl, h⟩
section
variable {prog : Program} {w : World} {A : Around} {E : Value → Shared → Prop} {s : Shared}
theorem call_enumerate_tuple {l : Addr} {items : Array Value} {Q : Value → Shared → Prop} (hL : s.heap.IsTuple l items)
    (h : ∀ h', IsEnum h' (s.heap.objs.size + 1) s.heap.objs.size 0 .none → h'.IsTupleIter s.heap.objs.size l 0 → h'.objs.size = s.heap.objs.size + 2 →
      (∀ b o, s.heap.get? b = some o → h'.get? b = some o) → Q (.ref (s.heap.objs.size + 1)) { s with heap := h' }) :
    wpAny (model prog w) A (call (.type "enumerate") [.ref l]) Q E s := by
  obtain ⟨⟨c, dct, dt, sl⟩, hl, hc, n, hd⟩ := hL
  replace hc : c = .type "tuple" := hc
  replace hd : dt = .seq items n := hd
  subst hc hd
  refine callType_new F.called_enumerate (by decide) (F.typeCall_enumerate_1 _) (F.newCall_enumerate_1 _) (fun obj => F.args_object_init_2 obj _) F.entry_enumerate_new
    (meets_enumerate_newT l items n dct sl) ⟨hl, ?_⟩
  have hz : (s.heap.push { cls := .type "tuple_iterator", data := .fields #[.ref l, .int 0 0] }).objs.size = s.heap.objs.size + 1 := Heap.size_push ..
  show _ ∧ _
  rw [hz]
  have he : IsEnum ((s.heap.push { cls := .type "tuple_iterator", data := .fields #[.ref l, .int 0 0] }).push
      { cls := .type "enumerate", data := .fields #[.none, .bool false, .ref s.heap.objs.size, rawInt 0, .none, .none] }) (s.heap.objs.size + 1) s.heap.objs.size 0 .none := by
    have := Heap.get?_push_size (s.heap.push { cls := .type "tuple_iterator", data := .fields #[.ref l, .int 0 0] })
      (o := { cls := .type "enumerate", data := .fields #[.none, .bool false, .ref s.heap.objs.size, rawInt 0, .none, .none] }) rfl
    rw [hz] at this; exact this
  refine ⟨⟨_, he, rfl⟩, h _ he ⟨_, Heap.get?_push_of_some _ (Heap.get?_push_size _ rfl), rfl, rfl⟩ (by rw [Heap.size_push, hz]) fun b o x => Heap.get?_push_of_some _ (Heap.get?_push_of_some _ x)⟩
end
/-- the tuple at a as it stands at each turn, each item in a new pair -/
def IteT (K : PySem.W.Frag) (a : Addr) : It :=
  ⟨fun i H => ∃ (xs : List V) (x : V), SqT K H a xs ∧ xs[i]? = some x, fun i H v H' => ∃ T x, v = .ref T ∧ H T = none ∧ H' = upd H T (.tup [.int (i : Nat), x]) ∧ ∀ xs, SqT K H a xs → xs[i]? = some x, fun i H => ∃ xs : List V, SqT K H a xs ∧ xs.length ≤ i⟩
theorem turn_enumT {P : Program} {w : World} {K : PySem.W.Frag} {elts : List Expr} {kk : Nat} {tpos : Pos} (a e it : Addr) :
    Turn P w K (.Tuple elts kk tpos) (IteT K a) [e, it] e (fun i h => (∃ old, IsEnum h e it ((i : Nat) : Int) old) ∧ h.IsTupleIter it a i ∧ e ≠ it) where
  mem := by simp
  obj := fun i h st b hb => by
    obtain ⟨⟨old, he⟩, ⟨o, ho, hc, hd⟩, _⟩ := st
    have e' : b = e ∨ b = it := by simpa using hb
    rcases e' with z | z
    · rw [z]; exact ⟨_, he, fun v q => nomatch q⟩
    · rw [z]; exact ⟨o, ho, fun v q => by rw [hd] at q; cases q⟩
  keep := fun i h h' st k => let ⟨⟨old, he⟩, hi, hne⟩ := st; ⟨⟨old, k e (by simp) _ he⟩, hi.at fun o q => k it (by simp) o q, hne⟩
  item := by
    intro X hP hw hK hc i pins s σ H E I hf st hg
    subst hP hw hK
    obtain ⟨⟨old, he⟩, hit, hne⟩ := st
    obtain ⟨xs, x, hq, hx⟩ := hg
    obtain ⟨its, rv, p, hz⟩ := I.tuple hq
    obtain ⟨u, hu, ru⟩ := rv.get hx
    have hlt : i < its.toArray.size := by
      have := (List.getElem?_eq_some_iff.mp hu).1
      simpa using this
    have hel : e < s.heap.objs.size := Heap.lt_size he
    have hil : it < s.heap.objs.size := by obtain ⟨_, q, _⟩ := hit; exact Heap.lt_size q
    have hae : a ≠ e := fun z => by
      obtain ⟨o, ho, hc', _⟩ := p
      rw [z] at ho
      have := Option.some.inj (ho.symm.trans he)
      rw [this] at hc'
      have hc2 : Value.type "enumerate" = Value.type "tuple" := hc'
      exact absurd hc2 (by decide)
    have hai : a ≠ it := fun z => by
      obtain ⟨o, ho, hc', _⟩ := p
      obtain ⟨o2, ho2, hc2, _⟩ := hit
      rw [z] at ho
      have := Option.some.inj (ho.symm.trans ho2)
      rw [this, hc2] at hc'
      exact absurd hc' (by decide)
    refine wpAny_pyNext_enum_itemD (Draws.tuple (prog := X.prog) (w := X.w) (A := X.A.in1) (I.ok.hd hc) it a hai its.toArray) he ⟨hit, p⟩ hlt hne (by simp [hne, hae.symm]) fun y h' tk hy ho hit' hT hsz hk => ?_
    have ey : y = u := by
      have e1 : its.toArray[i]? = some u := by simpa using hu
      rw [e1] at hy
      exact (Option.some.inj hy).symm
    subst ey
    refine ⟨_, rfl, wpAny_letOwnedTupleGo_enum (s := { s with heap := h', toks := tk + 1 }) ho fun h'' he' sb => ?_⟩
    have hT2 : h''.get? s.heap.objs.size = some { cls := .type "tuple", data := .seq #[.int i tk, y] } := (sb.2 _ (Nat.ne_of_gt hel)).trans hT
    have new : ObjOk X.prog X.w (upd H s.heap.objs.size (.tup [.int (i : Nat), x])) h'' s.heap.objs.size (.tup [.int (i : Nat), x]) :=
      ⟨by show 2 ≤ sizeLine; decide, [.int i tk, y], .cons ⟨_, rfl⟩ (.cons ru .nil), ⟨_, hT2, rfl, _, rfl⟩⟩
    have I1 : Inv X pins σ (upd H s.heap.objs.size (.tup [.int (i : Nat), x])) { s with heap := h'', toks := tk + 1 } :=
      I.turnedNew (t' := tk + 1) (ch := [e, it]) (fun b ob hb q => (sb.2 b (fun z => hb (by simp [z]))).trans (hk b ob (fun z => hb (by simp [z])) (fun z => hb (by simp [z])) q)) hf (Nat.le_refl _) new
    refine ⟨.ref s.heap.objs.size, _, I1, rfl, ⟨_, x, rfl, I.hok.fresh (Nat.le_refl _), rfl, fun ys hy => by rw [I.tuple_inj hy hq]; exact hx⟩, ⟨⟨y, ?_⟩, hit'.1.at fun o q => (sb.2 it (Ne.symm hne)).trans q, hne⟩, fun b hb => ?_⟩
    · have e1 : ((i + 1 : Nat) : Int) = (i : Int) + 1 := by omega
      rw [e1]; exact he'
    · have hb' : b < s.heap.objs.size := by
        have e' : b = e ∨ b = it := by simpa using hb
        rcases e' with z | z
        · rw [z]; exact hel
        · rw [z]; exact hil
      rw [upd_ne (Nat.ne_of_lt hb')]
      exact (hf b hb).1
  done := by
    intro X hP hw hK hc i pins s σ H E I hf st hg
    subst hP hw hK
    obtain ⟨⟨old, he⟩, hit, hne⟩ := st
    obtain ⟨xs, hq, hx⟩ := hg
    obtain ⟨its, rv, p, hz⟩ := I.tuple hq
    obtain ⟨f0, f1, f2, f3, f4, f5⟩ := hf it (by simp)
    have hl := rv.length
    unfold pyNext
    have hT : s.TypeIs (.ref e) "enumerate" := ⟨_, he, rfl⟩
    refine wpAny_bind (wpAny_attempt (wpAny_callSpecial?_slot (name := Str.ofString "__next__") hT F.slot_enumerate_next
      (wpAny_call_entry F.slot_enumerate_next hT F.entry_enumerate_next ?_ (F.args_enumerate_next_1 _))))
    show wpAny _ _ (field (.ref e) 2 >>= _) _ _ _
    refine wpAny_bind (wpAny_field he rfl (x := .ref it) rfl ?_)
    refine wpAny_bind (wpAny_nextOf_tuple_end (I.ok.hd hc) hit p (by simp; omega) fun h' x he' hx' => ?_)
    obtain ⟨o, ho, hc'⟩ := hx'
    refine wpAny_bind (wpAny_isInstance (T := "StopIteration") (b := true) ⟨o, ho, hc'⟩ isSubtype_stop ?_)
    exact wpAny_pure ⟨rfl, I.turned (t' := s.toks) (fun b o hb q => he' b o hb q) f0 f1 f3 f4 f5⟩
  self := fun A i s Q E st h => let ⟨⟨_, he⟩, _⟩ := st; wpAny_pyIter_enum he h
theorem walk_enumT {K : PySem.W.Frag} {a : Addr} {xs : List V} : Walk (IteT K a) xs.length (fun H => SqT K H a xs) (YPair (fun i => some (.int (i : Nat))) (fun i => xs[i]?)) := by
  refine ⟨fun i _ hi q => ⟨xs, xs[i], q, by simp [hi]⟩, fun _ q => ⟨xs, q, Nat.le_refl _⟩, fun i H v H' _ q y => ?_⟩
  obtain ⟨T, x, h1, h2, h3, h4⟩ := y
  exact ⟨T, .int (i : Nat), x, h1, h2, h3, rfl, h4 xs q⟩
/-- over a list or a tuple, which stays as it is -/
def iEnumA (ta : TA) : TI := fun σ H R => ta σ H fun vs H1 => ∃ a xs, vs = [.ref a] ∧ (H1 a = some (.lst xs) ∨ H1 a = some (.tup xs)) ∧ ∀ J, Walk J xs.length (fun H' => H' a = H1 a) (YPair (fun i => some (.int (i : Nat))) (fun i => xs[i]?)) → R J H1
theorem pi_enumA {X : Cx} {e : Expr} {ta : TA} {p pos tpos : Pos} {elts : List Expr} {kk : Nat} (hg : Gl X "enumerate") (hm : X.mg "enumerate" = none) (ha : PA X [e] ta) (hs : starEach [e] X.env = [(false, eval e X.env)] := by rfl) :
    PI X (.Tuple elts kk tpos) (.Call (.Name "enumerate" p) [e] [] pos) (iEnumA ta) := by
  refine ⟨fun pins s σ H R I h => ?_⟩
  refine Call_ (ld_blt I hg hm boot_enumerate (PyProof.Rows.callWith_type1 (thn (ha.run pos pins s σ H _ I h) fun us s1 ⟨vs, H1, I1, r1, q1⟩ => ?_) hs rfl))
  obtain ⟨a, xs, ex, hw, q⟩ := q1
  subst ex
  cases r1 with
  | cons r rr =>
    cases rr
    cases r
    have fp : ∀ b, b = s1.heap.objs.size + 1 ∨ b = s1.heap.objs.size → FpOk X pins H1 b := fun b e' => by
      have hle : s1.heap.objs.size ≤ b := by
        rcases e' with z | z
        · rw [z]; exact Nat.le_add_right _ _
        · rw [z]; exact Nat.le_refl _
      exact I1.fpOk hle (I1.hok.fresh hle)
    rcases hw with hw | hw
    · have hq : SqL X.K H1 a xs := .of hw
      have q := q (Ite X.K a) (walk_enum.mono (fun H' e => .of (e.trans hw)) fun _ _ _ _ _ _ y => y)
      obtain ⟨its, rv, p', hz⟩ := I1.list hq
      refine call_enumerate_list p'.isList fun h' he hit hsz hk => wpAny_pyIter_enum he ?_
      have I2 : Inv X pins σ H1 { s1 with heap := h' } := I1.kept (t' := s1.toks) hk
      refine ⟨s1.heap.objs.size + 1, [s1.heap.objs.size + 1, s1.heap.objs.size], _, _, H1, rfl, I2, turn_enum a (s1.heap.objs.size + 1) s1.heap.objs.size, ⟨⟨.none, he⟩, hit, Nat.succ_ne_self _⟩, fun b hb => fp b (by simpa using hb), q⟩
    · have hq : SqT X.K H1 a xs := .of hw
      have q := q (IteT X.K a) (walk_enumT.mono (fun H' e => .of (e.trans hw)) fun _ _ _ _ _ _ y => y)
      obtain ⟨its, rv, p', hz⟩ := I1.tuple hq
      refine call_enumerate_tuple p' fun h' he hit hsz hk => wpAny_pyIter_enum he ?_
      have I2 : Inv X pins σ H1 { s1 with heap := h' } := I1.kept (t' := s1.toks) hk
      refine ⟨s1.heap.objs.size + 1, [s1.heap.objs.size + 1, s1.heap.objs.size], _, _, H1, rfl, I2, turn_enumT a (s1.heap.objs.size + 1) s1.heap.objs.size, ⟨⟨.none, he⟩, hit, Nat.succ_ne_self _⟩, fun b hb => fp b (by simpa using hb), q⟩
end Rg
namespace Rg
open PySem PySem.Spec PyProof.Rows L2
/-! ### tuples of the written part -/
def relAllS (vs : List V) (us : List Value) : Bool := He.relAll vs us && decide (us.length ≤ 1000)
theorem relAllS_ok {vs : List V} {us : Array Value} (h : relAllS vs us.toList = true) : Vals vs us.toList := He.relAll_ok (Bool.and_eq_true_iff.mp h).1
theorem relAllS_sz {vs : List V} {us : Array Value} (h : relAllS vs us.toList = true) : us.size ≤ sizeLine := by
  have := of_decide_eq_true (Bool.and_eq_true_iff.mp h).2
  rw [Array.length_toList] at this
  have : 1000 ≤ sizeLine := by decide
  omega
/-! ### own classes: x in o, o op u, for x in o -/
section
variable {X : Cx} {k : Nat} {f C : Addr} {fd : FuncData} {sp : Sp}
/-- x in o, by the class's own __contains__ -/
def rInOwn (C : Addr) (sp : Sp) (c : Bool → Bool) : R2 := fun x y H Q => ∃ a dx fs, y = .ref a ∧ H a = some (.ins C dx fs) ∧ sp [.ref a, x] H (fun v H1 => ∃ b, v = .bl b ∧ Q (.bl (c b)) H1) E0
theorem op_inOwn (hm : Meth X.K C "__contains__" f) (F : FnOk X.prog X.w X.K X.mg X.base CX0 k f fd ["self", "name"] sp) (hr : Room k X.A) (hb : Binds X.K fd ["self", "name"] []) : OpR X (compareOp .In) (rInOwn C sp fun b => b) := by
  intro pins s σ H x y v u Q I rx ry h
  obtain ⟨a, dx, fs, rfl, e, h⟩ := h
  obtain rfl : u = Value.ref a := ry
  obtain ⟨mA, O, _, _, _, _⟩ := ins_get I.hok e
  obtain ⟨od, at_, _⟩ := O.look
  obtain ⟨m, fr⟩ := I.fr
  refine PySem.W.in_K fr I.mod.kin at_ hm.at_ hm.fn ?_
  refine wpAny_mono (run_fn (us := [.ref a, v]) (vs := [.ref a, x]) F hr hb .nil pass0 I (.cons rfl (.cons rx .nil)) h) (fun r s' hq => ?_) fun _ _ z => z
  obtain ⟨z, H1, I1, rz, b, rfl, q⟩ := hq
  obtain rfl : r = Value.bool b := rz
  exact wpAny_truthy_bool ⟨.bl b, H1, I1, rfl, q⟩
theorem op_notInOwn (hm : Meth X.K C "__contains__" f) (F : FnOk X.prog X.w X.K X.mg X.base CX0 k f fd ["self", "name"] sp) (hr : Room k X.A) (hb : Binds X.K fd ["self", "name"] []) : OpR X (compareOp .NotIn) (rInOwn C sp fun b => !b) := by
  intro pins s σ H x y v u Q I rx ry h
  obtain ⟨a, dx, fs, rfl, e, h⟩ := h
  obtain rfl : u = Value.ref a := ry
  obtain ⟨mA, O, _, _, _, _⟩ := ins_get I.hok e
  obtain ⟨od, at_, _⟩ := O.look
  obtain ⟨m, fr⟩ := I.fr
  refine PySem.W.notIn_K fr I.mod.kin at_ hm.at_ hm.fn ?_
  refine wpAny_mono (run_fn (us := [.ref a, v]) (vs := [.ref a, x]) F hr hb .nil pass0 I (.cons rfl (.cons rx .nil)) h) (fun r s' hq => ?_) fun _ _ z => z
  obtain ⟨z, H1, I1, rz, b, rfl, q⟩ := hq
  obtain rfl : r = Value.bool b := rz
  exact wpAny_truthy_bool ⟨.bl (!b), H1, I1, rfl, q⟩
/-- o op u, both of the class C, by its own method -/
def rOpOwn (C : Addr) (sp : Sp) : R2 := fun x y H Q => ∃ a dx fs b dy gs, x = .ref a ∧ y = .ref b ∧ H a = some (.ins C dx fs) ∧ H b = some (.ins C dy gs) ∧ sp [.ref a, .ref b] H (fun v H1 => Q v H1) E0
theorem op_own {op : Operator} {ps : List Str} (hs : PySem.W.selfFirst X.K C = true) (hm : Meth X.K C (PySem.dunder op.info.2) f) (F : FnOk X.prog X.w X.K X.mg X.base CX0 k f fd ps sp) (hr : Room k X.A) (hb : Binds X.K fd ps []) : OpR X (binaryOp op) (rOpOwn C sp) := by
  intro pins s σ H x y v u Q I rx ry h
  obtain ⟨a, dx, fs, b, dy, gs, rfl, rfl, e, e', h⟩ := h
  obtain rfl : v = Value.ref a := rx
  obtain rfl : u = Value.ref b := ry
  obtain ⟨mA, O, _, _, _, _⟩ := ins_get I.hok e
  obtain ⟨od, at_, _⟩ := O.look
  obtain ⟨mB, O', _, _, _, _⟩ := ins_get I.hok e'
  obtain ⟨od', at', _⟩ := O'.look
  obtain ⟨m, fr⟩ := I.fr
  refine PySem.W.binop_K fr I.mod.kin at_ at'.type hs hm.at_ hm.fn ?_
  refine wpAny_mono (run_fn (us := [.ref a, .ref b]) (vs := [.ref a, .ref b]) F hr hb .nil pass0 I (.cons rfl (.cons rfl .nil)) h) (fun r s' hq => ?_) fun _ _ z => z
  obtain ⟨z, H1, I1, rz, q⟩ := hq
  cases z with
  | non => cases rz; exact ⟨.non, H1, I1, rfl, q⟩
  | bl b => cases rz; exact ⟨.bl b, H1, I1, rfl, q⟩
  | int i => obtain ⟨t, rfl⟩ := rz; exact ⟨.int i, H1, I1, ⟨t, rfl⟩, q⟩
  | str i => obtain ⟨t, rfl⟩ := rz; exact ⟨.str i, H1, I1, ⟨t, rfl⟩, q⟩
  | byt i => obtain ⟨t, rfl⟩ := rz; exact ⟨.byt i, H1, I1, ⟨t, rfl⟩, q⟩
  | flt i => obtain ⟨t, rfl⟩ := rz; exact ⟨.flt i, H1, I1, ⟨t, rfl⟩, q⟩
  | ref i => cases rz; exact ⟨.ref i, H1, I1, rfl, q⟩
  | ty i => cases rz; exact ⟨.ty i, H1, I1, rfl, q⟩
end
/-! ### iter(t), t a tuple; walks by an own __iter__ that hands it back -/
abbrev itT (l : Addr) : Obj := { cls := .type "tuple_iterator", data := .fields #[.ref l, .int 0 0] }
def ItTO (l it : Addr) : HO := .ext fun h => h.get? it = some (itT l)
theorem itTO_ok {P : Program} {w : World} {H : Hp} {h : Heap} {l it : Addr} (e : h.get? it = some (itT l)) : ObjOk P w H h it (ItTO l it) := ⟨e, ⟨_, e⟩, fun h1 h2 q k => k _ q⟩
theorem call_iter_tup {prog : Program} {w : World} {A : Around} {E : Value → Shared → Prop} {s : Shared} {l : Addr} {items : Array Value} {Q : Value → Shared → Prop} (hl : s.heap.IsTuple l items) (h : Q (.ref s.heap.objs.size) { s with heap := s.heap.push (itT l) }) : wpAny (model prog w) A (call (.builtin "iter") [.ref l]) Q E s := by
  refine Calls.call_function_entry (by decide +kernel) (by decide +kernel) PySem.W.kdk_entry_iter (PySem.W.kdk_args_iter _) ?_
  unfold Builtin.«iter»
  refine wpAny_bind (m := PySem.someArgs "iter" 1 2 _) (wpAny_of_eq (a := [Value.ref l]) (by first | rfl | kernel_rfl!) ?_)
  show wpAny _ _ (pyIter (.ref l) >>= _) _ _ _
  refine wpAny_bind (wpAny_pyIter_tuple hl ?_)
  exact wpAny_pure ⟨_, rfl, h⟩
def rIterT (K : PySem.W.Frag) (n : Nat) : List V → Hp → VK → Prop := fun xs H Q => ∃ (l : Addr) (zs : List V), xs = [.ref l] ∧ SqT K H l zs ∧ ∀ it, H it = none → n ≤ it → Q (.ref it) (upd H it (ItTO l it))
theorem call_iterT {X : Cx} : CallR X (.builtin "iter") (rIterT X.K X.s_0.heap.objs.size) := by
  intro pins s σ H xs us Q I r h
  obtain ⟨l, zs, rfl, hq, q⟩ := h
  obtain ⟨u, rfl, ru⟩ := vals1 r
  cases ru
  obtain ⟨its, rv, pl, hz⟩ := I.tuple hq
  refine call_iter_tup (show s.heap.IsTuple l its.toArray from pl) ?_
  exact ⟨.ref s.heap.objs.size, _, I.laid (t' := s.toks) (fun b u e => Heap.get?_push_of_some _ e) (Nat.le_refl _) (itTO_ok (Heap.get?_push_size _ rfl)), rfl, q _ (I.hok.fresh (Nat.le_refl _)) I.sz⟩
/-- a def whose promise knows how many objects there are at its entry -/
structure FnS (P : Program) (w : World) (K : PySem.W.Frag) (mg : Str → Option Value) (base : Heap) (k : Nat) (f : Addr) (fd : FuncData) (ps : List Str) (sp : Nat → Sp) : Prop where
  run : ∀ (A : Around) (outer : List Env) (s : Shared) (H : Hp) (args : Args) (us : List Value) (vs : List V) (Q : VK), Room k A → Env0 P w K mg base A outer s H → BindsTo s fd args (ps.zip us) → Vals vs us → sp s.heap.objs.size vs H Q E0 →
    codeAny (model P w) A (.call (.ref f) args) (CR CX0 outer P w H s Q E0) s
theorem _root_.L2.Fun.okS {P : Program} {w : World} {K : PySem.W.Frag} {mg : Str → Option Value} {base : Heap} {x qual : Str} {st : Stmt} {f : Addr} {fd : FuncData} {N ps : List Str} {k : Nat} {sp : Nat → Sp} (F : Fun K x qual st f fd) (S : FnScope N ps (defScope st)) (len : ∀ n vs H Q E, sp n vs H Q E → vs.length = ps.length)
    (hbody : ∀ (cdv : Value) (A : Around) (outer : List Env) (s : Shared) (H : Hp) (vs : List V) (Q : VK), Room k (A.deeper (envOfC qual (defScope st) s.heap.objs.size f cdv)) → sp s.heap.objs.size vs H Q E0 →
      ∃ t, PSs (cxOf CX0 P w K mg base N qual (defScope st) f cdv A outer s H E0) (defBody st) t ∧ t { nx := fun _ H' => Q .non H', rt := Q } (L2.start N vs) H) : FnS P w K mg base (k + 1) f fd ps sp := by
  obtain ⟨oc, od, kV, doc, pm, an, cdv, ct, osl, rfl, lk, hcd⟩ := F.ex
  exact ⟨fun A outer s H args us vs Q hr e0 hb r hsp => LamX.run_ofS lk hcd S hr e0 hb r (len _ _ _ _ _ hsp) fun hr' => hbody _ A outer s H vs Q hr' hsp⟩
/-- o walked: o's class at C has an own __iter__ that keeps sp and hands back a tuple's iterator -/
def iOwnT (K : PySem.W.Frag) (C : Addr) (sp : Nat → Sp) (te : TE) : TI := fun σ H R => te σ H fun x H1 => ∃ a dx fs, x = .ref a ∧ H1 a = some (.ins C dx fs) ∧
  ∀ n, sp n [.ref a] H1 (fun v H2 => ∃ it l xs, v = .ref it ∧ n ≤ it ∧ H2 it = some (ItTO l it) ∧ SqT K (ItX.dropH H2 it) l xs ∧ R (Itt K l) (ItX.dropH H2 it)) E0
theorem pi_ownT {X : Cx} {k : Nat} {f C : Addr} {fd : FuncData} {sp : Nat → Sp} {e tg : Expr} {te : TE} (hm : Meth X.K C "__iter__" f) (F : FnS X.prog X.w X.K X.mg X.base k f fd ["self"] sp) (hr : Room k X.A) (hb : Binds X.K fd ["self"] []) (he : PE X e te) : PI X tg e (iOwnT X.K C sp te) := by
  refine ⟨fun pins s σ H R I h => thn (he.run pins s σ H _ I h) fun v s1 ⟨x, H1, I1, r1, a, dx, fs, ex, ea, h⟩ => ?_⟩
  subst ex
  obtain rfl : v = Value.ref a := r1
  obtain ⟨mA, O, _, _, _, _⟩ := ins_get I1.hok ea
  obtain ⟨od, at_, _⟩ := O.look
  obtain ⟨m, fr⟩ := I1.fr
  refine PySem.W.owit_iter fr I1.mod.kin at_ hm.at_ hm.fn ?_
  refine wpAny_call (codeAny_mono (F.run X.A X.stack s1 H1 ⟨[.ref a], []⟩ [.ref a] [.ref a] _ hr I1.env0 (hb s1 [.ref a] I1.kIn rfl) (.cons rfl .nil) (h _)) fun r s2 hq => ?_)
  cases r with
  | error e => exact hq.elim
  | ok fl =>
    cases fl with
    | ret u =>
      obtain ⟨z, H2, os, bare, un, hok, rz, it, l, xs, rfl, young, hit, hl, hR⟩ := hq
      obtain rfl : u = Value.ref it := rz
      obtain ⟨hh, g, d, t, os'⟩ := s2
      obtain rfl : os' = s1.os := os
      have I2 : Inv X pins σ H2 ⟨hh, g, d, t, s1.os⟩ := I1.call (h' := hh) (g' := g) (d' := d) (t' := t) (ch := []) un hok bare (fun b z => absurd z (by simp))
      have I3 := ItX.inv_drop I2 hit
      have at3 : hh.get? it = some (itT l) := (I2.hok it _ hit).1
      unfold PySem.W.OwitIt
      have hst : hh.IsTupleIter it l 0 := ⟨_, at3, rfl, rfl⟩
      refine wpAny_specialOf (name := Str.ofString "__next__") (T := "tuple_iterator") (Heap.IsTupleIter.typeIs (s := ⟨hh, g, d, t, s1.os⟩) hst) PySem.F.slot_tuple_iterator_next.lookup ?_
      refine ⟨it, [it], _, Itt X.K l, _, rfl, I3, turn_tuple l it, hst, fun b hb => ?_, hR⟩
      have e : b = it := by simpa using hb
      subst e
      exact ItX.inv_fp I2 hit (Nat.le_trans I1.sz young)
    | next => exact False.elim hq
    | brk => exact False.elim hq
    | cont => exact False.elim hq
/-! ### a walk over a list or a tuple -/
def iSeq (K : PySem.W.Frag) (tl : TE) : TI := fun σ H R => tl σ H fun x H1 => ∃ a, x = .ref a ∧ (((∃ xs, SqL K H1 a xs) ∧ R (Itl K a) H1) ∨ ((∃ xs, SqT K H1 a xs) ∧ R (Itt K a) H1))
theorem pi_seq {X : Cx} {tg l : Expr} {tl : TE} (hl : PE X l tl) : PI X tg l (iSeq X.K tl) := by
  refine ⟨fun pins s σ H R I h => ?_⟩
  refine thn (hl.run pins s σ H _ I h) fun v s1 ⟨x, H1, I1, r1, q1⟩ => ?_
  obtain ⟨a, e, q⟩ := q1
  subst e
  cases r1
  rcases q with ⟨⟨xs, hq⟩, q⟩ | ⟨⟨xs, hq⟩, q⟩
  · obtain ⟨its, rv, p, hz⟩ := I1.list hq
    refine wpAny_pyIter_list p.isList ?_
    refine ⟨s1.heap.objs.size, [s1.heap.objs.size], _, _, H1, rfl, I1.kept (t' := s1.toks) fun b o e => Heap.get?_push_of_some _ e, turn_list a _, ⟨_, Heap.get?_push_size _ rfl, rfl, rfl⟩, fun b hb => ?_, q⟩
    have e : b = s1.heap.objs.size := by simpa using hb
    subst e
    exact I1.fpOk (Nat.le_refl _) (I1.hok.fresh (Nat.le_refl _))
  · obtain ⟨its, rv, p, hz⟩ := I1.tuple hq
    refine wpAny_pyIter_tuple (show s1.heap.IsTuple a its.toArray from p) ?_
    refine ⟨s1.heap.objs.size, [s1.heap.objs.size], _, _, H1, rfl, I1.kept (t' := s1.toks) fun b o e => Heap.get?_push_of_some _ e, turn_tuple a _, ⟨_, Heap.get?_push_size _ rfl, rfl, rfl⟩, fun b hb => ?_, q⟩
    have e : b = s1.heap.objs.size := by simpa using hb
    subst e
    exact I1.fpOk (Nat.le_refl _) (I1.hok.fresh (Nat.le_refl _))
/-! ### enumerate of a tuple that may be written -/
def iEnumT (K : PySem.W.Frag) (ta : TA) : TI := fun σ H R => ta σ H fun vs H1 => ∃ a xs, vs = [.ref a] ∧ SqT K H1 a xs ∧ R (IteT K a) H1
theorem pi_enumT {X : Cx} {e : Expr} {ta : TA} {p pos tpos : Pos} {elts : List Expr} {kk : Nat} (hg : Gl X "enumerate") (hm : X.mg "enumerate" = none) (ha : PA X [e] ta) (hs : starEach [e] X.env = [(false, eval e X.env)] := by rfl) :
    PI X (.Tuple elts kk tpos) (.Call (.Name "enumerate" p) [e] [] pos) (iEnumT X.K ta) := by
  refine ⟨fun pins s σ H R I h => ?_⟩
  refine Call_ (ld_blt I hg hm boot_enumerate (PyProof.Rows.callWith_type1 (thn (ha.run pos pins s σ H _ I h) fun us s1 ⟨vs, H1, I1, r1, q1⟩ => ?_) hs rfl))
  obtain ⟨a, xs, ex, hq, q⟩ := q1
  subst ex
  cases r1 with
  | cons r rr =>
    cases rr
    cases r
    have fp : ∀ b, b = s1.heap.objs.size + 1 ∨ b = s1.heap.objs.size → FpOk X pins H1 b := fun b e' => by
      have hle : s1.heap.objs.size ≤ b := by
        rcases e' with z | z
        · rw [z]; exact Nat.le_add_right _ _
        · rw [z]; exact Nat.le_refl _
      exact I1.fpOk hle (I1.hok.fresh hle)
    obtain ⟨its, rv, p', hz⟩ := I1.tuple hq
    refine call_enumerate_tuple p' fun h' he hit hsz hk => wpAny_pyIter_enum he ?_
    have I2 : Inv X pins σ H1 { s1 with heap := h' } := I1.kept (t' := s1.toks) hk
    refine ⟨s1.heap.objs.size + 1, [s1.heap.objs.size + 1, s1.heap.objs.size], _, _, H1, rfl, I2, turn_enumT a (s1.heap.objs.size + 1) s1.heap.objs.size, ⟨⟨.none, he⟩, hit, Nat.succ_ne_self _⟩, fun b hb => fp b (by simpa using hb), q⟩
/-! ### an object made, a static method called, where the body may raise -/
section
variable {X : Cx} {CX : CXT} {k : Nat} {f C g : Addr} {mc : Value} {fd : FuncData} {ps : List Str} {sp : Sp} {E : L2.St → XK} {x m : Str} {p pos apos : Pos} {e : Expr} {es : List Expr} {t : TA} {pl : Sem Bool}
theorem run_makeS {pins : List (Addr × Obj)} {σ : L2.St} {H : Hp} {s : Shared} {Q : VK} {us : List Value} {vs : List V} (M : Mk X.K C f) (F : FnOk X.prog X.w X.K X.mg X.base CX k f fd ps sp) (hr : Room (k + 1) X.A) (hb : Binds X.K fd ps []) (hx : PassesAt CX X σ (E σ)) (I : Inv X pins σ H s) (r : Vals vs us)
    (h : ∀ x dx, H x = none → H dx = none → dx ≠ x → sp (.ref x :: vs) (upd (upd H dx (.own x)) x (.ins C dx [])) (fun v H2 => v = .non ∧ Q (.ref x) H2) (E σ)) :
    wpAny (model X.prog X.w) X.A (call (.ref C) us) (EP X pins σ Q) X.xe s := by
  have hq := h (s.heap.objs.size + 1) s.heap.objs.size (I.hok.fresh (Nat.le_succ _)) (I.hok.fresh (Nat.le_refl _)) (Nat.ne_of_lt (Nat.lt_succ_self _))
  have I2 := Inv.made (C := C) I
  have r2 : Vals (V.ref (s.heap.objs.size + 1) :: vs) (Value.ref (s.heap.objs.size + 1) :: us) := .cons rfl r
  have hl : (Value.ref (s.heap.objs.size + 1) :: us).length = ps.length := by
    have e := r2.length
    rw [F.len _ _ _ _ hq] at e
    exact e.symm
  have b := hb _ (Value.ref (s.heap.objs.size + 1) :: us) I2.kIn (by rw [List.append_nil]; exact hl)
  rw [List.append_nil] at b
  refine wpAny_call (make_map (f := f) I.kIn M.makes M.init (beq_iff_eq.mp M.fn) (codeAny_mono (F.run _ X.stack _ _ ⟨Value.ref (s.heap.objs.size + 1) :: us, []⟩ (Value.ref (s.heap.objs.size + 1) :: us) _ _ (E σ) (hr.make C us [])
    (I2.env0.make C us []) b r2 hq) fun r s' hq' => ?_))
  cases r with
  | error e => exact hx pins _ _ e s' I2 hq'
  | ok fl =>
    cases fl with
    | ret u =>
      obtain ⟨v, H', I3, rv, ev, q3⟩ := I2.after hq'
      subst ev
      exact ⟨rv, ⟨V.ref (s.heap.objs.size + 1), H', I3, rfl, q3⟩⟩
    | next => exact False.elim hq'
    | brk => exact False.elim hq'
    | cont => exact False.elim hq'
def tMakeS (C : Addr) (sp : Sp) (E : L2.St → XK) (t : TA) : TE := fun σ H Q => t σ H fun vs H1 => ∀ x dx, H1 x = none → H1 dx = none → dx ≠ x → sp (.ref x :: vs) (upd (upd H1 dx (.own x)) x (.ins C dx [])) (fun v H2 => v = .non ∧ Q (.ref x) H2) (E σ)
theorem pe_makeS (M : Mk X.K C f) (F : FnOk X.prog X.w X.K X.mg X.base CX k f fd ps sp) (hr : Room (k + 1) X.A) (hg : Gl X x) (hm : X.mg x = some (.ref C)) (hb : Binds X.K fd ps []) (hx : ∀ σ, PassesAt CX X σ (E σ))
    (ha : PA X (e :: es) t) (hdb : (x == ("__debug__" : Str)) = false := by decide) (he : starEach (e :: es) X.env = (false, eval e X.env) :: starEach es X.env := by rfl) (hpl : (backTo pos (starEach es X.env)).any (·.1) = false := by rfl) :
    PE X (.Call (.Name x p) (e :: es) [] pos) (tMakeS C sp E t) := by
  refine ⟨fun pins s σ H Q I h => ?_⟩
  refine wpAny_Call_Name_kw (ld_glob I hg hm ?_ hdb)
  refine PySem.W.callWith_K (h₀ := X.base) I.ok.mod.kin M.kp (thn (ha.run pos pins s σ H _ I h) fun us s1 ⟨vs, H1, I1, r, q⟩ => ⟨I1.kIn, ?_⟩) he hpl
  exact run_makeS M F hr hb (hx σ) I1 r q
def tSMethS (sp : Sp) (E : L2.St → XK) (t : TA) : TE := fun σ H Q => t σ H fun vs H2 => sp vs H2 Q (E σ)
theorem pe_smethS (hmx : X.mg x = some (.ref C)) (r : ClX.CRead X.K C mc) (c : SMet X.K C mc m g) (F : FnOk X.prog X.w X.K X.mg X.base CX k g fd ps sp) (hr : Room k X.A) (hb : Binds X.K fd ps []) (hx : ∀ σ, PassesAt CX X σ (E σ)) (ha : PA X (e :: es) t) (hg : Gl X x := by rfl) (hdb : (x == ("__debug__" : Str)) = false := by decide)
    (hst : starEach (e :: es) X.env = (false, eval e X.env) :: starEach es X.env := by rfl) (hpl : (backTo pos (starEach es X.env)).any (·.1) = false := by rfl)
    (ht : eval (.Call (.Attribute (.Name x p) m apos) (e :: es) [] pos) X.env = (do
      let ov ← eval (.Name x p) X.env
      standAt apos.atName
      let (f, first) ← holding [ov] (getMethod ov m pl)
      callWith pos f first (backTo pos (starEach (e :: es) X.env)) (backToKw pos (keywordEach [] X.env))) := by rfl) :
    PE X (.Call (.Attribute (.Name x p) m apos) (e :: es) [] pos) (tSMethS sp E t) := by
  obtain ⟨q, at_, ⟨rest, hp⟩, hk⟩ := c.ex
  refine ⟨fun pins s σ H Q I h => ?_⟩
  refine PySem.W.methodCall_KW (pl := pl) (ld_glob I hg hmx ?_ hdb) ht
  refine PySem.W.method_cls I.kIn r.ga (PySem.W.cls_bind I.kIn r.rd at_ ?_)
  refine wpAny_call (PySem.W.sm_get (s := { s with toks := s.toks + 1 }) I.kIn hp (PySem.W.handed_on rfl ?_))
  refine PySem.W.callWith_K (f := .ref g) (first := []) (h₀ := X.base) I.ok.mod.kin hk (thn (ha.run pos pins _ σ H _ (I.tok _) h) fun us s1 ⟨vs, H1, I1, r1, q1⟩ => ⟨I1.kIn, ?_⟩) hst hpl
  exact run_fnS F hr hb (hx σ) I1 r1 q1
theorem pe_smeth0 (hmx : X.mg x = some (.ref C)) (r : ClX.CRead X.K C mc) (c : SMet X.K C mc m g) {E : XK} (F : FnOk X.prog X.w X.K X.mg X.base CX k g fd ps sp) (hr : Room k X.A) (hb : Binds X.K fd ps []) (hx : Passes CX X E) (hg : Gl X x := by rfl) (hdb : (x == ("__debug__" : Str)) = false := by decide)
    (ht : eval (.Call (.Attribute (.Name x p) m apos) [] [] pos) X.env = (do
      let ov ← eval (.Name x p) X.env
      standAt apos.atName
      let (f, first) ← holding [ov] (getMethod ov m pl)
      callWith pos f first (backTo pos (starEach [] X.env)) (backToKw pos (keywordEach [] X.env))) := by rfl) :
    PE X (.Call (.Attribute (.Name x p) m apos) [] [] pos) (fun σ H Q => sp [] H Q E) := by
  obtain ⟨q, at_, ⟨rest, hp⟩, hk⟩ := c.ex
  refine ⟨fun pins s σ H Q I h => ?_⟩
  refine PySem.W.methodCall_KW (pl := pl) (ld_glob I hg hmx ?_ hdb) ht
  refine PySem.W.method_cls I.kIn r.ga (PySem.W.cls_bind I.kIn r.rd at_ ?_)
  refine wpAny_call (PySem.W.sm_get (s := { s with toks := s.toks + 1 }) I.kIn hp (PySem.W.handed_on rfl ?_))
  exact PySem.W.callWith_K0 (first := []) (I.tok (s.toks + 1)).kIn hk (run_fn (us := []) (vs := []) F hr hb .nil hx (I.tok (s.toks + 1)) .nil h)
end
/-! ### isinstance(e, (c1, c2, ..)), e the exception that the suite holds -/
def rIsET (K : PySem.W.Frag) (D a : Addr) : List V → Hp → VK → Prop := fun xs H Q => ∃ (tp : Addr) (cs : List V) (us : List Value) (b : Bool), xs = [.ref a, .ref tp] ∧ H tp = some (.tup cs) ∧ Paired ClsV cs us ∧ PySem.W.kitAny K (.ref D) us = some b ∧ Q (.bl b) H
theorem call_isET {X : Cx} {a D : Addr} {oe : Obj} {pn : List (Addr × Obj)} (C : ExcC X.K D) (hz : Zc (.ref D) none oe) (hf : ∃ vs, oe.data = .fields vs) : CallR (X.suite a ((a, oe) :: pn)) (.builtin "isinstance") (rIsET X.K D a) := by
  intro pins s σ H xs us Q I r h
  obtain ⟨tp, cs, ws, b, rfl, hT, k, e, q⟩ := h
  cases r with
  | cons rx rr =>
    cases rr with
    | cons rt rr =>
      cases rr
      cases rx
      cases rt
      obtain ⟨hget, _⟩ := I.pin (a, oe) (List.mem_append.mpr (.inl List.mem_cons_self))
      obtain ⟨vs, hv⟩ := hf
      have J : PySem.W.InstAt s.heap a oe D none := by
        obtain ⟨oc, od, oda, osl⟩ := oe
        obtain ⟨h1, h2⟩ := hz
        dsimp only at h1 h2 hv
        subst h1 h2 hv
        exact ⟨hget, rfl, rfl, trivial⟩
      obtain ⟨_, its, rv, o, h1, h2, n, h3⟩ := (show ObjOk X.prog X.w H s.heap tp (.tup cs) from I.hok tp _ hT)
      have e3 := ClsV.all k rv
      subst e3
      obtain ⟨oc, od, dt, sl⟩ := o
      simp only at h2 h3
      subst h2 h3
      exact PySem.W.kia_tup (PySem.W.handS_kitx_exc C.hg C.hk C.hs C.hd C.ha C.hn C.ht C.hm) I.kIn J h1 e (fun z => nomatch z) fun tk => ⟨.bl b, H, I.kept (t' := tk) fun _ _ z => z, rfl, q⟩
end Rg
namespace Rg
open PySem PySem.Spec PyProof.Rows L2
theorem op_inK {X : Cx} {K : PySem.W.Frag} (hK : X.K = K := by rfl) : OpR X (compareOp .In) (rIn K false) := by
  subst hK
  exact op_in_seq
theorem pg_tupK {X : Cx} {K : PySem.W.Frag} {es : List Expr} {k n : Nat} {pos : Pos} {t : TGs} (hc : X.calm = true) (h : PGs X es t) (hn : (assignEach es X.env).length = n := by rfl) (hst : (assignEach es X.env).findIdx? (·.1) = none := by rfl) (hK : X.K = K := by rfl) : PG X (.Tuple es k pos) (gTup K n t) := by
  subst hK
  exact pg_tup hc h hn hst
def tTru (K : PySem.W.Frag) (ta : TE) : TT := fun σ H Q => ta σ H fun x H' => ∃ k, TruV K x H' k ∧ Q k H'
theorem pt_truthK {X : Cx} {K : PySem.W.Frag} {a : Expr} {ta : TE} (ha : PE X a ta) (he : ∀ whole, isTrue a X.env whole = (do let v ← whole; standAt a.pos; holding [v] (truthy v))) (hK : X.K = K := by rfl) : PT X a (tTru K ta) := by
  subst hK
  exact pt_truth ha he
theorem op_notInK {X : Cx} {K : PySem.W.Frag} (hK : X.K = K := by rfl) : OpR X (compareOp .NotIn) (rIn K true) := by
  subst hK
  exact op_notIn_seq
end Rg
/-! ### all, any of a generator expression whose element calls one's own defs -/
namespace GxL
open PySem PySem.Spec PyProof.Rows L2
open Sem (wp)
/-- the state is the same but for the generators' table, what was drawn, the tokens -/
def Slept (s s' : Shared) : Prop := s'.os = s.os ∧ AllBare s'.gens ∧ s'.heap = s.heap
theorem Slept.trans {a b c : Shared} (x : Slept a b) (y : Slept b c) : Slept a c := ⟨y.1.trans x.1, y.2.1, y.2.2.trans x.2.2⟩
theorem bare_set {gs : Array GenState} {g : Nat} {x : GenState} (h : AllBare gs) (hx : x.bare = true) : AllBare (gs.setIfInBounds g x) := fun y hy => by
  obtain ⟨i, hi, rfl⟩ := Array.mem_iff_getElem.mp hy
  rw [Array.getElem_setIfInBounds (by simpa using hi)]
  split
  · exact hx
  · exact h _ (Array.getElem_mem _)
theorem Slept.set {s : Shared} {g : Nat} {x : GenState} (h : AllBare s.gens) (hx : x.bare = true) : Slept s (s.setGen g x) := ⟨rfl, bare_set h hx, rfl⟩
/-- the generator's frame, entered at s: its iterator's objects at fp -/
def genCx (X : Cx) (s : Shared) (H : Hp) (cenv : Env) (fp : List Addr) : Cx where
  prog := X.prog
  w := X.w
  K := X.K
  mg := X.mg
  base := X.base
  A := X.A.in1.in1.deeper cenv
  N := X.N
  s_0 := s
  H_0 := H
  env := cenv
  outer := X.stack
  stack := cenv :: X.stack
  ex := fp
  fn := fun _ => false
  calm := true
  pn := []
  xe := fun _ _ => False
/-- the generator's frame's environment over the def's -/
abbrev gEnv (X : Cx) (scope : Scope) (C : Addr) (code : Value) : Env := genEnv scope (cloFrom X.env.cells scope.names []) C code builtinsNs X.env
section
variable {X : Cx} {pins : List (Addr × Obj)} {σ : L2.St} {H H' : Hp} {s : Shared}
theorem slept_inv (I : Inv X pins σ H s) {s' : Shared} (h : Slept s s') : Inv X pins σ H s' := by
  refine I.call' (ch := []) h.1 (Un.kept fun b u e => by rw [h.2.2]; exact e) (by rw [h.2.2]; exact I.hok) h.2.1 fun b z => absurd z (by simp)
/-- a generator's scope -/
structure GSc (scope : Scope) : Prop where
  co : scope.isCoroutine = false
  cell : ∀ y ∈ scope.names, y.2 ≠ .cell
  dot : scope.names.lookup (".0" : Str) = some NameKind.local
def gscB (scope : Scope) : Bool := !scope.isCoroutine && (scope.names.all fun y => !decide (y.2 = .cell)) && decide (scope.names.lookup (".0" : Str) = some NameKind.local)
theorem gsc_by {scope : Scope} (h : gscB scope = true) : GSc scope := by
  unfold gscB at h
  simp only [Bool.and_eq_true, Bool.not_eq_true', decide_eq_true_eq, decide_eq_false_iff_not, List.all_eq_true] at h
  exact ⟨h.1.1, fun y hy => h.1.2 y hy, h.2⟩
theorem gen_start {scope : Scope} {own : List (Str × Nat)} {fp : List Addr} {code : Value} {m : Str → Option Value} {s5 : Shared} (I : Inv X pins σ H s) (ok : BlkOk X.N X.env.scope scope own) (S : GSc scope) (hN : X.N.Nodup) (hd : X.A.handled = none)
    (hfp : ∀ b ∈ fp, FpOk X pins H b ∧ b < s.heap.objs.size) (ho : s5.os = s.os) (hb : AllBare s5.gens) (hns : s5.heap.Ns s.heap.objs.size m) (kp : ∀ b o, s.heap.get? b = some o → s5.heap.get? b = some o) :
    Inv (genCx X s H (gEnv X scope s.heap.objs.size code) fp) [] (wipe σ (own.map (·.2))) H s5 := by
  have hfree : ∀ y ∈ scope.names, y.2 = .free → ∃ c, X.env.cells.lookup y.1 = some c := fun y hy e => by
    rcases ok.free y hy e with k | k
    · exact I.ok.has _ (.inl k)
    · exact I.ok.has _ (.inr k)
  have cm : ∀ {y c}, (cloFrom X.env.cells scope.names []).lookup y = some c → X.env.cells.lookup y = some c := fun {y c} e => by
    rcases cloFrom_mem (PySem.mem_of_lookup e) with hm | ⟨h1, h2⟩
    · cases hm
    · obtain ⟨c1, hc⟩ := hfree _ h1 rfl
      have hc : X.env.cells.lookup y = some c1 := hc
      have e2 : c = c1 := by
        rw [h2, hc] <;> rfl
      rw [e2]
      exact hc
  have look : ∀ {y}, scope.names.lookup y = some .free → ∃ c, (cloFrom X.env.cells scope.names []).lookup y = some c := fun {y} hl => by
    have hy : (y, NameKind.free) ∈ scope.names := PySem.mem_of_lookup hl
    exact mem_lookup (cloFrom_has (cells := X.env.cells) (acc := []) hy)
  have okB : (genCx X s H (gEnv X scope s.heap.objs.size code) fp).Ok := by
    refine ⟨I.ok.mod, ok.kind, I.ok.glob, rfl, Nat.le_refl _, fun y z c e1 e2 => I.ok.inj y z c (cm e1) (cm e2), fun y hy => ?_, fun y c z _ => ?_, fun _ => hd, Around.frames_deeper I.ok.frames, .inr ⟨rfl, rfl⟩, fun b hb => ⟨?_, fun y c e z => ?_⟩, I.bs, Nat.le_trans I.ok.bsz I.sz,
      fun b o e hb => ?_, fun b hb z => ?_, I.stack, I.stkFree⟩
    · have hy : scope.names.lookup y = some .cell ∨ scope.names.lookup y = some .free := hy
      rcases hy with hy | hy
      · exact absurd rfl (S.cell _ (PySem.mem_of_lookup hy))
      · exact look hy
    · have z : false = true := z
      cases z
    · exact Nat.ne_of_lt (hfp b hb).2
    · exact (hfp b hb).1.2.2.2.2.1 y c (cm e) z
    · rcases (hfp b hb).1.2.2.2.1 with z | z
      · exact I.ok.noex b o e z
      · exact absurd (Nat.lt_of_lt_of_le (Heap.lt_size e) (Nat.le_trans I.ok.bsz z)) (Nat.lt_irrefl _)
    · rcases List.mem_cons.mp (I.stkSub b z) with z | z
      · exact (hfp b hb).1.2.1 z
      · exact (hfp b hb).1.2.2.1 z
  refine ⟨okB, ho, hb, Un.kept kp, ⟨m, hns, fun i y av e1 e2 e3 => ?_⟩, fun y c e => ?_, I.hok.fresh (Nat.le_refl _), fun y c e => I.freeC y c (cm e), fun p hp => absurd (show p ∈ ([] : List (Addr × Obj)) ++ [] from hp) (by simp), I.hok.kept kp, by rw [wipe_length]; exact I.len⟩
  · obtain ⟨e2, hne⟩ := wipe_some e2
    have e3 : Vis scope y := e3
    have no : ∀ k, scope.names.lookup y = some k → ¬ (k = .local ∨ k = .cell) := fun k e hh => by
      rcases ok.own _ (PySem.mem_of_lookup e) hh with e' | e'
      · obtain ⟨p, hp, hpy⟩ := List.mem_map.mp e'
        have e3 := ok.ix p hp
        have : p.1 = y := hpy
        rw [this] at e3
        exact hne (List.mem_map.mpr ⟨p, hp, nodup_ix hN e3 e1⟩)
      · exact e' (List.mem_of_getElem? e1)
    rcases e3 with k | k | k
    · exact absurd (.inl rfl) (no _ k)
    · exact absurd (.inr rfl) (no _ k)
    · obtain ⟨m, hn, hl⟩ := I.loc
      have hvis : Vis X.env.scope y := (ok.free _ (PySem.mem_of_lookup k) rfl).elim (fun k => .inr (.inl k)) (fun k => .inr (.inr k))
      obtain ⟨w', r, q⟩ := hl i y av e1 e2 hvis
      obtain ⟨c2, h2⟩ := look k
      refine ⟨w', r, .inr ⟨.inr k, c2, h2, ?_⟩⟩
      have c1 := cm h2
      rcases q with ⟨k', _⟩ | ⟨_, c3, e', z⟩
      · have k' : X.env.scope.names.lookup y = some .local := k'
        rcases ok.free _ (PySem.mem_of_lookup k) rfl with k2 | k2 <;> rw [show X.env.scope.names.lookup y = _ from k2] at k' <;> cases k'
      · rw [c1] at e'
        cases e'
        exact z.keeps kp
  · obtain ⟨w', z⟩ := I.cell y c (cm e)
    exact ⟨w', z.keeps kp⟩
end
end GxL
namespace GxL
open PySem PySem.Spec PyProof.Rows L2
open Sem (wp)
theorem over_gen {A : Around} {elt tg iter : Expr} {ifs : List Expr} {scope : Scope} {pos : Pos} {it acc : Value} {env : Env} : A.over (.compLoop (.GeneratorExp elt [⟨tg, iter, ifs, 0⟩] scope pos) 0 it acc env) [] = A.deeper env := by
  first
    | rfl
    | (obtain ⟨hd, d, fr, gs, u⟩ := A; simp [Around.over, Around.deeper, marksOver, frameCount, unitsOf, envsOf, guardsOf, pushEnvs, pushGuards, Code.envs, Code.env?, Code.isFrame, Code.guards, Code.isGuard, Code.weight, Code.frames, Code.isCreation, Code.isCaller, Code.cUnits])
theorem over_gstart {A : Around} {elt tg iter : Expr} {ifs : List Expr} {scope : Scope} {pos : Pos} {it acc : Value} {env : Env} : A.over (.compStart (.GeneratorExp elt [⟨tg, iter, ifs, 0⟩] scope pos) 0 it acc env) [] = A.deeper env := by
  first
    | rfl
    | (obtain ⟨hd, d, fr, gs, u⟩ := A; simp [Around.over, Around.deeper, marksOver, frameCount, unitsOf, envsOf, guardsOf, pushEnvs, pushGuards, Code.envs, Code.env?, Code.isFrame, Code.guards, Code.isGuard, Code.weight, Code.frames, Code.isCreation, Code.isCaller, Code.cUnits])
/-- the whole turn's reading: c: all's true, any's false; W by the turn and a measure -/
def GTurn (c : Bool) (J : It) (g : TG) (tt : TT) (te : TE) (vs : List Nat) (σ : L2.St) (Q : VK) (W : Nat → Nat → Hp → Prop) : Prop :=
  ∀ i m H, W i m H → (J.stop i H ∧ Q (.bl c) H) ∨ (J.go i H ∧ ∃ Nx : Hp → Prop, (∀ H', Nx H' → ∃ m', m' < m ∧ W (i + 1) m' H') ∧ ∀ x H', J.yld i H x H' → g x (wipe σ vs) H' fun σ2 H2 => wipe σ2 vs = wipe σ vs ∧ tt σ2 H2 fun b H3 =>
    if b = true then te σ2 H3 fun y H4 => ∃ k, y = .bl k ∧ if k = c then Nx H4 else Q (.bl (!c)) H4 else Nx H3)
/-- the generator's end, its protocol -/
def gR (G : Cx) (pn : List (Addr × Obj)) (σ : L2.St) (Q : Hp → Prop) : GenEnd := fun _ _ r s₁ => r = .ok .next ∧ ∃ H', Inv G pn σ H' s₁ ∧ Q H'
def gY (G : Cx) (pn : List (Addr × Obj)) (σ : L2.St) (c : Bool) (Q : Hp → Prop) : Protocol := fun _ _ v s₁ kap => ∃ k H', v = .bool k ∧ Inv G pn σ H' s₁ ∧ if k = c then ∀ s'', Slept s₁ s'' → kap (.send .none) s'' else Q H'
section
variable {X : Cx}
theorem thnS {α : Type} {t : Sem α} {Q Q' : α → Shared → Prop} {M : Model} {A : Around} {E : Value → Shared → Prop} {s : Shared} (h : wpAny M A t Q (fun _ _ => False) s) (hQ : ∀ a s, Q a s → Q' a s) : wpAny M A t Q' E s := wpAny_mono h hQ fun _ _ z => False.elim z
theorem gen_seg {s3 : Shared} {H3 : Hp} {cenv : Env} {fp : List Addr} {it a : Addr} {ob : Obj} {tn : Nat → Heap → Prop} {J : It} {elt tg iter : Expr} {ifs : List Expr} {scope : Scope} {pos : Pos} {g : TG} {tt : TT} {te : TE} {vs : List Nat} {σ : L2.St} {c : Bool} {Q : VK} {W : Nat → Nat → Hp → Prop}
    (T : Turn X.prog X.w X.K tg J fp it tn) (hco : cenv.scope.isCoroutine = false) (ha : ∀ b ∈ fp, a ≠ b)
    (hg : PG (genCx X s3 H3 cenv fp) tg g) (ht : PTs (genCx X s3 H3 cenv fp) ifs tt) (he : PE (genCx X s3 H3 cenv fp) elt te) (turn : GTurn c J g tt te vs σ Q W) :
    ∀ (m n i : Nat) (s₀ s : Shared) (H : Hp), m < n → Inv (genCx X s3 H3 cenv fp) [(a, ob)] (wipe σ vs) H s → tn i s.heap → (∀ b ∈ fp, H b = none) → W i m H →
      Seg (model X.prog X.w) X.A.in1.in1 (gR (genCx X s3 H3 cenv fp) [(a, ob)] (wipe σ vs) (Q (.bl c))) (gY (genCx X s3 H3 cenv fp) [(a, ob)] (wipe σ vs) c (Q (.bl (!c)))) n s₀
        (.compLoop (.GeneratorExp elt [⟨tg, iter, ifs, 0⟩] scope pos) 0 (.ref it) .none cenv)
        ((model X.prog X.w).den (.compLoop (.GeneratorExp elt [⟨tg, iter, ifs, 0⟩] scope pos) 0 (.ref it) .none cenv)) [] s := by
  intro m
  induction m using Nat.strongRecOn with
  | ind m ih =>
  intro n i s₀ s H hmn I st nf w
  have stat : ∀ {σ' : L2.St} {H' : Hp} {s' : Shared}, Inv (genCx X s3 H3 cenv fp) [(a, ob)] σ' H' s' → (∀ b ∈ fp, H' b = none) → ∀ b ∈ fp, FpOk (genCx X s3 H3 cenv fp) [(a, ob)] H' b := fun {σ' H' s'} I' hn b hb =>
    ⟨hn b hb, (I'.ok.exf b hb).1, I'.ok.exfs b hb, .inl hb, fun x c e => (I'.ok.exf b hb).2 x c e, fun p hp => by
      have hp : p ∈ ([] : List (Addr × Obj)) ++ [(a, ob)] := hp
      simp at hp
      rw [hp]
      exact ha b hb⟩
  show Seg _ _ _ _ _ s₀ _ ((compTurn (.GeneratorExp elt [⟨tg, iter, ifs, 0⟩] scope pos) 0 (.ref it) .none cenv).onRaise (leaving cenv)) [] s
  rw [compTurn_gen, Sem.onRaise_eq_wrap]
  refine seg_bind_wrap (wpAny_standAt ?_)
  rcases turn i m H w with ⟨stop, qq⟩ | ⟨go, Nx, hNx, step⟩
  · have td := T.done (genCx X s3 H3 cenv fp) rfl rfl rfl rfl i [(a, ob)] s _ H (fun _ _ => False) I (stat I nf) st stop
    refine seg_bind_wrap ?_
    rw [over_gen]
    refine thnS td fun r s6 ⟨hr, I6⟩ => ?_
    subst hr
    exact seg_end (.ok .next) ⟨rfl, H, I6, qq⟩
  · have ti := T.item (genCx X s3 H3 cenv fp) rfl rfl rfl rfl i [(a, ob)] s _ H (fun _ _ => False) I (stat I nf) st go
    refine seg_bind_wrap ?_
    rw [over_gen]
    refine thnS ti fun r s6 ⟨u, hr, h6⟩ => ?_
    subst hr
    refine seg_bind_wrap ?_
    rw [over_gen]
    refine thnS h6 fun _ s7 ⟨x, H7, I7, r7, y7, st7, n7⟩ => ?_
    have I7' := I7.pinned (stat I7 n7) (T.obj _ _ st7)
    refine seg_bind_wrap ?_
    rw [over_gen]
    refine thnS (hg.run _ s7 _ H7 x u _ I7' r7 (step x H7 y7)) fun _ s8 ⟨σ8, H8, I8, hw8, q8⟩ => ?_
    refine seg_bind_wrap ?_
    rw [over_gen]
    refine thnS (ht.run _ s8 σ8 H8 _ I8 q8) fun b s9 ⟨H9, I9, q9⟩ => ?_
    -- the turn's end
    have fin : ∀ {s' : Shared} {H' : Hp}, Inv (genCx X s3 H3 cenv fp) ([(a, ob)] ++ pinsAt fp s7.heap) σ8 H' s' → Inv (genCx X s3 H3 cenv fp) [(a, ob)] (wipe σ vs) H' s' ∧ tn (i + 1) s'.heap ∧ ∀ b ∈ fp, H' b = none := fun {s' H'} I' => by
      have pin' : ∀ b ∈ fp, ∀ o, s7.heap.get? b = some o → s'.heap.get? b = some o ∧ H' b = none := fun b hb o e =>
        let z := I'.pin (b, o) (List.mem_append_right _ (List.mem_append_right _ (mem_pinsAt hb e)))
        ⟨z.1, z.2.1⟩
      have hl : (wipe σ vs).length = σ8.length := by rw [← hw8, wipe_length]
      refine ⟨(I'.unpinned (pins := [(a, ob)])).weak hl (fun j v e => ?_), T.keep _ _ _ st7 fun b hb o e => (pin' b hb o e).1, fun b hb => ?_⟩
      · rw [← hw8] at e
        exact (wipe_some e).1
      · obtain ⟨o, e, _⟩ := T.obj _ _ st7 b hb
        exact (pin' b hb o e).2
    cases b with
    | false =>
      simp only [Bool.false_eq_true, if_false] at q9 ⊢
      obtain ⟨m', hm, w'⟩ := hNx H9 q9
      obtain ⟨J1, J2, J3⟩ := fin I9
      exact seg_again rfl (ih m' hm n (i + 1) s₀ s9 H9 (by omega) J1 J2 J3 w')
    | true =>
      simp only [if_true] at q9 ⊢
      have hy : ∀ v, yieldOut cenv v = yieldValue v := fun v => by simp only [yieldOut, hco, Bool.false_eq_true, if_false]
      simp only [hy]
      rw [Sem.bind_eq_wrap', Sem.bind_eq_wrap', Sem.wrap_wrap, Sem.wrap_wrap]
      refine seg_wrap ?_
      rw [over_gen]
      refine thnS (he.run _ s9 σ8 H9 _ I9 q9) fun z s10 ⟨yv, H10, I10, r10, k, ek, q10⟩ => ?_
      subst ek
      obtain rfl : z = Value.bool k := r10
      obtain ⟨J1, J2, J3⟩ := fin I10
      obtain ⟨n', rfl⟩ : ∃ n', n = n' + 1 := by
        cases n with
        | succ n' => exact ⟨n', rfl⟩
        | zero => exact absurd hmn (Nat.not_lt_zero _)
      refine seg_at (seg_yield rfl rfl rfl ⟨k, H10, rfl, J1, ?_⟩)
      by_cases hk : k = c
      · rw [if_pos hk] at q10 ⊢
        intro s'' hs
        obtain ⟨m', hm, w'⟩ := hNx H10 q10
        exact seg_again rfl (ih m' hm n' (i + 1) s'' s'' H10 (by omega) (slept_inv J1 hs) (by rw [hs.2.2]; exact J2) J3 w')
      · rw [if_neg hk] at q10 ⊢
        exact q10
/-- the generator's start -/
theorem gen_seg0 {s3 : Shared} {H3 : Hp} {cenv : Env} {fp : List Addr} {it a : Addr} {ob : Obj} {tn : Nat → Heap → Prop} {J : It} {elt tg iter : Expr} {ifs : List Expr} {scope : Scope} {pos : Pos} {g : TG} {tt : TT} {te : TE} {vs : List Nat} {σ : L2.St} {c : Bool} {Q : VK} {W : Nat → Nat → Hp → Prop}
    (T : Turn X.prog X.w X.K tg J fp it tn) (hco : cenv.scope.isCoroutine = false) (ha : ∀ b ∈ fp, a ≠ b)
    (hg : PG (genCx X s3 H3 cenv fp) tg g) (ht : PTs (genCx X s3 H3 cenv fp) ifs tt) (he : PE (genCx X s3 H3 cenv fp) elt te) (turn : GTurn c J g tt te vs σ Q W)
    {m n : Nat} {s₀ s : Shared} {H : Hp} (hmn : m < n) (I : Inv (genCx X s3 H3 cenv fp) [(a, ob)] (wipe σ vs) H s) (st : tn 0 s.heap) (nf : ∀ b ∈ fp, H b = none) (w : W 0 m H) :
      Seg (model X.prog X.w) X.A.in1.in1 (gR (genCx X s3 H3 cenv fp) [(a, ob)] (wipe σ vs) (Q (.bl c))) (gY (genCx X s3 H3 cenv fp) [(a, ob)] (wipe σ vs) c (Q (.bl (!c)))) n s₀
        (.compStart (.GeneratorExp elt [⟨tg, iter, ifs, 0⟩] scope pos) 0 (.ref it) .none cenv)
        ((model X.prog X.w).den (.compStart (.GeneratorExp elt [⟨tg, iter, ifs, 0⟩] scope pos) 0 (.ref it) .none cenv)) [] s := by
  have loop := gen_seg (pos := pos) (iter := iter) (scope := scope) T hco ha hg ht he turn m n 0 s₀ s H hmn I st nf w
  show Seg _ _ _ _ _ s₀ _ ((compStart (.GeneratorExp elt [⟨tg, iter, ifs, 0⟩] scope pos) 0 (.ref it) .none cenv).onRaise (leaving cenv)) [] s
  unfold compStart
  rw [Sem.onRaise_eq_wrap]
  show Seg _ _ _ _ _ s₀ _ ((ask >>= _).wrap _ _ _ _) [] s
  refine seg_bind_wrap (wpAny_askSetting ?_)
  split
  · exact seg_again rfl loop
  · first
      | exact seg_bind_wrap (wpAny_rule (seg_bind_wrap (wpAny_standAt (seg_bind_wrap (T.self _ 0 s _ _ st (seg_again rfl loop))))))
      | (refine seg_bind_wrap (wpAny_rule ?_); show Seg _ _ _ _ _ s₀ _ ((standAt iter.pos >>= _).wrap _ _ _ _) [] s; exact seg_bind_wrap (wpAny_standAt (seg_bind_wrap (T.self _ 0 s _ _ st (seg_again rfl loop)))))
/-- the generator's object: its number gi -/
structure GOb (ob : Obj) (gi : Nat) : Prop where
  cls : ob.cls = .type "generator"
  data : ∃ nm qn : Value, ob.data = .fields #[.int gi 0, nm, qn]
  slots : ob.slots = #[]
theorem GOb.at {ob : Obj} {gi : Nat} (h : GOb ob gi) {hp : Heap} {a : Addr} (e : hp.get? a = some ob) : hp.IsGen a gi := by
  obtain ⟨nm, qn, hd⟩ := h.data
  exact ⟨ob, nm, qn, e, h.cls, hd, h.slots⟩
/-- the generator at a, ready to be walked: n bounds its turns -/
def GReady (X : Cx) (G : Cx) (a : Addr) (ob : Obj) (gi : Nat) (σ : L2.St) (c : Bool) (Qs Qb : Hp → Prop) (n : Nat) (s : Shared) : Prop :=
  s.heap.NoLimit ∧ AllBare s.gens ∧ s.heap.get? a = some ob ∧ ∃ gs, s.gens[gi]? = some gs ∧ ∀ s'', Slept s s'' → gs.Goes (model X.prog X.w) X.A.in1.in1 (gR G [(a, ob)] σ Qs) (gY G [(a, ob)] σ c Qb) n (.send .none) s''
/-- a turn of the consumer -/
theorem gen_next {G : Cx} {a : Addr} {ob : Obj} {gi : Nat} {σ : L2.St} {c : Bool} {Qs Qb : Hp → Prop} {n : Nat} {s : Shared} {E : Value → Shared → Prop} {Q' : Option Value → Shared → Prop} {k : Nat} (hr : Room k X.A)
    (hob : GOb ob gi) (R : GReady X G a ob gi σ c Qs Qb n s)
    (hend : ∀ s' H', Inv G [(a, ob)] σ H' s' → Qs H' → Q' none s')
    (hgo : ∀ n' s', n = n' + 1 → GReady X G a ob gi σ c Qs Qb n' s' → Q' (some (.bool c)) s')
    (hbr : ∀ s' H', Inv G [(a, ob)] σ H' s' → Qb H' → Q' (some (.bool (!c))) s') :
    wpAny (model X.prog X.w) X.A.in1 (pyNext (.ref a)) Q' E s := by
  obtain ⟨lim, bare, hG, gs, hgs, goes⟩ := R
  have hlt : gi < s.gens.size := (Array.getElem?_eq_some_iff.mp hgs).1
  refine GenW.wpAny_gsz (n := s.gens.size) (Nat.le_refl _) ?_
  refine wpAny_pyNext_genexpQ (A := X.A.in1) (P := fun _ _ s₁ => ∃ H', Inv G [(a, ob)] σ H' s₁ ∧ Qs H') hr.hd lim (by have := hr.dp; show X.A.depth < _; omega) (hob.at hG) hgs (goes _ (Slept.set bare rfl)) (fun v s₁ gs' hb hv => ?_) (fun s₁ hp h' hk => ?_)
  · intro hsz
    obtain ⟨kk, H', rfl, I', hk⟩ := hv
    by_cases e : kk = c
    · subst e
      rw [if_pos rfl] at hk
      have sl : Slept s₁ (s₁.setGen gi gs') := Slept.set I'.bare hb
      cases n with
      | zero => exact False.elim (hk s₁ ⟨rfl, I'.bare, rfl⟩)
      | succ n' =>
        have hlt' : gi < s₁.gens.size := by
          rw [GenW.setGen_size] at hsz
          exact Nat.lt_of_lt_of_le hlt hsz
        refine hgo n' _ rfl ⟨I'.nolimit, (slept_inv I' sl).bare, (I'.pin (a, ob) (List.mem_append_right _ (by simp))).1, gs', ?_, fun s'' hs => hk s'' (sl.trans hs)⟩
        simp [Shared.setGen, hlt']
    · rw [if_neg e] at hk
      have e2 : kk = !c := by cases kk <;> cases c <;> simp_all
      rw [e2]
      exact hbr _ H' (slept_inv I' (Slept.set I'.bare hb)) hk
  · intro _
    obtain ⟨H', I', q⟩ := hp
    have I2 := slept_inv I' (Slept.set (g := gi) (x := .finished) I'.bare rfl)
    exact hend _ H' (I2.kept (t' := (s₁.setGen gi .finished).toks) hk) q
/-- all's loop, any's loop -/
theorem all_loop {G : Cx} {a : Addr} {ob : Obj} {gi : Nat} {σ : L2.St} {Qs Qb : Hp → Prop} {k : Nat} {R : Result → Shared → Prop} (hr : Room k X.A) (hob : GOb ob gi)
    (hs : ∀ s' H', Inv G [(a, ob)] σ H' s' → Qs H' → R (.ok (.ret (.bool true))) s') (hb : ∀ s' H', Inv G [(a, ob)] σ H' s' → Qb H' → R (.ok (.ret (.bool false))) s') :
    ∀ (n : Nat) (s : Shared), GReady X G a ob gi σ true Qs Qb n s → codeAny (model X.prog X.w) X.A (.builtin "all.loop" ⟨[.ref a], []⟩) R s := by
  intro n
  induction n with
  | zero =>
    intro s g
    refine codeAny_builtin F.entry_all_loop ?_
    rw [Around.under_plainId F.plain_all_loop _]
    show wpAny _ X.A.in1 (pyNext (.ref a) >>= _) _ _ s
    refine wpAny_bind (gen_next hr hob g (fun s' H' I q => ?_) (fun n' s' e => by cases e) (fun s' H' I q => ?_))
    · exact wpAny_bind (wpAny_rule (wpAny_pure (hs s' H' I q)))
    · refine wpAny_bind (wpAny_holding (wpAny_truthy_bool ?_))
      refine wpAny_bind (wpAny_letGo ?_)
      simp only [Bool.not_true, Bool.false_eq_true, if_false]
      exact wpAny_bind (wpAny_rule (wpAny_pure (hb s' H' I q)))
  | succ n ih =>
    intro s g
    refine codeAny_builtin F.entry_all_loop ?_
    rw [Around.under_plainId F.plain_all_loop _]
    show wpAny _ X.A.in1 (pyNext (.ref a) >>= _) _ _ s
    refine wpAny_bind (gen_next hr hob g (fun s' H' I q => ?_) (fun n' s' e g' => ?_) (fun s' H' I q => ?_))
    · exact wpAny_bind (wpAny_rule (wpAny_pure (hs s' H' I q)))
    · cases e
      refine wpAny_bind (wpAny_holding (wpAny_truthy_bool ?_))
      refine wpAny_bind (wpAny_letGo ?_)
      simp only [if_true]
      exact wpAny_pure ⟨plainId_quiet F.plain_all_loop _, ih s' g'⟩
    · refine wpAny_bind (wpAny_holding (wpAny_truthy_bool ?_))
      refine wpAny_bind (wpAny_letGo ?_)
      simp only [Bool.not_true, Bool.false_eq_true, if_false]
      exact wpAny_bind (wpAny_rule (wpAny_pure (hb s' H' I q)))
theorem any_loop {G : Cx} {a : Addr} {ob : Obj} {gi : Nat} {σ : L2.St} {Qs Qb : Hp → Prop} {k : Nat} {R : Result → Shared → Prop} (hr : Room k X.A) (hob : GOb ob gi)
    (hs : ∀ s' H', Inv G [(a, ob)] σ H' s' → Qs H' → R (.ok (.ret (.bool false))) s') (hb : ∀ s' H', Inv G [(a, ob)] σ H' s' → Qb H' → R (.ok (.ret (.bool true))) s') :
    ∀ (n : Nat) (s : Shared), GReady X G a ob gi σ false Qs Qb n s → codeAny (model X.prog X.w) X.A (.builtin "any.loop" ⟨[.ref a], []⟩) R s := by
  intro n
  induction n with
  | zero =>
    intro s g
    refine codeAny_builtin F.entry_any_loop ?_
    rw [Around.under_plainId F.plain_any_loop _]
    show wpAny _ X.A.in1 (pyNext (.ref a) >>= _) _ _ s
    refine wpAny_bind (gen_next hr hob g (fun s' H' I q => ?_) (fun n' s' e => by cases e) (fun s' H' I q => ?_))
    · exact wpAny_bind (wpAny_rule (wpAny_pure (hs s' H' I q)))
    · refine wpAny_bind (wpAny_holding (wpAny_truthy_bool ?_))
      refine wpAny_bind (wpAny_letGo ?_)
      simp only [Bool.not_false, if_true]
      exact wpAny_bind (wpAny_rule (wpAny_pure (hb s' H' I q)))
  | succ n ih =>
    intro s g
    refine codeAny_builtin F.entry_any_loop ?_
    rw [Around.under_plainId F.plain_any_loop _]
    show wpAny _ X.A.in1 (pyNext (.ref a) >>= _) _ _ s
    refine wpAny_bind (gen_next hr hob g (fun s' H' I q => ?_) (fun n' s' e g' => ?_) (fun s' H' I q => ?_))
    · exact wpAny_bind (wpAny_rule (wpAny_pure (hs s' H' I q)))
    · cases e
      refine wpAny_bind (wpAny_holding (wpAny_truthy_bool ?_))
      refine wpAny_bind (wpAny_letGo ?_)
      simp only [Bool.false_eq_true, if_false]
      exact wpAny_pure ⟨plainId_quiet F.plain_any_loop _, ih s' g'⟩
    · refine wpAny_bind (wpAny_holding (wpAny_truthy_bool ?_))
      refine wpAny_bind (wpAny_letGo ?_)
      simp only [Bool.not_false, if_true]
      exact wpAny_bind (wpAny_rule (wpAny_pure (hb s' H' I q)))
end
end GxL
namespace GxL
open PySem PySem.Spec PyProof.Rows L2
open Sem (wp)
/-- all(..) (c: true), any(..) (c: false) of a generator expression; the def's table at P may have grown -/
def tGx (c : Bool) (P : Addr) (wi : TI) (g : TG) (tt : TT) (te : TE) (vs : List Nat) : TE := fun σ H Q => wi σ H fun J H1 => GxR.TabG H1 P ∧ ∀ H2, GxR.Tabbed P H1 H2 → ∃ W : Nat → Nat → Hp → Prop, (∃ m, W 0 m H2) ∧ GTurn c J g tt te vs σ Q W
section
variable {X : Cx}
theorem gen_made {cc P : Addr} {c : Bool} {elt tg iter : Expr} {ifs : List Expr} {scope : Scope} {own : List (Str × Nat)} {gpos : Pos} {wi : TI} {g : TG} {tt : TT} {te : TE} {k : Nat} {pins : List (Addr × Obj)} {s : Shared} {σ : L2.St} {H : Hp} {Q : VK} {Q' : Value → Shared → Prop}
    (hr : Room (k + 3) X.A) (TB : LamX.TabB X.base X.mg cc P) (hcode : X.env.code = .ref cc) (S : GSc scope) (ok : BlkOk X.N X.env.scope scope own) (hN : X.N.Nodup) (hi : PI X tg iter wi)
    (hg : ∀ (s : Shared) (H : Hp) (C : Addr) (code : Value) (fp : List Addr), PG (genCx X s H (gEnv X scope C code) fp) tg g) (ht : ∀ (s : Shared) (H : Hp) (C : Addr) (code : Value) (fp : List Addr), Room k (genCx X s H (gEnv X scope C code) fp).A → PTs (genCx X s H (gEnv X scope C code) fp) ifs tt)
    (he : ∀ (s : Shared) (H : Hp) (C : Addr) (code : Value) (fp : List Addr), Room k (genCx X s H (gEnv X scope C code) fp).A → PE (genCx X s H (gEnv X scope C code) fp) elt te) (hs : ∀ v, genFold iter X.env v = pure v)
    (I : Inv X pins σ H s) (h : tGx c P wi g tt te (own.map (·.2)) σ H Q)
    (hQ : ∀ (G : Cx) (a : Addr) (ob : Obj) (gi n : Nat) (s5 : Shared), GOb ob gi → GReady X G a ob gi (wipe σ (own.map (·.2))) c (Q (.bl c)) (Q (.bl (!c))) n s5 → (∀ s' H', Inv G [(a, ob)] (wipe σ (own.map (·.2))) H' s' → Inv X pins σ H' s') → Q' (.ref a) s5) :
    wpAny (model X.prog X.w) X.A (eval (.GeneratorExp elt [⟨tg, iter, ifs, 0⟩] scope gpos) X.env) Q' X.xe s := by
  have hfree : ∀ y ∈ scope.names, y.2 = .free → ∃ c, X.env.cells.lookup y.1 = some c := fun y hy e => by
    rcases ok.free y hy e with k | k
    · exact I.ok.has _ (.inl k)
    · exact I.ok.has _ (.inr k)
  refine wpAny_GeneratorExp_make S.co (closure_ok hfree) S.cell S.dot ok.kind (by have := hr.dp; omega) ?_ hs
  refine thn (hi.run pins s σ H _ I h) fun xv s1 h1 => thn h1 fun itv s2 h2 => ?_
  obtain ⟨it, fp, tn, J, H2, e, I2, T, st2, f2, ⟨ps, hP, hto⟩, q⟩ := h2
  subst e
  have hPs : s2.heap.get? P = some { cls := .none, data := .fields ps } := I2.hok P _ hP
  have cd : PySem.W.CodeHd s2.heap cc P := TB.code.keeps I2.bk
  have sz : ∀ b ∈ fp, b < s2.heap.objs.size := fun b hb => by
    obtain ⟨o, e, _⟩ := T.obj _ _ st2 b hb
    exact Heap.lt_size e
  have nfP : ∀ b ∈ fp, b ≠ P := fun b hb z => by
    have z1 := (f2 b hb).1
    rw [z, hP] at z1
    cases z1
  have cont : ∀ (code : Value) (h3 : Heap) (tk : Nat) (more : Array Value), Heap.ExtBut P s2.heap h3 → s2.heap.objs.size ≤ h3.objs.size → h3.get? P = some { cls := .none, data := .fields (ps ++ more) } → TriplesOk (ps ++ more).toList →
      wpAny (model X.prog X.w) X.A (builtinsFor X.env.globals X.env.builtins) (fun bi s₄ =>
        ∀ h', h'.Ns s₄.heap.objs.size (fun y => if y = ".0" then some (.ref it) else none) → Heap.SameBut s₄.heap.objs.size (s₄.heap.push { cls := .type "frame", data := .dict #[] }) h' →
          Q' (.ref h'.objs.size) { s₄ with
            gens := s₄.gens.push (.fresh (.compStart (.GeneratorExp elt [⟨tg, iter, ifs, 0⟩] scope gpos) 0 (.ref it) .none (genEnv scope (cloFrom X.env.cells scope.names []) s₄.heap.objs.size code bi X.env))),
            toks := s₄.toks + 1 + 1 + 1,
            heap := h'.push { cls := .type "generator", data := .fields #[.int s₄.gens.size 0, .str "<genexpr>" (s₄.toks + 1), .str (X.env.qual ++ "<genexpr>") (s₄.toks + 1 + 1)] } }) X.xe { s2 with heap := h3, toks := tk } := by
    intro code h3 tk more hx hsz hP3 ht3
    have I3 : Inv X pins σ (upd H2 P (.tbl (ps ++ more))) { s2 with heap := h3, gens := s2.gens, drawn := s2.drawn, toks := tk } := GxR.inv_tab I2 hP (fun b o hb e => hx b o hb e) hP3 I2.bare
    obtain ⟨bm, ob, e1, e2, e3, e4, e5, e6, e7, e8⟩ := TB.bm
    have keep3 : ∀ b u, b ≠ P → s2.heap.get? b = some u → h3.get? b = some u := fun b u hb e => hx b u hb e
    refine wpAny_builtinsFor (m := X.mg) (by rw [I2.ok.glob]; exact (I2.mod.glob.keeps I2.bk).extBut hx TB.gP) e1 e2 (keep3 _ _ e4 (I2.bk _ _ e5)) e6 e7 e8 ?_
    intro h' hns hsb
    obtain ⟨W, ⟨m0, w0⟩, turn⟩ := q (upd H2 P (.tbl (ps ++ more))) ⟨⟨ps ++ more, upd_same, ht3⟩, fun b hb => upd_ne hb⟩
    generalize hH3 : upd H2 P (.tbl (ps ++ more)) = H3 at I3 w0
    have n3 : ∀ b ∈ fp, H3 b = none := fun b hb => by rw [← hH3, upd_ne (nfP b hb)]; exact (f2 b hb).1
    generalize hs3 : ({ s2 with heap := h3, gens := s2.gens, drawn := s2.drawn, toks := tk } : Shared) = s3 at I3
    have es3 : ({ s2 with heap := h3, toks := tk } : Shared) = s3 := by rw [← hs3]
    have eh3 : h3 = s3.heap := by rw [← hs3]
    rw [show ({ s2 with heap := h3, toks := tk } : Shared).heap = s3.heap from by rw [es3]] at hns hsb
    have f3 : ∀ b ∈ fp, FpOk X pins H3 b ∧ b < s3.heap.objs.size := fun b hb => ⟨⟨n3 b hb, (f2 b hb).2⟩, by rw [← eh3]; exact Nat.lt_of_lt_of_le (sz b hb) hsz⟩
    have szh : h'.objs.size = s3.heap.objs.size + 1 := by rw [hsb.1, Heap.size_push]
    have kp' : ∀ b o, s3.heap.get? b = some o → h'.get? b = some o := fun b o e => hsb.extBut b o (Nat.ne_of_lt (Heap.lt_size e)) (Heap.get?_push_of_some _ e)
    generalize hob : ({ cls := .type "generator", data := .fields #[.int s3.gens.size 0, .str "<genexpr>" (s3.toks + 1), .str (X.env.qual ++ "<genexpr>") (s3.toks + 1 + 1)] } : Obj) = og
    have GO : GOb og s3.gens.size := by
      rw [← hob]
      exact ⟨rfl, ⟨_, _, rfl⟩, rfl⟩
    have kp5 : ∀ b o, s3.heap.get? b = some o → (h'.push og).get? b = some o := fun b o e => Heap.get?_push_of_some _ (kp' b o e)
    have ga : (h'.push og).get? h'.objs.size = some og := Heap.get?_push_size _ (by rw [← hob]; rfl)
    refine hQ (genCx X s3 H3 (gEnv X scope s3.heap.objs.size code) fp) h'.objs.size og s3.gens.size (m0 + 1) _ GO ?_ fun s' H' I' => ?_
    · generalize hs5 : ({ s3 with
            gens := s3.gens.push (.fresh (.compStart (.GeneratorExp elt [⟨tg, iter, ifs, 0⟩] scope gpos) 0 (.ref it) .none (genEnv scope (cloFrom X.env.cells scope.names []) s3.heap.objs.size code builtinsNs X.env))),
            toks := s3.toks + 1 + 1 + 1, heap := h'.push og } : Shared) = s5
      have eh5 : s5.heap = h'.push og := by rw [← hs5]
      have I5 : Inv (genCx X s3 H3 (gEnv X scope s3.heap.objs.size code) fp) [] (wipe σ (own.map (·.2))) H3 s5 :=
        gen_start I3 ok S hN hr.hd f3 (by rw [← hs5]) (by rw [← hs5]; exact I3.bare.push rfl) (by rw [eh5]; exact hns.push _) (by rw [eh5]; exact kp5)
      have I6 : Inv (genCx X s3 H3 (gEnv X scope s3.heap.objs.size code) fp) [(h'.objs.size, og)] (wipe σ (own.map (·.2))) H3 s5 := by
        refine I5.pins_of fun p hp => ?_
        have hp : p = (h'.objs.size, og) := by simpa using hp
        rw [hp]
        have hge : s3.heap.objs.size ≤ h'.objs.size := by omega
        refine ⟨by rw [eh5]; exact ga, I3.hok.fresh hge, ?_, fun z => ?_, fun v z => ?_⟩
        · show h'.objs.size ≠ s3.heap.objs.size
          omega
        · obtain ⟨_, o, ho, _⟩ := I5.ok.funs.mem z
          have ho : s3.heap.get? h'.objs.size = some o := ho
          exact absurd (Nat.lt_of_lt_of_le (Heap.lt_size ho) hge) (Nat.lt_irrefl _)
        · rw [← hob] at z
          cases z
      have st5 : tn 0 s5.heap := T.keep _ _ _ st2 fun b hb o e => by rw [eh5]; exact kp5 b o (by rw [← eh3]; exact keep3 b o (nfP b hb) e)
      have hgs : s5.gens[s3.gens.size]? = some (.fresh (.compStart (.GeneratorExp elt [⟨tg, iter, ifs, 0⟩] scope gpos) 0 (.ref it) .none (gEnv X scope s3.heap.objs.size code))) := by
        rw [← hs5]
        exact Array.getElem?_push_size ..
      refine ⟨I6.nolimit, I6.bare, by rw [eh5]; exact ga, _, hgs, fun s'' hsl => ⟨rfl, ?_⟩⟩
      have hab : ∀ b ∈ fp, h'.objs.size ≠ b := fun b hb z => by
        have h1 := (f3 b hb).2
        rw [← z] at h1
        have h1 : h'.objs.size < s3.heap.objs.size := h1
        omega
      exact gen_seg0 T S.co hab (hg _ _ _ _ _) (ht _ _ _ _ _ (hr.in1.in1.deeper _)) (he _ _ _ _ _ (hr.in1.in1.deeper _)) turn (Nat.lt_succ_self m0) (slept_inv I6 hsl) (by rw [hsl.2.2]; exact st5) n3 w0
    · exact I3.call' (ch := fp) I'.os I'.base I'.hok I'.bare fun b hb => ⟨(f3 b hb).1.2.2.2.1, (f3 b hb).1.2.1, (f3 b hb).1.2.2.2.2.1, (f3 b hb).1.2.2.2.2.2⟩
  refine ⟨I2.nolimit, ?_⟩
  cases hf : codeAmong gpos ps.toList with
  | none =>
    refine wpAny_genexprCodeX hcode (cd.code hPs hto) (cd.tab hPs) hf fun c' h' tk hx hge hlt hco' _ htab' _ => ?_
    obtain ⟨o1, vs, f1, tf, fl, tg, inF, tx, tt, op, _, _, _, _, _, _, _, _, _, htr, _⟩ := hco'
    exact cont _ h' tk _ hx (Nat.le_trans hge (Nat.le_of_lt hlt)) htab'.2 htr
  | some cv =>
    refine wpAny_genexprCode_hit hcode (cd.code hPs hto) hf ?_
    exact cont cv s2.heap s2.toks #[] (Heap.ExtBut.refl _ _) (Nat.le_refl _) (by simpa using hPs) (by simpa using hto)
/-- all(.. for .. in ..) -/
theorem pe_allG {cc P : Addr} {elt tg iter : Expr} {ifs : List Expr} {scope : Scope} {own : List (Str × Nat)} {p pos gpos : Pos} {wi : TI} {g : TG} {tt : TT} {te : TE} {k : Nat}
    (hr : Room (k + 3) X.A) (hgl : Gl X "all") (hm : X.mg "all" = none) (TB : LamX.TabB X.base X.mg cc P) (hcode : X.env.code = .ref cc) (S : GSc scope) (ok : BlkOk X.N X.env.scope scope own) (hN : X.N.Nodup) (hi : PI X tg iter wi)
    (hg : ∀ (s : Shared) (H : Hp) (C : Addr) (code : Value) (fp : List Addr), PG (genCx X s H (gEnv X scope C code) fp) tg g) (ht : ∀ (s : Shared) (H : Hp) (C : Addr) (code : Value) (fp : List Addr), Room k (genCx X s H (gEnv X scope C code) fp).A → PTs (genCx X s H (gEnv X scope C code) fp) ifs tt)
    (he : ∀ (s : Shared) (H : Hp) (C : Addr) (code : Value) (fp : List Addr), Room k (genCx X s H (gEnv X scope C code) fp).A → PE (genCx X s H (gEnv X scope C code) fp) elt te) (hb : bootBuiltins "all" = some (.builtin "all") := by rfl) (hs : ∀ v, genFold iter X.env v = pure v := by intro _; rfl)
    (hst : starEach [.GeneratorExp elt [⟨tg, iter, ifs, 0⟩] scope gpos] X.env = (false, eval (.GeneratorExp elt [⟨tg, iter, ifs, 0⟩] scope gpos) X.env) :: starEach [] X.env := by rfl) :
    PE X (.Call (.Name "all" p) [.GeneratorExp elt [⟨tg, iter, ifs, 0⟩] scope gpos] [] pos) (tGx true P wi g tt te (own.map (·.2))) := by
  refine ⟨fun pins s σ H Q I h => ?_⟩
  refine wpAny_Call_Name_kw (ld_blt I hgl hm hb ?_)
  refine PyProof.Rows.callWith_builtin1 ?_ hst (by rfl)
  rw [hst]
  show wpAny _ _ (spliced ((false, eval (.GeneratorExp elt [⟨tg, iter, ifs, 0⟩] scope gpos) X.env) :: backTo pos (starEach [] X.env))) _ _ s
  refine Calls.spliced_cons (gen_made hr TB hcode S ok hN hi hg ht he hs I h fun G a ob gi n s5 hob R back => ?_)
  refine Calls.spliced_nil ?_
  refine call_function_tree F.kind_all F.plain_all F.entry_all (F.args_all1 _) ?_
  unfold Builtin.«all»
  refine wpAny_bind (m := oneArg "all" _) (wpAny_pure ?_)
  refine wpAny_bind (wpAny_pyIter_gen (hob.at R.2.2.1) ?_)
  exact wpAny_pure ⟨plainId_quiet F.plain_all_loop _, all_loop hr hob (fun s' H' I' q => ⟨.bl true, H', back s' H' I', rfl, q⟩) (fun s' H' I' q => ⟨.bl false, H', back s' H' I', rfl, q⟩) n s5 R⟩
/-- any(.. for .. in ..) -/
theorem pe_anyG {cc P : Addr} {elt tg iter : Expr} {ifs : List Expr} {scope : Scope} {own : List (Str × Nat)} {p pos gpos : Pos} {wi : TI} {g : TG} {tt : TT} {te : TE} {k : Nat}
    (hr : Room (k + 3) X.A) (hgl : Gl X "any") (hm : X.mg "any" = none) (TB : LamX.TabB X.base X.mg cc P) (hcode : X.env.code = .ref cc) (S : GSc scope) (ok : BlkOk X.N X.env.scope scope own) (hN : X.N.Nodup) (hi : PI X tg iter wi)
    (hg : ∀ (s : Shared) (H : Hp) (C : Addr) (code : Value) (fp : List Addr), PG (genCx X s H (gEnv X scope C code) fp) tg g) (ht : ∀ (s : Shared) (H : Hp) (C : Addr) (code : Value) (fp : List Addr), Room k (genCx X s H (gEnv X scope C code) fp).A → PTs (genCx X s H (gEnv X scope C code) fp) ifs tt)
    (he : ∀ (s : Shared) (H : Hp) (C : Addr) (code : Value) (fp : List Addr), Room k (genCx X s H (gEnv X scope C code) fp).A → PE (genCx X s H (gEnv X scope C code) fp) elt te) (hs : ∀ v, genFold iter X.env v = pure v := by intro _; rfl)
    (hst : starEach [.GeneratorExp elt [⟨tg, iter, ifs, 0⟩] scope gpos] X.env = (false, eval (.GeneratorExp elt [⟨tg, iter, ifs, 0⟩] scope gpos) X.env) :: starEach [] X.env := by rfl) :
    PE X (.Call (.Name "any" p) [.GeneratorExp elt [⟨tg, iter, ifs, 0⟩] scope gpos] [] pos) (tGx false P wi g tt te (own.map (·.2))) := by
  refine ⟨fun pins s σ H Q I h => ?_⟩
  refine wpAny_Call_Name_kw (ld_blt I hgl hm boot_any ?_)
  refine PyProof.Rows.callWith_builtin1 ?_ hst (by rfl)
  rw [hst]
  show wpAny _ _ (spliced ((false, eval (.GeneratorExp elt [⟨tg, iter, ifs, 0⟩] scope gpos) X.env) :: backTo pos (starEach [] X.env))) _ _ s
  refine Calls.spliced_cons (gen_made hr TB hcode S ok hN hi hg ht he hs I h fun G a ob gi n s5 hob R back => ?_)
  refine Calls.spliced_nil ?_
  refine call_function_tree F.kind_any F.plain_any F.entry_any (F.args_any1 _) ?_
  unfold Builtin.«any»
  refine wpAny_bind (m := oneArg "any" _) (wpAny_pure ?_)
  refine wpAny_bind (wpAny_pyIter_gen (hob.at R.2.2.1) ?_)
  exact wpAny_pure ⟨plainId_quiet F.plain_any_loop _, any_loop hr hob (fun s' H' I' q => ⟨.bl false, H', back s' H' I', rfl, q⟩) (fun s' H' I' q => ⟨.bl true, H', back s' H' I', rfl, q⟩) n s5 R⟩
end
end GxL
namespace Rg
open PySem PySem.Spec PyProof.Rows L2
/-! ### tables of code objects: all the law's tables stand, all else is kept -/
def Tab (Ps : List Addr) (H : Hp) : Prop := ∀ p ∈ Ps, GxR.TabG H p
structure Tk (Ps : List Addr) (H H' : Hp) : Prop where
  tab : Tab Ps H'
  kp : Kp Ps H H'
section
variable {Ps : List Addr} {H H1 H2 : Hp} {a P : Addr} {o : HO}
theorem Tk.refl (t : Tab Ps H) : Tk Ps H H := ⟨t, .refl⟩
theorem Tk.trans (x : Tk Ps H H1) (y : Tk Ps H1 H2) : Tk Ps H H2 := ⟨y.tab, x.kp.trans y.kp⟩
theorem Tab.same (t : Tab Ps H) (s : Same H H1) : Tab Ps H1 := fun p hp => let ⟨ps, e, r⟩ := t p hp; ⟨ps, s _ _ e, r⟩
theorem Tk.of (t : Tab Ps H) (s : Same H H1) : Tk Ps H H1 := ⟨t.same s, .of s⟩
theorem Tk.same (x : Tk Ps H H1) (s : Same H1 H2) : Tk Ps H H2 := x.trans (.of x.tab s)
theorem Tab.new (t : Tab Ps H) (h : H a = none) : Tab Ps (upd H a o) := t.same (same_upd h)
theorem Tk.new (x : Tk Ps H H1) (h : H1 a = none) : Tk Ps H (upd H1 a o) := x.same (same_upd h)
theorem Tab.ne (t : Tab Ps H) (hp : P ∈ Ps) (h : H a = some o) (n : ∀ ps, o ≠ .tbl ps) : a ≠ P := fun z => by
  obtain ⟨ps, e, _⟩ := t P hp
  rw [z, e] at h
  exact n ps (Option.some.inj h).symm
theorem Tab.nin (t : Tab Ps H) (h : H a = some o) (n : ∀ ps, o ≠ .tbl ps) : a ∉ Ps := fun z => t.ne z h n rfl
theorem Tab.ninN (t : Tab Ps H) (h : H a = none) : a ∉ Ps := fun z => by
  obtain ⟨ps, e, _⟩ := t a z
  rw [h] at e
  cases e
/-- what is no table is kept -/
theorem Tk.at (x : Tk Ps H H1) (t : Tab Ps H) (h : H a = some o) (n : ∀ ps, o ≠ .tbl ps := by intro _ z; cases z) : H1 a = some o := x.kp a o h (t.nin h n)
theorem Tk.at' (x : Tk Ps H H1) (h : H a = some o) (n : a ∉ Ps) : H1 a = some o := x.kp a o h n
theorem Tk.free (x : Tk Ps H H1) (h : H1 a = none) : H a = none := x.kp.free (x.tab.ninN h) h
theorem Tab.upd (t : Tab Ps H) (h : H a = some o) (n : ∀ ps, o ≠ .tbl ps) {u : HO} : Tab Ps (upd H a u) := fun p hp => by
  obtain ⟨ps, e, r⟩ := t p hp
  exact ⟨ps, by rw [upd_ne (t.ne hp h n).symm]; exact e, r⟩
/-- one table has grown -/
theorem Tk.tabbed (t : Tab Ps H) (hp : P ∈ Ps) (h : GxR.Tabbed P H H1) : Tk Ps H H1 := by
  refine ⟨fun p q => ?_, fun x o e n => by rw [h.2 x fun z => n (z ▸ hp)]; exact e⟩
  by_cases z : p = P
  · rw [z]; exact h.1
  · obtain ⟨ps, e, r⟩ := t p q
    exact ⟨ps, by rw [h.2 p z]; exact e, r⟩
end
/-! ### all, any: the forms one uses -/
theorem gx_by {c : Bool} {J : It} {g : TG} {tt : TT} {te : TE} {vs : List Nat} {σ : L2.St} {Q : VK} {H2 : Hp} (n : Nat) (Pv : Nat → Hp → Prop) (h0 : Pv 0 H2) (hgo : ∀ i H, i < n → Pv i H → J.go i H) (hstop : ∀ H, Pv n H → J.stop n H)
    (hs : ∀ i x H H', i < n → Pv i H → J.yld i H x H' → g x (wipe σ vs) H' fun σ2 H2 => wipe σ2 vs = wipe σ vs ∧ tt σ2 H2 fun b H3 => if b = true then te σ2 H3 fun y H4 => ∃ k, y = .bl k ∧ if k = c then Pv (i + 1) H4 else Q (.bl (!c)) H4 else Pv (i + 1) H3)
    (hd : ∀ H, Pv n H → Q (.bl c) H) : ∃ W : Nat → Nat → Hp → Prop, (∃ m, W 0 m H2) ∧ GxL.GTurn c J g tt te vs σ Q W := by
  refine ⟨fun i m H => m = n - i ∧ i ≤ n ∧ Pv i H, ⟨n, by simp, Nat.zero_le _, h0⟩, ?_⟩
  rintro i m H ⟨rfl, hi, p⟩
  by_cases hlt : i < n
  · exact .inr ⟨hgo i H hlt p, Pv (i + 1), fun H' p' => ⟨n - (i + 1), by omega, rfl, hlt, p'⟩, fun x H' y => hs i x H H' hlt p y⟩
  · have e : i = n := by omega
    subst e
    exact .inl ⟨hstop H p, hd H p⟩
/-- over a list -/
theorem gx_list {K : PySem.W.Frag} {a : Addr} {xs : List V} {c : Bool} {g : TG} {tt : TT} {te : TE} {vs : List Nat} {σ : L2.St} {Q : VK} {H2 : Hp} (Pv : Nat → Hp → Prop) (h0 : Pv 0 H2) (hl : ∀ i H, i ≤ xs.length → Pv i H → SqL K H a xs)
    (hs : ∀ i x H, xs[i]? = some x → Pv i H → g x (wipe σ vs) H fun σ2 H2 => wipe σ2 vs = wipe σ vs ∧ tt σ2 H2 fun b H3 => if b = true then te σ2 H3 fun y H4 => ∃ k, y = .bl k ∧ if k = c then Pv (i + 1) H4 else Q (.bl (!c)) H4 else Pv (i + 1) H3)
    (hd : ∀ H, Pv xs.length H → Q (.bl c) H) : ∃ W : Nat → Nat → Hp → Prop, (∃ m, W 0 m H2) ∧ GxL.GTurn c (Itl K a) g tt te vs σ Q W := by
  refine gx_by xs.length Pv h0 (fun i H hi p => ⟨xs, xs[i], hl i H (Nat.le_of_lt hi) p, by simp [hi]⟩) (fun H p => ⟨xs, hl _ H (Nat.le_refl _) p, Nat.le_refl _⟩) (fun i x H H' hi p y => ?_) hd
  obtain ⟨e, y⟩ := y
  subst e
  exact hs i x _ (y xs (hl i _ (Nat.le_of_lt hi) p)) p
/-- over a tuple -/
theorem gx_tup {K : PySem.W.Frag} {a : Addr} {xs : List V} {c : Bool} {g : TG} {tt : TT} {te : TE} {vs : List Nat} {σ : L2.St} {Q : VK} {H2 : Hp} (Pv : Nat → Hp → Prop) (h0 : Pv 0 H2) (hl : ∀ i H, i ≤ xs.length → Pv i H → SqT K H a xs)
    (hs : ∀ i x H, xs[i]? = some x → Pv i H → g x (wipe σ vs) H fun σ2 H2 => wipe σ2 vs = wipe σ vs ∧ tt σ2 H2 fun b H3 => if b = true then te σ2 H3 fun y H4 => ∃ k, y = .bl k ∧ if k = c then Pv (i + 1) H4 else Q (.bl (!c)) H4 else Pv (i + 1) H3)
    (hd : ∀ H, Pv xs.length H → Q (.bl c) H) : ∃ W : Nat → Nat → Hp → Prop, (∃ m, W 0 m H2) ∧ GxL.GTurn c (Itt K a) g tt te vs σ Q W := by
  refine gx_by xs.length Pv h0 (fun i H hi p => ⟨xs, xs[i], hl i H (Nat.le_of_lt hi) p, by simp [hi]⟩) (fun H p => ⟨xs, hl _ H (Nat.le_refl _) p, Nat.le_refl _⟩) (fun i x H H' hi p y => ?_) hd
  obtain ⟨e, y⟩ := y
  subst e
  exact hs i x _ (y xs (hl i _ (Nat.le_of_lt hi) p)) p
/-- over the signs of a text -/
theorem gx_str {x : Str} {c : Bool} {g : TG} {tt : TT} {te : TE} {vs : List Nat} {σ : L2.St} {Q : VK} {H2 : Hp} (Pv : Nat → Hp → Prop) (h0 : Pv 0 H2)
    (hs : ∀ i s H, x.cps[i]? = some s → Pv i H → g (.str ⟨#[s]⟩) (wipe σ vs) H fun σ2 H2 => wipe σ2 vs = wipe σ vs ∧ tt σ2 H2 fun b H3 => if b = true then te σ2 H3 fun y H4 => ∃ k, y = .bl k ∧ if k = c then Pv (i + 1) H4 else Q (.bl (!c)) H4 else Pv (i + 1) H3)
    (hd : ∀ H, Pv x.cps.size H → Q (.bl c) H) : ∃ W : Nat → Nat → Hp → Prop, (∃ m, W 0 m H2) ∧ GxL.GTurn c (Its x) g tt te vs σ Q W := by
  refine gx_by x.cps.size Pv h0 (fun i H hi p => hi) (fun H p => Nat.le_refl _) (fun i v H H' hi p y => ?_) hd
  obtain ⟨rfl, s, e, rfl⟩ := y
  exact hs i s _ e p
/-- a test of every item by a Bool, nothing changed but the tables: all(f(x) for x in xs), any(..) -/
def allB (c : Bool) {α : Type} (f : α → Bool) (xs : List α) : Bool := if c = true then xs.all f else xs.any f
/-! ### a def whose code object is known -/
section
variable {P : Program} {w : World} {K : PySem.W.Frag} {mg : Str → Option Value} {base : Heap}
theorem fun_okC {x qual : Str} {st : Stmt} {f cc : Addr} {fd : FuncData} {N ps : List Str} {k : Nat} {sp : Sp} (F : Fun K x qual st f fd) (hc : fd.code = .ref cc) (S : FnScope N ps (defScope st)) (len : ∀ vs H Q E, sp vs H Q E → vs.length = ps.length)
    (hbody : ∀ (A : Around) (outer : List Env) (s : Shared) (H : Hp) (vs : List V) (Q : VK) (E : XK), Room k (A.deeper (envOfC qual (defScope st) s.heap.objs.size f (.ref cc))) → sp vs H Q E →
      ∃ t, PSs (cxOf CX0 P w K mg base N qual (defScope st) f (.ref cc) A outer s H E).nox (defBody st) t ∧ t { nx := fun _ H' => Q .non H', rt := Q } (start N vs) H) : FnOk P w K mg base CX0 (k + 1) f fd ps sp := by
  obtain ⟨oc, od, kV, doc, pm, an, cdv, ct, osl, rfl, lk, hcd⟩ := F.ex
  obtain rfl : cdv = .ref cc := hc
  refine fn_of lk hcd S len fun A outer s H vs Q E hr hsp => ?_
  obtain ⟨t, h, q⟩ := hbody A outer s H vs Q E hr hsp
  exact ⟨t, h.nox, q⟩
end
/-! ### the end: a top def's table is empty at the law's entry -/
def TabsOf (q : Program) (mg : Str → Option Value) (h : Heap) : Prop := ∀ d ∈ recsOf q, ∃ a o fd c P, mg d.name = some (.ref a) ∧ h.get? a = some o ∧ o.data = .func fd ∧ fd.code = .ref c ∧ h.IsCode c P #[] ∧ h.TableAt c P #[]
theorem tab_of {q : Program} {K : PySem.W.Frag} {mg : Str → Option Value} {h : Heap} {x : Str} {a c P : Addr} {oc : Value} {od : Option Addr} {osl : Array (Option Value)} {fd : FuncData} (T : TabsOf q mg h) (KX : K.In h) (hx : (recsOf q).any (fun d => d.name == x) = true)
    (hm : mg x = some (.ref a)) (lk : K.lookup a = some ⟨oc, od, .func fd, osl⟩) (hc : fd.code = .ref c) (hh : PySem.W.codeHdIn K c P = true) : h.get? P = some { cls := .none, data := .fields #[] } := by
  obtain ⟨d, hd, e⟩ := List.any_eq_true.mp hx
  have e : d.name = x := by simpa using e
  obtain ⟨a', o, fd', c', P', m1, m2, m3, m4, m5, m6⟩ := T d hd
  rw [e, hm] at m1
  cases m1
  rw [KX _ _ lk] at m2
  cases m2
  cases m3
  rw [hc] at m4
  cases m4
  obtain ⟨o1, vs, _, _, _, _, _, _, _, g1, g2, g3, g4, _⟩ := PySem.W.codeHd_of_K KX hh
  obtain ⟨⟨o2, vs2, f1, f2, f3, f4⟩, f5⟩ := m6
  rw [g1] at f1
  cases f1
  rw [g3] at f3
  cases f3
  rw [g4] at f4
  cases f4
  exact f5
theorem walk_ofG {l : PySem.W.OpenLaw} {n k : Nat} {q : Program} {loose : List Str} {XP : (Str → Option Value) → Heap → Prop} {YP : World → Heap → Prop} {d : DefRec} {K : Params → PySem.W.Frag} {CX : World → CXT} {x : Str}
    (hn : l.most = some n) (hn2 : n ≤ sizeLine) (hdf : d.params.defaults = []) (hr : Room k callerA) (hY : ∀ (w : World) (h : Heap), YP w h → (K w.params).In h)
    (F : ∀ (w : World) (mg : Str → Option Value) (fa : Addr) (h : Heap), TabsOf q mg h → YP w h → (K w.params).In h → h.Ns mainGlobals mg → mg d.name = some (.ref fa) → LamX.LawAtS l w (K w.params) (CX w) k n x mg fa h)
    (hCX : ∀ (w : World) (H : Hp) (s : Shared) (e : Value) (s' : Shared), CX w [] H s (fun _ _ _ => False) e s' → False) :
    PySem.W.WalkO q loose XP YP l.row.toRowW d [] (fun f vs => PySem.call f vs) := by
  refine Att.attach_callB hn hdf fun w s₀ s₁ mg mb fa o pm cd doc a vs ns G Y ho hd hcd hmg hobj hints hlen hbits hg => ?_
  have KX := hY w _ Y
  obtain ⟨fd, cs, sp, hT, nT, C, hb, hsp, hF⟩ := F w mg fa _ G.T.tab Y KX G.T.g hmg
  exact LamX.law_callTs KX G.T.g G.T.b G.T.builtins G.T.nolimit hg hT nT C G.T.bmain hobj hints (Nat.le_trans hlen hn2) hr hF hb (fun H hH hS => hsp H a ns hlen hbits hH hS) fun H e s' => hCX w H s₁ e s'
end Rg
namespace Rg
open PySem PySem.Spec PyProof.Rows L2
/-! ### x is True, x is not False: bools told by value -/
theorem op_isV {X : Cx} : OpR X (compareOp .Is) (fun x y H Q => ∃ a c, x = .bl a ∧ y = .bl c ∧ Q (.bl (decide (a = c))) H) := by
  intro pins s σ H x y v u Q I rx ry h
  obtain ⟨a, c, rfl, rfl, q⟩ := h
  cases rx
  cases ry
  by_cases e : a = c
  · subst e
    rw [decide_eq_true rfl] at q
    exact wpAny_is_self rfl ⟨.bl true, H, I, rfl, q⟩
  · rw [decide_eq_false e] at q
    exact wpAny_is_other rfl (fun z => e (by injection z)) ⟨.bl false, H, I, rfl, q⟩
theorem op_notV {X : Cx} : OpR X (compareOp .IsNot) (fun x y H Q => ∃ a c, x = .bl a ∧ y = .bl c ∧ Q (.bl (!decide (a = c))) H) := by
  intro pins s σ H x y v u Q I rx ry h
  obtain ⟨a, c, rfl, rfl, q⟩ := h
  cases rx
  cases ry
  by_cases e : a = c
  · subst e
    rw [decide_eq_true rfl] at q
    exact wpAny_isNot_self rfl ⟨.bl false, H, I, rfl, q⟩
  · rw [decide_eq_false e] at q
    exact wpAny_isNot_other rfl (fun z => e (by injection z)) ⟨.bl true, H, I, rfl, q⟩
theorem take_snoc {α : Type} {l : List α} {i : Nat} {c : α} (h : l[i]? = some c) : l.take (i + 1) = l.take i ++ [c] := by
  rw [List.take_succ, h]
  rfl
theorem atN {α : Type} {xs : List α} {z : Int} {j : Nat} {v : α} (e : z = (j : Int)) (h : xs[j]? = some v) : atI xs z = some v := by
  subst e
  exact atI_nat h
theorem S_at {l : List Nat} {i c : Nat} (h : (SX.S l).cps[i]? = some c) : l[i]? = some c := by simpa using h
/-! ### a loop over the signs of a text -/
theorem for_str {x : Str} {g : TG} {tb : TS} {D : Ends} {σ : L2.St} {H : Hp} (Pv : Nat → L2.St → Hp → Prop) (h0 : Pv 0 σ H)
    (hs : ∀ i s σ H, x.cps[i]? = some s → Pv i σ H → g (.str ⟨#[s]⟩) σ H fun σ2 H2 => tb { D with nx := Pv (i + 1), ct := Pv (i + 1), bk := D.nx } σ2 H2) (hd : ∀ σ H, Pv x.cps.size σ H → D.nx σ H) :
    ∃ W : Nat → Nat → L2.St → Hp → Prop, (∃ m, W 0 m σ H) ∧ ∀ i m σ H, W i m σ H →
      ((Its x).stop i H ∧ D.nx σ H) ∨ ((Its x).go i H ∧ ∃ N : L2.St → Hp → Prop, (∀ σ' H', N σ' H' → ∃ m', m' < m ∧ W (i + 1) m' σ' H') ∧ ∀ v H', (Its x).yld i H v H' → g v σ H' fun σ2 H2 => tb { D with nx := N, ct := N, bk := D.nx } σ2 H2) := by
  refine ⟨fun i m σ H => m = x.cps.size - i ∧ i ≤ x.cps.size ∧ Pv i σ H, ⟨x.cps.size, by simp, Nat.zero_le _, h0⟩, ?_⟩
  rintro i m σ H ⟨rfl, hi, p⟩
  by_cases hlt : i < x.cps.size
  · refine .inr ⟨hlt, Pv (i + 1), fun σ' H' p' => ⟨x.cps.size - (i + 1), by omega, rfl, hlt, p'⟩, fun v H' y => ?_⟩
    obtain ⟨rfl, s, e, rfl⟩ := y
    exact hs i s σ _ e p
  · have e : i = x.cps.size := by omega
    subst e
    exact .inl ⟨Nat.le_refl _, hd σ H p⟩
end Rg
namespace Rg
open PySem PySem.Spec PyProof.Rows L2
/-! ### t[lo:hi], the whole of t: t itself -/
section
variable {prog : Program} {w : World} {A : Around} {E : Value → Shared → Prop} {s : Shared}
theorem getItem_tuple_all {t sl : Addr} {items : Array Value} {vl vu : Value} {lo hi : Option Int} {Q : Value → Shared → Prop} (ht : IsTup s.heap t items) (hs : s.heap.IsSliceOf sl vl vu .none) (pl : IsPart vl lo) (pu : IsPart vu hi)
    (hw : HT.sIx items.size 0 lo = 0 ∧ HT.sIx items.size items.size hi = items.size) (h : Q (.ref t) s) : wpAny (model prog w) A (getItem (.ref t) (.ref sl)) Q E s := by
  obtain ⟨os, hos, hcs, hds⟩ := id hs
  have hTs : s.TypeIs (.ref sl) "slice" := ⟨os, hos, hcs⟩
  unfold getItem
  try with_reducible refine wpAny_holding ?_
  first | refine wpAny_bind (wpAny_pure ?_) | skip
  refine wpAny_bind (wpAny_sequenceKey ht.typeIs (by decide) ?_)
  refine wpAny_bind (wpAny_callSpecial?_slot (name := Str.ofString "__getitem__") ht.typeIs PyProof.Rows.slot_tuple_getitem
    (wpAny_call_entry PyProof.Rows.slot_tuple_getitem ht.typeIs entry_tuple_getitem ?_ (args_tuple_getitem _ _)))
  show wpAny _ _ (Builtin.Tuple.tupleItemsOf (.ref t) >>= _) _ _ s
  refine wpAny_bind (tupleItemsOf_ ht ?_)
  refine wpAny_bind (wpAny_typeOf hTs ?_)
  rw [if_pos (by decide)]
  refine wpAny_bind (HT.sliceApplied_gen hs pl pu ?_)
  have hyes : (((HT.sIx items.size 0 lo : Nat) : Int) == 0 && (1 : Int) == 1 && (HT.sIx items.size items.size hi - HT.sIx items.size 0 lo) == items.size) = true := by
    rw [hw.1, hw.2]
    simp
  show wpAny _ _ (if (((HT.sIx items.size 0 lo : Nat) : Int) == 0 && (1 : Int) == 1 && (HT.sIx items.size items.size hi - HT.sIx items.size 0 lo) == items.size) = true then _ else _) _ _ s
  rw [if_pos hyes]
  refine wpAny_bind (m := Builtin.Tuple.tupleIsExact _) ?_
  unfold Builtin.Tuple.tupleIsExact
  refine wpAny_bind (wpAny_typeOf ht.typeIs (wpAny_pure ?_))
  show wpAny _ _ (if ((Value.type "tuple" == Value.type "tuple") = true) then _ else _) _ _ s
  rw [if_pos (by decide)]
  refine wpAny_bind (wpAny_rule (wpAny_pure ?_))
  exact ⟨_, rfl, wpAny_pure h⟩
end
/-- the whole of a tuple, by values -/
def rSlTA (K : PySem.W.Frag) : V → Option Int → Option Int → Hp → VK → Prop := fun x lo hi H Q => ∃ a xs, x = .ref a ∧ SqT K H a xs ∧ HT.sIx xs.length 0 lo = 0 ∧ HT.sIx xs.length xs.length hi = xs.length ∧ Q (.ref a) H
theorem sl_tupA {X : Cx} : SlR X (rSlTA X.K) := by
  intro pins s σ H x v vl vu lo hi sl Q I rx hs pl pu h
  obtain ⟨a, xs, rfl, hx, h1, h2, q⟩ := h
  cases rx
  obtain ⟨its, r, ht, hz⟩ := I.tuple hx
  have hlen : its.toArray.size = xs.length := by rw [List.size_toArray]; exact r.length.symm
  refine ⟨"tuple", _, PyProof.Rows.slot_tuple_getitem.lookup, ht.typeIs, ?_⟩
  exact getItem_tuple_all ht hs pl pu (by rw [hlen]; exact ⟨h1, h2⟩) ⟨.ref a, H, I, rfl, q⟩
theorem ixN_at {n : Nat} {z : Int} {i : Nat} (e : z = i) (h : i < n) : ixN n z = some i := by
  subst e
  exact Evl.ixN_nat h
theorem pe_ixTK {X : Cx} {K : PySem.W.Frag} {a b : Expr} {pos : Pos} {ta tb : TE} (ha : PE X a ta) (hb : PE X b tb) (hs : PlainIx b) (hK : X.K = K := by rfl) : PE X (.Subscript a b pos) (tOp (rIxT K) ta tb) := by
  subst hK
  exact pe_ix ix_tup ha hb hs
theorem op_repTK {X : Cx} {K : PySem.W.Frag} (hK : X.K = K := by rfl) : OpR X (binaryOp .Mult) (rRepT K) := by
  subst hK
  exact op_repT
/-! ### what is kept -/
section
variable {K : PySem.W.Frag} {Ps : List Addr} {H H1 : Hp} {a : Addr} {xs : List V}
theorem sameT (e : Same H H1) (h : SqT K H a xs) : SqT K H1 a xs := by
  rcases h with (h | ⟨o, h⟩) | h
  · exact .inl (.inl (e _ _ h))
  · exact .inl (.inr ⟨o, e _ _ h⟩)
  · exact .inr h
theorem Tk.seqT (k : Tk Ps H H1) (t : Tab Ps H) (h : SqT K H a xs) : SqT K H1 a xs := by
  rcases h with (h | ⟨o, h⟩) | h
  · exact .inl (.inl (k.at t h))
  · exact .inl (.inr ⟨o, k.at t h⟩)
  · exact .inr h
theorem Tk.seqL (k : Tk Ps H H1) (t : Tab Ps H) (h : SqL K H a xs) : SqL K H1 a xs := by
  rcases h with (h | ⟨o, h⟩) | h
  · exact .inl (.inl (k.at t h))
  · exact .inl (.inr ⟨o, k.at t h⟩)
  · exact .inr h
/-- what was new is written again -/
theorem Tk.put {o u : HO} (k : Tk Ps H H1) (h : H a = none) (e : H1 a = some o) (n : ∀ ps, o ≠ .tbl ps := by intro _ z; cases z) : Tk Ps H (upd H1 a u) := ⟨k.tab.upd e n, fun b v eb nb => by
  rw [upd_ne (ne_of_none eb h)]
  exact k.kp b v eb nb⟩
theorem tyT (h : SqT K H a xs) : TyX K H (.ref a) (.type "tuple") := by
  rcases h with (h | ⟨o, h⟩) | ⟨o, its, n, e, c, _⟩
  · exact .base (.tup h)
  · exact .fTuple h
  · exact .kTuple e c
end
/-! ### all, any over zip -/
theorem gx_zipL {K : PySem.W.Frag} {a b : Addr} {xs ys : List V} {c : Bool} {g : TG} {tt : TT} {te : TE} {vs : List Nat} {σ : L2.St} {Q : VK} {H2 : Hp} (hl : ys.length ≤ xs.length) (Pv : Nat → Hp → Prop) (h0 : Pv 0 H2) (hq : ∀ i H, Pv i H → SqL K H a xs ∧ SqL K H b ys)
    (hs : ∀ i x y T H, xs[i]? = some x → ys[i]? = some y → Pv i H → H T = none → g (.ref T) (wipe σ vs) (upd H T (.tup [x, y])) fun σ2 H2 => wipe σ2 vs = wipe σ vs ∧ tt σ2 H2 fun b H3 => if b = true then te σ2 H3 fun y H4 => ∃ k, y = .bl k ∧ if k = c then Pv (i + 1) H4 else Q (.bl (!c)) H4 else Pv (i + 1) H3)
    (hd : ∀ H, Pv ys.length H → Q (.bl c) H) : ∃ W : Nat → Nat → Hp → Prop, (∃ m, W 0 m H2) ∧ GxL.GTurn c (Itz K a b) g tt te vs σ Q W := by
  refine gx_by ys.length Pv h0 (fun i H hi p => ?_) (fun H p => ⟨xs, ys, (hq _ H p).1, (hq _ H p).2, .inr (Nat.le_refl _)⟩) (fun i x H H' hi p y => ?_) hd
  · exact ⟨xs, ys, xs[i], ys[i], (hq i H p).1, (hq i H p).2, List.getElem?_eq_getElem (by omega), List.getElem?_eq_getElem hi⟩
  · obtain ⟨T, x', y', rfl, hT, rfl, f1, f2⟩ := y
    exact hs i x' y' T H (f1 xs (hq i H p).1) (f2 ys (hq i H p).2) p hT
theorem gx_zipT {K : PySem.W.Frag} {a b : Addr} {xs ys : List V} {c : Bool} {g : TG} {tt : TT} {te : TE} {vs : List Nat} {σ : L2.St} {Q : VK} {H2 : Hp} (hl : ys.length ≤ xs.length) (Pv : Nat → Hp → Prop) (h0 : Pv 0 H2) (hq : ∀ i H, Pv i H → SqT K H a xs ∧ SqT K H b ys)
    (hs : ∀ i x y T H, xs[i]? = some x → ys[i]? = some y → Pv i H → H T = none → g (.ref T) (wipe σ vs) (upd H T (.tup [x, y])) fun σ2 H2 => wipe σ2 vs = wipe σ vs ∧ tt σ2 H2 fun b H3 => if b = true then te σ2 H3 fun y H4 => ∃ k, y = .bl k ∧ if k = c then Pv (i + 1) H4 else Q (.bl (!c)) H4 else Pv (i + 1) H3)
    (hd : ∀ H, Pv ys.length H → Q (.bl c) H) : ∃ W : Nat → Nat → Hp → Prop, (∃ m, W 0 m H2) ∧ GxL.GTurn c (RZ.ItzT K a b) g tt te vs σ Q W := by
  refine gx_by ys.length Pv h0 (fun i H hi p => ?_) (fun H p => ⟨xs, ys, (hq _ H p).1, (hq _ H p).2, .inr (Nat.le_refl _)⟩) (fun i x H H' hi p y => ?_) hd
  · exact ⟨xs, ys, xs[i], ys[i], (hq i H p).1, (hq i H p).2, List.getElem?_eq_getElem (by omega), List.getElem?_eq_getElem hi⟩
  · obtain ⟨T, x', y', rfl, hT, rfl, f1, f2⟩ := y
    exact hs i x' y' T H (f1 xs (hq i H p).1) (f2 ys (hq i H p).2) p hT
end Rg
namespace K46
open PySem PySem.Spec PyProof.Rows L2 Rg
def top (i : Nat) : Stmt := PySem.Challenge.pw_lotsandties_k46_live_copies.main.body.getD i (.Pass ⟨0, 0, 0, 0⟩)
abbrev s_is_number : Stmt := top 27
abbrev s_is_cell : Stmt := top 28
abbrev s_is_block : Stmt := top 29
abbrev s_is_cell_row : Stmt := top 30
abbrev s_is_ascending : Stmt := top 31
abbrev s_is_pair : Stmt := top 36
abbrev s_are_pairs : Stmt := top 37
abbrev s_are_revokes : Stmt := top 38
abbrev s_is_record : Stmt := top 39
abbrev s_fits_plan : Stmt := top 40
abbrev s_live_copies : Stmt := top 42
abbrev s_live_copy : Stmt := top 43
abbrev s_cells_found : Stmt := top 44
abbrev s_cells_after : Stmt := top 45
abbrev s_is_place : Stmt := top 47
abbrev s_is_content : Stmt := top 48
abbrev s_Lfeed : Stmt := top 51
abbrev s_Lpick : Stmt := top 52
abbrev s_Lcells : Stmt := top 53
abbrev s_Lmark : Stmt := top 54
abbrev s_Lput : Stmt := top 55
abbrev s_Lfill : Stmt := top 56
abbrev s_Lstruck : Stmt := top 57
abbrev s_Ldue : Stmt := top 58
abbrev s_Ldue_cells : Stmt := top 59
abbrev s_Lnumbers : Stmt := top 60
abbrev s_Lagrees : Stmt := top 61
abbrev s_law : Stmt := top 62
abbrev s_Plan___init__ : Stmt := inClass (top 23) 6
abbrev s_Disk___init__ : Stmt := inClass (top 49) 0
abbrev s_Disk_issue : Stmt := inClass (top 49) 3
abbrev s_Disk_busy : Stmt := inClass (top 49) 4
abbrev s_Disk_sure : Stmt := inClass (top 49) 6
abbrev s_Disk__put : Stmt := inClass (top 49) 12
theorem sc_is_number : FnScope ["value", "least", "most"] ["value", "least", "most"] (defScope s_is_number) := ⟨rfl, rfl, rfl, by decide +kernel, rfl, by decide +kernel, by decide +kernel⟩
theorem sc_is_cell : FnScope ["value"] ["value"] (defScope s_is_cell) := ⟨rfl, rfl, rfl, by decide +kernel, rfl, by decide +kernel, by decide +kernel⟩
theorem sc_is_block : FnScope ["value"] ["value"] (defScope s_is_block) := ⟨rfl, rfl, rfl, by decide +kernel, rfl, by decide +kernel, by decide +kernel⟩
theorem sc_is_cell_row : FnScope ["value", "cell"] ["value"] (defScope s_is_cell_row) := ⟨rfl, rfl, rfl, by decide +kernel, rfl, by decide +kernel, by decide +kernel⟩
theorem sc_is_ascending : FnScope ["numbers", "low", "high"] ["numbers"] (defScope s_is_ascending) := ⟨rfl, rfl, rfl, by decide +kernel, rfl, by decide +kernel, by decide +kernel⟩
theorem sc_is_pair : FnScope ["value"] ["value"] (defScope s_is_pair) := ⟨rfl, rfl, rfl, by decide +kernel, rfl, by decide +kernel, by decide +kernel⟩
theorem sc_are_pairs : FnScope ["value", "pair"] ["value"] (defScope s_are_pairs) := ⟨rfl, rfl, rfl, by decide +kernel, rfl, by decide +kernel, by decide +kernel⟩
theorem sc_are_revokes : FnScope ["value", "block"] ["value"] (defScope s_are_revokes) := ⟨rfl, rfl, rfl, by decide +kernel, rfl, by decide +kernel, by decide +kernel⟩
theorem sc_is_record : FnScope ["record"] ["record"] (defScope s_is_record) := ⟨rfl, rfl, rfl, by decide +kernel, rfl, by decide +kernel, by decide +kernel⟩
theorem sc_fits_plan : FnScope ["record", "plan", "block", "slot"] ["record", "plan"] (defScope s_fits_plan) := ⟨rfl, rfl, rfl, by decide +kernel, rfl, by decide +kernel, by decide +kernel⟩
theorem sc_live_copies : FnScope ["marks", "lapse", "live", "_", "mark", "lot", "pairs", "revokes", "x", "slot"] ["marks", "lapse"] (defScope s_live_copies) := ⟨rfl, rfl, rfl, by decide +kernel, rfl, by decide +kernel, by decide +kernel⟩
theorem sc_live_copy : FnScope ["marks", "x", "lapse"] ["marks", "x", "lapse"] (defScope s_live_copy) := ⟨rfl, rfl, rfl, by decide +kernel, rfl, by decide +kernel, by decide +kernel⟩
theorem sc_cells_found : FnScope ["disk", "x", "live", "lot", "slot", "record"] ["disk", "x", "live"] (defScope s_cells_found) := ⟨rfl, rfl, rfl, by decide +kernel, rfl, by decide +kernel, by decide +kernel⟩
theorem sc_cells_after : FnScope ["disk", "marks", "x", "lapse"] ["disk", "marks", "x", "lapse"] (defScope s_cells_after) := ⟨rfl, rfl, rfl, by decide +kernel, rfl, by decide +kernel, by decide +kernel⟩
theorem sc_is_place : FnScope ["plan", "place"] ["plan", "place"] (defScope s_is_place) := ⟨rfl, rfl, rfl, by decide +kernel, rfl, by decide +kernel, by decide +kernel⟩
theorem sc_is_content : FnScope ["plan", "place", "what"] ["plan", "place", "what"] (defScope s_is_content) := ⟨rfl, rfl, rfl, by decide +kernel, rfl, by decide +kernel, by decide +kernel⟩
theorem sc_Lfeed : FnScope ["_law_script", "_law_feed_here", "_law_cell", "_law_rest", "_law_k"] ["_law_script"] (defScope s_Lfeed) := ⟨rfl, rfl, rfl, by decide +kernel, rfl, by decide +kernel, by decide +kernel⟩
theorem sc_Lpick : FnScope ["_law_feed_here", "_law_limit"] ["_law_feed_here", "_law_limit"] (defScope s_Lpick) := ⟨rfl, rfl, rfl, by decide +kernel, rfl, by decide +kernel, by decide +kernel⟩
theorem sc_Lcells : FnScope ["_law_feed_here", "_law_first"] ["_law_feed_here", "_law_first"] (defScope s_Lcells) := ⟨rfl, rfl, rfl, by decide +kernel, rfl, by decide +kernel, by decide +kernel⟩
theorem sc_Lmark : FnScope ["_law_feed_here", "_law_lot", "_law_copies", "_law_revokes", "_law_x"] ["_law_feed_here", "_law_lot"] (defScope s_Lmark) := ⟨rfl, rfl, rfl, by decide +kernel, rfl, by decide +kernel, by decide +kernel⟩
theorem sc_Lput : FnScope ["_law_disk", "_law_log", "_law_slot", "_law_record"] ["_law_disk", "_law_log", "_law_slot", "_law_record"] (defScope s_Lput) := ⟨rfl, rfl, rfl, by decide +kernel, rfl, by decide +kernel, by decide +kernel⟩
theorem sc_Lfill : FnScope ["_law_feed_here", "_law_disk", "_law_log", "_law_record", "_law_lot", "_law_pair", "_law_x", "_law_slot", "_law_choice", "_law_cells_here"] ["_law_feed_here", "_law_disk", "_law_log", "_law_record"] (defScope s_Lfill) := ⟨rfl, rfl, rfl, by decide +kernel, rfl, by decide +kernel, by decide +kernel⟩
theorem sc_Lstruck : FnScope ["_law_marks", "_law_at", "_law_x", "_law_gentle", "_law_k"] ["_law_marks", "_law_at", "_law_x", "_law_gentle"] (defScope s_Lstruck) := ⟨rfl, rfl, rfl, by decide +kernel, rfl, by decide +kernel, by decide +kernel⟩
theorem sc_Ldue : FnScope ["_law_marks", "_law_x", "_law_gentle", "_law_due_here", "_law_at", "_law_record", "_law_pair"] ["_law_marks", "_law_x", "_law_gentle"] (defScope s_Ldue) := ⟨rfl, rfl, rfl, by decide +kernel, rfl, by decide +kernel, by decide +kernel⟩
theorem sc_Ldue_cells : FnScope ["_law_log", "_law_home", "_law_due_here", "_law_x", "_law_record"] ["_law_log", "_law_home", "_law_due_here", "_law_x"] (defScope s_Ldue_cells) := ⟨rfl, rfl, rfl, by decide +kernel, rfl, by decide +kernel, by decide +kernel⟩
theorem sc_Lnumbers : FnScope ["_law_actual", "_law_due_here", "_law_k"] ["_law_actual", "_law_due_here"] (defScope s_Lnumbers) := ⟨rfl, rfl, rfl, by decide +kernel, rfl, by decide +kernel, by decide +kernel⟩
theorem sc_Lagrees : FnScope ["_law_disk", "_law_marks", "_law_log", "_law_home", "_law_x", "_law_gentle", "_law_due_here", "_law_given", "_law_live"] ["_law_disk", "_law_marks", "_law_log", "_law_home", "_law_x", "_law_gentle"] (defScope s_Lagrees) := ⟨rfl, rfl, rfl, by decide +kernel, rfl, by decide +kernel, by decide +kernel⟩
theorem sc_law : FnScope ["_law_script", "_law_feed_here", "_law_disk", "_law_log", "_law_slot", "_law_marks", "_law_k", "_law_pair", "_law_home", "_law_x", "_law_gentle"] ["_law_script"] (defScope s_law) := ⟨rfl, rfl, rfl, by decide +kernel, rfl, by decide +kernel, by decide +kernel⟩
theorem sc_Plan___init__ : FnScope ["self", "blocks", "nodes", "slots"] ["self", "blocks", "nodes", "slots"] (defScope s_Plan___init__) := ⟨rfl, rfl, rfl, by decide +kernel, rfl, by decide +kernel, by decide +kernel⟩
theorem sc_Disk___init__ : FnScope ["self", "plan", "_"] ["self", "plan"] (defScope s_Disk___init__) := ⟨rfl, rfl, rfl, by decide +kernel, rfl, by decide +kernel, by decide +kernel⟩
theorem sc_Disk_issue : FnScope ["self", "place", "what"] ["self", "place", "what"] (defScope s_Disk_issue) := ⟨rfl, rfl, rfl, by decide +kernel, rfl, by decide +kernel, by decide +kernel⟩
theorem sc_Disk_busy : FnScope ["self", "place", "taken", "_"] ["self", "place"] (defScope s_Disk_busy) := ⟨rfl, rfl, rfl, by decide +kernel, rfl, by decide +kernel, by decide +kernel⟩
theorem sc_Disk_sure : FnScope ["self", "number", "place", "what"] ["self", "number"] (defScope s_Disk_sure) := ⟨rfl, rfl, rfl, by decide +kernel, rfl, by decide +kernel, by decide +kernel⟩
theorem sc_Disk__put : FnScope ["self", "place", "what", "kind", "at"] ["self", "place", "what"] (defScope s_Disk__put) := ⟨rfl, rfl, rfl, by decide +kernel, rfl, by decide +kernel, by decide +kernel⟩

structure Tx (K : PySem.W.Frag) (mg : Str → Option Value) where
  f_is_number : Addr
  fd_is_number : FuncData
  F_is_number : Fun K "is_number" "is_number" s_is_number f_is_number fd_is_number
  mg_is_number : mg "is_number" = some (.ref f_is_number)
  f_is_cell : Addr
  fd_is_cell : FuncData
  F_is_cell : Fun K "is_cell" "is_cell" s_is_cell f_is_cell fd_is_cell
  mg_is_cell : mg "is_cell" = some (.ref f_is_cell)
  f_is_block : Addr
  fd_is_block : FuncData
  F_is_block : Fun K "is_block" "is_block" s_is_block f_is_block fd_is_block
  mg_is_block : mg "is_block" = some (.ref f_is_block)
  f_is_cell_row : Addr
  fd_is_cell_row : FuncData
  F_is_cell_row : Fun K "is_cell_row" "is_cell_row" s_is_cell_row f_is_cell_row fd_is_cell_row
  mg_is_cell_row : mg "is_cell_row" = some (.ref f_is_cell_row)
  cc_is_cell_row : Addr
  P_is_cell_row : Addr
  code_is_cell_row : fd_is_cell_row.code = .ref cc_is_cell_row
  ch_is_cell_row : PySem.W.codeHdIn K cc_is_cell_row P_is_cell_row = true
  cn_is_cell_row : K.lookup P_is_cell_row = none
  f_is_ascending : Addr
  fd_is_ascending : FuncData
  F_is_ascending : Fun K "is_ascending" "is_ascending" s_is_ascending f_is_ascending fd_is_ascending
  mg_is_ascending : mg "is_ascending" = some (.ref f_is_ascending)
  cc_is_ascending : Addr
  P_is_ascending : Addr
  code_is_ascending : fd_is_ascending.code = .ref cc_is_ascending
  ch_is_ascending : PySem.W.codeHdIn K cc_is_ascending P_is_ascending = true
  cn_is_ascending : K.lookup P_is_ascending = none
  f_is_pair : Addr
  fd_is_pair : FuncData
  F_is_pair : Fun K "_is_pair" "_is_pair" s_is_pair f_is_pair fd_is_pair
  mg_is_pair : mg "_is_pair" = some (.ref f_is_pair)
  f_are_pairs : Addr
  fd_are_pairs : FuncData
  F_are_pairs : Fun K "_are_pairs" "_are_pairs" s_are_pairs f_are_pairs fd_are_pairs
  mg_are_pairs : mg "_are_pairs" = some (.ref f_are_pairs)
  cc_are_pairs : Addr
  P_are_pairs : Addr
  code_are_pairs : fd_are_pairs.code = .ref cc_are_pairs
  ch_are_pairs : PySem.W.codeHdIn K cc_are_pairs P_are_pairs = true
  cn_are_pairs : K.lookup P_are_pairs = none
  f_are_revokes : Addr
  fd_are_revokes : FuncData
  F_are_revokes : Fun K "_are_revokes" "_are_revokes" s_are_revokes f_are_revokes fd_are_revokes
  mg_are_revokes : mg "_are_revokes" = some (.ref f_are_revokes)
  cc_are_revokes : Addr
  P_are_revokes : Addr
  code_are_revokes : fd_are_revokes.code = .ref cc_are_revokes
  ch_are_revokes : PySem.W.codeHdIn K cc_are_revokes P_are_revokes = true
  cn_are_revokes : K.lookup P_are_revokes = none
  f_is_record : Addr
  fd_is_record : FuncData
  F_is_record : Fun K "is_record" "is_record" s_is_record f_is_record fd_is_record
  mg_is_record : mg "is_record" = some (.ref f_is_record)
  f_fits_plan : Addr
  fd_fits_plan : FuncData
  F_fits_plan : Fun K "fits_plan" "fits_plan" s_fits_plan f_fits_plan fd_fits_plan
  mg_fits_plan : mg "fits_plan" = some (.ref f_fits_plan)
  cc_fits_plan : Addr
  P_fits_plan : Addr
  code_fits_plan : fd_fits_plan.code = .ref cc_fits_plan
  ch_fits_plan : PySem.W.codeHdIn K cc_fits_plan P_fits_plan = true
  cn_fits_plan : K.lookup P_fits_plan = none
  f_live_copies : Addr
  fd_live_copies : FuncData
  F_live_copies : Fun K "live_copies" "live_copies" s_live_copies f_live_copies fd_live_copies
  mg_live_copies : mg "live_copies" = some (.ref f_live_copies)
  f_live_copy : Addr
  fd_live_copy : FuncData
  F_live_copy : Fun K "live_copy" "live_copy" s_live_copy f_live_copy fd_live_copy
  mg_live_copy : mg "live_copy" = some (.ref f_live_copy)
  f_cells_found : Addr
  fd_cells_found : FuncData
  F_cells_found : Fun K "cells_found" "cells_found" s_cells_found f_cells_found fd_cells_found
  mg_cells_found : mg "cells_found" = some (.ref f_cells_found)
  f_cells_after : Addr
  fd_cells_after : FuncData
  F_cells_after : Fun K "cells_after" "cells_after" s_cells_after f_cells_after fd_cells_after
  mg_cells_after : mg "cells_after" = some (.ref f_cells_after)
  f_is_place : Addr
  fd_is_place : FuncData
  F_is_place : Fun K "_is_place" "_is_place" s_is_place f_is_place fd_is_place
  mg_is_place : mg "_is_place" = some (.ref f_is_place)
  f_is_content : Addr
  fd_is_content : FuncData
  F_is_content : Fun K "_is_content" "_is_content" s_is_content f_is_content fd_is_content
  mg_is_content : mg "_is_content" = some (.ref f_is_content)
  f_Lfeed : Addr
  fd_Lfeed : FuncData
  F_Lfeed : Fun K "_law_feed" "_law_feed" s_Lfeed f_Lfeed fd_Lfeed
  mg_Lfeed : mg "_law_feed" = some (.ref f_Lfeed)
  f_Lpick : Addr
  fd_Lpick : FuncData
  F_Lpick : Fun K "_law_pick" "_law_pick" s_Lpick f_Lpick fd_Lpick
  mg_Lpick : mg "_law_pick" = some (.ref f_Lpick)
  f_Lcells : Addr
  fd_Lcells : FuncData
  F_Lcells : Fun K "_law_cells" "_law_cells" s_Lcells f_Lcells fd_Lcells
  mg_Lcells : mg "_law_cells" = some (.ref f_Lcells)
  f_Lmark : Addr
  fd_Lmark : FuncData
  F_Lmark : Fun K "_law_mark" "_law_mark" s_Lmark f_Lmark fd_Lmark
  mg_Lmark : mg "_law_mark" = some (.ref f_Lmark)
  f_Lput : Addr
  fd_Lput : FuncData
  F_Lput : Fun K "_law_put" "_law_put" s_Lput f_Lput fd_Lput
  mg_Lput : mg "_law_put" = some (.ref f_Lput)
  f_Lfill : Addr
  fd_Lfill : FuncData
  F_Lfill : Fun K "_law_fill" "_law_fill" s_Lfill f_Lfill fd_Lfill
  mg_Lfill : mg "_law_fill" = some (.ref f_Lfill)
  f_Lstruck : Addr
  fd_Lstruck : FuncData
  F_Lstruck : Fun K "_law_struck" "_law_struck" s_Lstruck f_Lstruck fd_Lstruck
  mg_Lstruck : mg "_law_struck" = some (.ref f_Lstruck)
  f_Ldue : Addr
  fd_Ldue : FuncData
  F_Ldue : Fun K "_law_due" "_law_due" s_Ldue f_Ldue fd_Ldue
  mg_Ldue : mg "_law_due" = some (.ref f_Ldue)
  f_Ldue_cells : Addr
  fd_Ldue_cells : FuncData
  F_Ldue_cells : Fun K "_law_due_cells" "_law_due_cells" s_Ldue_cells f_Ldue_cells fd_Ldue_cells
  mg_Ldue_cells : mg "_law_due_cells" = some (.ref f_Ldue_cells)
  f_Lnumbers : Addr
  fd_Lnumbers : FuncData
  F_Lnumbers : Fun K "_law_numbers" "_law_numbers" s_Lnumbers f_Lnumbers fd_Lnumbers
  mg_Lnumbers : mg "_law_numbers" = some (.ref f_Lnumbers)
  f_Lagrees : Addr
  fd_Lagrees : FuncData
  F_Lagrees : Fun K "_law_agrees" "_law_agrees" s_Lagrees f_Lagrees fd_Lagrees
  mg_Lagrees : mg "_law_agrees" = some (.ref f_Lagrees)
  f_law : Addr
  fd_law : FuncData
  F_law : Fun K "law" "law" s_law f_law fd_law
  mg_law : mg "law" = some (.ref f_law)
  f_Plan___init__ : Addr
  fd_Plan___init__ : FuncData
  F_Plan___init__ : Fun K "__init__" "Plan.__init__" s_Plan___init__ f_Plan___init__ fd_Plan___init__
  f_Disk___init__ : Addr
  fd_Disk___init__ : FuncData
  F_Disk___init__ : Fun K "__init__" "Disk.__init__" s_Disk___init__ f_Disk___init__ fd_Disk___init__
  f_Disk_issue : Addr
  fd_Disk_issue : FuncData
  F_Disk_issue : Fun K "issue" "Disk.issue" s_Disk_issue f_Disk_issue fd_Disk_issue
  f_Disk_busy : Addr
  fd_Disk_busy : FuncData
  F_Disk_busy : Fun K "busy" "Disk.busy" s_Disk_busy f_Disk_busy fd_Disk_busy
  cc_Disk_busy : Addr
  P_Disk_busy : Addr
  code_Disk_busy : fd_Disk_busy.code = .ref cc_Disk_busy
  ch_Disk_busy : PySem.W.codeHdIn K cc_Disk_busy P_Disk_busy = true
  cn_Disk_busy : K.lookup P_Disk_busy = none
  f_Disk_sure : Addr
  fd_Disk_sure : FuncData
  F_Disk_sure : Fun K "sure" "Disk.sure" s_Disk_sure f_Disk_sure fd_Disk_sure
  f_Disk__put : Addr
  fd_Disk__put : FuncData
  F_Disk__put : Fun K "_put" "Disk._put" s_Disk__put f_Disk__put fd_Disk__put
  C_Plan : Addr
  mg_Plan : mg "Plan" = some (.ref C_Plan)
  cl_Plan : Cls K C_Plan
  na_Plan_blocks : NoAttr K C_Plan "blocks"
  na_Plan_nodes : NoAttr K C_Plan "nodes"
  na_Plan_slots : NoAttr K C_Plan "slots"
  na_Plan_maps : NoAttr K C_Plan "maps"
  na_Plan_first_node : NoAttr K C_Plan "first_node"
  na_Plan_first_data : NoAttr K C_Plan "first_data"
  mk_Plan : Mk K C_Plan f_Plan___init__
  mc_Plan : Value
  cr_Plan : ClX.CRead K C_Plan mc_Plan
  cv_Plan_WIDTH : ∃ u, ClX.CVal K C_Plan mc_Plan "WIDTH" (.int 8) u
  con_Plan_WIDTH : ∃ u, Con K C_Plan "WIDTH" (.int 8) u
  C_Disk : Addr
  mg_Disk : mg "Disk" = some (.ref C_Disk)
  cl_Disk : Cls K C_Disk
  na_Disk_plan : NoAttr K C_Disk "plan"
  na_Disk_home : NoAttr K C_Disk "home"
  na_Disk_log : NoAttr K C_Disk "log"
  na_Disk_head : NoAttr K C_Disk "head"
  na_Disk_last : NoAttr K C_Disk "last"
  na_Disk__pending : NoAttr K C_Disk "_pending"
  mk_Disk : Mk K C_Disk f_Disk___init__
  m_Disk_issue : Meth K C_Disk "issue" f_Disk_issue
  m_Disk_busy : Meth K C_Disk "busy" f_Disk_busy
  m_Disk_sure : Meth K C_Disk "sure" f_Disk_sure
  m_Disk__put : Meth K C_Disk "_put" f_Disk__put
  c_LEAST_BLOCKS : ∃ t, mg "LEAST_BLOCKS" = some (.int 8 t)
  c_MOST_BLOCKS : ∃ t, mg "MOST_BLOCKS" = some (.int 64 t)
  c_LEAST_NODES : ∃ t, mg "LEAST_NODES" = some (.int 2 t)
  c_MOST_NODES : ∃ t, mg "MOST_NODES" = some (.int 16 t)
  c_MOST_SLOTS : ∃ t, mg "MOST_SLOTS" = some (.int 200 t)
  c_LEAST_DATA : ∃ t, mg "LEAST_DATA" = some (.int 2 t)
  c_FIRST_MAP : ∃ t, mg "FIRST_MAP" = some (.int 2 t)
  c_CELL_MOST : ∃ t, mg "CELL_MOST" = some (.int 999999999 t)
  c_BLOCK_MOST : ∃ t, mg "BLOCK_MOST" = some (.int 63 t)
  c_MOST_LOT : ∃ t, mg "MOST_LOT" = some (.int 999999 t)
  c_MOST_SLOT : ∃ t, mg "MOST_SLOT" = some (.int 199 t)
  c_NO_SLOT : ∃ t, mg "NO_SLOT" = some (.int (-1) t)
  b_abs : mg "abs" = none
  b_all : mg "all" = none
  b_any : mg "any" = none
  b_bool : mg "bool" = none
  b_enumerate : mg "enumerate" = none
  b_int : mg "int" = none
  b_isinstance : mg "isinstance" = none
  b_len : mg "len" = none
  b_list : mg "list" = none
  b_max : mg "max" = none
  b_range : mg "range" = none
  b_tuple : mg "tuple" = none
  b_zip : mg "zip" = none
/-- the defs that make generators: their tables -/
structure TBs {K : PySem.W.Frag} {mg : Str → Option Value} (T : Tx K mg) (base : Heap) : Prop where
  t_is_cell_row : LamX.TabB base mg T.cc_is_cell_row T.P_is_cell_row
  t_is_ascending : LamX.TabB base mg T.cc_is_ascending T.P_is_ascending
  t_are_pairs : LamX.TabB base mg T.cc_are_pairs T.P_are_pairs
  t_are_revokes : LamX.TabB base mg T.cc_are_revokes T.P_are_revokes
  t_fits_plan : LamX.TabB base mg T.cc_fits_plan T.P_fits_plan
  t_Disk_busy : LamX.TabB base mg T.cc_Disk_busy T.P_Disk_busy
def Tx.Ps {K : PySem.W.Frag} {mg : Str → Option Value} (T : Tx K mg) : List Addr := [T.P_is_cell_row, T.P_is_ascending, T.P_are_pairs, T.P_are_revokes, T.P_fits_plan, T.P_Disk_busy]
theorem Tx.in_is_cell_row {K : PySem.W.Frag} {mg : Str → Option Value} (T : Tx K mg) : T.P_is_cell_row ∈ T.Ps := by simp [Tx.Ps]
theorem Tx.in_is_ascending {K : PySem.W.Frag} {mg : Str → Option Value} (T : Tx K mg) : T.P_is_ascending ∈ T.Ps := by simp [Tx.Ps]
theorem Tx.in_are_pairs {K : PySem.W.Frag} {mg : Str → Option Value} (T : Tx K mg) : T.P_are_pairs ∈ T.Ps := by simp [Tx.Ps]
theorem Tx.in_are_revokes {K : PySem.W.Frag} {mg : Str → Option Value} (T : Tx K mg) : T.P_are_revokes ∈ T.Ps := by simp [Tx.Ps]
theorem Tx.in_fits_plan {K : PySem.W.Frag} {mg : Str → Option Value} (T : Tx K mg) : T.P_fits_plan ∈ T.Ps := by simp [Tx.Ps]
theorem Tx.in_Disk_busy {K : PySem.W.Frag} {mg : Str → Option Value} (T : Tx K mg) : T.P_Disk_busy ∈ T.Ps := by simp [Tx.Ps]

section
variable {P : Program} {w : World} {K : PySem.W.Frag} {mg : Str → Option Value} {base : Heap}
theorem b_is_number (T : Tx K mg) : Binds K T.fd_is_number ["value", "least", "most"] [] := T.F_is_number.binds (ps := ["value", "least", "most"]) fun _ _ _ _ _ _ us hl => match us, hl with | [_, _, _], _ => rfl
theorem b_is_cell (T : Tx K mg) : Binds K T.fd_is_cell ["value"] [] := T.F_is_cell.binds (ps := ["value"]) fun _ _ _ _ _ _ us hl => match us, hl with | [_], _ => rfl
theorem b_is_block (T : Tx K mg) : Binds K T.fd_is_block ["value"] [] := T.F_is_block.binds (ps := ["value"]) fun _ _ _ _ _ _ us hl => match us, hl with | [_], _ => rfl
theorem b_is_cell_row (T : Tx K mg) : Binds K T.fd_is_cell_row ["value"] [] := T.F_is_cell_row.binds (ps := ["value"]) fun _ _ _ _ _ _ us hl => match us, hl with | [_], _ => rfl
theorem b_is_ascending (T : Tx K mg) : Binds K T.fd_is_ascending ["numbers"] [] := T.F_is_ascending.binds (ps := ["numbers"]) fun _ _ _ _ _ _ us hl => match us, hl with | [_], _ => rfl
theorem b_is_pair (T : Tx K mg) : Binds K T.fd_is_pair ["value"] [] := T.F_is_pair.binds (ps := ["value"]) fun _ _ _ _ _ _ us hl => match us, hl with | [_], _ => rfl
theorem b_are_pairs (T : Tx K mg) : Binds K T.fd_are_pairs ["value"] [] := T.F_are_pairs.binds (ps := ["value"]) fun _ _ _ _ _ _ us hl => match us, hl with | [_], _ => rfl
theorem b_are_revokes (T : Tx K mg) : Binds K T.fd_are_revokes ["value"] [] := T.F_are_revokes.binds (ps := ["value"]) fun _ _ _ _ _ _ us hl => match us, hl with | [_], _ => rfl
theorem b_is_record (T : Tx K mg) : Binds K T.fd_is_record ["record"] [] := T.F_is_record.binds (ps := ["record"]) fun _ _ _ _ _ _ us hl => match us, hl with | [_], _ => rfl
theorem b_fits_plan (T : Tx K mg) : Binds K T.fd_fits_plan ["record", "plan"] [] := T.F_fits_plan.binds (ps := ["record", "plan"]) fun _ _ _ _ _ _ us hl => match us, hl with | [_, _], _ => rfl
theorem b_cells_found (T : Tx K mg) : Binds K T.fd_cells_found ["disk", "x", "live"] [] := T.F_cells_found.binds (ps := ["disk", "x", "live"]) fun _ _ _ _ _ _ us hl => match us, hl with | [_, _, _], _ => rfl
theorem b_is_place (T : Tx K mg) : Binds K T.fd_is_place ["plan", "place"] [] := T.F_is_place.binds (ps := ["plan", "place"]) fun _ _ _ _ _ _ us hl => match us, hl with | [_, _], _ => rfl
theorem b_is_content (T : Tx K mg) : Binds K T.fd_is_content ["plan", "place", "what"] [] := T.F_is_content.binds (ps := ["plan", "place", "what"]) fun _ _ _ _ _ _ us hl => match us, hl with | [_, _, _], _ => rfl
theorem b_Lfeed (T : Tx K mg) : Binds K T.fd_Lfeed ["_law_script"] [] := T.F_Lfeed.binds (ps := ["_law_script"]) fun _ _ _ _ _ _ us hl => match us, hl with | [_], _ => rfl
theorem b_Lpick (T : Tx K mg) : Binds K T.fd_Lpick ["_law_feed_here", "_law_limit"] [] := T.F_Lpick.binds (ps := ["_law_feed_here", "_law_limit"]) fun _ _ _ _ _ _ us hl => match us, hl with | [_, _], _ => rfl
theorem b_Lcells (T : Tx K mg) : Binds K T.fd_Lcells ["_law_feed_here", "_law_first"] [] := T.F_Lcells.binds (ps := ["_law_feed_here", "_law_first"]) fun _ _ _ _ _ _ us hl => match us, hl with | [_, _], _ => rfl
theorem b_Lmark (T : Tx K mg) : Binds K T.fd_Lmark ["_law_feed_here", "_law_lot"] [] := T.F_Lmark.binds (ps := ["_law_feed_here", "_law_lot"]) fun _ _ _ _ _ _ us hl => match us, hl with | [_, _], _ => rfl
theorem b_Lput (T : Tx K mg) : Binds K T.fd_Lput ["_law_disk", "_law_log", "_law_slot", "_law_record"] [] := T.F_Lput.binds (ps := ["_law_disk", "_law_log", "_law_slot", "_law_record"]) fun _ _ _ _ _ _ us hl => match us, hl with | [_, _, _, _], _ => rfl
theorem b_Lfill (T : Tx K mg) : Binds K T.fd_Lfill ["_law_feed_here", "_law_disk", "_law_log", "_law_record"] [] := T.F_Lfill.binds (ps := ["_law_feed_here", "_law_disk", "_law_log", "_law_record"]) fun _ _ _ _ _ _ us hl => match us, hl with | [_, _, _, _], _ => rfl
theorem b_Lstruck (T : Tx K mg) : Binds K T.fd_Lstruck ["_law_marks", "_law_at", "_law_x", "_law_gentle"] [] := T.F_Lstruck.binds (ps := ["_law_marks", "_law_at", "_law_x", "_law_gentle"]) fun _ _ _ _ _ _ us hl => match us, hl with | [_, _, _, _], _ => rfl
theorem b_Ldue (T : Tx K mg) : Binds K T.fd_Ldue ["_law_marks", "_law_x", "_law_gentle"] [] := T.F_Ldue.binds (ps := ["_law_marks", "_law_x", "_law_gentle"]) fun _ _ _ _ _ _ us hl => match us, hl with | [_, _, _], _ => rfl
theorem b_Ldue_cells (T : Tx K mg) : Binds K T.fd_Ldue_cells ["_law_log", "_law_home", "_law_due_here", "_law_x"] [] := T.F_Ldue_cells.binds (ps := ["_law_log", "_law_home", "_law_due_here", "_law_x"]) fun _ _ _ _ _ _ us hl => match us, hl with | [_, _, _, _], _ => rfl
theorem b_Lnumbers (T : Tx K mg) : Binds K T.fd_Lnumbers ["_law_actual", "_law_due_here"] [] := T.F_Lnumbers.binds (ps := ["_law_actual", "_law_due_here"]) fun _ _ _ _ _ _ us hl => match us, hl with | [_, _], _ => rfl
theorem b_Lagrees (T : Tx K mg) : Binds K T.fd_Lagrees ["_law_disk", "_law_marks", "_law_log", "_law_home", "_law_x", "_law_gentle"] [] := T.F_Lagrees.binds (ps := ["_law_disk", "_law_marks", "_law_log", "_law_home", "_law_x", "_law_gentle"]) fun _ _ _ _ _ _ us hl => match us, hl with | [_, _, _, _, _, _], _ => rfl
theorem b_law (T : Tx K mg) : Binds K T.fd_law ["_law_script"] [] := T.F_law.binds (ps := ["_law_script"]) fun _ _ _ _ _ _ us hl => match us, hl with | [_], _ => rfl
theorem b_Disk___init__ (T : Tx K mg) : Binds K T.fd_Disk___init__ ["self", "plan"] [] := T.F_Disk___init__.binds (ps := ["self", "plan"]) fun _ _ _ _ _ _ us hl => match us, hl with | [_, _], _ => rfl
theorem b_Disk_issue (T : Tx K mg) : Binds K T.fd_Disk_issue ["self", "place", "what"] [] := T.F_Disk_issue.binds (ps := ["self", "place", "what"]) fun _ _ _ _ _ _ us hl => match us, hl with | [_, _, _], _ => rfl
theorem b_Disk_busy (T : Tx K mg) : Binds K T.fd_Disk_busy ["self", "place"] [] := T.F_Disk_busy.binds (ps := ["self", "place"]) fun _ _ _ _ _ _ us hl => match us, hl with | [_, _], _ => rfl
theorem b_Disk_sure (T : Tx K mg) : Binds K T.fd_Disk_sure ["self", "number"] [] := T.F_Disk_sure.binds (ps := ["self", "number"]) fun _ _ _ _ _ _ us hl => match us, hl with | [_, _], _ => rfl
theorem b_Disk__put (T : Tx K mg) : Binds K T.fd_Disk__put ["self", "place", "what"] [] := T.F_Disk__put.binds (ps := ["self", "place", "what"]) fun _ _ _ _ _ _ us hl => match us, hl with | [_, _, _], _ => rfl
end
end K46
namespace K46
open PySem PySem.Spec PyProof.Rows L2 Rg
section
variable {P : Program} {w : World} {K : PySem.W.Frag} {mg : Str → Option Value} {base : Heap}
/-! ### _law_pick -/
def sp_Lpick : Sp := fun vs H Q _ => ∃ (p : Addr) (fs : List Int) (lim : Int), vs = [.ref p, .int lim] ∧ H p = some (.lst (fs.map V.int)) ∧ 0 < lim ∧
  ∀ (r : Int) (fs' : List Int), 0 ≤ r → r < lim → fs'.length ≤ fs.length → Q (.int r) (upd H p (.lst (fs'.map V.int)))
theorem ok_Lpick (T : Tx K mg) : FnOk P w K mg base CX0 1 T.f_Lpick T.fd_Lpick ["_law_feed_here", "_law_limit"] sp_Lpick := by
  refine T.F_Lpick.ok sc_Lpick (fun vs H Q E h => ?_) (fun cdv A outer s H vs Q E hr h => ?_)
  · obtain ⟨p, fs, lim, rfl, _⟩ := h
    rfl
  · obtain ⟨p, fs, lim, rfl, hp, hl, k⟩ := h
    refine ⟨_, (pss_cons (ps_if (pt_cmpR op_eq (pe_callB call_len_seq rfl T.b_len (by decide +kernel) (pa_cons (pv 0) pa_nil)) pe_int (nomark _))
        (pss_one (ps_ret pe_int))
        pss_nil)
      (pss_one (ps_ret (pe_op op_mod (pe_callTy call_int1 rfl T.b_int (by decide +kernel) (pa_cons (pe_bm PySem.F.plainAttrs_list PySem.F.slot_list_pop PySem.F.type_list_pop mt_popAt (pv 0) (pa_cons pe_int pa_nil)) pa_nil)) (pv 1))))), ?_⟩
    refine ⟨_, rfl, p, fs.map V.int, rfl, .inl (.inl (.inl hp)), rfl, _, rfl, ite2 (fun e => ?_) (fun e => ?_)⟩
    · have := k 0 fs (Int.le_refl _) hl (Nat.le_refl _)
      rw [upd_id hp] at this
      exact this
    · cases fs with
      | nil => exact absurd (decide_eq_true rfl) e
      | cons x r =>
        refine ⟨.ref p, rfl, .inl ⟨rfl, _, .inl (.inl hp)⟩, p, _, 0, 0, .int x, rfl, rfl, hp, by decide, by decide, ?_, rfl, .inl ⟨x, rfl, ?_⟩⟩
        · rw [List.length_map]; simp [seqIndex?]
        · refine ⟨.int lim, rfl, _, _, rfl, rfl, hl, ?_⟩
          exact k _ r (Int.emod_nonneg _ (by omega)) (Int.emod_lt_of_pos _ hl) (by simp)

/-! ### _law_feed -/
def sp_Lfeed (K : PySem.W.Frag) : Sp := fun vs H Q _ => ∃ (a : Addr) (ns : List Int), vs = [.ref a] ∧ SqL K H a (ns.map V.int) ∧ ns.length ≤ 63 ∧
  ∀ (H' : Hp) (p : Addr) (fs : List Int), Same H H' → H p = none → H' p = some (.lst (fs.map V.int)) → fs.length ≤ 5000 → Q (.ref p) H'
theorem ok_Lfeed (T : Tx K mg) : FnOk P w K mg base CX0 1 T.f_Lfeed T.fd_Lfeed ["_law_script"] (sp_Lfeed K) := by
  refine T.F_Lfeed.ok sc_Lfeed (fun vs H Q E h => ?_) (fun cdv A outer s H vs Q E hr h => ?_)
  · obtain ⟨_, _, rfl, _⟩ := h; rfl
  · obtain ⟨a, ns, rfl, hS, hlen, k⟩ := h
    refine ⟨_, (pss_cons (ps_set (i := 1) sc_Lfeed.nd rfl (.inl rfl) (pe_lst pa_nil))
      (pss_cons (ps_for PassesOwn.never rfl (pi_list (pv 0)) (pg_name (i := 2) sc_Lfeed.nd rfl (.inl rfl))
        (pss_cons (ps_set (i := 3) sc_Lfeed.nd rfl (.inl rfl) (pe_callB call_abs rfl T.b_abs (by decide +kernel) (pa_cons (pv 2) pa_nil)))
        (Evl.pss_cut (ps_if (pt_cmpR op_lt (pv 3) (pe_op op_pow pe_int pe_int) (nomark _))
          (pss_cons (ps_set (i := 3) sc_Lfeed.nd rfl (.inl rfl) (pe_op op_mod (pe_callTy call_int1 rfl T.b_int (by decide +kernel) (pa_cons (pe_op op_add (pe_op op_mul (pv 3) pe_int) pe_int) pa_nil)) pe_int))
          (pss_cons (ps_expr (pe_bm PySem.F.plainAttrs_list PySem.F.slot_list_append PySem.F.type_list_append mt_append (pv 1) (pa_cons (pe_op op_mod (pe_callTy call_int1 rfl T.b_int (by decide +kernel) (pa_cons (pe_op op_add (pe_op op_mul (pv 3) pe_int) pe_int) pa_nil)) pe_int) pa_nil)))
          (pss_one (ps_set (i := 3) sc_Lfeed.nd rfl (.inl rfl) pe_int))))
          pss_nil)
        (pss_one (ps_for PassesOwn.never rfl (pi_range1 rfl T.b_range (pa_cons pe_int pa_nil)) (pg_name (i := 4) sc_Lfeed.nd rfl (.inl rfl))
          (pss_one (ps_if (pt_cmpR op_gt (pv 3) pe_int (nomark _))
            (pss_cons (ps_expr (pe_bm PySem.F.plainAttrs_list PySem.F.slot_list_append PySem.F.type_list_append mt_append (pv 1) (pa_cons (pe_op op_mod (pe_callTy call_int1 rfl T.b_int (by decide +kernel) (pa_cons (pv 3) pa_nil)) pe_int) pa_nil)))
            (pss_one (ps_set (i := 3) sc_Lfeed.nd rfl (.inl rfl) (pe_op op_fdiv (pv 3) pe_int))))
            pss_nil)))))))
      (pss_one (ps_ret (pv 1))))), ?_⟩
    refine ⟨Nat.zero_le _, fun p np => ?_⟩
    have s0 : Same H (upd H p (.lst [])) := same_upd np
    have npa : ∀ H2, SqL K H2 a (ns.map V.int) → True := fun _ _ => trivial
    refine ⟨_, rfl, a, rfl, ⟨_, s0.seq hS⟩, for_list (K := K) (a := a) (xs := ns.map V.int) (fun i σ H2 => ∃ (fs : List Int) (v2 v3 v4 : Option V), σ = [some (.ref a), some (.ref p), v2, v3, v4] ∧ H2 = upd H p (.lst (fs.map V.int)) ∧ fs.length ≤ 61 * i)
      ⟨[], none, none, none, rfl, rfl, Nat.zero_le _⟩ (fun i σ H2 _ ⟨_, _, _, _, _, e, _⟩ => by rw [e]; exact (same_upd np).seq hS) ?_ ?_⟩
    · rintro i y σ H2 hi ⟨fs, v2, v3, v4, rfl, rfl, hl⟩
      have hil : i < 63 := by
        have := (List.getElem?_eq_some_iff.mp hi).1
        rw [List.length_map] at this
        omega
      obtain ⟨z, rfl⟩ : ∃ z, y = V.int z := by
        rw [List.getElem?_map] at hi
        cases e : ns[i]? with
        | none => rw [e] at hi; cases hi
        | some z => rw [e] at hi; exact ⟨z, (Option.some.inj hi).symm⟩
      refine ⟨_, rfl, z, rfl, ?_⟩
      refine ⟨fun σ' H' => ∃ (fs : List Int) (R : Int) (v4 : Option V), σ' = [some (.ref a), some (.ref p), some (.int z), some (.int R), v4] ∧ H' = upd H p (.lst (fs.map V.int)) ∧ 0 ≤ R ∧ fs.length ≤ 61 * i + 1, ?_, ?_⟩
      · have hz : 0 ≤ (if z < 0 then -z else z) := by split <;> omega
        refine ⟨_, rfl, _, _, rfl, rfl, ⟨by decide, by decide, by decide⟩, _, _, rfl, rfl, _, rfl, ite2 (fun e => ?_) (fun e => ?_)⟩
        · have e1 : (if z < 0 then -z else z) < 10 ^ 18 := of_decide_eq_true e
          refine ⟨_, rfl, _, _, rfl, rfl, .inl ⟨by omega, by omega⟩, _, _, rfl, rfl, .inl ⟨_, rfl, _, _, rfl, rfl, (by show (0 : Int) < _; decide), ?_⟩⟩
          refine ⟨.ref p, rfl, .inl ⟨rfl, _, .inl (.inl upd_same)⟩, _, rfl, _, _, rfl, rfl, .inr ⟨by decide, by decide⟩, _, _, rfl, rfl, .inl ⟨_, rfl, _, _, rfl, rfl, (by show (0 : Int) < _; decide), p, _, _, rfl, rfl, upd_same, ?_, ?_⟩⟩
          · rw [List.length_map]; exact Nat.lt_of_lt_of_le (Nat.lt_succ_of_le hl) (by unfold sizeLine; omega)
          · exact ⟨fs ++ [_], 0, v4, rfl, upd_app, Int.le_refl _, by rw [List.length_append]; simp; omega⟩
        · exact ⟨fs, _, v4, rfl, rfl, hz, by omega⟩
      · rintro σ' H' ⟨fs, R, v4, rfl, rfl, hR, hl⟩
        refine ⟨60, rfl, by decide, by decide, for_range (lo := 0) (n := 60) (fun j σ' H' => ∃ (fs : List Int) (R : Int) (v4 : Option V), σ' = [some (.ref a), some (.ref p), some (.int z), some (.int R), v4] ∧ H' = upd H p (.lst (fs.map V.int)) ∧ 0 ≤ R ∧ fs.length ≤ 61 * i + 1 + j)
          ⟨fs, R, v4, rfl, rfl, hR, hl⟩ ?_ ?_⟩
        · rintro j σ' H' hj ⟨fs, R, v4, rfl, rfl, hR, hl⟩
          refine ⟨_, rfl, _, _, rfl, rfl, _, rfl, ite2 (fun e => ?_) (fun e => ?_)⟩
          · refine ⟨.ref p, rfl, .inl ⟨rfl, _, .inl (.inl upd_same)⟩, _, rfl, .inl ⟨_, rfl, _, _, rfl, rfl, (by show (0 : Int) < _; decide), p, _, _, rfl, rfl, upd_same, ?_, ?_⟩⟩
            · rw [List.length_map]; exact Nat.lt_of_lt_of_le (Nat.lt_succ_of_le hl) (by unfold sizeLine; omega)
            · refine ⟨_, rfl, _, _, rfl, rfl, ⟨by decide, by decide⟩, fs ++ [_], _, _, rfl, upd_app, Int.ediv_nonneg hR (by decide), by rw [List.length_append]; simp; omega⟩
          · exact ⟨fs, R, _, rfl, rfl, hR, by omega⟩
        · rintro σ' H' ⟨fs, R, v4, rfl, rfl, hR, hl⟩
          exact ⟨fs, _, _, _, rfl, rfl, by omega⟩
    · rintro σ H2 ⟨fs, v2, v3, v4, rfl, rfl, hl⟩
      rw [List.length_map] at hl
      exact ⟨_, rfl, k _ p fs (same_upd np) np upd_same (by omega)⟩
end
end K46
namespace K46
open PySem PySem.Spec PyProof.Rows L2 Rg
section
variable {P : Program} {w : World} {K : PySem.W.Frag} {mg : Str → Option Value} {base : Heap}
/-! ### plans -/
def planF (b n s : Int) : List (Str × V) := [("blocks", .int b), ("nodes", .int n), ("slots", .int s), ("maps", .int ((b + 8 - 1) / 8)), ("first_node", .int (2 + (b + 8 - 1) / 8)), ("first_data", .int (2 + (b + 8 - 1) / 8 + n))]
structure PlanAt (C : Addr) (H : Hp) (p : Addr) (b n s : Int) : Prop where
  ob : ∃ dx, H p = some (.ins C dx (planF b n s))
  b1 : 8 ≤ b
  b2 : b ≤ 64
  n1 : 2 ≤ n
  n2 : n ≤ 16
  s1 : b < s
  s2 : s ≤ 200
  d : 2 ≤ b - (2 + (b + 8 - 1) / 8 + n)
theorem PlanAt.same {C : Addr} {H H' : Hp} {p : Addr} {b n s : Int} (e : Same H H') (h : PlanAt C H p b n s) : PlanAt C H' p b n s :=
  let ⟨dx, z⟩ := h.ob
  ⟨⟨dx, e _ _ z⟩, h.b1, h.b2, h.n1, h.n2, h.s1, h.s2, h.d⟩
theorem PlanAt.of {C : Addr} {H H' : Hp} {p : Addr} {b n s : Int} (h : PlanAt C H p b n s) (e : ∀ o, H p = some o → H' p = some o) : PlanAt C H' p b n s :=
  let ⟨dx, z⟩ := h.ob
  ⟨⟨dx, e _ z⟩, h.b1, h.b2, h.n1, h.n2, h.s1, h.s2, h.d⟩
def sp_Plan_init (C : Addr) : Sp := fun vs H Q _ => ∃ (p dx : Addr) (b n s : Int), vs = [.ref p, .int b, .int n, .int s] ∧ H p = some (.ins C dx []) ∧ 8 ≤ b ∧ b ≤ 64 ∧ 2 ≤ n ∧ n ≤ 16 ∧ b < s ∧ s ≤ 200 ∧ 2 ≤ b - (2 + (b + 8 - 1) / 8 + n) ∧
  Q .non (upd H p (.ins C dx (planF b n s)))
theorem ok_Plan_init (T : Tx K mg) : FnOk P w K mg base CX0 1 T.f_Plan___init__ T.fd_Plan___init__ ["self", "blocks", "nodes", "slots"] (sp_Plan_init T.C_Plan) := by
  refine T.F_Plan___init__.ok sc_Plan___init__ (fun vs H Q E h => ?_) (fun cdv A outer s H vs Q E hr h => ?_)
  · obtain ⟨_, _, _, _, _, rfl, _⟩ := h; rfl
  · obtain ⟨p, dx, b, n, sl, rfl, hp, h1, h2, h3, h4, h5, h6, h7, k⟩ := h
    refine ⟨_, (pss_cons (ps_if (pt_not (pt_chain op_le op_le (pe_gc T.c_LEAST_BLOCKS) (pv 1) (pe_gc T.c_MOST_BLOCKS)))
        (pss_one ps_never)
        pss_nil)
      (pss_cons (ps_if (pt_not (pt_chain op_le op_le (pe_gc T.c_LEAST_NODES) (pv 2) (pe_gc T.c_MOST_NODES)))
        (pss_one ps_never)
        pss_nil)
      (pss_cons (ps_if (pt_not (pt_chain op_lt op_le (pv 1) (pv 3) (pe_gc T.c_MOST_SLOTS)))
        (pss_one ps_never)
        pss_nil)
      (pss_cons (ps_fld (pv 0) (pv 1) rfl)
      (pss_cons (ps_fld (pv 0) (pv 2) rfl)
      (pss_cons (ps_fld (pv 0) (pv 3) rfl)
      (pss_cons (ps_fld (pv 0) (pe_op op_fdiv (pe_op op_sub (pe_op op_add (pv 1) (pe_con (pv 0) rfl)) pe_int) (pe_con (pv 0) rfl)) rfl)
      (pss_cons (ps_fld (pv 0) (pe_op op_add (pe_gc T.c_FIRST_MAP) (pe_fld (pv 0) rfl)) rfl)
      (pss_cons (ps_fld (pv 0) (pe_op op_add (pe_fld (pv 0) rfl) (pv 2)) rfl)
      (pss_one (ps_if (pt_cmpR op_lt (pe_op op_sub (pv 1) (pe_fld (pv 0) rfl)) (pe_gc T.c_LEAST_DATA) (nomark _))
        (pss_one ps_never)
        pss_nil))))))))))), ?_⟩
    obtain ⟨uW, cW⟩ := T.con_Plan_WIDTH
    refine ⟨_, rfl, _, _, rfl, rfl, _, rfl, ?_⟩
    rw [decide_eq_true h1]
    refine iteT ⟨_, _, rfl, rfl, _, rfl, ?_⟩
    rw [decide_eq_true h2]
    refine iteF ⟨_, rfl, _, _, rfl, rfl, _, rfl, ?_⟩
    rw [decide_eq_true h3]
    refine iteT ⟨_, _, rfl, rfl, _, rfl, ?_⟩
    rw [decide_eq_true h4]
    refine iteF ⟨_, rfl, _, rfl, _, _, rfl, rfl, _, rfl, ?_⟩
    rw [decide_eq_true h5]
    refine iteT ⟨_, _, rfl, rfl, _, rfl, ?_⟩
    rw [decide_eq_true h6]
    refine iteF ⟨_, rfl, _, rfl, p, _, dx, _, rfl, hp, T.cl_Plan, T.na_Plan_blocks, (by show 0 < 1000; decide), ?_⟩
    refine ⟨_, rfl, _, rfl, p, _, dx, _, rfl, upd_same, T.cl_Plan, T.na_Plan_nodes, (by show 1 < 1000; decide), ?_⟩
    refine ⟨_, rfl, _, rfl, p, _, dx, _, rfl, upd_same, T.cl_Plan, T.na_Plan_slots, (by show 2 < 1000; decide), ?_⟩
    refine ⟨_, rfl, _, rfl, p, _, dx, _, _, _, rfl, upd_same, T.cl_Plan, cW, rfl, _, _, rfl, rfl, _, _, rfl, rfl, _, rfl, p, _, dx, _, _, _, rfl, upd_same, T.cl_Plan, cW, rfl, _, _, rfl, rfl, ⟨by decide, by decide⟩, ?_⟩
    refine ⟨_, rfl, p, _, dx, _, rfl, upd_same, T.cl_Plan, T.na_Plan_maps, (by show 3 < 1000; decide), ?_⟩
    refine ⟨_, rfl, p, _, dx, _, _, rfl, upd_same, T.cl_Plan, T.na_Plan_maps, rfl, _, _, rfl, rfl, _, rfl, p, _, dx, _, rfl, upd_same, T.cl_Plan, T.na_Plan_first_node, (by show 4 < 1000; decide), ?_⟩
    refine ⟨_, rfl, p, _, dx, _, _, rfl, upd_same, T.cl_Plan, T.na_Plan_first_node, rfl, _, rfl, _, _, rfl, rfl, _, rfl, p, _, dx, _, rfl, upd_same, T.cl_Plan, T.na_Plan_first_data, (by show 5 < 1000; decide), ?_⟩
    refine ⟨_, rfl, _, rfl, p, _, dx, _, _, rfl, upd_same, T.cl_Plan, T.na_Plan_first_data, rfl, _, _, rfl, rfl, _, _, rfl, rfl, _, rfl, ?_⟩
    rw [decide_eq_false (by omega)]
    refine iteF ?_
    rw [upd_upd, upd_upd, upd_upd, upd_upd, upd_upd]
    exact k
/-- the call Plan(b, nodes=n, slots=s) -/
theorem kb_Plan (T : Tx K mg) : KBn K T.fd_Plan___init__ ["self", "blocks", "nodes", "slots"] 2 ["nodes", "slots"] (fun us ws => us ++ ws) (fun us ws => us ++ ws) := by
  obtain ⟨oc, od, kV, doc, pm, an, cdv, ct, osl, e, lk, hcd⟩ := T.F_Plan___init__.ex
  refine ⟨fun s us ws _ l1 l2 => ?_, fun r1 r2 => r1.append r2⟩
  rw [e]
  match us, ws, l1, l2 with
  | [_, _], [_, _], _, _ => exact .of_eq rfl
end
end K46
namespace K46
open PySem PySem.Spec PyProof.Rows L2 Rg
/-! ### records -/
inductive Rec where
  | copy (lot x : Int) (c : List Int)
  | mark (lot : Int) (ps : List (Int × Int)) (rs : List Int)
def Rec.lot : Rec → Int
  | .copy l _ _ => l
  | .mark l _ _ => l
/-- eight cells -/
structure Cells (c : List Int) : Prop where
  len : c.length = 8
  ok : ∀ i ∈ c, 0 ≤ i ∧ i ≤ 999999999
def Asc (l : List Int) : Prop := ∀ i x y, l[i]? = some x → l[i + 1]? = some y → x < y
/-- a record that fits a plan of b blocks and s slots -/
def Fit (b s : Int) : Rec → Prop
  | .copy l x c => 1 ≤ l ∧ l ≤ 999999 ∧ 0 ≤ x ∧ x ≤ 63 ∧ x < b ∧ Cells c
  | .mark l ps rs => 1 ≤ l ∧ l ≤ 999999 ∧ ps.length ≤ 64 ∧ rs.length ≤ 64 ∧ (∀ p ∈ ps, 0 ≤ p.1 ∧ p.1 ≤ 63 ∧ p.1 < b ∧ -1 ≤ p.2 ∧ p.2 ≤ 199 ∧ p.2 < s) ∧ Asc (ps.map (·.1)) ∧ (∀ r ∈ rs, 0 ≤ r ∧ r ≤ 63 ∧ r < b) ∧ Asc rs
/-- pairs stand at pp -/
def PairsAt (K : PySem.W.Frag) (H : Hp) (pp : Addr) (ps : List (Int × Int)) : Prop :=
  ∃ qs : List Addr, SqT K H pp (qs.map V.ref) ∧ qs.length = ps.length ∧ ∀ (i : Nat) (q : Addr) (p : Int × Int), qs[i]? = some q → ps[i]? = some p → SqT K H q [.int p.1, .int p.2]
def RecAt (K : PySem.W.Frag) (H : Hp) (a : Addr) : Rec → Prop
  | .copy l x c => ∃ pc, SqT K H a [.str "copy", .int l, .int x, .ref pc] ∧ SqT K H pc (c.map V.int)
  | .mark l ps rs => ∃ pp pr, SqT K H a [.str "mark", .int l, .ref pp, .ref pr] ∧ PairsAt K H pp ps ∧ SqT K H pr (rs.map V.int)
section
variable {K : PySem.W.Frag} {Ps : List Addr} {H H1 : Hp} {a : Addr} {r : Rec}
theorem PairsAt.by {pp : Addr} {ps : List (Int × Int)} (h : PairsAt K H pp ps) (f : ∀ b xs, SqT K H b xs → SqT K H1 b xs) : PairsAt K H1 pp ps := by
  obtain ⟨qs, h1, h2, h3⟩ := h
  exact ⟨qs, f _ _ h1, h2, fun i q p e1 e2 => f _ _ (h3 i q p e1 e2)⟩
theorem RecAt.by (h : RecAt K H a r) (f : ∀ b xs, SqT K H b xs → SqT K H1 b xs) : RecAt K H1 a r := by
  cases r with
  | copy l x c => obtain ⟨pc, h1, h2⟩ := h; exact ⟨pc, f _ _ h1, f _ _ h2⟩
  | mark l ps rs => obtain ⟨pp, pr, h1, h2, h3⟩ := h; exact ⟨pp, pr, f _ _ h1, h2.by f, f _ _ h3⟩
theorem RecAt.same (h : RecAt K H a r) (e : Same H H1) : RecAt K H1 a r := h.by fun _ _ => sameT e
theorem RecAt.tk (h : RecAt K H a r) (t : Tab Ps H) (k : Tk Ps H H1) : RecAt K H1 a r := h.by fun _ _ => k.seqT t
theorem PairsAt.tk {pp : Addr} {ps : List (Int × Int)} (h : PairsAt K H pp ps) (t : Tab Ps H) (k : Tk Ps H H1) : PairsAt K H1 pp ps := h.by fun _ _ => k.seqT t
end
section
variable {P : Program} {w : World} {K : PySem.W.Frag} {mg : Str → Option Value} {base : Heap}
def sp_is_number : Sp := fun vs H Q _ => ∃ i lo hi : Int, vs = [.int i, .int lo, .int hi] ∧ Q (.bl (decide (lo ≤ i ∧ i ≤ hi))) H
theorem ok_is_number (T : Tx K mg) : FnOk P w K mg base CX0 1 T.f_is_number T.fd_is_number ["value", "least", "most"] sp_is_number := by
  refine T.F_is_number.ok sc_is_number (fun vs H Q E h => ?_) (fun cdv A outer s H vs Q E hr h => ?_)
  · obtain ⟨_, _, _, rfl, _⟩ := h; rfl
  · obtain ⟨i, lo, hi, rfl, k⟩ := h
    refine ⟨_, (pss_one (ps_ret (pe_and (pe_callB call_isi rfl T.b_isinstance (by decide +kernel) (pa_cons (pv 0) (pa_cons (pe_bltn (v := .ty "int") rfl T.b_int (by decide +kernel) rfl) pa_nil))) (pe_and (pe_not (pe_callB call_isi rfl T.b_isinstance (by decide +kernel) (pa_cons (pv 0) (pa_cons (pe_bltn (v := .ty "bool") rfl T.b_bool (by decide +kernel) rfl) pa_nil)))) (pe_one (pe_chain op_le op_le (pv 1) (pv 0) (pv 2))))))), ?_⟩
    refine ⟨_, rfl, _, _, _, _, true, rfl, .ty _, .base (.int _), kit_ty (by decide +kernel), _, rfl, iteT ⟨_, rfl, _, _, _, _, false, rfl, .ty _, .base (.int _), kit_ty (by decide +kernel), _, rfl, _, rfl, iteT ⟨_, rfl, _, rfl, _, _, rfl, rfl, _, rfl, ite2 (fun h1 => ?_) fun h1 => ?_⟩⟩⟩
    · have h1 := of_decide_eq_true h1
      refine ⟨_, rfl, _, _, rfl, rfl, ?_⟩
      rw [show decide (lo ≤ i ∧ i ≤ hi) = decide (i ≤ hi) by simp [h1]] at k
      exact k
    · have h1 : ¬ lo ≤ i := fun z => h1 (decide_eq_true z)
      rw [show decide (lo ≤ i ∧ i ≤ hi) = false by simp [h1]] at k
      exact k
def sp_is_in (lo hi : Int) : Sp := fun vs H Q _ => ∃ i : Int, vs = [.int i] ∧ Q (.bl (decide (lo ≤ i ∧ i ≤ hi))) H
theorem ok_is_cell (T : Tx K mg) : FnOk P w K mg base CX0 2 T.f_is_cell T.fd_is_cell ["value"] (sp_is_in 0 999999999) := by
  refine T.F_is_cell.ok sc_is_cell (fun vs H Q E h => ?_) (fun cdv A outer s H vs Q E hr h => ?_)
  · obtain ⟨_, rfl, _⟩ := h; rfl
  · obtain ⟨i, rfl, k⟩ := h
    refine ⟨_, (pss_one (ps_ret (pe_call (ok_is_number T) hr rfl T.mg_is_number T.F_is_number.kp (b_is_number T) .nil pass0 (pa_cons (pv 0) (pa_cons pe_int (pa_cons (pe_gc T.c_CELL_MOST) pa_nil)))))), ?_⟩
    exact ⟨_, rfl, i, 0, 999999999, rfl, k⟩
theorem ok_is_block (T : Tx K mg) : FnOk P w K mg base CX0 2 T.f_is_block T.fd_is_block ["value"] (sp_is_in 0 63) := by
  refine T.F_is_block.ok sc_is_block (fun vs H Q E h => ?_) (fun cdv A outer s H vs Q E hr h => ?_)
  · obtain ⟨_, rfl, _⟩ := h; rfl
  · obtain ⟨i, rfl, k⟩ := h
    refine ⟨_, (pss_one (ps_ret (pe_call (ok_is_number T) hr rfl T.mg_is_number T.F_is_number.kp (b_is_number T) .nil pass0 (pa_cons (pv 0) (pa_cons pe_int (pa_cons (pe_gc T.c_BLOCK_MOST) pa_nil)))))), ?_⟩
    exact ⟨_, rfl, i, 0, 63, rfl, k⟩
def sp_is_cell_row (K : PySem.W.Frag) (Ps : List Addr) : Sp := fun vs H Q _ => ∃ (a : Addr) (c : List Int), vs = [.ref a] ∧ SqT K H a (c.map V.int) ∧ Cells c ∧ Tab Ps H ∧ ∀ H', Tk Ps H H' → Q (.bl true) H'
theorem ok_is_cell_row (T : Tx K mg) (B : TBs T base) : FnOk P w K mg base CX0 6 T.f_is_cell_row T.fd_is_cell_row ["value"] (sp_is_cell_row K T.Ps) := by
  refine fun_okC T.F_is_cell_row T.code_is_cell_row sc_is_cell_row (fun vs H Q E h => ?_) (fun A outer s H vs Q E hr h => ?_)
  · obtain ⟨_, _, rfl, _⟩ := h; rfl
  · obtain ⟨a, c, rfl, hS, hc, ht, k⟩ := h
    refine ⟨_, (pss_one (ps_ret (pe_and (pe_callB call_isiT rfl T.b_isinstance (by decide +kernel) (pa_cons (pv 0) (pa_cons (pe_tup (pa_cons (pe_bltn (v := .ty "list") rfl T.b_list (by decide +kernel) rfl) (pa_cons (pe_bltn (v := .ty "tuple") rfl T.b_tuple (by decide +kernel) rfl) pa_nil))) pa_nil))) (pe_and (pe_cmpR op_eq (pe_callB call_len_seq rfl T.b_len (by decide +kernel) (pa_cons (pv 0) pa_nil)) (pe_cv T.mg_Plan T.cr_Plan T.cv_Plan_WIDTH) (nomark _)) (pe_one (GxL.pe_allG (k := 2) (own := [("cell", 1)]) (g := gName 1) (tt := tYes) hr rfl T.b_all B.t_is_cell_row rfl (GxL.gsc_by (by decide +kernel)) (blkOk_by (N := ["value", "cell"]) (sc := defScope s_is_cell_row) (by decide +kernel)) sc_is_cell_row.nd (pi_tup (pv 0)) (fun _ _ _ _ _ => pg_name (i := 1) sc_is_cell_row.nd rfl (Or.inl rfl)) (fun _ _ _ _ _ _ => pts_nil) (fun _ _ _ _ _ hr2 => pe_call (ok_is_cell T) hr2 rfl T.mg_is_cell T.F_is_cell.kp (b_is_cell T) .nil pass0 (pa_cons (pv 1) pa_nil)))))))), ?_⟩
    refine ⟨_, rfl, (by show 2 ≤ sizeLine; decide), fun t nt => ?_⟩
    have st := same_upd (o := .tup [.ty "list", .ty "tuple"]) nt
    have e0 := upd_same (H := H) (a := t) (o := .tup [.ty "list", .ty "tuple"])
    have t0 := Tk.of ht st
    generalize upd H t (.tup [.ty "list", .ty "tuple"]) = H1 at st e0 t0 ⊢
    have hS1 := sameT st hS
    refine ⟨_, t, _, _, _, true, rfl, e0, .cons (.ty _) (.cons (.ty _) .nil), tyT hS1, kitAny_cons (b := false) (kit_ty (by decide +kernel)) (fun _ => kitAny_cons (b := true) (kit_ty (by decide +kernel)) (fun z => by cases z) (fun _ => rfl)) (fun z => by cases z), _, rfl, iteT ?_⟩
    refine ⟨_, rfl, a, _, rfl, .inr hS1, rfl, _, rfl, ?_⟩
    rw [List.length_map, hc.len, dec_iv, decide_eq_true (by decide)]
    refine iteT ⟨_, rfl, a, rfl, ⟨_, hS1⟩, t0.tab _ T.in_is_cell_row, fun H2 hT => gx_tup (K := K) (a := a) (xs := c.map V.int) (fun i H3 => Tk T.Ps H1 H3) (Tk.tabbed t0.tab T.in_is_cell_row hT) (fun i H3 _ kk => kk.seqT t0.tab hS1) (fun i y H3 hi kk => ?_) fun H3 kk => k H3 (t0.trans kk)⟩
    rw [List.getElem?_map] at hi
    obtain ⟨x, hx, rfl⟩ := Option.map_eq_some_iff.mp hi
    have hb := hc.ok x (List.mem_of_getElem? hx)
    refine ⟨rfl, yes_ ⟨_, rfl, x, rfl, _, rfl, ?_⟩⟩
    rw [decide_eq_true (show 0 ≤ x ∧ x ≤ 999999999 from hb), if_pos rfl]
    exact kk
end
end K46
namespace K46
open PySem PySem.Spec PyProof.Rows L2 Rg
theorem cut1 (xs : List V) : cutV xs (some (1 : Int)) none = xs.drop 1 := by
  unfold cutV
  rw [HT.sIx_none]
  have e : HT.sIx xs.length 0 (some (1 : Int)) = min 1 xs.length := HT.sIx_nat _ _ 1
  rw [e]
  rcases xs with _ | ⟨x, r⟩
  · rfl
  · show ((x :: r).drop (min 1 (r.length + 1))).take (r.length + 1 - min 1 (r.length + 1)) = r
    rw [Nat.min_eq_left (by omega)]
    show r.take (r.length + 1 - 1) = r
    rw [Nat.add_sub_cancel, List.take_length]
section
variable {P : Program} {w : World} {K : PySem.W.Frag} {mg : Str → Option Value} {base : Heap}
def sp_is_ascending (K : PySem.W.Frag) (Ps : List Addr) : Sp := fun vs H Q _ => ∃ (a : Addr) (l : List Int), vs = [.ref a] ∧ (SqL K H a (l.map V.int) ∨ SqT K H a (l.map V.int)) ∧ Asc l ∧ Tab Ps H ∧ ∀ H', Tk Ps H H' → Q (.bl true) H'
theorem ok_is_ascending (T : Tx K mg) (B : TBs T base) : FnOk P w K mg base CX0 4 T.f_is_ascending T.fd_is_ascending ["numbers"] (sp_is_ascending K T.Ps) := by
  refine fun_okC T.F_is_ascending T.code_is_ascending sc_is_ascending (fun vs H Q E h => ?_) (fun A outer s H vs Q E hr h => ?_)
  · obtain ⟨_, _, rfl, _⟩ := h; rfl
  · obtain ⟨a, l, rfl, hS, hc, ht, k⟩ := h
    refine ⟨_, (pss_one (ps_ret (GxL.pe_allG (k := 0) (own := [("low", 1), ("high", 2)]) (g := _) (tt := tYes) hr rfl T.b_all B.t_is_ascending rfl (GxL.gsc_by (by decide +kernel)) (blkOk_by (N := ["numbers", "low", "high"]) (sc := defScope s_is_ascending) (by decide +kernel)) sc_is_ascending.nd (RZ.pi_zipA rfl T.b_zip (pa_cons (pv 0) (pa_cons (pe_slice (SlR.or sl_list (SlR.or sl_tup sl_tupA)) (pv 0) (po_some pe_int) po_none) pa_nil)))
      (fun _ _ _ _ _ => pg_tupK (K := K) (n := 2) rfl (pgs_cons (pg_name (i := 1) sc_is_ascending.nd rfl (.inl rfl)) (pgs_cons (pg_name (i := 2) sc_is_ascending.nd rfl (.inl rfl)) pgs_nil))) (fun _ _ _ _ _ _ => pts_nil) (fun _ _ _ _ _ _ => pe_cmpR op_lt (pv 1) (pv 2) (nomark _))))), ?_⟩
    -- a turn
    have turn : ∀ (H1 H3 : Hp) (i : Nat) (x y : V) (q : Addr), Tk T.Ps H1 H3 → (l.map V.int)[i]? = some x → ((l.map V.int).drop 1)[i]? = some y → H3 q = none →
        ∃ u v : Int, x = .int u ∧ y = .int v ∧ u < v ∧ Tk T.Ps H1 (upd H3 q (.tup [x, y])) := fun H1 H3 i x y q kk hx hy hq => by
      rw [List.getElem?_map] at hx
      rw [List.getElem?_drop, List.getElem?_map, Nat.add_comm] at hy
      obtain ⟨u, hu, rfl⟩ := Option.map_eq_some_iff.mp hx
      obtain ⟨v, hv, rfl⟩ := Option.map_eq_some_iff.mp hy
      exact ⟨u, v, rfl, rfl, hc i u v hu hv, kk.new hq⟩
    rcases hS with hS | hS
    · refine ⟨_, rfl, _, rfl, _, rfl, .inl ⟨a, _, rfl, hS, fun p np => ?_⟩⟩
      rw [cut1]
      have st := same_upd (o := .lst ((l.map V.int).drop 1)) np
      have e0 := upd_same (H := H) (a := p) (o := .lst ((l.map V.int).drop 1))
      have t0 := Tk.of ht st
      generalize upd H p (.lst ((l.map V.int).drop 1)) = H1 at st e0 t0 ⊢
      have hS1 := st.seq hS
      refine ⟨a, p, _, _, rfl, .inl ⟨hS1, .of e0, t0.tab _ T.in_is_ascending, fun H2 hT => gx_zipL (K := K) (a := a) (b := p) (xs := l.map V.int) (ys := (l.map V.int).drop 1) (by rw [List.length_drop]; omega) (fun i H3 => Tk T.Ps H1 H3) (Tk.tabbed t0.tab T.in_is_ascending hT)
        (fun i H3 kk => ⟨kk.seqL t0.tab hS1, kk.seqL t0.tab (.of e0)⟩) (fun i x y q H3 hx hy kk hq => ?_) fun H3 kk => k H3 (t0.trans kk)⟩⟩
      obtain ⟨u, v, rfl, rfl, hlt, k2⟩ := turn H1 H3 i x y q kk hx hy hq
      refine ⟨q, _, rfl, .of upd_same, rfl, _, _, rfl, _, _, rfl, rfl, rfl, yes_ ⟨_, rfl, _, rfl, _, _, rfl, rfl, _, rfl, ?_⟩⟩
      rw [decide_eq_true hlt, if_pos rfl]
      exact k2
    · have walk : ∀ (p : Addr) (H1 : Hp), Tk T.Ps H H1 → SqT K H1 a (l.map V.int) → SqT K H1 p ((l.map V.int).drop 1) → ∀ σ : L2.St, σ = [some (.ref a), none, none] →
          GxR.TabG H1 T.P_is_ascending ∧ ∀ H2, GxR.Tabbed T.P_is_ascending H1 H2 → ∃ W : Nat → Nat → Hp → Prop, (∃ m, W 0 m H2) ∧ GxL.GTurn true (RZ.ItzT K a p) (gTup K 2 (gCons (gName 1) (gCons (gName 2) gNil))) tYes (tOp (rI0 fun i j => .bl (decide (i < j))) (tVar 1) (tVar 2)) [1, 2] σ Q W := by
        intro p H1 t0 hS1 e0 σ hσ
        subst hσ
        refine ⟨t0.tab _ T.in_is_ascending, fun H2 hT => gx_zipT (K := K) (a := a) (b := p) (xs := l.map V.int) (ys := (l.map V.int).drop 1) (by rw [List.length_drop]; omega) (fun i H3 => Tk T.Ps H1 H3) (Tk.tabbed t0.tab T.in_is_ascending hT)
          (fun i H3 kk => ⟨kk.seqT t0.tab hS1, kk.seqT t0.tab e0⟩) (fun i x y q H3 hx hy kk hq => ?_) fun H3 kk => k H3 (t0.trans kk)⟩
        obtain ⟨u, v, rfl, rfl, hlt, k2⟩ := turn H1 H3 i x y q kk hx hy hq
        refine ⟨q, _, rfl, .of upd_same, rfl, _, _, rfl, _, _, rfl, rfl, rfl, yes_ ⟨_, rfl, _, rfl, _, _, rfl, rfl, _, rfl, ?_⟩⟩
        rw [decide_eq_true hlt, if_pos rfl]
        exact k2
      by_cases hl : l = []
      · subst hl
        refine ⟨_, rfl, _, rfl, _, rfl, .inr (.inr ⟨a, _, rfl, hS, rfl, rfl, ?_⟩)⟩
        exact ⟨a, a, _, _, rfl, .inr ⟨hS, hS, walk a H (.refl ht) hS hS _ rfl⟩⟩
      · refine ⟨_, rfl, _, rfl, _, rfl, .inr (.inl ⟨a, _, rfl, hS, fun z => ?_, fun p np => ?_⟩)⟩
        · have e : HT.sIx (l.map V.int).length 0 (some (1 : Int)) = min 1 (l.map V.int).length := HT.sIx_nat _ _ 1
          have z1 := z.1
          rw [e, List.length_map] at z1
          have : l.length ≠ 0 := fun q => hl (List.length_eq_zero_iff.mp q)
          omega
        · rw [cut1]
          have st := same_upd (o := .tup ((l.map V.int).drop 1)) np
          have e0 := upd_same (H := H) (a := p) (o := .tup ((l.map V.int).drop 1))
          have t0 := Tk.of ht st
          generalize upd H p (.tup ((l.map V.int).drop 1)) = H1 at st e0 t0 ⊢
          exact ⟨a, p, _, _, rfl, .inr ⟨sameT st hS, .of e0, walk p H1 t0 (sameT st hS) (.of e0) _ rfl⟩⟩
end
end K46
namespace K46
open PySem PySem.Spec PyProof.Rows L2 Rg
structure PrOk (p : Int × Int) : Prop where
  b : 0 ≤ p.1 ∧ p.1 ≤ 63
  s : -1 ≤ p.2 ∧ p.2 ≤ 199
section
variable {P : Program} {w : World} {K : PySem.W.Frag} {mg : Str → Option Value} {base : Heap}
def sp_is_pair (K : PySem.W.Frag) : Sp := fun vs H Q _ => ∃ (a : Addr) (p : Int × Int), vs = [.ref a] ∧ SqT K H a [.int p.1, .int p.2] ∧ PrOk p ∧ Q (.bl true) H
theorem ok_is_pair (T : Tx K mg) : FnOk P w K mg base CX0 3 T.f_is_pair T.fd_is_pair ["value"] (sp_is_pair K) := by
  refine T.F_is_pair.ok sc_is_pair (fun vs H Q E h => ?_) (fun cdv A outer s H vs Q E hr h => ?_)
  · obtain ⟨_, _, rfl, _⟩ := h; rfl
  · obtain ⟨a, p, rfl, hS, hp, k⟩ := h
    have hr1 := hr.mono (show 1 ≤ 2 by decide)
    refine ⟨_, (pss_cons (ps_if (PW.pt (pw_or (pt_not (pt_val (pe_callB call_isi rfl T.b_isinstance (by decide +kernel) (pa_cons (pv 0) (pa_cons (pe_bltn (v := .ty "tuple") rfl T.b_tuple (by decide +kernel) rfl) pa_nil))))) (pw_or1 (pt_cmpR op_ne (pe_callB call_len_seq rfl T.b_len (by decide +kernel) (pa_cons (pv 0) pa_nil)) pe_int (nomark _)))))
        (pss_one (ps_ret pe_bl))
        pss_nil)
      (pss_one (ps_ret (pe_and (pe_call (ok_is_block T) hr rfl T.mg_is_block T.F_is_block.kp (b_is_block T) .nil pass0 (pa_cons (pe_ix ix_tup (pv 0) pe_int (fun _ _ => rfl)) pa_nil)) (pe_one (pe_call (ok_is_number T) hr1 rfl T.mg_is_number T.F_is_number.kp (b_is_number T) .nil pass0 (pa_cons (pe_ix ix_tup (pv 0) pe_int (fun _ _ => rfl)) (pa_cons (pe_gc T.c_NO_SLOT) (pa_cons (pe_gc T.c_MOST_SLOT) pa_nil))))))))), ?_⟩
    refine ⟨_, rfl, _, _, _, _, true, rfl, .ty _, tyT hS, kit_ty (by decide +kernel), _, rfl, iteF ⟨_, rfl, a, _, rfl, .inr hS, rfl, _, rfl, iteF ?_⟩⟩
    refine ⟨_, rfl, a, _, 0, .int p.1, rfl, rfl, hS, rfl, p.1, rfl, _, rfl, ?_⟩
    rw [decide_eq_true hp.b]
    refine iteT ⟨_, rfl, a, _, 1, .int p.2, rfl, rfl, hS, rfl, p.2, -1, 199, rfl, ?_⟩
    rw [decide_eq_true hp.s]
    exact k
def sp_are_pairs (K : PySem.W.Frag) (Ps : List Addr) : Sp := fun vs H Q _ => ∃ (a : Addr) (ps : List (Int × Int)), vs = [.ref a] ∧ PairsAt K H a ps ∧ ps.length ≤ 64 ∧ (∀ p ∈ ps, PrOk p) ∧ Asc (ps.map (·.1)) ∧ Tab Ps H ∧ ∀ H', Tk Ps H H' → Q (.bl true) H'
theorem ok_are_pairs (T : Tx K mg) (B : TBs T base) : FnOk P w K mg base CX0 7 T.f_are_pairs T.fd_are_pairs ["value"] (sp_are_pairs K T.Ps) := by
  refine fun_okC T.F_are_pairs T.code_are_pairs sc_are_pairs (fun vs H Q E h => ?_) (fun A outer s H vs Q E hr h => ?_)
  · obtain ⟨_, _, rfl, _⟩ := h; rfl
  · obtain ⟨a, ps, rfl, hS, hz, hp, hc, ht, k⟩ := h
    have hr4 := hr.mono (show 4 ≤ 6 by decide)
    refine ⟨_, (pss_cons (ps_if (PW.pt (pw_or (pt_not (pt_val (pe_callB call_isi rfl T.b_isinstance (by decide +kernel) (pa_cons (pv 0) (pa_cons (pe_bltn (v := .ty "tuple") rfl T.b_tuple (by decide +kernel) rfl) pa_nil))))) (pw_or1 (pt_not (pt_val (GxL.pe_allG (k := 3) (own := [("pair", 1)]) (g := gName 1) (tt := tYes) hr rfl T.b_all B.t_are_pairs rfl (GxL.gsc_by (by decide +kernel)) (blkOk_by (N := ["value", "pair"]) (sc := defScope s_are_pairs) (by decide +kernel)) sc_are_pairs.nd (pi_tup (pv 0)) (fun _ _ _ _ _ => pg_name (i := 1) sc_are_pairs.nd rfl (Or.inl rfl)) (fun _ _ _ _ _ _ => pts_nil) (fun _ _ _ _ _ hr2 => pe_call (ok_is_pair T) hr2 rfl T.mg_is_pair T.F_is_pair.kp (b_is_pair T) .nil pass0 (pa_cons (pv 1) pa_nil))))))))
        (pss_one (ps_ret pe_bl))
        pss_nil)
      (pss_one (ps_ret (pe_call (ok_is_ascending T B) hr4 rfl T.mg_is_ascending T.F_is_ascending.kp (b_is_ascending T) .nil pass0 (pa_cons (pe_lc rfl (own := [("pair", 1)]) (g := gName 1) (tt := tYes) sc_are_pairs.nd (pi_tup (pv 0)) (blkOk_by (N := ["value", "pair"]) (sc := defScope s_are_pairs) (by decide +kernel)) (fun _ _ _ _ _ => pg_name (i := 1) sc_are_pairs.nd rfl (Or.inl rfl)) (fun _ _ _ _ _ => pts_nil) (fun _ _ _ _ _ => (pe_ixTK (K := K) (pv 1) pe_int (fun _ _ => rfl)))) pa_nil))))), ?_⟩
    obtain ⟨qs, h1, h2, h3⟩ := hS
    have at_ : ∀ (i : Nat) (y : V), (qs.map V.ref)[i]? = some y → ∃ q p, y = .ref q ∧ qs[i]? = some q ∧ ps[i]? = some p := fun i y hi => by
      rw [List.getElem?_map] at hi
      obtain ⟨q, hq, rfl⟩ := Option.map_eq_some_iff.mp hi
      have hlt := (List.getElem?_eq_some_iff.mp hq).1
      exact ⟨q, ps[i], rfl, hq, List.getElem?_eq_getElem (by omega)⟩
    refine ⟨_, rfl, _, _, _, _, true, rfl, .ty _, tyT h1, kit_ty (by decide +kernel), _, rfl, iteF ?_⟩
    refine ⟨_, rfl, a, rfl, ⟨_, h1⟩, ht _ T.in_are_pairs, fun H2 hT => gx_tup (K := K) (a := a) (xs := qs.map V.ref) (fun i H3 => Tk T.Ps H H3) (Tk.tabbed ht T.in_are_pairs hT) (fun i H3 _ kk => kk.seqT ht h1) (fun i y H3 hi kk => ?_) fun H3 kk => ?_⟩
    · obtain ⟨q, p, rfl, e1, e2⟩ := at_ i y hi
      refine ⟨rfl, yes_ ⟨_, rfl, q, p, rfl, kk.seqT ht (h3 i q p e1 e2), hp p (List.mem_of_getElem? e2), _, rfl, ?_⟩⟩
      rw [if_pos rfl]
      exact kk
    · refine ⟨_, rfl, iteF ?_⟩
      have h1' := kk.seqT ht h1
      refine ⟨_, rfl, a, rfl, ⟨_, h1'⟩, fun D hD => ?_⟩
      refine lc_tup (K := K) (a := a) (xs := qs.map V.ref) (fun i H4 => Tk T.Ps H3 H4 ∧ H4 D = some (.lst (((ps.map (·.1)).take i).map V.int))) ⟨(Tk.refl kk.tab).new hD, upd_same⟩ (fun i H4 _ ⟨k4, _⟩ => k4.seqT kk.tab h1') ?_ ?_
      · rintro i y H4 hi ⟨k4, eD⟩
        obtain ⟨q, p, rfl, e1, e2⟩ := at_ i y hi
        refine ⟨rfl, yes_ ⟨_, rfl, q, _, 0, .int p.1, rfl, rfl, k4.seqT kk.tab (kk.seqT ht (h3 i q p e1 e2)), rfl, ?_⟩⟩
        refine ⟨_, eD, ?_, k4.put hD eD, ?_⟩
        · rw [List.length_map, List.length_take, List.length_map]
          exact Nat.lt_of_le_of_lt (show min i ps.length ≤ 64 by omega) (by decide)
        · rw [upd_same, take_snoc (c := p.1) (by rw [List.getElem?_map, e2]; rfl), List.map_append]
          rfl
      · rintro H4 ⟨k4, eD⟩
        rw [List.take_of_length_le (by simp [h2])] at eD
        exact ⟨D, _, rfl, .inl (.of eD), hc, k4.tab, fun H5 k5 => k H5 (kk.trans (k4.trans k5))⟩
def sp_are_revokes (K : PySem.W.Frag) (Ps : List Addr) : Sp := fun vs H Q _ => ∃ (a : Addr) (rs : List Int), vs = [.ref a] ∧ SqT K H a (rs.map V.int) ∧ (∀ r ∈ rs, 0 ≤ r ∧ r ≤ 63) ∧ Asc rs ∧ Tab Ps H ∧ ∀ H', Tk Ps H H' → Q (.bl true) H'
theorem ok_are_revokes (T : Tx K mg) (B : TBs T base) : FnOk P w K mg base CX0 6 T.f_are_revokes T.fd_are_revokes ["value"] (sp_are_revokes K T.Ps) := by
  refine fun_okC T.F_are_revokes T.code_are_revokes sc_are_revokes (fun vs H Q E h => ?_) (fun A outer s H vs Q E hr h => ?_)
  · obtain ⟨_, _, rfl, _⟩ := h; rfl
  · obtain ⟨a, rs, rfl, hS, hp, hc, ht, k⟩ := h
    have hr4 := hr.mono (show 4 ≤ 5 by decide)
    refine ⟨_, (pss_one (ps_ret (pe_and (pe_callB call_isi rfl T.b_isinstance (by decide +kernel) (pa_cons (pv 0) (pa_cons (pe_bltn (v := .ty "tuple") rfl T.b_tuple (by decide +kernel) rfl) pa_nil))) (pe_and (GxL.pe_allG (k := 2) (own := [("block", 1)]) (g := gName 1) (tt := tYes) hr rfl T.b_all B.t_are_revokes rfl (GxL.gsc_by (by decide +kernel)) (blkOk_by (N := ["value", "block"]) (sc := defScope s_are_revokes) (by decide +kernel)) sc_are_revokes.nd (pi_tup (pv 0)) (fun _ _ _ _ _ => pg_name (i := 1) sc_are_revokes.nd rfl (Or.inl rfl)) (fun _ _ _ _ _ _ => pts_nil) (fun _ _ _ _ _ hr2 => pe_call (ok_is_block T) hr2 rfl T.mg_is_block T.F_is_block.kp (b_is_block T) .nil pass0 (pa_cons (pv 1) pa_nil))) (pe_one (pe_call (ok_is_ascending T B) hr4 rfl T.mg_is_ascending T.F_is_ascending.kp (b_is_ascending T) .nil pass0 (pa_cons (pv 0) pa_nil))))))), ?_⟩
    refine ⟨_, rfl, _, _, _, _, true, rfl, .ty _, tyT hS, kit_ty (by decide +kernel), _, rfl, iteT ?_⟩
    refine ⟨_, rfl, a, rfl, ⟨_, hS⟩, ht _ T.in_are_revokes, fun H2 hT => gx_tup (K := K) (a := a) (xs := rs.map V.int) (fun i H3 => Tk T.Ps H H3) (Tk.tabbed ht T.in_are_revokes hT) (fun i H3 _ kk => kk.seqT ht hS) (fun i y H3 hi kk => ?_) fun H3 kk => ⟨_, rfl, iteT ⟨_, rfl, a, rs, rfl, .inr (kk.seqT ht hS), hc, kk.tab, fun H4 k4 => k H4 (kk.trans k4)⟩⟩⟩
    rw [List.getElem?_map] at hi
    obtain ⟨x, hx, rfl⟩ := Option.map_eq_some_iff.mp hi
    refine ⟨rfl, yes_ ⟨_, rfl, x, rfl, _, rfl, ?_⟩⟩
    rw [decide_eq_true (show 0 ≤ x ∧ x ≤ 63 from hp x (List.mem_of_getElem? hx)), if_pos rfl]
    exact kk
def sp_is_record (K : PySem.W.Frag) (Ps : List Addr) (b s : Int) : Sp := fun vs H Q _ => ∃ (a : Addr) (r : Rec), vs = [.ref a] ∧ RecAt K H a r ∧ Fit b s r ∧ Tab Ps H ∧ ∀ H', Tk Ps H H' → Q (.bl true) H'
theorem ok_is_record (T : Tx K mg) (B : TBs T base) (b sl : Int) : FnOk P w K mg base CX0 8 T.f_is_record T.fd_is_record ["record"] (sp_is_record K T.Ps b sl) := by
  refine T.F_is_record.ok sc_is_record (fun vs H Q E h => ?_) (fun cdv A outer s H vs Q E hr h => ?_)
  · obtain ⟨_, _, rfl, _⟩ := h; rfl
  · obtain ⟨a, r, rfl, hR, hf, ht, k⟩ := h
    have hr1 := hr.mono (show 1 ≤ 7 by decide)
    have hr2 := hr.mono (show 2 ≤ 7 by decide)
    have hr6 := hr.mono (show 6 ≤ 7 by decide)
    refine ⟨_, (pss_cons (ps_if (PW.pt (pw_or (pt_not (pt_val (pe_callB call_isi rfl T.b_isinstance (by decide +kernel) (pa_cons (pv 0) (pa_cons (pe_bltn (v := .ty "tuple") rfl T.b_tuple (by decide +kernel) rfl) pa_nil))))) (pw_or (pt_cmpR op_ne (pe_callB call_len_seq rfl T.b_len (by decide +kernel) (pa_cons (pv 0) pa_nil)) pe_int (nomark _)) (pw_or1 (pt_not (pt_val (pe_call (ok_is_number T) hr1 rfl T.mg_is_number T.F_is_number.kp (b_is_number T) .nil pass0 (pa_cons (pe_ix ix_tup (pv 0) pe_int (fun _ _ => rfl)) (pa_cons pe_int (pa_cons (pe_gc T.c_MOST_LOT) pa_nil))))))))))
        (pss_one (ps_ret pe_bl))
        pss_nil)
      (pss_cons (ps_if (pt_cmpR op_eq (pe_ix ix_tup (pv 0) pe_int (fun _ _ => rfl)) pe_str (nomark _))
        (pss_one (ps_ret (pe_and (pe_call (ok_is_block T) hr2 rfl T.mg_is_block T.F_is_block.kp (b_is_block T) .nil pass0 (pa_cons (pe_ix ix_tup (pv 0) pe_int (fun _ _ => rfl)) pa_nil)) (pe_and (pe_callB call_isi rfl T.b_isinstance (by decide +kernel) (pa_cons (pe_ix ix_tup (pv 0) pe_int (fun _ _ => rfl)) (pa_cons (pe_bltn (v := .ty "tuple") rfl T.b_tuple (by decide +kernel) rfl) pa_nil))) (pe_one (pe_call (ok_is_cell_row T B) hr6 rfl T.mg_is_cell_row T.F_is_cell_row.kp (b_is_cell_row T) .nil pass0 (pa_cons (pe_ix ix_tup (pv 0) pe_int (fun _ _ => rfl)) pa_nil)))))))
        pss_nil)
      (pss_one (ps_ret (pe_and (pe_cmpR op_eq (pe_ix ix_tup (pv 0) pe_int (fun _ _ => rfl)) pe_str (nomark _)) (pe_and (pe_call (ok_are_pairs T B) hr rfl T.mg_are_pairs T.F_are_pairs.kp (b_are_pairs T) .nil pass0 (pa_cons (pe_ix ix_tup (pv 0) pe_int (fun _ _ => rfl)) pa_nil)) (pe_one (pe_call (ok_are_revokes T B) hr6 rfl T.mg_are_revokes T.F_are_revokes.kp (b_are_revokes T) .nil pass0 (pa_cons (pe_ix ix_tup (pv 0) pe_int (fun _ _ => rfl)) pa_nil))))))))), ?_⟩
    cases r with
    | copy lot x c =>
      obtain ⟨pc, h1, h2⟩ := hR
      obtain ⟨f1, f2, f3, f4, f5, f6⟩ := hf
      refine ⟨_, rfl, _, _, _, _, true, rfl, .ty _, tyT h1, kit_ty (by decide +kernel), _, rfl, iteF ⟨_, rfl, a, _, rfl, .inr h1, rfl, _, rfl, iteF ?_⟩⟩
      refine ⟨_, rfl, a, _, 1, .int lot, rfl, rfl, h1, rfl, lot, 1, 999999, rfl, _, rfl, ?_⟩
      rw [decide_eq_true (show 1 ≤ lot ∧ lot ≤ 999999 from ⟨f1, f2⟩)]
      refine iteF ⟨_, rfl, a, _, 0, .str "copy", rfl, rfl, h1, rfl, rfl, _, rfl, iteT ?_⟩
      refine ⟨_, rfl, a, _, 2, .int x, rfl, rfl, h1, rfl, x, rfl, _, rfl, ?_⟩
      rw [decide_eq_true (show 0 ≤ x ∧ x ≤ 63 from ⟨f3, f4⟩)]
      refine iteT ⟨_, rfl, a, _, 3, .ref pc, rfl, rfl, h1, rfl, _, _, _, _, true, rfl, .ty _, tyT h2, kit_ty (by decide +kernel), _, rfl, iteT ?_⟩
      exact ⟨_, rfl, a, _, 3, .ref pc, rfl, rfl, h1, rfl, pc, c, rfl, h2, f6, ht, k⟩
    | mark lot ps rs =>
      obtain ⟨pp, pr, h1, h2, h3⟩ := hR
      obtain ⟨f1, f2, f3, f4, f5, f6, f7, f8⟩ := hf
      refine ⟨_, rfl, _, _, _, _, true, rfl, .ty _, tyT h1, kit_ty (by decide +kernel), _, rfl, iteF ⟨_, rfl, a, _, rfl, .inr h1, rfl, _, rfl, iteF ?_⟩⟩
      refine ⟨_, rfl, a, _, 1, .int lot, rfl, rfl, h1, rfl, lot, 1, 999999, rfl, _, rfl, ?_⟩
      rw [decide_eq_true (show 1 ≤ lot ∧ lot ≤ 999999 from ⟨f1, f2⟩)]
      refine iteF ⟨_, rfl, a, _, 0, .str "mark", rfl, rfl, h1, rfl, rfl, _, rfl, iteF ?_⟩
      refine ⟨_, rfl, a, _, 0, .str "mark", rfl, rfl, h1, rfl, rfl, _, rfl, iteT ?_⟩
      refine ⟨_, rfl, a, _, 2, .ref pp, rfl, rfl, h1, rfl, pp, ps, rfl, h2, f3, fun p hp => ⟨⟨(f5 p hp).1, (f5 p hp).2.1⟩, (f5 p hp).2.2.2.1, (f5 p hp).2.2.2.2.1⟩, f6, ht, fun H1 k1 => ⟨_, rfl, iteT ?_⟩⟩
      exact ⟨_, rfl, a, _, 3, .ref pr, rfl, rfl, k1.seqT ht h1, rfl, pr, rs, rfl, k1.seqT ht h3, fun r hr => ⟨(f7 r hr).1, (f7 r hr).2.1⟩, f8, k1.tab, fun H2 k2 => k H2 (k1.trans k2)⟩
end
end K46
namespace K46
open PySem PySem.Spec PyProof.Rows L2 Rg
theorem PlanAt.tk {C : Addr} {Ps : List Addr} {H H' : Hp} {p : Addr} {b n s : Int} (h : PlanAt C H p b n s) (t : Tab Ps H) (k : Tk Ps H H') : PlanAt C H' p b n s :=
  let ⟨dx, z⟩ := h.ob
  h.of fun o e => by rw [z] at e; cases e; exact k.at t z
/-- a place of a disk, by its tuple -/
inductive Plc where
  | home (at_ : Int) | log (at_ : Int)
def PlcAt (K : PySem.W.Frag) (H : Hp) (a : Addr) : Plc → Prop
  | .home i => SqT K H a [.str "home", .int i]
  | .log i => SqT K H a [.str "log", .int i]
def Rng (b s : Int) : Plc → Prop
  | .home i => 0 ≤ i ∧ i ≤ b - 1
  | .log i => 0 ≤ i ∧ i ≤ s - 1
/-- what may stand at a place -/
def WhatAt (K : PySem.W.Frag) (H : Hp) (a : Addr) (b s : Int) : Plc → Prop
  | .home i => 0 ≤ i ∧ i ≤ b - 1 ∧ ∃ c, SqT K H a (c.map V.int) ∧ Cells c
  | .log i => 0 ≤ i ∧ i ≤ s - 1 ∧ ∃ r, RecAt K H a r ∧ Fit b s r
section
variable {K : PySem.W.Frag} {Ps : List Addr} {H H1 : Hp} {a : Addr} {q : Plc} {b s : Int}
theorem PlcAt.by (h : PlcAt K H a q) (f : ∀ b xs, SqT K H b xs → SqT K H1 b xs) : PlcAt K H1 a q := by
  cases q with
  | home i => exact f _ _ h
  | log i => exact f _ _ h
theorem WhatAt.by (h : WhatAt K H a b s q) (f : ∀ b xs, SqT K H b xs → SqT K H1 b xs) : WhatAt K H1 a b s q := by
  cases q with
  | home i => obtain ⟨h1, h2, c, h3, h4⟩ := h; exact ⟨h1, h2, c, f _ _ h3, h4⟩
  | log i => obtain ⟨h1, h2, r, h3, h4⟩ := h; exact ⟨h1, h2, r, h3.by f, h4⟩
theorem WhatAt.rng (h : WhatAt K H a b s q) : Rng b s q := by
  cases q with
  | home i => exact ⟨h.1, h.2.1⟩
  | log i => exact ⟨h.1, h.2.1⟩
theorem WhatAt.tup (h : WhatAt K H a b s q) : ∃ xs, SqT K H a xs := by
  cases q with
  | home i => obtain ⟨h1, h2, c, h3, h4⟩ := h; exact ⟨_, h3⟩
  | log i =>
    obtain ⟨h1, h2, r, h3, h4⟩ := h
    cases r with
    | copy l x c => obtain ⟨pc, e, _⟩ := h3; exact ⟨_, e⟩
    | mark l ps rs => obtain ⟨pp, pr, e, _⟩ := h3; exact ⟨_, e⟩
theorem PlcAt.tup (h : PlcAt K H a q) : ∃ xs, SqT K H a xs := by
  cases q with
  | home i => exact ⟨_, h⟩
  | log i => exact ⟨_, h⟩
end
section
variable {P : Program} {w : World} {K : PySem.W.Frag} {mg : Str → Option Value} {base : Heap}
def sp_fits_plan (K : PySem.W.Frag) (CP : Addr) (Ps : List Addr) : Sp := fun vs H Q _ => ∃ (a p : Addr) (b n s : Int) (r : Rec), vs = [.ref a, .ref p] ∧ RecAt K H a r ∧ Fit b s r ∧ PlanAt CP H p b n s ∧ Tab Ps H ∧ ∀ H', Tk Ps H H' → Q (.bl true) H'
theorem ok_fits_plan (T : Tx K mg) (B : TBs T base) : FnOk P w K mg base CX0 4 T.f_fits_plan T.fd_fits_plan ["record", "plan"] (sp_fits_plan K T.C_Plan T.Ps) := by
  refine fun_okC T.F_fits_plan T.code_fits_plan sc_fits_plan (fun vs H Q E h => ?_) (fun A outer s H vs Q E hr h => ?_)
  · obtain ⟨_, _, _, _, _, _, rfl, _⟩ := h; rfl
  · obtain ⟨a, p, b, n, sl, r, rfl, hR, hf, hP, ht, k⟩ := h
    refine ⟨_, (pss_cons (ps_if (pt_cmpR op_eq (pe_ix ix_tup (pv 0) pe_int (fun _ _ => rfl)) pe_str (nomark _))
        (pss_one (ps_ret (pe_cmpR op_lt (pe_ix ix_tup (pv 0) pe_int (fun _ _ => rfl)) (pe_fld (pv 1) rfl) (nomark _))))
        pss_nil)
      (pss_cons (ps_if (pt_not (pt_val (GxL.pe_allG (k := 0) (own := [("block", 2), ("slot", 3)]) (g := _) (tt := tYes) hr rfl T.b_all B.t_fits_plan rfl (GxL.gsc_by (by decide +kernel)) (blkOk_by (N := ["record", "plan", "block", "slot"]) (sc := defScope s_fits_plan) (by decide +kernel)) sc_fits_plan.nd (pi_tup (pe_ix ix_tup (pv 0) pe_int (fun _ _ => rfl)))
          (fun _ _ _ _ _ => pg_tupK (K := K) (n := 2) rfl (pgs_cons (pg_name (i := 2) sc_fits_plan.nd rfl (.inl rfl)) (pgs_cons (pg_name (i := 3) sc_fits_plan.nd rfl (.inl rfl)) pgs_nil))) (fun _ _ _ _ _ _ => pts_nil) (fun _ _ _ _ _ _ => pe_and (pe_cmpR op_lt (pv 2) (pe_fldK (K := K) (pv 1) rfl) (nomark _)) (pe_one (pe_cmpR op_lt (pv 3) (pe_fldK (K := K) (pv 1) rfl) (nomark _)))))))
        (pss_one (ps_ret pe_bl))
        pss_nil)
      (pss_one (ps_ret (GxL.pe_allG (k := 0) (own := [("block", 2)]) (g := gName 2) (tt := tYes) hr rfl T.b_all B.t_fits_plan rfl (GxL.gsc_by (by decide +kernel)) (blkOk_by (N := ["record", "plan", "block", "slot"]) (sc := defScope s_fits_plan) (by decide +kernel)) sc_fits_plan.nd (pi_tup (pe_ix ix_tup (pv 0) pe_int (fun _ _ => rfl)))
          (fun _ _ _ _ _ => pg_name (i := 2) sc_fits_plan.nd rfl (Or.inl rfl)) (fun _ _ _ _ _ _ => pts_nil) (fun _ _ _ _ _ _ => pe_cmpR op_lt (pv 2) (pe_fldK (K := K) (pv 1) rfl) (nomark _))))))), ?_⟩
    obtain ⟨dx, hpo⟩ := hP.ob
    cases r with
    | copy lot x c =>
      obtain ⟨pc, h1, h2⟩ := hR
      obtain ⟨f1, f2, f3, f4, f5, f6⟩ := hf
      refine ⟨_, rfl, a, _, 0, .str "copy", rfl, rfl, h1, rfl, rfl, _, rfl, iteT ?_⟩
      refine ⟨_, rfl, a, _, 2, .int x, rfl, rfl, h1, rfl, _, rfl, p, _, _, _, _, rfl, hpo, T.cl_Plan, T.na_Plan_blocks, rfl, _, _, rfl, rfl, ?_⟩
      show Q (.bl (decide (x < b))) H
      rw [decide_eq_true f5]
      exact k H (.refl ht)
    | mark lot ps rs =>
      obtain ⟨pp, pr, h1, ⟨qs, g1, g2, g3⟩, h3⟩ := hR
      obtain ⟨f1, f2, f3, f4, f5, f6, f7, f8⟩ := hf
      refine ⟨_, rfl, a, _, 0, .str "mark", rfl, rfl, h1, rfl, rfl, _, rfl, iteF ?_⟩
      refine ⟨_, rfl, a, _, 2, .ref pp, rfl, rfl, h1, rfl, pp, rfl, ⟨_, g1⟩, ht _ T.in_fits_plan, fun H2 hT => gx_tup (K := K) (a := pp) (xs := qs.map V.ref) (fun i H3 => Tk T.Ps H H3) (Tk.tabbed ht T.in_fits_plan hT) (fun i H3 _ kk => kk.seqT ht g1) (fun i y H3 hi kk => ?_) fun H3 kk => ⟨_, rfl, iteF ?_⟩⟩
      · rw [List.getElem?_map] at hi
        obtain ⟨q, hq, rfl⟩ := Option.map_eq_some_iff.mp hi
        have hlt := (List.getElem?_eq_some_iff.mp hq).1
        have e2 : ps[i]? = some ps[i] := List.getElem?_eq_getElem (by omega)
        have hb := f5 _ (List.mem_of_getElem? e2)
        refine ⟨q, _, rfl, kk.seqT ht (g3 i q _ hq e2), rfl, _, _, rfl, _, _, rfl, rfl, rfl, yes_ ?_⟩
        refine ⟨_, rfl, _, rfl, p, _, _, _, _, rfl, kk.at ht hpo, T.cl_Plan, T.na_Plan_blocks, rfl, _, _, rfl, rfl, _, rfl, ?_⟩
        rw [decide_eq_true hb.2.2.1]
        refine iteT ⟨_, rfl, _, rfl, p, _, _, _, _, rfl, kk.at ht hpo, T.cl_Plan, T.na_Plan_slots, rfl, _, _, rfl, rfl, _, rfl, ?_⟩
        rw [decide_eq_true hb.2.2.2.2.2, if_pos rfl]
        exact kk
      · refine ⟨_, rfl, a, _, 3, .ref pr, rfl, rfl, kk.seqT ht h1, rfl, pr, rfl, ⟨_, kk.seqT ht h3⟩, kk.tab _ T.in_fits_plan, fun H4 hT => gx_tup (K := K) (a := pr) (xs := rs.map V.int) (fun i H5 => Tk T.Ps H H5) (kk.trans (Tk.tabbed kk.tab T.in_fits_plan hT)) (fun i H3 _ kk => kk.seqT ht h3) (fun i y H3 hi kk => ?_) fun H3 kk => k H3 kk⟩
        rw [List.getElem?_map] at hi
        obtain ⟨x, hx, rfl⟩ := Option.map_eq_some_iff.mp hi
        refine ⟨rfl, yes_ ⟨_, rfl, _, rfl, p, _, _, _, _, rfl, kk.at ht hpo, T.cl_Plan, T.na_Plan_blocks, rfl, _, _, rfl, rfl, _, rfl, ?_⟩⟩
        rw [decide_eq_true (f7 x (List.mem_of_getElem? hx)).2.2, if_pos rfl]
        exact kk
def sp_is_place (K : PySem.W.Frag) (CP : Addr) : Sp := fun vs H Q _ => ∃ (p a : Addr) (b n s : Int) (q : Plc), vs = [.ref p, .ref a] ∧ PlcAt K H a q ∧ Rng b s q ∧ PlanAt CP H p b n s ∧ Q (.bl true) H
theorem ok_is_place (T : Tx K mg) : FnOk P w K mg base CX0 2 T.f_is_place T.fd_is_place ["plan", "place"] (sp_is_place K T.C_Plan) := by
  refine T.F_is_place.ok sc_is_place (fun vs H Q E h => ?_) (fun cdv A outer s H vs Q E hr h => ?_)
  · obtain ⟨_, _, _, _, _, _, rfl, _⟩ := h; rfl
  · obtain ⟨p, a, b, n, sl, q, rfl, hq, hb, hP, k⟩ := h
    refine ⟨_, (pss_cons (ps_if (PW.pt (pw_or (pt_not (pt_val (pe_callB call_isi rfl T.b_isinstance (by decide +kernel) (pa_cons (pv 1) (pa_cons (pe_bltn (v := .ty "tuple") rfl T.b_tuple (by decide +kernel) rfl) pa_nil))))) (pw_or1 (pt_cmpR op_ne (pe_callB call_len_seq rfl T.b_len (by decide +kernel) (pa_cons (pv 1) pa_nil)) pe_int (nomark _)))))
        (pss_one (ps_ret pe_bl))
        pss_nil)
      (pss_cons (ps_if (pt_cmpR op_eq (pe_ix ix_tup (pv 1) pe_int (fun _ _ => rfl)) pe_str (nomark _))
        (pss_one (ps_ret (pe_call (ok_is_number T) hr rfl T.mg_is_number T.F_is_number.kp (b_is_number T) .nil pass0 (pa_cons (pe_ix ix_tup (pv 1) pe_int (fun _ _ => rfl)) (pa_cons pe_int (pa_cons (pe_op op_sub (pe_fld (pv 0) rfl) pe_int) pa_nil))))))
        pss_nil)
      (pss_one (ps_ret (pe_and (pe_cmpR op_eq (pe_ix ix_tup (pv 1) pe_int (fun _ _ => rfl)) pe_str (nomark _)) (pe_one (pe_call (ok_is_number T) hr rfl T.mg_is_number T.F_is_number.kp (b_is_number T) .nil pass0 (pa_cons (pe_ix ix_tup (pv 1) pe_int (fun _ _ => rfl)) (pa_cons pe_int (pa_cons (pe_op op_sub (pe_fld (pv 0) rfl) pe_int) pa_nil)))))))))), ?_⟩
    obtain ⟨dx, hpo⟩ := hP.ob
    cases q with
    | home i =>
      have hq : SqT K H a [.str "home", .int i] := hq
      refine ⟨_, rfl, _, _, _, _, true, rfl, .ty _, tyT hq, kit_ty (by decide +kernel), _, rfl, iteF ⟨_, rfl, a, _, rfl, .inr hq, rfl, _, rfl, iteF ?_⟩⟩
      refine ⟨_, rfl, a, _, 0, .str "home", rfl, rfl, hq, rfl, rfl, _, rfl, iteT ?_⟩
      refine ⟨_, rfl, a, _, 1, .int i, rfl, rfl, hq, rfl, _, rfl, p, _, _, _, _, rfl, hpo, T.cl_Plan, T.na_Plan_blocks, rfl, _, _, rfl, rfl, i, 0, _, rfl, ?_⟩
      rw [decide_eq_true (show 0 ≤ i ∧ i ≤ b - 1 from hb)]
      exact k
    | log i =>
      have hq : SqT K H a [.str "log", .int i] := hq
      refine ⟨_, rfl, _, _, _, _, true, rfl, .ty _, tyT hq, kit_ty (by decide +kernel), _, rfl, iteF ⟨_, rfl, a, _, rfl, .inr hq, rfl, _, rfl, iteF ?_⟩⟩
      refine ⟨_, rfl, a, _, 0, .str "log", rfl, rfl, hq, rfl, rfl, _, rfl, iteF ?_⟩
      refine ⟨_, rfl, a, _, 0, .str "log", rfl, rfl, hq, rfl, rfl, _, rfl, iteT ?_⟩
      refine ⟨_, rfl, a, _, 1, .int i, rfl, rfl, hq, rfl, _, rfl, p, _, _, _, _, rfl, hpo, T.cl_Plan, T.na_Plan_slots, rfl, _, _, rfl, rfl, i, 0, _, rfl, ?_⟩
      rw [decide_eq_true (show 0 ≤ i ∧ i ≤ sl - 1 from hb)]
      exact k
def sp_is_content (K : PySem.W.Frag) (CP : Addr) (Ps : List Addr) : Sp := fun vs H Q _ => ∃ (p a u : Addr) (b n s : Int) (q : Plc), vs = [.ref p, .ref a, .ref u] ∧ PlcAt K H a q ∧ WhatAt K H u b s q ∧ PlanAt CP H p b n s ∧ Tab Ps H ∧ ∀ H', Tk Ps H H' → Q (.bl true) H'
theorem ok_is_content (T : Tx K mg) (B : TBs T base) : FnOk P w K mg base CX0 9 T.f_is_content T.fd_is_content ["plan", "place", "what"] (sp_is_content K T.C_Plan T.Ps) := by
  refine T.F_is_content.ok sc_is_content (fun vs H Q E h => ?_) (fun cdv A outer s H vs Q E hr h => ?_)
  · obtain ⟨_, _, _, _, _, _, _, rfl, _⟩ := h; rfl
  · obtain ⟨p, a, u, b, n, sl, q, rfl, hq, hw, hP, ht, k⟩ := h
    have hr6 := hr.mono (show 6 ≤ 8 by decide)
    have hr4 := hr.mono (show 4 ≤ 8 by decide)
    refine ⟨_, (pss_cons (ps_if (pt_cmpR op_eq (pe_ix ix_tup (pv 1) pe_int (fun _ _ => rfl)) pe_str (nomark _))
        (pss_one (ps_ret (pe_call (ok_is_cell_row T B) hr6 rfl T.mg_is_cell_row T.F_is_cell_row.kp (b_is_cell_row T) .nil pass0 (pa_cons (pv 2) pa_nil))))
        pss_nil)
      (pss_one (ps_ret (pe_and (pe_call (ok_is_record T B b sl) hr rfl T.mg_is_record T.F_is_record.kp (b_is_record T) .nil pass0 (pa_cons (pv 2) pa_nil)) (pe_one (pe_call (ok_fits_plan T B) hr4 rfl T.mg_fits_plan T.F_fits_plan.kp (b_fits_plan T) .nil pass0 (pa_cons (pv 2) (pa_cons (pv 0) pa_nil)))))))), ?_⟩
    cases q with
    | home i =>
      have hq : SqT K H a [.str "home", .int i] := hq
      obtain ⟨h1, h2, c, h3, h4⟩ := hw
      refine ⟨_, rfl, a, _, 0, .str "home", rfl, rfl, hq, rfl, rfl, _, rfl, iteT ?_⟩
      exact ⟨_, rfl, u, c, rfl, h3, h4, ht, k⟩
    | log i =>
      have hq : SqT K H a [.str "log", .int i] := hq
      obtain ⟨h1, h2, r, h3, h4⟩ := hw
      refine ⟨_, rfl, a, _, 0, .str "log", rfl, rfl, hq, rfl, rfl, _, rfl, iteF ?_⟩
      refine ⟨_, rfl, u, r, rfl, h3, h4, ht, fun H1 k1 => ⟨_, rfl, iteT ?_⟩⟩
      exact ⟨_, rfl, _, rfl, u, p, b, n, sl, r, rfl, h3.tk ht k1, h4, hP.tk ht k1, k1.tab, fun H2 k2 => k H2 (k1.trans k2)⟩
end
end K46
namespace K46
open PySem PySem.Spec PyProof.Rows L2 Rg
/-! ### disks -/
structure DA where
  p : Addr
  ho : Addr
  lg : Addr
  pd : Addr
def dskF (A : DA) (hd la : Int) : List (Str × V) := [("plan", .ref A.p), ("home", .ref A.ho), ("log", .ref A.lg), ("head", .int hd), ("last", .int la), ("_pending", .ref A.pd)]
structure DAt (CD CP : Addr) (H : Hp) (d : Addr) (A : DA) (b n s hd la : Int) (hs gs : List V) (kv : List (Key × V)) : Prop where
  ob : ∃ dx, H d = some (.ins CD dx (dskF A hd la))
  pl : PlanAt CP H A.p b n s
  ho : H A.ho = some (.lst hs)
  lg : H A.lg = some (.lst gs)
  pd : H A.pd = some (.dK kv)
  pne : A.p ≠ d
  hne : A.ho ≠ A.lg
  hl : (hs.length : Int) = b
  gl : (gs.length : Int) = s
section
variable {CD CP : Addr} {Ps : List Addr} {H H' : Hp} {d : Addr} {A : DA} {b n s hd la : Int} {hs gs : List V} {kv : List (Key × V)}
theorem DAt.by (h : DAt CD CP H d A b n s hd la hs gs kv) (f : ∀ a o, H a = some o → (∀ ps, o ≠ .tbl ps) → H' a = some o) : DAt CD CP H' d A b n s hd la hs gs kv :=
  let ⟨dx, z⟩ := h.ob
  let ⟨px, y⟩ := h.pl.ob
  ⟨⟨dx, f _ _ z (by intro _ z; cases z)⟩, h.pl.of fun o e => by rw [y] at e; cases e; exact f _ _ y (by intro _ z; cases z), f _ _ h.ho (by intro _ z; cases z), f _ _ h.lg (by intro _ z; cases z), f _ _ h.pd (by intro _ z; cases z), h.pne, h.hne, h.hl, h.gl⟩
theorem DAt.tk (h : DAt CD CP H d A b n s hd la hs gs kv) (t : Tab Ps H) (k : Tk Ps H H') : DAt CD CP H' d A b n s hd la hs gs kv := h.by fun _ _ e q => k.at t e q
theorem DAt.same (h : DAt CD CP H d A b n s hd la hs gs kv) (e : Same H H') : DAt CD CP H' d A b n s hd la hs gs kv := h.by fun _ _ z _ => e _ _ z
/-- the numbers are written -/
theorem DAt.num (h : DAt CD CP H d A b n s hd la hs gs kv) {dx : Addr} (hd' la' : Int) : DAt CD CP (upd H d (.ins CD dx (dskF A hd' la'))) d A b n s hd' la' hs gs kv := by
  obtain ⟨dz, z⟩ := h.ob
  obtain ⟨px, y⟩ := h.pl.ob
  have n1 : A.ho ≠ d := ne_of h.ho z (by intro q; cases q)
  have n2 : A.lg ≠ d := ne_of h.lg z (by intro q; cases q)
  have n3 : A.pd ≠ d := ne_of h.pd z (by intro q; cases q)
  exact ⟨⟨dx, upd_same⟩, h.pl.of fun o e => by rw [upd_ne h.pne]; exact e, by rw [upd_ne n1]; exact h.ho, by rw [upd_ne n2]; exact h.lg, by rw [upd_ne n3]; exact h.pd, h.pne, h.hne, h.hl, h.gl⟩
theorem DAt.pend (h : DAt CD CP H d A b n s hd la hs gs kv) (kv' : List (Key × V)) : DAt CD CP (upd H A.pd (.dK kv')) d A b n s hd la hs gs kv' := by
  obtain ⟨dz, z⟩ := h.ob
  obtain ⟨px, y⟩ := h.pl.ob
  have n1 : d ≠ A.pd := ne_of z h.pd (by intro q; cases q)
  have n2 : A.p ≠ A.pd := ne_of y h.pd (by intro q; cases q)
  have n3 : A.ho ≠ A.pd := ne_of h.ho h.pd (by intro q; cases q)
  have n4 : A.lg ≠ A.pd := ne_of h.lg h.pd (by intro q; cases q)
  exact ⟨⟨dz, by rw [upd_ne n1]; exact z⟩, h.pl.of fun o e => by rw [upd_ne n2]; exact e, by rw [upd_ne n3]; exact h.ho, by rw [upd_ne n4]; exact h.lg, upd_same, h.pne, h.hne, h.hl, h.gl⟩
theorem DAt.setL (h : DAt CD CP H d A b n s hd la hs gs kv) (i : Nat) (v : V) : DAt CD CP (upd H A.lg (.lst (gs.set i v))) d A b n s hd la hs (gs.set i v) kv := by
  obtain ⟨dz, z⟩ := h.ob
  obtain ⟨px, y⟩ := h.pl.ob
  have n1 : d ≠ A.lg := ne_of z h.lg (by intro q; cases q)
  have n2 : A.p ≠ A.lg := ne_of y h.lg (by intro q; cases q)
  have n4 : A.pd ≠ A.lg := ne_of h.pd h.lg (by intro q; cases q)
  exact ⟨⟨dz, by rw [upd_ne n1]; exact z⟩, h.pl.of fun o e => by rw [upd_ne n2]; exact e, by rw [upd_ne h.hne]; exact h.ho, upd_same, by rw [upd_ne n4]; exact h.pd, h.pne, h.hne, h.hl, by rw [List.length_set]; exact h.gl⟩
theorem DAt.setH (h : DAt CD CP H d A b n s hd la hs gs kv) (i : Nat) (v : V) : DAt CD CP (upd H A.ho (.lst (hs.set i v))) d A b n s hd la (hs.set i v) gs kv := by
  obtain ⟨dz, z⟩ := h.ob
  obtain ⟨px, y⟩ := h.pl.ob
  have n1 : d ≠ A.ho := ne_of z h.ho (by intro q; cases q)
  have n2 : A.p ≠ A.ho := ne_of y h.ho (by intro q; cases q)
  have n4 : A.pd ≠ A.ho := ne_of h.pd h.ho (by intro q; cases q)
  exact ⟨⟨dz, by rw [upd_ne n1]; exact z⟩, h.pl.of fun o e => by rw [upd_ne n2]; exact e, upd_same, by rw [upd_ne h.hne.symm]; exact h.lg, by rw [upd_ne n4]; exact h.pd, h.pne, h.hne, by rw [List.length_set]; exact h.hl, h.gl⟩
end
section
variable {P : Program} {w : World} {K : PySem.W.Frag} {mg : Str → Option Value} {base : Heap}
/-- nothing pends: no place is busy -/
def sp_busy (CD CP : Addr) (Ps : List Addr) : Sp := fun vs H Q _ => ∃ (d : Addr) (v : V) (A : DA) (b n s hd la : Int) (hs gs : List V), vs = [.ref d, v] ∧ DAt CD CP H d A b n s hd la hs gs [] ∧ Tab Ps H ∧ ∀ H', Tk Ps H H' → Q (.bl false) H'
theorem ok_busy (T : Tx K mg) (B : TBs T base) : FnOk P w K mg base CX0 4 T.f_Disk_busy T.fd_Disk_busy ["self", "place"] (sp_busy T.C_Disk T.C_Plan T.Ps) := by
  refine fun_okC T.F_Disk_busy T.code_Disk_busy sc_Disk_busy (fun vs H Q E h => ?_) (fun A outer s H vs Q E hr h => ?_)
  · obtain ⟨_, _, _, _, _, _, _, _, _, _, rfl, _⟩ := h; rfl
  · obtain ⟨d, v, A, b, n, sl, hd, la, hs, gs, rfl, D, ht, k⟩ := h
    refine ⟨_, (pss_one (ps_ret (pe_lock (GxL.pe_anyG (k := 0) (own := [("taken", 2), ("_", 3)]) (g := _) (tt := tYes) hr rfl T.b_any B.t_Disk_busy rfl (GxL.gsc_by (by decide +kernel)) (blkOk_by (N := ["self", "place", "taken", "_"]) (sc := defScope s_Disk_busy) (by decide +kernel)) sc_Disk_busy.nd (pi_values (pe_fld (pv 0) rfl))
      (fun _ _ _ _ _ => pg_tupK (K := K) (n := 2) rfl (pgs_cons (pg_name (i := 2) sc_Disk_busy.nd rfl (.inl rfl)) (pgs_cons (pg_name (i := 3) sc_Disk_busy.nd rfl (.inl rfl)) pgs_nil))) (fun _ _ _ _ _ _ => pts_nil) (fun _ _ _ _ _ _ => pe_cmpR op_eq (pv 1) (pv 2) (nomark _)))))), ?_⟩
    obtain ⟨dx, ho⟩ := D.ob
    have n1 : d ≠ A.pd := ne_of ho D.pd (by intro q; cases q)
    refine ⟨A.pd, _, D.pd, trivial, fun od => ?_⟩
    have t1 : Tab T.Ps (upd H A.pd (.frz od (.dK []))) := ht.upd D.pd (by intro _ q; cases q)
    refine ⟨_, rfl, d, _, _, _, _, rfl, by rw [upd_ne n1]; exact ho, T.cl_Disk, T.na_Disk__pending, rfl, A.pd, od, [], rfl, upd_same, t1 _ T.in_Disk_busy, fun H2 hT => ?_⟩
    have np : A.pd ≠ T.P_Disk_busy := ht.ne T.in_Disk_busy D.pd (by intro _ q; cases q)
    have e2 : H2 A.pd = some (.frz od (.dK [])) := by rw [hT.2 _ np]; exact upd_same
    refine gx_by 0 (fun _ H3 => H3 = H2) rfl (fun i H3 hi _ => absurd hi (Nat.not_lt_zero _)) (fun H3 e => ?_) (fun i _ _ _ hi => absurd hi (Nat.not_lt_zero _)) (fun H3 e => ?_)
    · subst e
      exact ⟨e2, Nat.le_refl _⟩
    · subst e
      refine ⟨e2, k _ ⟨?_, fun x o hx nx => ?_⟩⟩
      · exact (Tk.tabbed t1 T.in_Disk_busy hT).tab.upd e2 (by intro _ q; cases q)
      · by_cases z : x = A.pd
        · rw [z, upd_same, ← D.pd, ← z]
          exact hx
        · rw [upd_ne z, hT.2 x fun q => nx (q ▸ T.in_Disk_busy), upd_ne z]
          exact hx
def sp_put (CD CP : Addr) (K : PySem.W.Frag) : Sp := fun vs H Q _ => ∃ (d a : Addr) (v : V) (A : DA) (b n s hd la : Int) (hs gs : List V) (kv : List (Key × V)) (q : Plc), vs = [.ref d, .ref a, v] ∧ DAt CD CP H d A b n s hd la hs gs kv ∧ PlcAt K H a q ∧ match q with
  | .home i => 0 ≤ i ∧ i ≤ b - 1 ∧ Q .non (upd H A.ho (.lst (hs.set i.toNat v)))
  | .log i => 0 ≤ i ∧ i ≤ s - 1 ∧ Q .non (upd H A.lg (.lst (gs.set i.toNat v)))
theorem ok_put (T : Tx K mg) : FnOk P w K mg base CX0 1 T.f_Disk__put T.fd_Disk__put ["self", "place", "what"] (sp_put T.C_Disk T.C_Plan K) := by
  refine T.F_Disk__put.ok sc_Disk__put (fun vs H Q E h => ?_) (fun cdv A outer s H vs Q E hr h => ?_)
  · obtain ⟨_, _, _, _, _, _, _, _, _, _, _, _, _, rfl, _⟩ := h; rfl
  · obtain ⟨d, a, v, A, b, n, sl, hd, la, hs, gs, kv, q, rfl, D, hq, k⟩ := h
    refine ⟨_, (pss_cons (ps_asg (pv 1) (pg_tup rfl (pgs_cons (pg_name (i := 3) sc_Disk__put.nd rfl (.inl rfl)) (pgs_cons (pg_name (i := 4) sc_Disk__put.nd rfl (.inl rfl)) pgs_nil))))
      (pss_one (ps_if (pt_cmpR op_eq (pv 3) pe_str (nomark _))
        (pss_one (ps_asg (pv 2) (pg_sub (pe_fld (pv 0) rfl) (pv 4) set_list)))
        (pss_one (ps_asg (pv 2) (pg_sub (pe_fld (pv 0) rfl) (pv 4) set_list)))))), ?_⟩
    obtain ⟨dx, ho⟩ := D.ob
    cases q with
    | home i =>
      have hq : SqT K H a [.str "home", .int i] := hq
      obtain ⟨h0, h1, k⟩ := k
      have := D.hl
      refine ⟨_, rfl, a, _, rfl, hq, rfl, _, _, rfl, _, _, rfl, rfl, _, rfl, rfl, _, rfl, iteT ?_⟩
      exact ⟨_, rfl, _, rfl, d, _, _, _, _, rfl, ho, T.cl_Disk, T.na_Disk_home, rfl, _, rfl, A.ho, hs, i, i.toNat, rfl, rfl, D.ho, ixN_at (by omega) (by omega), k⟩
    | log i =>
      have hq : SqT K H a [.str "log", .int i] := hq
      obtain ⟨h0, h1, k⟩ := k
      have := D.gl
      refine ⟨_, rfl, a, _, rfl, hq, rfl, _, _, rfl, _, _, rfl, rfl, _, rfl, rfl, _, rfl, iteF ?_⟩
      exact ⟨_, rfl, _, rfl, d, _, _, _, _, rfl, ho, T.cl_Disk, T.na_Disk_log, rfl, _, rfl, A.lg, gs, i, i.toNat, rfl, rfl, D.lg, ixN_at (by omega) (by omega), k⟩
end
end K46
namespace K46
open PySem PySem.Spec PyProof.Rows L2 Rg
section
variable {P : Program} {w : World} {K : PySem.W.Frag} {mg : Str → Option Value} {base : Heap}
/-- nothing pends; a good write is taken -/
def sp_issue (CD CP : Addr) (K : PySem.W.Frag) (Ps : List Addr) : Sp := fun vs H Q _ => ∃ (d a u : Addr) (A : DA) (b n s hd la : Int) (hs gs : List V) (q : Plc), vs = [.ref d, .ref a, .ref u] ∧ DAt CD CP H d A b n s hd la hs gs [] ∧ PlcAt K H a q ∧ WhatAt K H u b s q ∧ Tab Ps H ∧
  ∀ (H' : Hp) (t : Addr), Tab Ps H' → Kp (d :: A.pd :: Ps) H H' → DAt CD CP H' d A b n s hd (la + 1) hs gs [(Sum.inl (la + 1), .ref t)] → H' t = some (.tup [.ref a, .ref u]) → Q (.int (la + 1)) H'
theorem ok_issue (T : Tx K mg) (B : TBs T base) : FnOk P w K mg base CX0 10 T.f_Disk_issue T.fd_Disk_issue ["self", "place", "what"] (sp_issue T.C_Disk T.C_Plan K T.Ps) := by
  refine T.F_Disk_issue.ok sc_Disk_issue (fun vs H Q E h => ?_) (fun cdv A outer s H vs Q E hr h => ?_)
  · obtain ⟨_, _, _, _, _, _, _, _, _, _, _, _, rfl, _⟩ := h; rfl
  · obtain ⟨d, a, u, A, b, n, sl, hd, la, hs, gs, q, rfl, D, hq, hw, ht, k⟩ := h
    have hr2 := hr.mono (show 2 ≤ 9 by decide)
    have hr4 := hr.mono (show 4 ≤ 9 by decide)
    refine ⟨_, (pss_cons (ps_if (PW.pt (pw_or (pt_not (pt_val (pe_call (ok_is_place T) hr2 rfl T.mg_is_place T.F_is_place.kp (b_is_place T) .nil pass0 (pa_cons (pe_fld (pv 0) rfl) (pa_cons (pv 1) pa_nil))))) (pw_or1 (pt_not (pt_val (pe_call (ok_is_content T B) hr rfl T.mg_is_content T.F_is_content.kp (b_is_content T) .nil pass0 (pa_cons (pe_fld (pv 0) rfl) (pa_cons (pv 1) (pa_cons (pv 2) pa_nil)))))))))
        (pss_one ps_never)
        pss_nil)
      (pss_cons (ps_if (pt_val (pe_meth (pv 0) T.cl_Disk T.m_Disk_busy (ok_busy T B) hr4 (b_Disk_busy T) .nil pass0 (pa_cons (pv 1) pa_nil)))
        (pss_one ps_never)
        pss_nil)
      (pss_cons (ps_fldaug (pv 0) pe_int in_add)
      (pss_cons (ps_dput (hu_of hr) (pe_fld (pv 0) rfl) (pe_fld (pv 0) rfl) (pe_tup (pa_cons (pv 1) (pa_cons (pe_tupleOf rfl T.b_tuple (pv 2)) pa_nil))) rfl)
      (pss_one (ps_ret (pe_fld (pv 0) rfl))))))), ?_⟩
    obtain ⟨dx, ho⟩ := D.ob
    refine ⟨_, rfl, d, _, _, _, _, rfl, ho, T.cl_Disk, T.na_Disk_plan, rfl, _, rfl, A.p, a, b, n, sl, q, rfl, hq, hw.rng, D.pl, _, rfl, iteF ?_⟩
    refine ⟨_, rfl, d, _, _, _, _, rfl, ho, T.cl_Disk, T.na_Disk_plan, rfl, _, rfl, _, rfl, A.p, a, u, b, n, sl, q, rfl, hq, hw, D.pl, ht, fun H1 k1 => ⟨_, rfl, iteF ?_⟩⟩
    have D1 := D.tk ht k1
    refine ⟨_, rfl, d, _, _, rfl, k1.at ht ho, rfl, _, rfl, d, _, A, b, n, sl, hd, la, hs, gs, rfl, D1, k1.tab, fun H2 k2 => ⟨_, rfl, iteF ?_⟩⟩
    have D2 := D1.tk k1.tab k2
    have k12 := k1.trans k2
    have ho2 := k12.at ht ho
    have hw2 := hw.by (H1 := H2) fun _ _ => k12.seqT ht
    obtain ⟨xs, hT⟩ := hw2.tup
    refine ⟨_, rfl, d, _, _, _, _, rfl, ho2, T.cl_Disk, T.na_Disk_last, rfl, la, 1, rfl, rfl, _, _, ho2, by show 6 < 1000; decide, ?_⟩
    have D3 : DAt T.C_Disk T.C_Plan (upd H2 d (.ins T.C_Disk dx (dskF A hd (la + 1)))) d A b n sl hd (la + 1) hs gs [] := D2.num hd (la + 1)
    have T3 : Tab T.Ps (upd H2 d (.ins T.C_Disk dx (dskF A hd (la + 1)))) := k12.tab.upd ho2 (by intro _ z; cases z)
    have K3 : Kp (d :: A.pd :: T.Ps) H (upd H2 d (.ins T.C_Disk dx (dskF A hd (la + 1)))) := fun x o hx nx => by
      rw [upd_ne fun z => nx (by simp [z])]
      exact k12.kp x o hx fun z => nx (by simp [z])
    have hT3 : SqT K (upd H2 d (.ins T.C_Disk dx (dskF A hd (la + 1)))) u xs := by
      rcases hT with (e | ⟨o, e⟩) | e
      · exact .inl (.inl (by rw [upd_ne (ne_of e ho2 (by intro z; cases z))]; exact e))
      · exact .inl (.inr ⟨o, by rw [upd_ne (ne_of e ho2 (by intro z; cases z))]; exact e⟩)
      · exact .inr e
    have o3 := upd_same (H := H2) (a := d) (o := .ins T.C_Disk dx (dskF A hd (la + 1)))
    show tSeq _ _ _ _ (upd H2 d (.ins T.C_Disk dx (dskF A hd (la + 1))))
    generalize upd H2 d (.ins T.C_Disk dx (dskF A hd (la + 1))) = H3 at D3 T3 K3 hT3 o3 ⊢
    refine ⟨_, rfl, _, rfl, .inr ⟨u, xs, rfl, hT3, ?_⟩⟩
    refine ⟨by show 2 ≤ sizeLine; decide, fun t nt => ?_⟩
    have D4 := D3.same (same_upd (o := .tup [.ref a, .ref u]) nt)
    have T4 := T3.new (o := .tup [.ref a, .ref u]) nt
    have o4 : upd H3 t (.tup [.ref a, .ref u]) d = _ := (upd_ne (ne_of_none o3 nt)).trans o3
    have t4 := upd_same (H := H3) (a := t) (o := .tup [.ref a, .ref u])
    have K4 : Kp (d :: A.pd :: T.Ps) H (upd H3 t (.tup [.ref a, .ref u])) := K3.new nt
    generalize upd H3 t (.tup [.ref a, .ref u]) = H4 at D4 T4 o4 t4 K4 ⊢
    refine ⟨_, rfl, d, _, _, _, _, rfl, o4, T.cl_Disk, T.na_Disk__pending, rfl, _, rfl, d, _, _, _, _, rfl, o4, T.cl_Disk, T.na_Disk_last, rfl, A.pd, _, rfl, DPut.k (k := Sum.inl (la + 1)) D4.pd (by decide), ?_⟩
    have D5 := D4.pend [(Sum.inl (la + 1), .ref t)]
    have nd : d ≠ A.pd := ne_of o4 D4.pd (by intro z; cases z)
    refine ⟨_, rfl, d, _, _, _, _, rfl, by rw [upd_ne nd]; exact o4, T.cl_Disk, T.na_Disk_last, rfl, ?_⟩
    refine k _ t (T4.upd D4.pd (by intro _ z; cases z)) (K4.own (by simp)) D5 ?_
    rw [upd_ne (ne_of t4 D4.pd (by intro z; cases z))]
    exact t4
end
end K46
namespace K46
open PySem PySem.Spec PyProof.Rows L2 Rg
def putH (q : Plc) (v : V) (hs : List V) : List V := match q with
  | .home i => hs.set i.toNat v
  | .log _ => hs
def putG (q : Plc) (v : V) (gs : List V) : List V := match q with
  | .home _ => gs
  | .log i => gs.set i.toNat v
def zer8 : List V := [.int 0, .int 0, .int 0, .int 0, .int 0, .int 0, .int 0, .int 0]
section
variable {P : Program} {w : World} {K : PySem.W.Frag} {mg : Str → Option Value} {base : Heap}
def sp_sure (CD CP : Addr) (K : PySem.W.Frag) (Ps : List Addr) : Sp := fun vs H Q _ => ∃ (d a u t : Addr) (m : Int) (A : DA) (b n s hd la : Int) (hs gs : List V) (q : Plc), vs = [.ref d, .int m] ∧ DAt CD CP H d A b n s hd la hs gs [(Sum.inl m, .ref t)] ∧ H t = some (.tup [.ref a, .ref u]) ∧ PlcAt K H a q ∧ Rng b s q ∧ Tab Ps H ∧
  ∀ H' : Hp, Tab Ps H' → Kp [A.pd, A.ho, A.lg] H H' → DAt CD CP H' d A b n s hd la (putH q (.ref u) hs) (putG q (.ref u) gs) [] → Q .non H'
theorem ok_sure (T : Tx K mg) : FnOk P w K mg base CX0 2 T.f_Disk_sure T.fd_Disk_sure ["self", "number"] (sp_sure T.C_Disk T.C_Plan K T.Ps) := by
  refine T.F_Disk_sure.ok sc_Disk_sure (fun vs H Q E h => ?_) (fun cdv A outer s H vs Q E hr h => ?_)
  · obtain ⟨_, _, _, _, _, _, _, _, _, _, _, _, _, _, rfl, _⟩ := h; rfl
  · obtain ⟨d, a, u, t, m, A, b, n, sl, hd, la, hs, gs, q, rfl, D, et, hq, rg, ht, k⟩ := h
    refine ⟨_, (pss_cons (ps_if (pt_cmp (pc_dnotin (hu_of hr) (pv 1) (pe_fld (pv 0) rfl)) rfl)
        (pss_one ps_never)
        pss_nil)
      (pss_cons (ps_asg (pe_dpop1 (pe_fld (pv 0) rfl) (pv 1) ⟨rfl, rfl, rfl, rfl⟩) (pg_tup rfl (pgs_cons (pg_name (i := 2) sc_Disk_sure.nd rfl (.inl rfl)) (pgs_cons (pg_name (i := 3) sc_Disk_sure.nd rfl (.inl rfl)) pgs_nil))))
      (pss_one (ps_expr (pe_meth (pv 0) T.cl_Disk T.m_Disk__put (ok_put T) hr (b_Disk__put T) .nil pass0 (pa_cons (pv 2) (pa_cons (pv 3) pa_nil))))))), ?_⟩
    obtain ⟨dx, ho⟩ := D.ob
    have ev : valV [((Sum.inl m : Key), V.ref t)] (Sum.inl m) = some (.ref t) := valV_pos rfl
    have ed : dropK [((Sum.inl m : Key), V.ref t)] (Sum.inl m) = [] := by simp [dropK]
    refine ⟨_, rfl, _, rfl, d, _, _, _, _, rfl, ho, T.cl_Disk, T.na_Disk__pending, rfl, A.pd, some (.ref t), rfl, ?_, _, rfl, iteF ?_⟩
    · rw [← ev]
      exact DGet.k (k := Sum.inl m) D.pd
    refine ⟨_, rfl, d, _, _, _, _, rfl, ho, T.cl_Disk, T.na_Disk__pending, rfl, A.pd, rfl, .inl ⟨_, .inl D.pd⟩, _, rfl, _, Sum.inl m, .ref t, D.pd, rfl, ev, ?_⟩
    rw [ed]
    have D1 := D.pend []
    have nd : d ≠ A.pd := ne_of ho D.pd (by intro z; cases z)
    have nt : t ≠ A.pd := ne_of et D.pd (by intro z; cases z)
    have hq1 : PlcAt K (upd H A.pd (.dK [])) a q := hq.by fun c xs h => by
      rcases h with (e | ⟨o, e⟩) | e
      · exact .inl (.inl (by rw [upd_ne (ne_of e D.pd (by intro z; cases z))]; exact e))
      · exact .inl (.inr ⟨o, by rw [upd_ne (ne_of e D.pd (by intro z; cases z))]; exact e⟩)
      · exact .inr e
    refine ⟨t, _, rfl, .of (by rw [upd_ne nt]; exact et), rfl, _, _, rfl, _, _, rfl, rfl, _, rfl, d, _, _, rfl, by rw [upd_ne nd]; exact ho, rfl, _, rfl, _, rfl, d, a, _, A, b, n, sl, hd, la, hs, gs, [], q, rfl, D1, hq1, ?_⟩
    have T1 : Tab T.Ps (upd H A.pd (.dK [])) := ht.upd D.pd (by intro _ z; cases z)
    cases q with
    | home i =>
      exact ⟨rg.1, rg.2, k _ (T1.upd D1.ho (by intro _ z; cases z)) ((Kp.refl.own (by simp)).own (by simp)) (D1.setH i.toNat (.ref u))⟩
    | log i =>
      exact ⟨rg.1, rg.2, k _ (T1.upd D1.lg (by intro _ z; cases z)) ((Kp.refl.own (by simp)).own (by simp)) (D1.setL i.toNat (.ref u))⟩
def sp_Disk_init (CD CP : Addr) : Sp := fun vs H Q _ => ∃ (d dx p : Addr) (b n s : Int), vs = [.ref d, .ref p] ∧ H d = some (.ins CD dx []) ∧ PlanAt CP H p b n s ∧ p ≠ d ∧
  ∀ (H' : Hp) (A : DA) (ts : List Addr), A.p = p → Kp [d] H H' → H A.ho = none → H A.lg = none → DAt CD CP H' d A b n s 0 0 (ts.map V.ref) (List.replicate s.toNat .non) [] → (∀ t ∈ ts, H' t = some (.tup zer8)) → Q .non H'
theorem ok_Disk_init (T : Tx K mg) : FnOk P w K mg base CX0 1 T.f_Disk___init__ T.fd_Disk___init__ ["self", "plan"] (sp_Disk_init T.C_Disk T.C_Plan) := by
  refine T.F_Disk___init__.ok sc_Disk___init__ (fun vs H Q E h => ?_) (fun cdv A outer s H vs Q E hr h => ?_)
  · obtain ⟨_, _, _, _, _, _, rfl, _⟩ := h; rfl
  · obtain ⟨d, dx, p, b, n, sl, rfl, ho, hP, npd, k⟩ := h
    refine ⟨_, (pss_cons (ps_fld (pv 0) (pv 1) rfl)
      (pss_cons (ps_fld (pv 0) (pe_lc rfl (own := [("_", 2)]) (g := gName 2) (tt := tYes) sc_Disk___init__.nd (pi_range1 rfl T.b_range (pa_cons (pe_fld (pv 1) rfl) pa_nil)) (blkOk_by (N := ["self", "plan", "_"]) (sc := defScope s_Disk___init__) (by decide +kernel)) (fun _ _ _ _ _ => pg_name (i := 2) sc_Disk___init__.nd rfl (Or.inl rfl)) (fun _ _ _ _ _ => pts_nil) (fun _ _ _ _ _ => (pe_op (op_repTK (K := K)) (pe_tup (pa_cons pe_int pa_nil)) (pe_cv T.mg_Plan T.cr_Plan T.cv_Plan_WIDTH)))) rfl)
      (pss_cons (ps_fld (pv 0) (pe_lc rfl (own := [("_", 2)]) (g := gName 2) (tt := tYes) sc_Disk___init__.nd (pi_range1 rfl T.b_range (pa_cons (pe_fld (pv 1) rfl) pa_nil)) (blkOk_by (N := ["self", "plan", "_"]) (sc := defScope s_Disk___init__) (by decide +kernel)) (fun _ _ _ _ _ => pg_name (i := 2) sc_Disk___init__.nd rfl (Or.inl rfl)) (fun _ _ _ _ _ => pts_nil) (fun _ _ _ _ _ => pe_non)) rfl)
      (pss_cons (ps_fld (pv 0) pe_int rfl)
      (pss_cons (ps_fld (pv 0) pe_int rfl)
      (pss_one (ps_fld (pv 0) pe_dnewK rfl))))))), ?_⟩
    obtain ⟨px, hpo⟩ := hP.ob
    have hb0 : 8 ≤ b := hP.b1
    have hb1 : b ≤ 64 := hP.b2
    have hs0 : b < sl := hP.s1
    have hs1 : sl ≤ 200 := hP.s2
    refine ⟨_, rfl, _, rfl, d, _, _, _, rfl, ho, T.cl_Disk, T.na_Disk_plan, by show 0 < 1000; decide, ?_⟩
    have o1 := upd_same (H := H) (a := d) (o := .ins T.C_Disk dx [("plan", .ref p)])
    have p1 : upd H d (.ins T.C_Disk dx [("plan", .ref p)]) p = _ := (upd_ne npd).trans hpo
    have k1 : Kp [d] H (upd H d (.ins T.C_Disk dx [("plan", .ref p)])) := Kp.refl.own1
    show tSeq _ _ _ _ (upd H d (.ins T.C_Disk dx [("plan", .ref p)]))
    generalize upd H d (.ins T.C_Disk dx [("plan", .ref p)]) = H1 at o1 p1 k1 ⊢
    -- the home places
    refine ⟨_, rfl, p, _, _, _, _, rfl, p1, T.cl_Plan, T.na_Plan_blocks, rfl, b, rfl, by omega, by omega, fun D nD => ?_⟩
    refine lc_range (lo := 0) (n := b.toNat) (fun i H2 => ∃ ts : List Addr, ts.length = i ∧ H2 D = some (.lst (ts.map V.ref)) ∧ (∀ t ∈ ts, H2 t = some (.tup zer8)) ∧ Same H1 H2) ⟨[], rfl, upd_same, by simp, same_upd nD⟩ ?_ ?_
    · rintro i H2 hi ⟨ts, h1, h2, h3, S2⟩
      refine ⟨rfl, yes_ ⟨by show 1 ≤ sizeLine; decide, fun t0 nt0 => ⟨t0, 8, _, rfl, rfl, .of upd_same, by simp, by decide, by decide, by decide, fun t nt => ?_⟩⟩⟩
      have e0 : (List.replicate (8 : Int).toNat [V.int 0]).flatten = zer8 := by decide
      rw [e0]
      have nDt0 : D ≠ t0 := ne_of_none h2 nt0
      have eD : upd (upd H2 t0 (.tup [.int 0])) t (.tup zer8) D = some (.lst (ts.map V.ref)) := by
        rw [upd_ne (ne_of_none (by rw [upd_ne nDt0]; exact h2) nt), upd_ne nDt0]
        exact h2
      refine ⟨_, eD, ?_, ts ++ [t], by simp [h1], ?_, fun x hx => ?_, fun x o hx => ?_⟩
      · rw [List.length_map, h1]
        exact Nat.lt_of_lt_of_le (show i < 64 by omega) (by decide)
      · rw [upd_same, List.map_append]
        rfl
      · have key : ∀ y, (upd (upd H2 t0 (.tup [.int 0])) t (.tup zer8)) y = some (.tup zer8) → upd (upd (upd H2 t0 (.tup [.int 0])) t (.tup zer8)) D (.lst (ts.map V.ref ++ [.ref t])) y = some (.tup zer8) := fun y ey => by
          rw [upd_ne fun z => by rw [z, eD] at ey; cases ey]
          exact ey
        rcases List.mem_append.mp hx with z | z
        · refine key x ?_
          have ex := h3 x z
          have n1 : x ≠ t0 := ne_of_none ex nt0
          rw [upd_ne (ne_of_none (by rw [upd_ne n1]; exact ex) nt), upd_ne n1]
          exact ex
        · have : x = t := by simpa using z
          exact key x (by rw [this]; exact upd_same)
      · have hx2 := S2 x o hx
        have n1 : x ≠ t0 := ne_of_none hx2 nt0
        rw [upd_ne (ne_of_none hx nD), upd_ne (ne_of_none (by rw [upd_ne n1]; exact hx2) nt), upd_ne n1]
        exact hx2
    rintro H2 ⟨ts, l2, e2, z2, S2⟩
    have o2 := S2 _ _ o1
    have p2 := S2 _ _ p1
    have nDd : D ≠ d := ne_of e2 o2 (by intro z; cases z)
    have zd : ∀ t ∈ ts, t ≠ d := fun t ht => ne_of (z2 t ht) o2 (by intro z; cases z)
    refine ⟨_, rfl, d, _, _, _, rfl, o2, T.cl_Disk, T.na_Disk_home, by show 1 < 1000; decide, ?_⟩
    have o3 := upd_same (H := H2) (a := d) (o := .ins T.C_Disk dx [("plan", .ref p), ("home", .ref D)])
    have p3 : upd H2 d (.ins T.C_Disk dx [("plan", .ref p), ("home", .ref D)]) p = _ := (upd_ne npd).trans p2
    have e3 : upd H2 d (.ins T.C_Disk dx [("plan", .ref p), ("home", .ref D)]) D = _ := (upd_ne nDd).trans e2
    have z3 : ∀ t ∈ ts, upd H2 d (.ins T.C_Disk dx [("plan", .ref p), ("home", .ref D)]) t = some (.tup zer8) := fun t ht => (upd_ne (zd t ht)).trans (z2 t ht)
    have k3 : Kp [d] H (upd H2 d (.ins T.C_Disk dx [("plan", .ref p), ("home", .ref D)])) := (k1.same S2).own1
    show tSeq _ _ _ _ (upd H2 d (.ins T.C_Disk dx [("plan", .ref p), ("home", .ref D)]))
    generalize upd H2 d (.ins T.C_Disk dx [("plan", .ref p), ("home", .ref D)]) = H3 at o3 p3 e3 z3 k3 ⊢
    -- the log
    refine ⟨_, rfl, p, _, _, _, _, rfl, p3, T.cl_Plan, T.na_Plan_slots, rfl, sl, rfl, by omega, by omega, fun G nG => ?_⟩
    refine lc_range (lo := 0) (n := sl.toNat) (fun i H4 => H4 = upd H3 G (.lst (List.replicate i .non))) rfl ?_ ?_
    · rintro i H4 hi rfl
      refine ⟨rfl, yes_ ⟨_, upd_same, ?_, ?_⟩⟩
      · rw [List.length_replicate]
        exact Nat.lt_of_lt_of_le (show i < 200 by omega) (by decide)
      · rw [upd_upd, List.replicate_succ']
    rintro H4 e4
    have S4 : Same H3 H4 := by rw [e4]; exact same_upd nG
    have g4 : H4 G = some (.lst (List.replicate sl.toNat .non)) := by rw [e4]; exact upd_same
    have o4 := S4 _ _ o3
    have p4 := S4 _ _ p3
    have d4 := S4 _ _ e3
    have nGd : G ≠ d := ne_of g4 o4 (by intro z; cases z)
    have nDG : D ≠ G := ne_of_none e3 nG
    refine ⟨_, rfl, d, _, _, _, rfl, o4, T.cl_Disk, T.na_Disk_log, by show 2 < 1000; decide, ?_⟩
    refine ⟨_, rfl, d, _, _, _, rfl, upd_same, T.cl_Disk, T.na_Disk_head, by show 3 < 1000; decide, ?_⟩
    refine ⟨_, rfl, d, _, _, _, rfl, upd_same, T.cl_Disk, T.na_Disk_last, by show 4 < 1000; decide, fun pd npd2 => ?_⟩
    rw [upd_upd, upd_upd] at npd2 ⊢
    have nPd : pd ≠ d := fun z => by rw [z, upd_same] at npd2; cases npd2
    have npd3 : H4 pd = none := by rw [upd_ne nPd] at npd2; exact npd2
    refine ⟨_, rfl, d, _, _, _, rfl, by rw [upd_ne nPd.symm]; exact upd_same, T.cl_Disk, T.na_Disk__pending, by show 5 < 1000; decide, ?_⟩
    rw [upd_comm nPd.symm, upd_upd]
    refine k _ ⟨p, D, G, pd⟩ ts rfl ?_ (k1.free (by simpa using nDd) nD) (k3.free (by simpa using nGd) nG) ⟨⟨dx, upd_same⟩, hP.of fun o e => ?_, ?_, ?_, ?_, npd, nDG, ?_, ?_⟩ fun t ht => ?_
    · exact (((k3.same S4).new npd3).own1 (p := d))
    · rw [hpo] at e
      cases e
      rw [upd_ne npd, upd_ne (ne_of_none p4 npd3)]
      exact p4
    · show upd _ d _ D = _
      rw [upd_ne nDd, upd_ne (ne_of_none d4 npd3)]
      exact d4
    · show upd _ d _ G = _
      rw [upd_ne nGd, upd_ne (ne_of_none g4 npd3)]
      exact g4
    · show upd _ d _ pd = _
      rw [upd_ne nPd, upd_same]
    · rw [List.length_map, l2]
      omega
    · rw [List.length_replicate]
      omega
    · have := S4 _ _ (z3 t ht)
      rw [upd_ne (zd t ht), upd_ne (ne_of_none this npd3)]
      exact this
end
end K46
namespace K46
open PySem PySem.Spec PyProof.Rows L2 Rg
/-! ### the log as a list of records with their places -/
abbrev LogL : Type := List (Option (Addr × Rec))
def gV : Option (Addr × Rec) → V
  | none => .non
  | some (a, _) => .ref a
/-- its records stand, fit, and their lots are at most M -/
def LogAt (K : PySem.W.Frag) (H : Hp) (b s M : Int) (lg : LogL) : Prop := ∀ (i : Nat) (a : Addr) (r : Rec), lg[i]? = some (some (a, r)) → RecAt K H a r ∧ Fit b s r ∧ r.lot ≤ M
theorem LogAt.same {K : PySem.W.Frag} {H H' : Hp} {b s M : Int} {lg : LogL} (h : LogAt K H b s M lg) (e : Same H H') : LogAt K H' b s M lg := fun i a r q => ⟨(h i a r q).1.same e, (h i a r q).2⟩
theorem LogAt.tk {K : PySem.W.Frag} {Ps : List Addr} {H H' : Hp} {b s M : Int} {lg : LogL} (h : LogAt K H b s M lg) (t : Tab Ps H) (k : Tk Ps H H') : LogAt K H' b s M lg := fun i a r q => ⟨(h i a r q).1.tk t k, (h i a r q).2⟩
def isMk (L : Int) : Option (Addr × Rec) → Bool
  | some (_, .mark l _ _) => decide (l = L)
  | _ => false
/-- the first slot that holds a mark of lot L -/
def fm (lg : LogL) (L : Int) : Option Nat := lg.findIdx? (isMk L)
theorem fm_some {lg : LogL} {L : Int} {j : Nat} (h : fm lg L = some j) : ∃ a ps rs, lg[j]? = some (some (a, .mark L ps rs)) := by
  unfold fm at h
  rw [List.findIdx?_eq_some_iff_getElem] at h
  obtain ⟨hj, hp, _⟩ := h
  rw [List.getElem?_eq_getElem hj]
  cases e : lg[j] with
  | none => rw [e] at hp; cases hp
  | some q =>
    obtain ⟨a, r⟩ := q
    rw [e] at hp
    cases r with
    | copy l x c => cases hp
    | mark l ps rs =>
      have : l = L := of_decide_eq_true hp
      subst this
      exact ⟨a, ps, rs, rfl⟩
theorem fm_snoc (lg : LogL) (x : Option (Addr × Rec)) (L : Int) : fm (lg ++ [x]) L = match fm lg L with
    | some j => some j
    | none => if isMk L x = true then some lg.length else none := by
  unfold fm
  rw [List.findIdx?_append]
  cases e : List.findIdx? (isMk L) lg with
  | some j => rfl
  | none =>
    show (List.findIdx? (isMk L) [x]).map (· + lg.length) = _
    by_cases h : isMk L x = true
    · rw [if_pos h, List.findIdx?_cons, if_pos h]
      simp
    · rw [if_neg h, List.findIdx?_cons, if_neg h]
      rfl
/-- the marks from lot L on: their slots and records -/
inductive Due (lg : LogL) : Int → List (Nat × Addr) → Prop
  | nil {L : Int} : fm lg L = none → Due lg L []
  | cons {L : Int} {j : Nat} {a : Addr} {r : Rec} {ds : List (Nat × Addr)} : fm lg L = some j → lg[j]? = some (some (a, r)) → Due lg (L + 1) ds → Due lg L ((j, a) :: ds)
theorem due_ex {K : PySem.W.Frag} {H : Hp} {b s M : Int} {lg : LogL} (hl : LogAt K H b s M lg) : ∀ (n : Nat) (L : Int), M + 1 - L ≤ (n : Int) → ∃ ds, Due lg L ds ∧ ds.length ≤ n
  | 0, L, h => ⟨[], .nil (by
      cases e : fm lg L with
      | none => rfl
      | some j =>
        obtain ⟨a, ps, rs, q⟩ := fm_some e
        have := (hl j a _ q).2.2
        have : L ≤ M := this
        omega), Nat.le_refl _⟩
  | n + 1, L, h => by
    cases e : fm lg L with
    | none => exact ⟨[], .nil e, Nat.zero_le _⟩
    | some j =>
      obtain ⟨a, ps, rs, q⟩ := fm_some e
      obtain ⟨ds, h1, h2⟩ := due_ex hl n (L + 1) (by omega)
      exact ⟨(j, a) :: ds, .cons e q h1, by simp only [List.length_cons]; omega⟩
theorem Due.drop {lg : LogL} {L : Int} {ds : List (Nat × Addr)} (h : Due lg L ds) : ∀ k : Nat, k ≤ ds.length → Due lg (L + k) (ds.drop k) := by
  intro k
  induction k with
  | zero => intro _; simpa using h
  | succ k ih =>
    intro hk
    have q := ih (by omega)
    obtain ⟨⟨j, a⟩, e⟩ : ∃ d, ds.drop k = d :: ds.drop (k + 1) := ⟨ds[k]'(by omega), List.drop_eq_getElem_cons (by omega)⟩
    rw [e] at q
    cases q with
    | cons h1 h2 h3 =>
      rw [show L + ((k + 1 : Nat) : Int) = L + (k : Int) + 1 by omega]
      exact h3
/-- tuples of slots and records stand at ts -/
def MksAt (H : Hp) (ts : List Addr) (ds : List (Nat × Addr)) : Prop := ts.length = ds.length ∧ ∀ (i : Nat) (t : Addr) (p : Nat × Addr), ts[i]? = some t → ds[i]? = some p → H t = some (.tup [.int (p.1 : Int), .ref p.2])
theorem MksAt.same {H H' : Hp} {ts : List Addr} {ds : List (Nat × Addr)} (h : MksAt H ts ds) (e : Same H H') : MksAt H' ts ds := ⟨h.1, fun i t p a b => e _ _ (h.2 i t p a b)⟩
theorem MksAt.snoc {H : Hp} {ts : List Addr} {ds : List (Nat × Addr)} {t : Addr} {p : Nat × Addr} (h : MksAt H ts ds) (e : H t = some (.tup [.int (p.1 : Int), .ref p.2])) : MksAt H (ts ++ [t]) (ds ++ [p]) := by
  refine ⟨by simp [h.1], fun i u q a b => ?_⟩
  by_cases hi : i < ts.length
  · rw [List.getElem?_append_left hi] at a
    rw [List.getElem?_append_left (by rw [← h.1]; exact hi)] at b
    exact h.2 i u q a b
  · have h0 : ts.length ≤ i := Nat.le_of_not_lt hi
    rw [List.getElem?_append_right h0] at a
    rw [List.getElem?_append_right (by rw [← h.1]; exact h0), ← h.1] at b
    cases hk : i - ts.length with
    | zero =>
      rw [hk] at a b
      cases a
      cases b
      exact e
    | succ m =>
      rw [hk] at a
      simp at a
end K46
namespace K46
open PySem PySem.Spec PyProof.Rows L2 Rg
/-! ### records compared -/
def dIt (c : List Int) : PyData := .tuple (c.map PyData.int)
def dPr (p : Int × Int) : PyData := .tuple [.int p.1, .int p.2]
def dR : Rec → PyData
  | .copy l x c => .tuple [.str "copy", .int l, .int x, dIt c]
  | .mark l ps rs => .tuple [.str "mark", .int l, .tuple (ps.map dPr), dIt rs]
theorem r_canI : ∀ ns : List Int, PyData.canLayAll0 (ns.map PyData.int) = true
  | [] => rfl
  | n :: ns => by
    show (PyData.canLay0 (.int n) && PyData.canLayAll0 (ns.map PyData.int)) = true
    rw [r_canI ns]
    rfl
theorem r_depI : ∀ ns : List Int, PyData.depthAll (ns.map PyData.int) = 0
  | [] => rfl
  | n :: ns => by
    show max (PyData.depth (.int n)) (PyData.depthAll (ns.map PyData.int)) = 0
    rw [r_depI ns]
    rfl
theorem r_canP : ∀ ps : List (Int × Int), PyData.canLayAll0 (ps.map dPr) = true
  | [] => rfl
  | p :: ps => by
    show (PyData.canLay0 (dPr p) && PyData.canLayAll0 (ps.map dPr)) = true
    rw [r_canP ps]
    rfl
theorem r_depP : ∀ ps : List (Int × Int), PyData.depthAll (ps.map dPr) ≤ 1
  | [] => Nat.zero_le _
  | p :: ps => by
    show max (PyData.depth (dPr p)) (PyData.depthAll (ps.map dPr)) ≤ 1
    have := r_depP ps
    have : PyData.depth (dPr p) = 1 := rfl
    omega
theorem canR (r : Rec) : PyData.canLay0 (dR r) = true := by
  cases r with
  | copy l x c =>
    show (PyData.canLay0 (.str "copy") && (PyData.canLay0 (.int l) && (PyData.canLay0 (.int x) && (PyData.canLayAll0 (c.map PyData.int) && true)))) = true
    rw [r_canI, show PyData.canLay0 (.str "copy") = true by decide +kernel]
    rfl
  | mark l ps rs =>
    show (PyData.canLay0 (.str "mark") && (PyData.canLay0 (.int l) && (PyData.canLayAll0 (ps.map dPr) && (PyData.canLayAll0 (rs.map PyData.int) && true)))) = true
    rw [r_canI, r_canP, show PyData.canLay0 (.str "mark") = true by decide +kernel]
    rfl
theorem depR (r : Rec) : PyData.depth (dR r) ≤ 3 := by
  cases r with
  | copy l x c =>
    show max (PyData.depth (.str "copy")) (max (PyData.depth (.int l)) (max (PyData.depth (.int x)) (max (PyData.depthAll (c.map PyData.int) + 1) 0))) + 1 ≤ 3
    rw [r_depI]
    show max 0 (max 0 (max 0 (max 1 0))) + 1 ≤ 3
    decide
  | mark l ps rs =>
    show max (PyData.depth (.str "mark")) (max (PyData.depth (.int l)) (max (PyData.depthAll (ps.map dPr) + 1) (max (PyData.depthAll (rs.map PyData.int) + 1) 0))) + 1 ≤ 3
    rw [r_depI]
    have := r_depP ps
    show max 0 (max 0 (max (PyData.depthAll (ps.map dPr) + 1) (max 1 0))) + 1 ≤ 3
    omega
theorem shR (r : Rec) : SeqAt.shaped (dR r) = true := by
  unfold SeqAt.shaped
  rw [canR r, Bool.true_and]
  exact decide_eq_true (Nat.le_trans (depR r) (by decide))
theorem eqR (r : Rec) : PyData.eqv (dR r) (dR r) = true := SeqAt.eqv_refl _ (canR r)
section
variable {K : PySem.W.Frag} {H : Hp}
theorem r_dpAllI : ∀ ns : List Int, DpAll K H (ns.map V.int) (ns.map PyData.int)
  | [] => .nil
  | n :: ns => .cons (.int n) (r_dpAllI ns)
theorem r_dpAllP : ∀ (qs : List Addr) (ps : List (Int × Int)), qs.length = ps.length → (∀ (i : Nat) (q : Addr) (p : Int × Int), qs[i]? = some q → ps[i]? = some p → SqT K H q [.int p.1, .int p.2]) → DpAll K H (qs.map V.ref) (ps.map dPr)
  | [], [], _, _ => .nil
  | q :: qs, p :: ps, hl, h => .cons (.tup (h 0 q p rfl rfl) (.cons (.int _) (.cons (.int _) .nil))) (r_dpAllP qs ps (by simpa using hl) fun i q p a b => h (i + 1) q p (by simpa using a) (by simpa using b))
  | [], _ :: _, hl, _ => by simp at hl
  | _ :: _, [], hl, _ => by simp at hl
theorem dpR {a : Addr} {r : Rec} (h : RecAt K H a r) : Dp K H (.ref a) (dR r) := by
  cases r with
  | copy l x c =>
    obtain ⟨pc, h1, h2⟩ := h
    exact .tup h1 (.cons (.str _) (.cons (.int _) (.cons (.int _) (.cons (.tup h2 (r_dpAllI c)) .nil))))
  | mark l ps rs =>
    obtain ⟨pp, pr, h1, ⟨qs, g1, g2, g3⟩, h3⟩ := h
    exact .tup h1 (.cons (.str _) (.cons (.int _) (.cons (.tup g1 (r_dpAllP qs ps g2 g3)) (.cons (.tup h3 (r_dpAllI rs)) .nil))))
end
/-! ### a log compared with itself -/
def dO : Option (Addr × Rec) → PyData
  | none => .none
  | some (_, r) => dR r
theorem canO (x : Option (Addr × Rec)) : PyData.canLay0 (dO x) = true := by
  cases x with
  | none => rfl
  | some p => exact canR p.2
theorem depO (x : Option (Addr × Rec)) : PyData.depth (dO x) ≤ 3 := by
  cases x with
  | none => exact Nat.zero_le _
  | some p => exact depR p.2
theorem canL : ∀ lg : LogL, PyData.canLayAll0 (lg.map dO) = true
  | [] => rfl
  | x :: lg => by
    show (PyData.canLay0 (dO x) && PyData.canLayAll0 (lg.map dO)) = true
    rw [canO, canL lg]
    rfl
theorem depL : ∀ lg : LogL, PyData.depthAll (lg.map dO) ≤ 3
  | [] => Nat.zero_le _
  | x :: lg => by
    show max (PyData.depth (dO x)) (PyData.depthAll (lg.map dO)) ≤ 3
    have := depO x
    have := depL lg
    omega
theorem shL (lg : LogL) : SeqAt.shaped (.list (lg.map dO)) = true := by
  unfold SeqAt.shaped
  rw [Bool.and_eq_true]
  refine ⟨canL lg, decide_eq_true ?_⟩
  show PyData.depthAll (lg.map dO) + 1 ≤ 64
  have := depL lg
  omega
theorem eqL (lg : LogL) : PyData.eqv (.list (lg.map dO)) (.list (lg.map dO)) = true := SeqAt.eqv_refl _ (canL lg)
theorem dpAllL {K : PySem.W.Frag} {H : Hp} : ∀ lg : LogL, (∀ x ∈ lg, ∀ a r, x = some (a, r) → RecAt K H a r) → DpAll K H (lg.map gV) (lg.map dO)
  | [], _ => .nil
  | x :: lg, h => by
    refine .cons ?_ (dpAllL lg fun y hy => h y (List.mem_cons_of_mem _ hy))
    cases x with
    | none => exact .non
    | some p => exact dpR (h _ List.mem_cons_self p.1 p.2 rfl)
theorem LogAt.dp {K : PySem.W.Frag} {H : Hp} {b s M : Int} {lg : LogL} {q : Addr} (h : LogAt K H b s M lg) (e : SqL K H q (lg.map gV)) : Dp K H (.ref q) (.list (lg.map dO)) := by
  refine .lst e (dpAllL lg fun x hx a r ex => ?_)
  obtain ⟨i, hi⟩ := List.getElem?_of_mem hx
  exact (h i a r (by rw [hi, ex])).1
end K46
namespace K46
open PySem PySem.Spec PyProof.Rows L2 Rg
/-! ### a disk, a feed and a log of one's own -/
section
variable {K : PySem.W.Frag} {CD CP : Addr} {Ps : List Addr} {H H' : Hp} {p d lq : Addr} {A : DA} {b n s hd la M : Int} {hs gs : List V} {lg : LogL} {kv : List (Key × V)}
def Isnt (H : Hp) (a : Addr) : Prop := ∃ o, H a = some o ∧ (∀ xs, o ≠ .tup xs) ∧ ∀ x u, o ≠ .frz x u
theorem seqT_kp {S : List Addr} (k : Kp S H H') (z : ∀ a ∈ S, Isnt H a) {a : Addr} {xs : List V} (h : SqT K H a xs) : SqT K H' a xs := by
  rcases h with (h | ⟨o, h⟩) | h
  · exact .inl (.inl (k _ _ h fun q => let ⟨o, e, n1, _⟩ := z a q; n1 xs (Option.some.inj (e.symm.trans h))))
  · exact .inl (.inr ⟨o, k _ _ h fun q => let ⟨u, e, _, n2⟩ := z a q; n2 _ _ (Option.some.inj (e.symm.trans h))⟩)
  · exact .inr h
theorem LogAt.kp {S : List Addr} (k : Kp S H H') (z : ∀ a ∈ S, Isnt H a) (h : LogAt K H b s M lg) : LogAt K H' b s M lg := fun i a r q => ⟨(h i a r q).1.by fun _ _ => seqT_kp k z, (h i a r q).2⟩
theorem LogAt.mono {M' : Int} (h : LogAt K H b s M lg) (le : M ≤ M') : LogAt K H b s M' lg := fun i a r q => ⟨(h i a r q).1, (h i a r q).2.1, Int.le_trans (h i a r q).2.2 le⟩
theorem LogAt.set (h : LogAt K H b s M lg) {a : Addr} {r : Rec} (e : RecAt K H a r) (f : Fit b s r) (m : r.lot ≤ M) (i : Nat) : LogAt K H b s M (lg.set i (some (a, r))) := fun j a' r' q => by
  rw [List.getElem?_set] at q
  by_cases z : i = j
  · rw [if_pos z] at q
    by_cases y : i < lg.length
    · rw [if_pos y] at q
      cases q
      exact ⟨e, f, m⟩
    · rw [if_neg y] at q
      cases q
  · rw [if_neg z] at q
    exact h j a' r' q
theorem DAt.keep (h : DAt CD CP H d A b n s hd la hs gs kv) (f : ∀ a ∈ [d, A.p, A.ho, A.lg, A.pd], ∀ o, H a = some o → H' a = some o) : DAt CD CP H' d A b n s hd la hs gs kv :=
  ⟨let ⟨dx, e⟩ := h.ob; ⟨dx, f _ (by simp) _ e⟩, h.pl.of (f _ (by simp)), f _ (by simp) _ h.ho, f _ (by simp) _ h.lg, f _ (by simp) _ h.pd, h.pne, h.hne, h.hl, h.gl⟩
structure Dk (K : PySem.W.Frag) (CD CP : Addr) (Ps : List Addr) (H : Hp) (p d lq : Addr) (A : DA) (b n s hd la M : Int) (hs : List V) (lg : LogL) (kv : List (Key × V)) : Prop where
  D : DAt CD CP H d A b n s hd la hs (lg.map gV) kv
  f : ∃ fs : List Int, H p = some (.lst (fs.map V.int))
  l : H lq = some (.lst (lg.map gV))
  L : LogAt K H b s M lg
  t : Tab Ps H
  n1 : p ≠ lq
  n2 : p ≠ A.ho
  n3 : p ≠ A.lg
  n4 : lq ≠ A.ho
  n5 : lq ≠ A.lg
theorem Dk.same (x : Dk K CD CP Ps H p d lq A b n s hd la M hs lg kv) (e : Same H H') : Dk K CD CP Ps H' p d lq A b n s hd la M hs lg kv :=
  ⟨x.D.same e, let ⟨fs, q⟩ := x.f; ⟨fs, e _ _ q⟩, e _ _ x.l, x.L.same e, x.t.same e, x.n1, x.n2, x.n3, x.n4, x.n5⟩
theorem Dk.mono (x : Dk K CD CP Ps H p d lq A b n s hd la M hs lg kv) {M' : Int} (le : M ≤ M') : Dk K CD CP Ps H p d lq A b n s hd la M' hs lg kv :=
  ⟨x.D, x.f, x.l, x.L.mono le, x.t, x.n1, x.n2, x.n3, x.n4, x.n5⟩
theorem isnt_lst {a : Addr} {xs : List V} (h : H a = some (.lst xs)) : Isnt H a := ⟨_, h, (by intro _ z; cases z), by intro _ _ z; cases z⟩
theorem isnt_ins {a C dx : Addr} {fs : List (Str × V)} (h : H a = some (.ins C dx fs)) : Isnt H a := ⟨_, h, (by intro _ z; cases z), by intro _ _ z; cases z⟩
theorem isnt_dK {a : Addr} (h : H a = some (.dK kv)) : Isnt H a := ⟨_, h, (by intro _ z; cases z), by intro _ _ z; cases z⟩
theorem isnt_tab (t : Tab Ps H) {a : Addr} (h : a ∈ Ps) : Isnt H a := let ⟨_, e, _⟩ := t a h; ⟨_, e, (by intro _ z; cases z), by intro _ _ z; cases z⟩
/-- the feed has gone on -/
theorem Dk.feed (x : Dk K CD CP Ps H p d lq A b n s hd la M hs lg kv) (k : Kp [p] H H') {fs : List Int} (e : H' p = some (.lst (fs.map V.int))) : Dk K CD CP Ps H' p d lq A b n s hd la M hs lg kv := by
  obtain ⟨fs0, e0⟩ := x.f
  obtain ⟨dx, ho⟩ := x.D.ob
  obtain ⟨px, hp⟩ := x.D.pl.ob
  have g : ∀ {a : Addr} {o : HO}, H a = some o → a ≠ p → H' a = some o := fun q z => k.at1 q z
  refine ⟨x.D.keep fun a ha o q => g q ?_, ⟨fs, e⟩, g x.l x.n1.symm, x.L.kp k (by simp only [List.mem_singleton]; rintro a rfl; exact isnt_lst e0), fun P hP => ?_, x.n1, x.n2, x.n3, x.n4, x.n5⟩
  · simp only [List.mem_cons, List.not_mem_nil, or_false] at ha
    rcases ha with rfl | rfl | rfl | rfl | rfl
    · exact ne_of ho e0 (by intro z; cases z)
    · exact ne_of hp e0 (by intro z; cases z)
    · exact x.n2.symm
    · exact x.n3.symm
    · exact ne_of x.D.pd e0 (by intro z; cases z)
  · obtain ⟨ps, e1, e2⟩ := x.t P hP
    exact ⟨ps, g e1 (ne_of e1 e0 (by intro z; cases z)), e2⟩
theorem Dk.pick (x : Dk K CD CP Ps H p d lq A b n s hd la M hs lg kv) (fs : List Int) : Dk K CD CP Ps (upd H p (.lst (fs.map V.int))) p d lq A b n s hd la M hs lg kv :=
  x.feed (Kp.refl.own1) (fs := fs) upd_same
/-- a write is pending -/
theorem Dk.issued (x : Dk K CD CP Ps H p d lq A b n s hd la M hs lg kv) {la' : Int} {kv' : List (Key × V)} (t : Tab Ps H') (k : Kp (d :: A.pd :: Ps) H H') (e : DAt CD CP H' d A b n s hd la' hs (lg.map gV) kv') : Dk K CD CP Ps H' p d lq A b n s hd la' M hs lg kv' := by
  obtain ⟨fs0, e0⟩ := x.f
  obtain ⟨dx, ho⟩ := x.D.ob
  have ni : ∀ {a : Addr} {xs : List V}, H a = some (.lst xs) → a ∉ d :: A.pd :: Ps := fun {a xs} h z => by
    rcases List.mem_cons.mp z with z | z
    · rw [z, ho] at h; cases h
    rcases List.mem_cons.mp z with z | z
    · rw [z, x.D.pd] at h; cases h
    · exact x.t.nin h (by intro _ z; cases z) z
  refine ⟨e, ⟨fs0, k _ _ e0 (ni e0)⟩, k _ _ x.l (ni x.l), x.L.kp k fun a h => ?_, t, x.n1, x.n2, x.n3, x.n4, x.n5⟩
  rcases List.mem_cons.mp h with z | z
  · rw [z]; exact isnt_ins ho
  rcases List.mem_cons.mp z with z | z
  · rw [z]; exact isnt_dK x.D.pd
  · exact isnt_tab x.t z
theorem Dk.isn (x : Dk K CD CP Ps H p d lq A b n s hd la M hs lg kv) : ∀ a ∈ d :: A.pd :: Ps, Isnt H a := fun a h => by
  obtain ⟨dx, ho⟩ := x.D.ob
  rcases List.mem_cons.mp h with z | z
  · rw [z]; exact isnt_ins ho
  rcases List.mem_cons.mp z with z | z
  · rw [z]; exact isnt_dK x.D.pd
  · exact isnt_tab x.t z
/-- a record is sure, and stands in the log of one's own too -/
theorem Dk.logged (x : Dk K CD CP Ps H p d lq A b n s hd la M hs lg kv) {kv' : List (Key × V)} {i : Nat} {u : Addr} {r : Rec} (t : Tab Ps H') (k : Kp [A.pd, A.ho, A.lg] H H') (e : DAt CD CP H' d A b n s hd la hs ((lg.map gV).set i (.ref u)) kv') (hr : RecAt K H u r) (hf : Fit b s r) (hm : r.lot ≤ M) :
    H' lq = some (.lst (lg.map gV)) ∧ Dk K CD CP Ps (upd H' lq (.lst ((lg.map gV).set i (.ref u)))) p d lq A b n s hd la M hs (lg.set i (some (u, r))) kv' := by
  obtain ⟨fs0, e0⟩ := x.f
  have hpd := x.D.pd
  have ni : ∀ {a : Addr} {xs : List V}, H a = some (.lst xs) → a ≠ A.ho → a ≠ A.lg → a ∉ [A.pd, A.ho, A.lg] := fun {a xs} h z1 z2 z => by
    simp only [List.mem_cons, List.not_mem_nil, or_false] at z
    rcases z with z | z | z
    · rw [z, hpd] at h; cases h
    · exact z1 z
    · exact z2 z
  have isn : ∀ a ∈ [A.pd, A.ho, A.lg], Isnt H a := fun a z => by
    simp only [List.mem_cons, List.not_mem_nil, or_false] at z
    rcases z with rfl | rfl | rfl
    · exact isnt_dK hpd
    · exact isnt_lst x.D.ho
    · exact isnt_lst x.D.lg
  have hl' := k _ _ x.l (ni x.l x.n4 x.n5)
  have hp' := k _ _ e0 (ni e0 x.n2 x.n3)
  have gs : (lg.set i (some (u, r))).map gV = (lg.map gV).set i (.ref u) := by rw [List.map_set]; rfl
  have k2 : Kp [lq] H' (upd H' lq (.lst ((lg.map gV).set i (.ref u)))) := Kp.refl.own1
  have L' : LogAt K H' b s M (lg.set i (some (u, r))) := (x.L.kp k isn).set (hr.by fun _ _ => seqT_kp k isn) hf hm i
  obtain ⟨dx, ho⟩ := e.ob
  obtain ⟨px, hp⟩ := e.pl.ob
  refine ⟨hl', ⟨?_, ⟨fs0, ?_⟩, ?_, L'.kp k2 (by simp only [List.mem_singleton]; rintro a rfl; exact isnt_lst hl'), t.upd hl' (by intro _ z; cases z), x.n1, x.n2, x.n3, x.n4, x.n5⟩⟩
  · rw [gs]
    refine e.keep fun a ha o q => k2.at1 q ?_
    simp only [List.mem_cons, List.not_mem_nil, or_false] at ha
    rcases ha with rfl | rfl | rfl | rfl | rfl
    · exact ne_of ho hl' (by intro z; cases z)
    · exact ne_of hp hl' (by intro z; cases z)
    · exact x.n4.symm
    · exact x.n5.symm
    · exact ne_of e.pd hl' (by intro z; cases z)
  · rw [upd_ne x.n1]; exact hp'
  · rw [upd_same, gs]
/-- the head has moved -/
theorem Dk.head (x : Dk K CD CP Ps H p d lq A b n s hd la M hs lg kv) {dx : Addr} (ho : H d = some (.ins CD dx (dskF A hd la))) (hd' : Int) : Dk K CD CP Ps (upd H d (.ins CD dx (dskF A hd' la))) p d lq A b n s hd' la M hs lg kv := by
  obtain ⟨fs0, e0⟩ := x.f
  have k : Kp [d] H (upd H d (.ins CD dx (dskF A hd' la))) := Kp.refl.own1
  exact ⟨x.D.num hd' la, ⟨fs0, k.at1 e0 (ne_of e0 ho (by intro z; cases z))⟩, k.at1 x.l (ne_of x.l ho (by intro z; cases z)), x.L.kp k (by simp only [List.mem_singleton]; rintro a rfl; exact isnt_ins ho), x.t.upd ho (by intro _ z; cases z), x.n1, x.n2, x.n3, x.n4, x.n5⟩
/-! ### slots that are free -/
def nFree (lg : LogL) : Nat := lg.countP Option.isNone
theorem nFree_set : ∀ (lg : LogL) (i : Nat) (x : Option (Addr × Rec)), nFree lg ≤ nFree (lg.set i x) + 1
  | [], _, _ => by simp [nFree]
  | y :: l, 0, x => by simp only [nFree, List.set_cons_zero, List.countP_cons]; split <;> split <;> omega
  | y :: l, i + 1, x => by
    have := nFree_set l i x
    simp only [nFree, List.set_cons_succ, List.countP_cons] at this ⊢
    omega
theorem free_ex (h : 0 < nFree lg) : ∃ j : Nat, lg[j]? = some none := by
  obtain ⟨x, hx, hn⟩ := List.countP_pos_iff.mp h
  obtain ⟨j, hj⟩ := List.getElem?_of_mem hx
  cases x with
  | none => exact ⟨j, hj⟩
  | some _ => cases hn
def isFree (lg : LogL) (j : Nat) : Bool := match lg[j]? with
  | some none => true
  | _ => false
theorem isFree_iff {j : Nat} : isFree lg j = true ↔ lg[j]? = some none := by
  unfold isFree
  cases lg[j]? with
  | none => simp
  | some o => cases o <;> simp
def frees (lg : LogL) (i : Nat) : List Nat := (List.range i).filter (isFree lg)
theorem frees_succ (i : Nat) : frees lg (i + 1) = if isFree lg i = true then frees lg i ++ [i] else frees lg i := by
  unfold frees
  rw [List.range_succ, List.filter_append]
  by_cases h : isFree lg i = true
  · rw [if_pos h, List.filter_cons, if_pos h]; rfl
  · rw [if_neg h, List.filter_cons, if_neg h]; simp
theorem frees_len (i : Nat) : (frees lg i).length ≤ i := Nat.le_trans (List.length_filter_le _ _) (by simp)
theorem frees_ok {i j : Nat} (h : j ∈ frees lg i) : j < i ∧ lg[j]? = some none := by
  have := List.mem_filter.mp h
  exact ⟨List.mem_range.mp this.1, isFree_iff.mp this.2⟩
/-! ### a mark of the first lot that is missing -/
theorem fm_of {L : Int} {k : Nat} {x : Option (Addr × Rec)} (h : lg[k]? = some x) (e : isMk L x = true) : fm lg L ≠ none := fun z => by
  unfold fm at z
  rw [List.findIdx?_eq_none_iff] at z
  have := z x (List.mem_of_getElem? h)
  rw [this] at e
  cases e
theorem due_pos {hd : Int} {ds ds' : List (Nat × Addr)} {i : Nat} {u : Addr} {ps : List (Int × Int)} {rs : List Int} (h : Due lg (hd + 1) ds) (hi : lg[i]? = some none) (h' : Due (lg.set i (some (u, .mark (hd + ds.length + 1) ps rs))) (hd + 1) ds') : 1 ≤ ds'.length := by
  have il : i < lg.length := (List.getElem?_eq_some_iff.mp hi).1
  cases h' with
  | cons _ _ _ => simp
  | nil z =>
    exfalso
    cases h with
    | nil y =>
      refine fm_of (k := i) (x := some (u, .mark (hd + (0 : Nat) + 1) ps rs)) ?_ ?_ z
      · rw [List.getElem?_set, if_pos rfl, if_pos il]; rfl
      · show decide _ = true
        rw [decide_eq_true]
        omega
    | @cons _ j _ _ _ y g _ =>
      obtain ⟨a', ps', rs', q⟩ := fm_some y
      refine fm_of (k := j) (x := some (a', .mark (hd + 1) ps' rs')) ?_ (decide_eq_true rfl) z
      · rw [List.getElem?_set, if_neg (fun w => by rw [w, q] at hi; cases hi)]
        exact q
end
end K46
namespace K46
open PySem PySem.Spec PyProof.Rows L2 Rg
/-! ### live copies, as the program tells them (marks in order) and as a law tells them (block by block) -/
/-- a mark: its lot, its pairs, its revokes -/
abbrev Mk3 : Type := Int × List (Int × Int) × List Int
abbrev LiveF : Type := Int → Option (Int × Int)
def setF (f : LiveF) (x : Int) (v : Option (Int × Int)) : LiveF := fun y => if y = x then v else f y
def strikeF : List Int → LiveF → LiveF
  | [], f => f
  | r :: rs, f => strikeF rs (setF f r none)
def addF (g : Bool) (lot : Int) (rs : List Int) : List (Int × Int) → LiveF → LiveF
  | [], f => f
  | (x, s) :: ps, f => addF g lot rs ps (if g = true ∨ x ∉ rs then setF f x (some (lot, s)) else f)
def liveF (g : Bool) : List Mk3 → LiveF → LiveF
  | [], f => f
  | m :: ms, f => liveF g ms (addF g m.1 m.2.2 m.2.1 (strikeF m.2.2 f))
/-- the last pair of block x -/
def dueP (x lot : Int) (st : Bool) : List (Int × Int) → Option (Int × Int) → Option (Int × Int)
  | [], acc => acc
  | p :: ps, acc => dueP x lot st ps (if p.1 = x ∧ st = false then some (lot, p.2) else acc)
/-- struck by the mark itself (where rules are not gentle) or by a later one -/
def strk (x : Int) (g : Bool) (rs : List Int) (t : List Mk3) : Bool := (decide (x ∈ rs) && !g) || t.any fun m => decide (x ∈ m.2.2)
def dueF (x : Int) (g : Bool) : List Mk3 → Option (Int × Int) → Option (Int × Int)
  | [], acc => acc
  | m :: t, acc => dueF x g t (dueP x m.1 (strk x g m.2.2 t) m.2.1 acc)
theorem strikeF_eq (x : Int) : ∀ (rs : List Int) (f : LiveF), strikeF rs f x = if x ∈ rs then none else f x
  | [], f => by simp [strikeF]
  | r :: rs, f => by
    rw [strikeF, strikeF_eq x rs]
    by_cases h : x ∈ rs
    · rw [if_pos h, if_pos (List.mem_cons_of_mem _ h)]
    · rw [if_neg h]
      by_cases e : x = r
      · rw [if_pos (by rw [e]; exact List.mem_cons_self)]
        show (if x = r then none else f x) = none
        rw [if_pos e]
      · rw [if_neg (by intro z; rcases List.mem_cons.mp z with z | z; exact e z; exact h z)]
        show (if x = r then none else f x) = f x
        rw [if_neg e]
theorem addF_eq (g : Bool) (lot : Int) (rs : List Int) (x : Int) : ∀ (ps : List (Int × Int)) (f : LiveF), addF g lot rs ps f x = dueP x lot (decide (x ∈ rs) && !g) ps (f x)
  | [], f => rfl
  | (y, s) :: ps, f => by
    rw [addF, addF_eq g lot rs x ps, dueP]
    congr 1
    by_cases e : y = x
    · subst e
      by_cases h : g = true ∨ y ∉ rs
      · rw [if_pos h, if_pos ⟨rfl, by rcases h with h | h <;> simp [h]⟩]
        show (if y = y then _ else _) = _
        rw [if_pos rfl]
      · rw [if_neg h, if_neg]
        rintro ⟨_, z⟩
        apply h
        by_cases q : y ∈ rs
        · left; simpa [q] using z
        · exact .inr q
    · have hr : (if (y, s).1 = x ∧ (decide (x ∈ rs) && !g) = false then some (lot, (y, s).2) else f x) = f x := if_neg fun z => e z.1
      rw [hr]
      by_cases h : g = true ∨ y ∉ rs
      · rw [if_pos h]
        show (if x = y then _ else _) = _
        rw [if_neg fun z => e z.symm]
      · rw [if_neg h]
theorem dueP_st (x lot : Int) : ∀ (ps : List (Int × Int)) (acc : Option (Int × Int)), dueP x lot true ps acc = acc
  | [], _ => rfl
  | p :: ps, acc => by rw [dueP, if_neg (fun z => by cases z.2), dueP_st x lot ps]
theorem due_live (x : Int) (g : Bool) : ∀ (t : List Mk3) (f : LiveF) (acc : Option (Int × Int)), ((t.any fun m => decide (x ∈ m.2.2)) = true → acc = none) → ((t.any fun m => decide (x ∈ m.2.2)) = false → acc = f x) → dueF x g t acc = liveF g t f x
  | [], f, acc, _, h => h rfl
  | m :: t, f, acc, h1, h2 => by
    rw [dueF, liveF]
    cases hl : t.any fun m => decide (x ∈ m.2.2) with
    | true =>
      have a : acc = none := h1 (by rw [List.any_cons, hl, Bool.or_true])
      have s : strk x g m.2.2 t = true := by unfold strk; rw [hl, Bool.or_true]
      rw [s, dueP_st, a]
      exact due_live x g t _ none (fun _ => rfl) (fun z => by rw [hl] at z; cases z)
    | false =>
      have s : strk x g m.2.2 t = (decide (x ∈ m.2.2) && !g) := by unfold strk; rw [hl, Bool.or_false]
      refine due_live x g t _ _ (fun z => by rw [hl] at z; cases z) fun _ => ?_
      rw [addF_eq, strikeF_eq, s]
      by_cases q : x ∈ m.2.2
      · rw [if_pos q, h1 (by rw [List.any_cons]; simp [q])]
      · rw [if_neg q, h2 (by rw [List.any_cons, hl]; simp [q])]
/-- the two are one -/
theorem due_is_live (x : Int) (g : Bool) (ms : List Mk3) : dueF x g ms none = liveF g ms (fun _ => none) x := due_live x g ms _ none (fun _ => rfl) fun _ => rfl
end K46
namespace K46
open PySem PySem.Spec PyProof.Rows L2 Rg
section
variable {P : Program} {w : World} {K : PySem.W.Frag} {mg : Str → Option Value} {base : Heap}
def sp_Lnumbers (K : PySem.W.Frag) : Sp := fun vs H Q _ => ∃ (a b : Addr) (xs : List Int), vs = [.ref a, .ref b] ∧ SqT K H a (xs.map V.int) ∧ SqT K H b (xs.map V.int) ∧ xs.length ≤ 1000 ∧ Q (.bl true) H
theorem ok_Lnumbers (T : Tx K mg) : FnOk P w K mg base CX0 1 T.f_Lnumbers T.fd_Lnumbers ["_law_actual", "_law_due_here"] (sp_Lnumbers K) := by
  refine T.F_Lnumbers.ok sc_Lnumbers (fun vs H Q E h => ?_) (fun cdv A outer s H vs Q E hr h => ?_)
  · obtain ⟨_, _, _, rfl, _⟩ := h; rfl
  · obtain ⟨a, b, xs, rfl, hA, hB, hz, k⟩ := h
    refine ⟨_, (pss_cons (ps_if (PW.pt (pw_or (pt_not (pt_val (pe_callB call_isi rfl T.b_isinstance (by decide +kernel) (pa_cons (pv 0) (pa_cons (pe_bltn (v := .ty "tuple") rfl T.b_tuple (by decide +kernel) rfl) pa_nil))))) (pw_or1 (pt_cmpR op_ne (pe_callB call_len_seq rfl T.b_len (by decide +kernel) (pa_cons (pv 0) pa_nil)) (pe_callB call_len_seq rfl T.b_len (by decide +kernel) (pa_cons (pv 1) pa_nil)) (nomark _)))))
        (pss_one (ps_ret pe_bl))
        pss_nil)
      (pss_cons (ps_for PassesOwn.never rfl (pi_range1 rfl T.b_range (pa_cons (pe_callB call_len_seq rfl T.b_len (by decide +kernel) (pa_cons (pv 1) pa_nil)) pa_nil)) (pg_name (i := 2) sc_Lnumbers.nd rfl (.inl rfl))
        (pss_one (ps_if (PW.pt (pw_or (pt_not (pt_val (pe_callB call_isi rfl T.b_isinstance (by decide +kernel) (pa_cons (pe_ix ix_tup (pv 0) (pv 2) (fun _ _ => rfl)) (pa_cons (pe_bltn (v := .ty "int") rfl T.b_int (by decide +kernel) rfl) pa_nil))))) (pw_or (pt_val (pe_callB call_isi rfl T.b_isinstance (by decide +kernel) (pa_cons (pe_ix ix_tup (pv 0) (pv 2) (fun _ _ => rfl)) (pa_cons (pe_bltn (v := .ty "bool") rfl T.b_bool (by decide +kernel) rfl) pa_nil)))) (pw_or1 (pt_cmpR op_ne (pe_ix ix_tup (pv 0) (pv 2) (fun _ _ => rfl)) (pe_ix ix_tup (pv 1) (pv 2) (fun _ _ => rfl)) (nomark _))))))
          (pss_one (ps_ret pe_bl))
          pss_nil)))
      (pss_one (ps_ret pe_bl)))), ?_⟩
    have ll : (((xs.map V.int).length : Nat) : Int) = xs.length := by rw [List.length_map]
    refine ⟨_, rfl, _, _, _, _, true, rfl, .ty _, tyT hA, kit_ty (by decide +kernel), _, rfl, iteF ⟨_, rfl, a, _, rfl, .inr hA, _, rfl, b, _, rfl, .inr hB, rfl, _, rfl, ?_⟩⟩
    rw [decide_eq_true rfl]
    refine iteF ⟨_, rfl, b, _, rfl, .inr hB, xs.length, by rw [ll], by omega, by omega, for_range (lo := 0) (n := xs.length) (fun i σ H2 => ∃ v2 : Option V, σ = [some (.ref a), some (.ref b), v2] ∧ H2 = H) ⟨none, rfl, rfl⟩ ?_ ?_⟩
    · rintro i σ H2 hi ⟨v2, rfl, rfl⟩
      have g1 : (xs.map V.int)[i]? = some (.int (xs[i]'hi)) := by rw [List.getElem?_map, List.getElem?_eq_getElem hi]; rfl
      refine ⟨_, rfl, _, rfl, a, _, _, _, rfl, rfl, hA, atN (j := i) (by omega) g1, _, _, _, _, true, rfl, .ty _, .base (.int _), kit_ty (by decide +kernel), _, rfl, iteF ?_⟩
      refine ⟨_, rfl, _, rfl, a, _, _, _, rfl, rfl, hA, atN (j := i) (by omega) g1, _, _, _, _, false, rfl, .ty _, .base (.int _), kit_ty (by decide +kernel), _, rfl, iteF ?_⟩
      refine ⟨_, rfl, _, rfl, a, _, _, _, rfl, rfl, hA, atN (j := i) (by omega) g1, _, rfl, _, rfl, b, _, _, _, rfl, rfl, hB, atN (j := i) (by omega) g1, rfl, _, rfl, ?_⟩
      rw [decide_eq_true rfl]
      exact iteF ⟨_, rfl, rfl⟩
    · rintro σ H2 ⟨v2, rfl, rfl⟩
      exact k
end
end K46
namespace K46
open PySem PySem.Spec PyProof.Rows L2 Rg
section
variable {P : Program} {w : World} {K : PySem.W.Frag} {mg : Str → Option Value} {base : Heap}
def sp_Lcells : Sp := fun vs H Q _ => ∃ (p : Addr) (fs : List Int) (z : Int), vs = [.ref p, .int z] ∧ H p = some (.lst (fs.map V.int)) ∧ 0 ≤ z ∧ z ≤ 999999999 ∧
  ∀ (H' : Hp) (t : Addr) (c fs' : List Int), Kp [p] H H' → H' p = some (.lst (fs'.map V.int)) → H' t = some (.tup (c.map V.int)) → Cells c → Q (.ref t) H'
theorem ok_Lcells (T : Tx K mg) : FnOk P w K mg base CX0 2 T.f_Lcells T.fd_Lcells ["_law_feed_here", "_law_first"] sp_Lcells := by
  refine T.F_Lcells.ok sc_Lcells (fun vs H Q E h => ?_) (fun cdv A outer s H vs Q E hr h => ?_)
  · obtain ⟨_, _, _, rfl, _⟩ := h; rfl
  · obtain ⟨p, fs, z, rfl, e, z0, z1, k⟩ := h
    refine ⟨_, (pss_one (ps_ret (pe_tup (pa_cons (pv 1) (pa_cons (pe_call (ok_Lpick T) hr rfl T.mg_Lpick T.F_Lpick.kp (b_Lpick T) .nil pass0 (pa_cons (pv 0) (pa_cons pe_int pa_nil))) (pa_cons pe_int (pa_cons pe_int (pa_cons pe_int (pa_cons pe_int (pa_cons (pe_call (ok_Lpick T) hr rfl T.mg_Lpick T.F_Lpick.kp (b_Lpick T) .nil pass0 (pa_cons (pv 0) (pa_cons pe_int pa_nil))) (pa_cons pe_int pa_nil))))))))))), ?_⟩
    refine ⟨_, rfl, _, rfl, p, fs, 1000, rfl, e, by decide, fun a f1 a0 a1 _ => ?_⟩
    refine ⟨_, rfl, p, f1, 1000, rfl, upd_same, by decide, fun b f2 b0 b1 _ => ⟨by show 8 ≤ sizeLine; decide, fun t nt => ?_⟩⟩
    rw [upd_upd] at nt ⊢
    have ep : upd H p (.lst (f2.map V.int)) p = some (.lst (f2.map V.int)) := upd_same
    refine k _ t [z, a, 0, 0, 0, 0, b, 1] f2 (Kp.refl.own1.new nt) ((upd_ne (ne_of_none ep nt)).trans ep) upd_same ⟨rfl, fun i hi => ?_⟩
    simp only [List.mem_cons, List.not_mem_nil, or_false] at hi
    rcases hi with rfl | rfl | rfl | rfl | rfl | rfl | rfl | rfl <;> omega
end
end K46
namespace K46
open PySem PySem.Spec PyProof.Rows L2 Rg
theorem strikeF_app : ∀ (a b : List Int) (f : LiveF), strikeF (a ++ b) f = strikeF b (strikeF a f)
  | [], _, _ => rfl
  | _ :: a, b, f => strikeF_app a b _
theorem addF_app (g : Bool) (lot : Int) (rs : List Int) : ∀ (a b : List (Int × Int)) (f : LiveF), addF g lot rs (a ++ b) f = addF g lot rs b (addF g lot rs a f)
  | [], _, _ => rfl
  | (_, _) :: a, b, f => addF_app g lot rs a b _
theorem liveF_app (g : Bool) : ∀ (a b : List Mk3) (f : LiveF), liveF g (a ++ b) f = liveF g b (liveF g a f)
  | [], _, _ => rfl
  | _ :: a, b, f => liveF_app g a b _
theorem valV_drop {κ : Type} [DecidableEq κ] : ∀ (kvs : List (κ × V)) (k j : κ), valV (dropK kvs k) j = if j = k then none else valV kvs j
  | [], k, j => by simp [dropK, valV]
  | p :: r, k, j => by
    have ih := valV_drop r k j
    unfold dropK at ih ⊢
    by_cases e : p.1 = k
    · rw [List.filter_cons, if_neg (by simp [e]), ih]
      by_cases q : j = k
      · rw [if_pos q, if_pos q]
      · rw [if_neg q, if_neg q, valV_neg (by rw [e]; exact fun z => q z.symm)]
    · rw [List.filter_cons, if_pos (by simp [e])]
      by_cases q : p.1 = j
      · rw [valV_pos q, valV_pos q, if_neg (by rw [← q]; exact e)]
      · rw [valV_neg q, valV_neg q, ih]
theorem inV_int (x : Int) (l : List Int) : inV (.int x) (l.map V.int) = decide (x ∈ l) := by
  induction l with
  | nil => simp [inV]
  | cons y l ih =>
    have : inV (.int x) ((y :: l).map V.int) = (eqV (.int y) (.int x) || inV (.int x) (l.map V.int)) := rfl
    rw [this, ih]
    simp only [eqV]
    by_cases e : y = x
    · subst e; simp
    · have e' : x ≠ y := fun z => e z.symm
      simp [e, e']
theorem putK_len1 {κ : Type} [DecidableEq κ] (c : List (κ × V)) (k : κ) (x : V) : (putK c k x).length ≤ c.length + 1 := by
  unfold putK
  split
  · rw [List.length_map]; exact Nat.le_succ _
  · simp
/-- the dict of live copies holds F -/
def LvAt (H : Hp) (kv : List (Key × V)) (F : LiveF) : Prop := ∀ x : Int, match F x with
  | none => valV kv (Sum.inl x) = none
  | some p => ∃ t, valV kv (Sum.inl x) = some (.ref t) ∧ H t = some (.tup [.int p.1, .int p.2])
theorem LvAt.by {H H' : Hp} {kv : List (Key × V)} {F : LiveF} (h : LvAt H kv F) (f : ∀ t xs, H t = some (.tup xs) → H' t = some (.tup xs)) : LvAt H' kv F := fun x => by
  have := h x
  cases e : F x with
  | none => rw [e] at this; exact this
  | some p => rw [e] at this; obtain ⟨t, a, b⟩ := this; exact ⟨t, a, f _ _ b⟩
theorem LvAt.drop {H : Hp} {kv : List (Key × V)} {F : LiveF} (h : LvAt H kv F) (r : Int) : LvAt H (dropK kv (Sum.inl r)) (setF F r none) := fun x => by
  rw [valV_drop]
  show match (if x = r then none else F x) with | none => _ | some p => _
  by_cases e : x = r
  · rw [if_pos e, if_pos (by rw [e])]
  · rw [if_neg e, if_neg (by intro z; exact e (Sum.inl.inj z))]
    exact h x
theorem LvAt.dropN {H : Hp} {kv : List (Key × V)} {F : LiveF} (h : LvAt H kv F) {r : Int} (n : valV kv (Sum.inl r) = none) : LvAt H kv (setF F r none) := fun x => by
  show match (if x = r then none else F x) with | none => _ | some p => _
  by_cases e : x = r
  · rw [if_pos e, e]; exact n
  · rw [if_neg e]; exact h x
theorem LvAt.put {H : Hp} {kv : List (Key × V)} {F : LiveF} (h : LvAt H kv F) (r : Int) {t : Addr} {p : Int × Int} (e : H t = some (.tup [.int p.1, .int p.2])) : LvAt H (putK kv (Sum.inl r) (.ref t)) (setF F r (some p)) := fun x => by
  rw [valV_put]
  show match (if x = r then some p else F x) with | none => _ | some p => _
  by_cases q : x = r
  · rw [if_pos q, if_pos (by rw [q])]
    exact ⟨t, rfl, e⟩
  · rw [if_neg q, if_neg (by intro z; exact q (Sum.inl.inj z))]
    exact h x
end K46
namespace K46
open PySem PySem.Spec PyProof.Rows L2 Rg
/-- a mark's tuple -/
def MarkAt (K : PySem.W.Frag) (H : Hp) (a : Addr) (m : Mk3) : Prop := RecAt K H a (.mark m.1 m.2.1 m.2.2)
/-- a list of pairs of a slot and a mark -/
def MarksAt (K : PySem.W.Frag) (H : Hp) (ma : Addr) (ms : List Mk3) : Prop := ∃ mas : List Addr, H ma = some (.lst (mas.map V.ref)) ∧ mas.length = ms.length ∧ ∀ (i : Nat) (a : Addr) (m : Mk3), mas[i]? = some a → ms[i]? = some m → ∃ (z : Int) (r : Addr), SqT K H a [.int z, .ref r] ∧ MarkAt K H r m
theorem MarksAt.same {K : PySem.W.Frag} {H H' : Hp} {ma : Addr} {ms : List Mk3} (h : MarksAt K H ma ms) (S : Same H H') : MarksAt K H' ma ms := by
  obtain ⟨mas, h1, h2, h3⟩ := h
  exact ⟨mas, S _ _ h1, h2, fun i a m e1 e2 => let ⟨z, r, q1, q2⟩ := h3 i a m e1 e2; ⟨z, r, sameT S q1, q2.same S⟩⟩
section
variable {P : Program} {w : World} {K : PySem.W.Frag} {mg : Str → Option Value} {base : Heap}
def sp_live_copies (K : PySem.W.Frag) : Sp := fun vs H Q _ => ∃ (ma : Addr) (g : Bool) (ms : List Mk3), vs = [.ref ma, .bl g] ∧ MarksAt K H ma ms ∧ ms.length ≤ 100 ∧ (∀ m ∈ ms, m.2.1.length ≤ 64) ∧
  ∀ (H' : Hp) (d : Addr) (kv : List (Key × V)), Same H H' → H d = none → H' d = some (.dK kv) → LvAt H' kv (liveF g ms fun _ => none) → Q (.ref d) H'
theorem ok_live_copies (T : Tx K mg) : FnOk P w K mg base CX0 1 T.f_live_copies T.fd_live_copies ["marks", "lapse"] (sp_live_copies K) := by
  refine T.F_live_copies.ok sc_live_copies (fun vs H Q E h => ?_) (fun cdv A outer s H vs Q E hr h => ?_)
  · obtain ⟨_, _, _, rfl, _⟩ := h; rfl
  · obtain ⟨ma, g, ms, rfl, hM, hz, hp, k⟩ := h
    refine ⟨_, (pss_cons (ps_set (i := 2) sc_live_copies.nd rfl (.inl rfl) pe_dnewK)
      (pss_cons (ps_for PassesOwn.never rfl (pi_list (pv 0)) (pg_tup rfl (pgs_cons (pg_name (i := 3) sc_live_copies.nd rfl (.inl rfl)) (pgs_cons (pg_name (i := 4) sc_live_copies.nd rfl (.inl rfl)) pgs_nil)))
        (pss_cons (ps_asg (pe_slice sl_tup (pv 4) (po_some pe_int) po_none) (pg_tup rfl (pgs_cons (pg_name (i := 5) sc_live_copies.nd rfl (.inl rfl)) (pgs_cons (pg_name (i := 6) sc_live_copies.nd rfl (.inl rfl)) (pgs_cons (pg_name (i := 7) sc_live_copies.nd rfl (.inl rfl)) pgs_nil)))))
        (pss_cons (ps_for PassesOwn.never rfl (pi_tup (pv 7)) (pg_name (i := 8) sc_live_copies.nd rfl (.inl rfl))
          (pss_one (ps_expr (pe_dpop2 (pv 2) (pv 8) pe_non ⟨rfl, rfl, rfl, rfl⟩))))
        (pss_one (ps_for PassesOwn.never rfl (pi_tup (pv 6)) (pg_tup rfl (pgs_cons (pg_name (i := 8) sc_live_copies.nd rfl (.inl rfl)) (pgs_cons (pg_name (i := 9) sc_live_copies.nd rfl (.inl rfl)) pgs_nil)))
          (pss_one (ps_if (PW.pt (pw_or (pt_val (pv 1)) (pw_or1 (pt_cmpR op_notIn_seq (pv 8) (pv 7) rfl))))
            (pss_one (ps_dput (hu_of hr) (pv 2) (pv 8) (pe_tup (pa_cons (pv 5) (pa_cons (pv 9) pa_nil))) rfl))
            pss_nil)))))))
      (pss_one (ps_ret (pv 2))))), ?_⟩
    refine fun d nd => ?_
    have s0 := same_upd (o := .dK []) nd
    obtain ⟨mas, eM, lM, gM⟩ := hM
    have nma : ma ≠ d := ne_of_none eM nd
    refine ⟨_, rfl, ma, rfl, ⟨_, .of (s0 _ _ eM)⟩, for_list (K := K) (a := ma) (xs := mas.map V.ref) (fun i σ H2 => ∃ (kv : List (Key × V)) (v3 v4 v5 v6 v7 v8 v9 : Option V), σ = [some (.ref ma), some (.bl g), some (.ref d), v3, v4, v5, v6, v7, v8, v9] ∧ Same H H2 ∧ H2 d = some (.dK kv) ∧ LvAt H2 kv (liveF g (ms.take i) fun _ => none) ∧ kv.length ≤ 64 * i)
      ⟨[], none, none, none, none, none, none, none, rfl, s0, upd_same, fun x => rfl, Nat.zero_le _⟩ (fun i σ H2 _ ⟨_, _, _, _, _, _, _, _, _, S, _⟩ => .of (S _ _ eM)) ?_ ?_⟩
    · rintro i y σ H2 hi ⟨kv, v3, v4, v5, v6, v7, v8, v9, rfl, S2, ed, hL, hk⟩
      have him : i < mas.length := by
        have := (List.getElem?_eq_some_iff.mp hi).1
        rw [List.length_map] at this
        exact this
      have hims : i < ms.length := by omega
      rw [List.getElem?_map, List.getElem?_eq_getElem him] at hi
      have hi : V.ref mas[i] = y := Option.some.inj hi
      subst hi
      obtain ⟨z, r, q1, q2⟩ := gM i mas[i] ms[i] (List.getElem?_eq_getElem him) (List.getElem?_eq_getElem hims)
      obtain ⟨pp, pr, w1, ⟨qs, w2, w3, w4⟩, w5⟩ := q2
      refine ⟨mas[i], _, rfl, sameT S2 q1, rfl, _, _, rfl, _, _, rfl, rfl, ?_⟩
      refine ⟨_, rfl, _, rfl, r, _, rfl, sameT S2 w1, fun z => absurd z.1 (by show HT.sIx 4 0 (some 1) ≠ 0; decide), fun q nq => ?_⟩
      have c := same_upd (o := .tup (cutV [.str "mark", .int ms[i].1, .ref pp, .ref pr] (some 1) none)) nq
      have eq : upd H2 q (.tup (cutV [.str "mark", .int ms[i].1, .ref pp, .ref pr] (some 1) none)) q = some (.tup [.int ms[i].1, .ref pp, .ref pr]) := by rw [upd_same, cut1]; rfl
      have ed3 := c _ _ ed
      have S3 := S2.trans c
      have hL3 := hL.by fun _ _ z => c _ _ z
      generalize upd H2 q (.tup (cutV [.str "mark", .int ms[i].1, .ref pp, .ref pr] (some 1) none)) = H3 at c eq ed3 S3 hL3 ⊢
      refine ⟨q, _, rfl, .of eq, rfl, _, _, rfl, _, _, rfl, _, _, rfl, rfl, ?_⟩
      refine ⟨_, rfl, pr, rfl, ⟨_, sameT S3 w5⟩, for_tup (K := K) (a := pr) (xs := ms[i].2.2.map V.int) (fun j σ H4 => ∃ (kv : List (Key × V)) (v8 : Option V), σ = [some (.ref ma), some (.bl g), some (.ref d), some (.int z), some (.ref r), some (.int ms[i].1), some (.ref pp), some (.ref pr), v8, v9] ∧ Same H H4 ∧ H4 d = some (.dK kv) ∧ LvAt H4 kv (strikeF (ms[i].2.2.take j) (liveF g (ms.take i) fun _ => none)) ∧ kv.length ≤ 64 * i)
        ⟨kv, v8, rfl, S3, ed3, hL3, hk⟩ (fun j σ H4 _ ⟨_, _, _, S, _⟩ => sameT S w5) ?_ ?_⟩
      · rintro j y σ H4 hj ⟨kv, v8, rfl, S4, e4, L4, k4⟩
        rw [List.getElem?_map] at hj
        obtain ⟨x, hx, rfl⟩ := Option.map_eq_some_iff.mp hj
        have es : strikeF (ms[i].2.2.take (j + 1)) (liveF g (ms.take i) fun _ => none) = setF (strikeF (ms[i].2.2.take j) (liveF g (ms.take i) fun _ => none)) x none := by rw [List.take_succ, hx, strikeF_app]; rfl
        refine ⟨_, rfl, d, rfl, .inl ⟨_, .inl e4⟩, _, rfl, kv, Sum.inl x, e4, rfl, fun v hv => ?_, fun hn => ?_⟩
        · refine ⟨dropK kv (Sum.inl x), _, rfl, fun u o e => by rw [upd_ne (ne_of_none e nd)]; exact S4 _ _ e, upd_same, ?_, Nat.le_trans (dropK_le _ _) k4⟩
          rw [es]
          exact (L4.drop x).by fun t xs e => by rw [upd_ne (ne_of e e4 (by intro z; cases z))]; exact e
        · exact ⟨kv, _, rfl, S4, e4, by rw [es]; exact L4.dropN hn, k4⟩
      rintro σ H4 ⟨kv, v8, rfl, S4, e4, L4, k4⟩
      rw [List.length_map, List.take_length] at L4
      refine ⟨_, rfl, pp, rfl, ⟨_, sameT S4 w2⟩, for_tup (K := K) (a := pp) (xs := qs.map V.ref) (fun j σ H5 => ∃ (kv : List (Key × V)) (v8 v9 : Option V), σ = [some (.ref ma), some (.bl g), some (.ref d), some (.int z), some (.ref r), some (.int ms[i].1), some (.ref pp), some (.ref pr), v8, v9] ∧ Same H H5 ∧ H5 d = some (.dK kv) ∧ LvAt H5 kv (addF g ms[i].1 ms[i].2.2 (ms[i].2.1.take j) (strikeF ms[i].2.2 (liveF g (ms.take i) fun _ => none))) ∧ kv.length ≤ 64 * i + j)
        ⟨kv, v8, v9, rfl, S4, e4, L4, k4⟩ (fun j σ H4 _ ⟨_, _, _, _, S, _⟩ => sameT S w2) ?_ ?_⟩
      · rintro j y σ H5 hj ⟨kv, v8, v9, rfl, S5, e5, L5, k5⟩
        have hjq : j < qs.length := by
          have := (List.getElem?_eq_some_iff.mp hj).1
          rw [List.length_map] at this
          exact this
        rw [List.getElem?_map, List.getElem?_eq_getElem hjq] at hj
        have hj : V.ref qs[j] = y := Option.some.inj hj
        subst hj
        have hjp : j < ms[i].2.1.length := by rw [← w3]; exact hjq
        obtain ⟨⟨x, sl⟩, hx⟩ : ∃ u, ms[i].2.1[j]? = some u := ⟨_, List.getElem?_eq_getElem hjp⟩
        have q4 := w4 j qs[j] (x, sl) (List.getElem?_eq_getElem hjq) hx
        have ea : addF g ms[i].1 ms[i].2.2 (ms[i].2.1.take (j + 1)) (strikeF ms[i].2.2 (liveF g (ms.take i) fun _ => none)) = if g = true ∨ x ∉ ms[i].2.2 then setF (addF g ms[i].1 ms[i].2.2 (ms[i].2.1.take j) (strikeF ms[i].2.2 (liveF g (ms.take i) fun _ => none))) x (some (ms[i].1, sl)) else addF g ms[i].1 ms[i].2.2 (ms[i].2.1.take j) (strikeF ms[i].2.2 (liveF g (ms.take i) fun _ => none)) := by rw [List.take_succ, hx, addF_app]; rfl
        refine ⟨qs[j], _, rfl, sameT S5 q4, rfl, _, _, rfl, _, _, rfl, rfl, ?_⟩
        have jp : j < 64 := by have := hp ms[i] (List.getElem_mem hims); omega
        have sz : kv.length < sizeLine := Nat.lt_of_le_of_lt (show kv.length ≤ 10000 by omega) (by decide)
        have fin : ∀ t : Addr, H5 t = none → (g = true ∨ x ∉ ms[i].2.2) → Same H (upd (upd H5 t (.tup [.int ms[i].1, .int sl])) d (.dK (putK kv (Sum.inl x) (.ref t)))) ∧ upd H5 t (.tup [.int ms[i].1, .int sl]) d = some (.dK kv) ∧ LvAt (upd (upd H5 t (.tup [.int ms[i].1, .int sl])) d (.dK (putK kv (Sum.inl x) (.ref t)))) (putK kv (Sum.inl x) (.ref t)) (addF g ms[i].1 ms[i].2.2 (ms[i].2.1.take (j + 1)) (strikeF ms[i].2.2 (liveF g (ms.take i) fun _ => none))) := fun t nt ok => by
          have c := same_upd (o := .tup [.int ms[i].1, .int sl]) nt
          have e6 := c _ _ e5
          refine ⟨fun u o e => by rw [upd_ne (ne_of_none e nd)]; exact c _ _ (S5 _ _ e), e6, ?_⟩
          rw [ea, if_pos ok]
          exact ((L5.by fun _ _ z => c _ _ z).put x (t := t) (p := (ms[i].1, sl)) upd_same).by fun u xs e => by rw [upd_ne (ne_of e e6 (by intro z; cases z))]; exact e
        refine ⟨_, rfl, _, rfl, ?_⟩
        cases g with
        | true =>
          refine iteT ?_
          refine ⟨_, rfl, _, rfl, by show 2 ≤ sizeLine; decide, fun t nt => ?_⟩
          obtain ⟨f1, f2, f3⟩ := fin t nt (.inl rfl)
          exact ⟨_, rfl, _, rfl, d, _, rfl, DPut.k (k := Sum.inl x) f2 sz, _, _, _, rfl, f1, upd_same, f3, by have := putK_len1 kv (Sum.inl x : Key) (V.ref t); omega⟩
        | false =>
          have fv : (ms[i].2.2.map V.int).all flatV = true := by
            rw [List.all_map]
            exact List.all_eq_true.mpr fun _ _ => rfl
          refine iteF ⟨_, rfl, _, rfl, pr, _, rfl, .inr (sameT S5 w5), rfl, fv, _, rfl, ite2 (fun hb => ?_) fun hb => ?_⟩
          · have ok : x ∉ ms[i].2.2 := fun z => by
              have hb : (!inV (.int x) (ms[i].2.2.map V.int)) = true := hb
              rw [inV_int, decide_eq_true z] at hb
              cases hb
            refine ⟨_, rfl, _, rfl, by show 2 ≤ sizeLine; decide, fun t nt => ?_⟩
            obtain ⟨f1, f2, f3⟩ := fin t nt (.inr ok)
            exact ⟨_, rfl, _, rfl, d, _, rfl, DPut.k (k := Sum.inl x) f2 sz, _, _, _, rfl, f1, upd_same, f3, by have := putK_len1 kv (Sum.inl x : Key) (V.ref t); omega⟩
          · have ok : ¬ (false = true ∨ x ∉ ms[i].2.2) := fun z => by
              rcases z with z | z
              · cases z
              · have hb : (!inV (.int x) (ms[i].2.2.map V.int)) = false := by simpa using hb
                rw [inV_int, decide_eq_false z] at hb
                cases hb
            exact ⟨kv, _, _, rfl, S5, e5, by rw [ea, if_neg ok]; exact L5, by omega⟩
      · rintro σ H5 ⟨kv, v8, v9, rfl, S5, e5, L5, k5⟩
        rw [List.length_map, w3, List.take_length] at L5
        refine ⟨kv, _, _, _, _, _, _, _, rfl, S5, e5, ?_, ?_⟩
        · rw [List.take_succ, List.getElem?_eq_getElem hims, liveF_app]
          exact L5
        · have := hp ms[i] (List.getElem_mem hims)
          rw [List.length_map] at k5
          omega
    · rintro σ H2 ⟨kv, v3, v4, v5, v6, v7, v8, v9, rfl, S2, ed, hL, hk⟩
      rw [List.length_map, lM, List.take_length] at hL
      exact ⟨_, rfl, k H2 d kv S2 nd ed hL⟩
end
end K46
namespace K46
open PySem PySem.Spec PyProof.Rows L2 Rg
section
variable {P : Program} {w : World} {K : PySem.W.Frag} {mg : Str → Option Value} {base : Heap}
/-- the call live_copies(marks, lapse=g) -/
theorem kb_live_copies (T : Tx K mg) : KBn K T.fd_live_copies ["marks", "lapse"] 1 ["lapse"] (fun us ws => us ++ ws) (fun us ws => us ++ ws) := by
  obtain ⟨oc, od, kV, doc, pm, an, cdv, ct, osl, e, lk, hcd⟩ := T.F_live_copies.ex
  refine ⟨fun s us ws _ l1 l2 => ?_, fun r1 r2 => r1.append r2⟩
  rw [e]
  match us, ws, l1, l2 with
  | [_], [_], _, _ => exact .of_eq rfl
/-- the call live_copy(marks, x, lapse=g) -/
theorem kb_live_copy (T : Tx K mg) : KBn K T.fd_live_copy ["marks", "x", "lapse"] 2 ["lapse"] (fun us ws => us ++ ws) (fun us ws => us ++ ws) := by
  obtain ⟨oc, od, kV, doc, pm, an, cdv, ct, osl, e, lk, hcd⟩ := T.F_live_copy.ex
  refine ⟨fun s us ws _ l1 l2 => ?_, fun r1 r2 => r1.append r2⟩
  rw [e]
  match us, ws, l1, l2 with
  | [_, _], [_], _, _ => exact .of_eq rfl
def sp_live_copy (K : PySem.W.Frag) : Sp := fun vs H Q _ => ∃ (ma : Addr) (x : Int) (g : Bool) (ms : List Mk3), vs = [.ref ma, .int x, .bl g] ∧ MarksAt K H ma ms ∧ ms.length ≤ 100 ∧ (∀ m ∈ ms, m.2.1.length ≤ 64) ∧
  ∀ (H' : Hp) (v : V), Same H H' → (match liveF g ms (fun _ => none) x with
    | none => v = .non
    | some p => ∃ t, v = .ref t ∧ H' t = some (.tup [.int p.1, .int p.2])) → Q v H'
theorem ok_live_copy (T : Tx K mg) : FnOk P w K mg base CX0 2 T.f_live_copy T.fd_live_copy ["marks", "x", "lapse"] (sp_live_copy K) := by
  refine T.F_live_copy.ok sc_live_copy (fun vs H Q E h => ?_) (fun cdv A outer s H vs Q E hr h => ?_)
  · obtain ⟨_, _, _, _, rfl, _⟩ := h; rfl
  · obtain ⟨ma, x, g, ms, rfl, hM, hz, hp, k⟩ := h
    refine ⟨_, (pss_one (ps_ret (pe_dget1 (hu_of hr) (pe_callN (ok_live_copies T) hr rfl T.mg_live_copies T.F_live_copies.kp (kb_live_copies T) pass0 (pa_cons (pv 0) pa_nil) (pk_cons (pv 2) pk_nil)) (pv 1) ⟨rfl, rfl, rfl, rfl⟩))), ?_⟩
    refine ⟨_, rfl, _, rfl, rfl, rfl, ma, g, ms, rfl, hM, hz, hp, fun H1 d kv S1 nd ed hL => ⟨d, rfl, .inl ⟨_, .inl ed⟩, _, rfl, _, DGet.k (k := Sum.inl x) ed, ?_⟩⟩
    refine k H1 _ S1 ?_
    have h := hL x
    cases q : liveF g ms (fun _ => none) x with
    | none =>
      rw [q] at h
      rw [show valV kv (Sum.inl x) = none from h]
      rfl
    | some p =>
      rw [q] at h
      obtain ⟨t, h1, h2⟩ := h
      exact ⟨t, by rw [h1]; rfl, h2⟩
end
end K46
namespace K46
open PySem PySem.Spec PyProof.Rows L2 Rg
section
variable {P : Program} {w : World} {K : PySem.W.Frag} {mg : Str → Option Value} {base : Heap}
def sp_Lput (K : PySem.W.Frag) (CD CP : Addr) (Ps : List Addr) : Sp := fun vs H Q _ => ∃ (p d lq u : Addr) (slot : Int) (A : DA) (hd la M : Int) (hs : List V) (lg : LogL) (r : Rec), vs = [.ref d, .ref lq, .int slot, .ref u] ∧ Dk K CD CP Ps H p d lq A 24 5 30 hd la M hs lg [] ∧ 0 ≤ slot ∧ slot < 30 ∧ RecAt K H u r ∧ Fit 24 30 r ∧ r.lot ≤ M ∧
  ∀ H' : Hp, Kp (lq :: A.ho :: A.lg :: d :: A.pd :: Ps) H H' → Dk K CD CP Ps H' p d lq A 24 5 30 hd (la + 1) M hs (lg.set slot.toNat (some (u, r))) [] → Q .non H'
theorem ok_Lput (T : Tx K mg) (B : TBs T base) : FnOk P w K mg base CX0 11 T.f_Lput T.fd_Lput ["_law_disk", "_law_log", "_law_slot", "_law_record"] (sp_Lput K T.C_Disk T.C_Plan T.Ps) := by
  refine T.F_Lput.ok sc_Lput (fun vs H Q E h => ?_) (fun cdv A0 outer s H vs Q E hr h => ?_)
  · obtain ⟨_, _, _, _, _, _, _, _, _, _, _, _, rfl, _⟩ := h; rfl
  · obtain ⟨p, d, lq, u, slot, A, hd, la, M, hs, lg, r, rfl, X11, hs0, hs30, hru, fit, rl, k⟩ := h
    have hr2 := hr.mono (show 2 ≤ 10 by decide)
    refine ⟨_, (pss_cons (ps_expr (pe_meth (pv 0) T.cl_Disk T.m_Disk_sure (ok_sure T) hr2 (b_Disk_sure T) .nil pass0 (pa_cons (pe_meth (pv 0) T.cl_Disk T.m_Disk_issue (ok_issue T B) hr (b_Disk_issue T) .nil pass0 (pa_cons (pe_tup (pa_cons pe_str (pa_cons (pv 2) pa_nil))) (pa_cons (pv 3) pa_nil))) pa_nil)))
      (pss_one (ps_asg (pv 3) (pg_sub (pv 1) (pv 2) set_list)))), ?_⟩
    obtain ⟨dx, ho⟩ := X11.D.ob
    refine ⟨_, rfl, d, _, _, rfl, ho, rfl, _, rfl, d, _, _, rfl, ho, rfl, _, rfl, by show 2 ≤ sizeLine; decide, fun t nt => ?_⟩
    have st := same_upd (o := .tup [.str "log", .int slot]) nt
    have X12 := X11.same st
    have hru2 := hru.same st
    have hq : PlcAt K (upd H t (.tup [.str "log", .int slot])) t (.log slot) := .of upd_same
    refine ⟨_, rfl, d, t, u, A, 24, 5, 30, hd, la, hs, lg.map gV, .log slot, rfl, X12.D, hq, ⟨hs0, by omega, r, hru2, fit⟩, X12.t, fun H13 wt t13 k13 D13 e13 => ?_⟩
    have X13 := X12.issued t13 k13 D13
    have hru3 := hru2.by fun _ _ => seqT_kp k13 X12.isn
    refine ⟨d, t, u, wt, la + 1, A, 24, 5, 30, hd, la + 1, hs, lg.map gV, .log slot, rfl, D13, e13, hq.by fun _ _ => seqT_kp k13 X12.isn, ⟨hs0, by omega⟩, t13, fun H14 t14 k14 D14 => ?_⟩
    have hsl : slot.toNat < (lg.map gV).length := by have := X13.D.gl; omega
    obtain ⟨e14, X14⟩ := X13.logged t14 k14 D14 hru3 fit rl
    refine ⟨_, rfl, _, rfl, _, rfl, lq, _, slot, slot.toNat, rfl, rfl, e14, ixN_at (by omega) hsl, ?_⟩
    refine k _ ?_ X14
    have k13' : Kp (lq :: A.ho :: A.lg :: d :: A.pd :: T.Ps) H H13 := (Kp.of st).trans (k13.mono fun x h => by
      rcases List.mem_cons.mp h with z | z
      · simp [z]
      rcases List.mem_cons.mp z with z | z
      · simp [z]
      · simp [z])
    exact (k13'.trans (k14.mono fun x h => by
      simp only [List.mem_cons, List.not_mem_nil, or_false] at h
      rcases h with z | z | z <;> simp [z])).own (by simp)
end
end K46
namespace K46
open PySem PySem.Spec PyProof.Rows L2 Rg
/-! ### the cells that come up -/
def zer : List Int := [0, 0, 0, 0, 0, 0, 0, 0]
def foundR (lot x : Int) : Option (Addr × Rec) → List Int
  | some (_, .copy l y c) => if l = lot ∧ y = x then c else zer
  | _ => zer
def foundC (hc : List (List Int)) (lg : LogL) (x : Int) : Option (Int × Int) → List Int
  | none => hc.getD x.toNat zer
  | some p => if 0 ≤ p.2 ∧ p.2 < lg.length then foundR p.1 x (lg.getD p.2.toNat none) else zer
/-- tuples of cells stand at ts -/
def HomAt (K : PySem.W.Frag) (H : Hp) (ts : List Addr) (hc : List (List Int)) : Prop := ts.length = hc.length ∧ ∀ (i : Nat) (t : Addr) (c : List Int), ts[i]? = some t → hc[i]? = some c → SqT K H t (c.map V.int)
theorem HomAt.by {K : PySem.W.Frag} {H H' : Hp} {ts : List Addr} {hc : List (List Int)} (h : HomAt K H ts hc) (f : ∀ b xs, SqT K H b xs → SqT K H' b xs) : HomAt K H' ts hc := ⟨h.1, fun i t c a b => f _ _ (h.2 i t c a b)⟩
theorem HomAt.same {K : PySem.W.Frag} {H H' : Hp} {ts : List Addr} {hc : List (List Int)} (h : HomAt K H ts hc) (S : Same H H') : HomAt K H' ts hc := h.by fun _ _ => sameT S
theorem HomAt.at {K : PySem.W.Frag} {H : Hp} {ts : List Addr} {hc : List (List Int)} (h : HomAt K H ts hc) {i : Nat} (hi : i < hc.length) : ∃ t, ts[i]? = some t ∧ SqT K H t ((hc.getD i zer).map V.int) := by
  have e1 : ts[i]? = some (ts[i]'(by rw [h.1]; exact hi)) := List.getElem?_eq_getElem (by rw [h.1]; exact hi)
  have e2 : hc[i]? = some hc[i] := List.getElem?_eq_getElem hi
  exact ⟨_, e1, by rw [List.getD_eq_getElem?_getD, e2]; exact h.2 i _ _ e1 e2⟩
theorem HomAt.set {K : PySem.W.Frag} {H : Hp} {ts : List Addr} {hc : List (List Int)} (h : HomAt K H ts hc) {t : Addr} {c : List Int} (e : SqT K H t (c.map V.int)) (i : Nat) : HomAt K H (ts.set i t) (hc.set i c) := ⟨by rw [List.length_set, List.length_set]; exact h.1, fun j t' c' a b => by
  rw [List.getElem?_set] at a b
  by_cases z : i = j
  · rw [if_pos z] at a b
    by_cases y : i < ts.length
    · rw [if_pos y] at a
      rw [if_pos (by rw [← h.1]; exact y)] at b
      cases a; cases b
      exact e
    · rw [if_neg y] at a
      cases a
  · rw [if_neg z] at a b
    exact h.2 j t' c' a b⟩
theorem eq3 (a b c d : Int) : PyData.eqv (.tuple [.str "copy", .int a, .int b]) (.tuple [.str "copy", .int c, .int d]) = decide (a = c ∧ b = d) := by
  simp [PyData.eqv, PyData.eqvAll, Bool.decide_and]
  by_cases e : a = c <;> by_cases f : b = d <;> simp [e, f]
theorem sh3 {z : Str} (hz : PyData.canLay0 (.str z) = true) (a b : Int) : SeqAt.shaped (.tuple [.str z, .int a, .int b]) = true := by
  unfold SeqAt.shaped
  rw [Bool.and_eq_true]
  exact ⟨by show (PyData.canLay0 (.str z) && true) = true; rw [hz]; rfl, rfl⟩
theorem shM (lot : Int) (ps : List (Int × Int)) : SeqAt.shaped (.tuple [.str "mark", .int lot, .tuple (ps.map dPr)]) = true := by
  unfold SeqAt.shaped
  rw [Bool.and_eq_true]
  refine ⟨by show (PyData.canLay0 (.str "mark") && (PyData.canLayAll0 (ps.map dPr) && true)) = true; rw [r_canP, show PyData.canLay0 (.str "mark") = true by decide +kernel]; rfl, decide_eq_true ?_⟩
  show max 0 (max 0 (max (PyData.depthAll (ps.map dPr) + 1) 0)) + 1 ≤ 64
  have := r_depP ps
  omega
theorem rep8 {K : PySem.W.Frag} {H : Hp} {Q : VK} {t0 : Addr} (h : SqT K H t0 [.int 0]) (k : ∀ t, H t = none → Q (.ref t) (upd H t (.tup (zer.map V.int)))) : rRepT K (.ref t0) (.int 8) H Q :=
  ⟨t0, 8, _, rfl, rfl, h, by simp, by decide, by decide, by decide, fun t nt => k t nt⟩
section
variable {P : Program} {w : World} {K : PySem.W.Frag} {mg : Str → Option Value} {base : Heap}
def sp_cells_found (CD CP : Addr) (K : PySem.W.Frag) : Sp := fun vs H Q _ => ∃ (d a : Addr) (x : Int) (A : DA) (b n s hd la M : Int) (ts : List Addr) (hc : List (List Int)) (lg : LogL) (kv lv : List (Key × V)) (F : LiveF), vs = [.ref d, .int x, .ref a] ∧ DAt CD CP H d A b n s hd la (ts.map V.ref) (lg.map gV) kv ∧ LogAt K H b s M lg ∧ HomAt K H ts hc ∧ H a = some (.dK lv) ∧ LvAt H lv F ∧ 0 ≤ x ∧ x < b ∧
  ∀ (H' : Hp) (t : Addr), Same H H' → SqT K H' t ((foundC hc lg x (F x)).map V.int) → Q (.ref t) H'
theorem ok_cells_found (T : Tx K mg) : FnOk P w K mg base CX0 1 T.f_cells_found T.fd_cells_found ["disk", "x", "live"] (sp_cells_found T.C_Disk T.C_Plan K) := by
  refine T.F_cells_found.ok sc_cells_found (fun vs H Q E h => ?_) (fun cdv A0 outer s H vs Q E hr h => ?_)
  · obtain ⟨_, _, _, _, _, _, _, _, _, _, _, _, _, _, _, _, rfl, _⟩ := h; rfl
  · obtain ⟨d, a, x, A, b, n, sl, hd, la, M, ts, hc, lg, kv, lv, F, rfl, D, hL, hH, ea, hF, x0, xb, k⟩ := h
    refine ⟨_, (pss_cons (ps_if (pt_cmp (pc_dnotin (hu_of hr) (pv 1) (pv 2)) rfl)
        (pss_one (ps_ret (pe_ix ix_list (pe_fld (pv 0) rfl) (pv 1) (fun _ _ => rfl))))
        pss_nil)
      (pss_cons (ps_asg (pe_dget (hu_of hr) (pv 2) (pv 1) (fun _ _ => rfl)) (pg_tup rfl (pgs_cons (pg_name (i := 3) sc_cells_found.nd rfl (.inl rfl)) (pgs_cons (pg_name (i := 4) sc_cells_found.nd rfl (.inl rfl)) pgs_nil))))
      (pss_cons (ps_set (i := 5) sc_cells_found.nd rfl (.inl rfl) (pe_ifExp (pt_chain op_le op_lt pe_int (pv 4) (pe_callB call_len_seq rfl T.b_len (by decide +kernel) (pa_cons (pe_fld (pv 0) rfl) pa_nil))) (pe_ix ix_list (pe_fld (pv 0) rfl) (pv 4) (fun _ _ => rfl)) pe_non))
      (pss_cons (ps_if (PW.pt (pw_and (pt_cmpR op_notN (pv 5) pe_non (nomark _)) (pw_and1 (pt_cmpR (op_eqD hr.units) (pe_slice sl_tup (pv 5) po_none (po_some pe_int)) (pe_tup (pa_cons pe_str (pa_cons (pv 3) (pa_cons (pv 1) pa_nil)))) (nomark _)))))
        (pss_one (ps_ret (pe_ix ix_tup (pv 5) pe_int (fun _ _ => rfl))))
        pss_nil)
      (pss_one (ps_ret (pe_op op_repT (pe_tup (pa_cons pe_int pa_nil)) (pe_cv T.mg_Plan T.cr_Plan T.cv_Plan_WIDTH)))))))), ?_⟩
    have fx := hF x
    obtain ⟨dx, ho⟩ := D.ob
    have lgl : (lg.length : Int) = sl := by have := D.gl; rw [List.length_map] at this; exact this
    -- eight zeros
    have zeros : ∀ (H1 : Hp) (t : Addr), Same H H1 → H1 t = none → foundC hc lg x (F x) = zer → Q (.ref t) (upd H1 t (.tup (zer.map V.int))) := fun H1 t S1 nt ez => k _ t (S1.trans (same_upd nt)) (by rw [ez]; exact .of upd_same)
    have dg := DGet.k (k := Sum.inl x) ea
    have elg := D.lg
    have eho := D.ho
    have cD := T.cl_Disk
    have nl := T.na_Disk_log
    have nh := T.na_Disk_home
    cases q : F x with
    | none =>
      rw [q] at fx
      rw [show valV lv (Sum.inl x) = none from fx] at dg
      have := D.hl
      have hxl : x.toNat < hc.length := by rw [List.length_map, hH.1] at this; omega
      obtain ⟨t, t1, t2⟩ := hH.at hxl
      have g1 : atI (ts.map V.ref) x = some (.ref t) := atN (j := x.toNat) (by omega) (by rw [List.getElem?_map, t1]; rfl)
      (repeat ((fail_if_success (intro _)); first | (refine And.intro ?_ ?_; focus (first | rfl | assumption | exact .of (by assumption) | exact .inl (.of (by assumption)) | exact .inr (by assumption) | exact .inr (.of (by assumption)) | exact kit_ty (by decide +kernel) | exact .ty _ | exact tyT (by assumption) | exact .base (.int _) | (show _ ≤ sizeLine; first | decide | exact Nat.le_of_ble_eq_true rfl | (simp only [List.length_cons, List.length_nil]; decide)) | exact ⟨_, .of (by assumption)⟩ | exact ⟨_, by assumption⟩ | exact DGet.k (by assumption) | (with_reducible show (_ : Int) ≤ _; omega) | (with_reducible show (_ : Int) < _; omega) | (with_reducible show (_ : Nat) ≤ _; omega) | (with_reducible show (_ : Nat) < _; omega) | exact CMul_l (by decide) | exact CMul_r (by decide))) | ((fail_if_success (show ∃ W : Nat → Nat → L2.St → Hp → Prop, _)); apply Exists.intro) | (refine iteT ?_) | (refine iteF ?_) | (refine wT ?_ ?_; focus omega) | (refine wF ?_ ?_; focus omega) | (refine wTv ?_ ?_; focus omega) | (refine wFv ?_ ?_; focus omega) | (refine wNT ?_ ?_; focus omega) | (refine wNF ?_ ?_; focus omega)))
      exact k H t (fun _ _ z => z) (by rw [q]; exact t2)
    | some p =>
      rw [q] at fx zeros
      obtain ⟨t, fx1, fx2⟩ := fx
      rw [fx1] at dg
      (repeat ((fail_if_success (intro _)); first | (refine And.intro ?_ ?_; focus (first | rfl | assumption | exact .of (by assumption) | exact .inl (.of (by assumption)) | exact .inr (by assumption) | exact .inr (.of (by assumption)) | exact kit_ty (by decide +kernel) | exact .ty _ | exact tyT (by assumption) | exact .base (.int _) | (show _ ≤ sizeLine; first | decide | exact Nat.le_of_ble_eq_true rfl | (simp only [List.length_cons, List.length_nil]; decide)) | exact ⟨_, .of (by assumption)⟩ | exact ⟨_, by assumption⟩ | exact DGet.k (by assumption) | (with_reducible show (_ : Int) ≤ _; omega) | (with_reducible show (_ : Int) < _; omega) | (with_reducible show (_ : Nat) ≤ _; omega) | (with_reducible show (_ : Nat) < _; omega) | exact CMul_l (by decide) | exact CMul_r (by decide))) | ((fail_if_success (show ∃ W : Nat → Nat → L2.St → Hp → Prop, _)); apply Exists.intro) | (refine iteT ?_) | (refine iteF ?_) | (refine wT ?_ ?_; focus omega) | (refine wF ?_ ?_; focus omega) | (refine wTv ?_ ?_; focus omega) | (refine wFv ?_ ?_; focus omega) | (refine wNT ?_ ?_; focus omega) | (refine wNF ?_ ?_; focus omega)))
      refine wD (fun h0 => ?_) fun h0 => ?_
      · (repeat ((fail_if_success (intro _)); first | (refine And.intro ?_ ?_; focus (first | rfl | assumption | exact .of (by assumption) | exact .inl (.of (by assumption)) | exact .inr (by assumption) | exact .inr (.of (by assumption)) | exact kit_ty (by decide +kernel) | exact .ty _ | exact tyT (by assumption) | exact .base (.int _) | (show _ ≤ sizeLine; first | decide | exact Nat.le_of_ble_eq_true rfl | (simp only [List.length_cons, List.length_nil]; decide)) | exact ⟨_, .of (by assumption)⟩ | exact ⟨_, by assumption⟩ | exact DGet.k (by assumption) | (with_reducible show (_ : Int) ≤ _; omega) | (with_reducible show (_ : Int) < _; omega) | (with_reducible show (_ : Nat) ≤ _; omega) | (with_reducible show (_ : Nat) < _; omega) | exact CMul_l (by decide) | exact CMul_r (by decide))) | ((fail_if_success (show ∃ W : Nat → Nat → L2.St → Hp → Prop, _)); apply Exists.intro) | (refine iteT ?_) | (refine iteF ?_) | (refine wT ?_ ?_; focus omega) | (refine wF ?_ ?_; focus omega) | (refine wTv ?_ ?_; focus omega) | (refine wFv ?_ ?_; focus omega) | (refine wNT ?_ ?_; focus omega) | (refine wNF ?_ ?_; focus omega)))
        refine wD (fun h1 => ?_) fun h1 => ?_
        · rw [List.length_map] at h1
          obtain ⟨o, eo⟩ : ∃ o, lg[p.2.toNat]? = some o := ⟨_, List.getElem?_eq_getElem (by omega)⟩
          have g1 : atI (lg.map gV) p.2 = some (gV o) := atN (j := p.2.toNat) (by omega) (by rw [List.getElem?_map, eo]; rfl)
          have eF : foundC hc lg x (some p) = foundR p.1 x o := by
            show (if 0 ≤ p.2 ∧ p.2 < lg.length then _ else _) = _
            rw [if_pos (by omega), List.getD_eq_getElem?_getD, eo]; rfl
          rw [q, eF] at k
          rw [eF] at zeros
          (repeat ((fail_if_success (intro _)); first | (refine And.intro ?_ ?_; focus (first | rfl | assumption | exact .of (by assumption) | exact .inl (.of (by assumption)) | exact .inr (by assumption) | exact .inr (.of (by assumption)) | exact kit_ty (by decide +kernel) | exact .ty _ | exact tyT (by assumption) | exact .base (.int _) | (show _ ≤ sizeLine; first | decide | exact Nat.le_of_ble_eq_true rfl | (simp only [List.length_cons, List.length_nil]; decide)) | exact ⟨_, .of (by assumption)⟩ | exact ⟨_, by assumption⟩ | exact DGet.k (by assumption) | (with_reducible show (_ : Int) ≤ _; omega) | (with_reducible show (_ : Int) < _; omega) | (with_reducible show (_ : Nat) ≤ _; omega) | (with_reducible show (_ : Nat) < _; omega) | exact CMul_l (by decide) | exact CMul_r (by decide))) | ((fail_if_success (show ∃ W : Nat → Nat → L2.St → Hp → Prop, _)); apply Exists.intro) | (refine iteT ?_) | (refine iteF ?_) | (refine wT ?_ ?_; focus omega) | (refine wF ?_ ?_; focus omega) | (refine wTv ?_ ?_; focus omega) | (refine wFv ?_ ?_; focus omega) | (refine wNT ?_ ?_; focus omega) | (refine wNF ?_ ?_; focus omega)))
          cases o with
          | none =>
            (repeat ((fail_if_success (intro _)); first | (refine And.intro ?_ ?_; focus (first | rfl | assumption | exact .of (by assumption) | exact .inl (.of (by assumption)) | exact .inr (by assumption) | exact .inr (.of (by assumption)) | exact kit_ty (by decide +kernel) | exact .ty _ | exact tyT (by assumption) | exact .base (.int _) | (show _ ≤ sizeLine; first | decide | exact Nat.le_of_ble_eq_true rfl | (simp only [List.length_cons, List.length_nil]; decide)) | exact ⟨_, .of (by assumption)⟩ | exact ⟨_, by assumption⟩ | exact DGet.k (by assumption) | (with_reducible show (_ : Int) ≤ _; omega) | (with_reducible show (_ : Int) < _; omega) | (with_reducible show (_ : Nat) ≤ _; omega) | (with_reducible show (_ : Nat) < _; omega) | exact CMul_l (by decide) | exact CMul_r (by decide))) | ((fail_if_success (show ∃ W : Nat → Nat → L2.St → Hp → Prop, _)); apply Exists.intro) | (refine iteT ?_) | (refine iteF ?_) | (refine wT ?_ ?_; focus omega) | (refine wF ?_ ?_; focus omega) | (refine wTv ?_ ?_; focus omega) | (refine wFv ?_ ?_; focus omega) | (refine wNT ?_ ?_; focus omega) | (refine wNF ?_ ?_; focus omega)))
            (intro t0 n_t0; generalize he_t0 : upd _ t0 _ = H1; obtain ⟨e_t0, s_t0, f_t0⟩ := new_f he_t0 n_t0; clear he_t0)
            exact rep8 (.of e_t0) fun t nt => zeros _ t s_t0 nt rfl
          | some u =>
            obtain ⟨ra, r⟩ := u
            obtain ⟨hR, _, _⟩ := hL _ _ _ eo
            cases r with
            | copy lot y c =>
              obtain ⟨pc, h1, h2⟩ := hR
              (repeat ((fail_if_success (intro _)); first | (refine And.intro ?_ ?_; focus (first | rfl | assumption | exact .of (by assumption) | exact .inl (.of (by assumption)) | exact .inr (by assumption) | exact .inr (.of (by assumption)) | exact kit_ty (by decide +kernel) | exact .ty _ | exact tyT (by assumption) | exact .base (.int _) | (show _ ≤ sizeLine; first | decide | exact Nat.le_of_ble_eq_true rfl | (simp only [List.length_cons, List.length_nil]; decide)) | exact ⟨_, .of (by assumption)⟩ | exact ⟨_, by assumption⟩ | exact DGet.k (by assumption) | (with_reducible show (_ : Int) ≤ _; omega) | (with_reducible show (_ : Int) < _; omega) | (with_reducible show (_ : Nat) ≤ _; omega) | (with_reducible show (_ : Nat) < _; omega) | exact CMul_l (by decide) | exact CMul_r (by decide))) | ((fail_if_success (show ∃ W : Nat → Nat → L2.St → Hp → Prop, _)); apply Exists.intro) | (refine iteT ?_) | (refine iteF ?_) | (refine wT ?_ ?_; focus omega) | (refine wF ?_ ?_; focus omega) | (refine wTv ?_ ?_; focus omega) | (refine wFv ?_ ?_; focus omega) | (refine wNT ?_ ?_; focus omega) | (refine wNF ?_ ?_; focus omega)))
              refine ⟨fun z => absurd z.2 (by show HT.sIx 4 4 (some 3) ≠ 4; decide), ?_⟩
              (intro q n_q; generalize he_q : upd _ q _ = H1; obtain ⟨e_q, s_q, f_q⟩ := new_f he_q n_q; clear he_q)
              have e_q : H1 q = some (.tup [.str "copy", .int lot, .int y]) := by rw [e_q]; rfl
              (repeat ((fail_if_success (intro _)); first | (refine And.intro ?_ ?_; focus (first | rfl | assumption | exact .of (by assumption) | exact .inl (.of (by assumption)) | exact .inr (by assumption) | exact .inr (.of (by assumption)) | exact kit_ty (by decide +kernel) | exact .ty _ | exact tyT (by assumption) | exact .base (.int _) | (show _ ≤ sizeLine; first | decide | exact Nat.le_of_ble_eq_true rfl | (simp only [List.length_cons, List.length_nil]; decide)) | exact ⟨_, .of (by assumption)⟩ | exact ⟨_, by assumption⟩ | exact DGet.k (by assumption) | (with_reducible show (_ : Int) ≤ _; omega) | (with_reducible show (_ : Int) < _; omega) | (with_reducible show (_ : Nat) ≤ _; omega) | (with_reducible show (_ : Nat) < _; omega) | exact CMul_l (by decide) | exact CMul_r (by decide))) | ((fail_if_success (show ∃ W : Nat → Nat → L2.St → Hp → Prop, _)); apply Exists.intro) | (refine iteT ?_) | (refine iteF ?_) | (refine wT ?_ ?_; focus omega) | (refine wF ?_ ?_; focus omega) | (refine wTv ?_ ?_; focus omega) | (refine wFv ?_ ?_; focus omega) | (refine wNT ?_ ?_; focus omega) | (refine wNF ?_ ?_; focus omega)))
              (intro u n_u; generalize he_u : upd _ u _ = H2; obtain ⟨e_u, s_u, f_u⟩ := new_f he_u n_u; clear he_u)
              refine ⟨.tuple [.str "copy", .int lot, .int y], .tuple [.str "copy", .int p.1, .int x], .tup (.of (s_u _ _ e_q)) (.cons (.str _) (.cons (.int _) (.cons (.int _) .nil))), .tup (.of e_u) (.cons (.str _) (.cons (.int _) (.cons (.int _) .nil))), sh3 (by decide +kernel) _ _, sh3 (by decide +kernel) _ _, ?_⟩
              have S2 := s_q.trans s_u
              have h1' := sameT S2 h1
              (repeat ((fail_if_success (intro _)); first | (refine And.intro ?_ ?_; focus (first | rfl | assumption | exact .of (by assumption) | exact .inl (.of (by assumption)) | exact .inr (by assumption) | exact .inr (.of (by assumption)) | exact kit_ty (by decide +kernel) | exact .ty _ | exact tyT (by assumption) | exact .base (.int _) | (show _ ≤ sizeLine; first | decide | exact Nat.le_of_ble_eq_true rfl | (simp only [List.length_cons, List.length_nil]; decide)) | exact ⟨_, .of (by assumption)⟩ | exact ⟨_, by assumption⟩ | exact DGet.k (by assumption) | (with_reducible show (_ : Int) ≤ _; omega) | (with_reducible show (_ : Int) < _; omega) | (with_reducible show (_ : Nat) ≤ _; omega) | (with_reducible show (_ : Nat) < _; omega) | exact CMul_l (by decide) | exact CMul_r (by decide))) | ((fail_if_success (show ∃ W : Nat → Nat → L2.St → Hp → Prop, _)); apply Exists.intro) | (refine iteT ?_) | (refine iteF ?_) | (refine wT ?_ ?_; focus omega) | (refine wF ?_ ?_; focus omega) | (refine wTv ?_ ?_; focus omega) | (refine wFv ?_ ?_; focus omega) | (refine wNT ?_ ?_; focus omega) | (refine wNF ?_ ?_; focus omega)))
              rw [eq3]
              by_cases e : lot = p.1 ∧ y = x
              · rw [decide_eq_true e]
                rw [show foundR p.1 x (some (ra, Rec.copy lot y c)) = c from if_pos e] at k
                have h3 : atI [V.str "copy", V.int lot, V.int y, V.ref pc] 3 = some (.ref pc) := rfl
                (repeat ((fail_if_success (intro _)); first | (refine And.intro ?_ ?_; focus (first | rfl | assumption | exact .of (by assumption) | exact .inl (.of (by assumption)) | exact .inr (by assumption) | exact .inr (.of (by assumption)) | exact kit_ty (by decide +kernel) | exact .ty _ | exact tyT (by assumption) | exact .base (.int _) | (show _ ≤ sizeLine; first | decide | exact Nat.le_of_ble_eq_true rfl | (simp only [List.length_cons, List.length_nil]; decide)) | exact ⟨_, .of (by assumption)⟩ | exact ⟨_, by assumption⟩ | exact DGet.k (by assumption) | (with_reducible show (_ : Int) ≤ _; omega) | (with_reducible show (_ : Int) < _; omega) | (with_reducible show (_ : Nat) ≤ _; omega) | (with_reducible show (_ : Nat) < _; omega) | exact CMul_l (by decide) | exact CMul_r (by decide))) | ((fail_if_success (show ∃ W : Nat → Nat → L2.St → Hp → Prop, _)); apply Exists.intro) | (refine iteT ?_) | (refine iteF ?_) | (refine wT ?_ ?_; focus omega) | (refine wF ?_ ?_; focus omega) | (refine wTv ?_ ?_; focus omega) | (refine wFv ?_ ?_; focus omega) | (refine wNT ?_ ?_; focus omega) | (refine wNF ?_ ?_; focus omega)))
                exact k _ pc S2 (sameT S2 h2)
              · rw [decide_eq_false e]
                (repeat ((fail_if_success (intro _)); first | (refine And.intro ?_ ?_; focus (first | rfl | assumption | exact .of (by assumption) | exact .inl (.of (by assumption)) | exact .inr (by assumption) | exact .inr (.of (by assumption)) | exact kit_ty (by decide +kernel) | exact .ty _ | exact tyT (by assumption) | exact .base (.int _) | (show _ ≤ sizeLine; first | decide | exact Nat.le_of_ble_eq_true rfl | (simp only [List.length_cons, List.length_nil]; decide)) | exact ⟨_, .of (by assumption)⟩ | exact ⟨_, by assumption⟩ | exact DGet.k (by assumption) | (with_reducible show (_ : Int) ≤ _; omega) | (with_reducible show (_ : Int) < _; omega) | (with_reducible show (_ : Nat) ≤ _; omega) | (with_reducible show (_ : Nat) < _; omega) | exact CMul_l (by decide) | exact CMul_r (by decide))) | ((fail_if_success (show ∃ W : Nat → Nat → L2.St → Hp → Prop, _)); apply Exists.intro) | (refine iteT ?_) | (refine iteF ?_) | (refine wT ?_ ?_; focus omega) | (refine wF ?_ ?_; focus omega) | (refine wTv ?_ ?_; focus omega) | (refine wFv ?_ ?_; focus omega) | (refine wNT ?_ ?_; focus omega) | (refine wNF ?_ ?_; focus omega)))
                (intro t0 n_t0; generalize he_t0 : upd _ t0 _ = H3; obtain ⟨e_t0, s_t0, f_t0⟩ := new_f he_t0 n_t0; clear he_t0)
                exact rep8 (.of e_t0) fun t nt => zeros _ t (S2.trans s_t0) nt (if_neg e)
            | mark lot ps rs =>
              obtain ⟨pp, pr, h1, ⟨qs, g2, g3, g4⟩, _⟩ := hR
              (repeat ((fail_if_success (intro _)); first | (refine And.intro ?_ ?_; focus (first | rfl | assumption | exact .of (by assumption) | exact .inl (.of (by assumption)) | exact .inr (by assumption) | exact .inr (.of (by assumption)) | exact kit_ty (by decide +kernel) | exact .ty _ | exact tyT (by assumption) | exact .base (.int _) | (show _ ≤ sizeLine; first | decide | exact Nat.le_of_ble_eq_true rfl | (simp only [List.length_cons, List.length_nil]; decide)) | exact ⟨_, .of (by assumption)⟩ | exact ⟨_, by assumption⟩ | exact DGet.k (by assumption) | (with_reducible show (_ : Int) ≤ _; omega) | (with_reducible show (_ : Int) < _; omega) | (with_reducible show (_ : Nat) ≤ _; omega) | (with_reducible show (_ : Nat) < _; omega) | exact CMul_l (by decide) | exact CMul_r (by decide))) | ((fail_if_success (show ∃ W : Nat → Nat → L2.St → Hp → Prop, _)); apply Exists.intro) | (refine iteT ?_) | (refine iteF ?_) | (refine wT ?_ ?_; focus omega) | (refine wF ?_ ?_; focus omega) | (refine wTv ?_ ?_; focus omega) | (refine wFv ?_ ?_; focus omega) | (refine wNT ?_ ?_; focus omega) | (refine wNF ?_ ?_; focus omega)))
              refine ⟨fun z => absurd z.2 (by show HT.sIx 4 4 (some 3) ≠ 4; decide), ?_⟩
              (intro q n_q; generalize he_q : upd _ q _ = H1; obtain ⟨e_q, s_q, f_q⟩ := new_f he_q n_q; clear he_q)
              have e_q : H1 q = some (.tup [.str "mark", .int lot, .ref pp]) := by rw [e_q]; rfl
              (repeat ((fail_if_success (intro _)); first | (refine And.intro ?_ ?_; focus (first | rfl | assumption | exact .of (by assumption) | exact .inl (.of (by assumption)) | exact .inr (by assumption) | exact .inr (.of (by assumption)) | exact kit_ty (by decide +kernel) | exact .ty _ | exact tyT (by assumption) | exact .base (.int _) | (show _ ≤ sizeLine; first | decide | exact Nat.le_of_ble_eq_true rfl | (simp only [List.length_cons, List.length_nil]; decide)) | exact ⟨_, .of (by assumption)⟩ | exact ⟨_, by assumption⟩ | exact DGet.k (by assumption) | (with_reducible show (_ : Int) ≤ _; omega) | (with_reducible show (_ : Int) < _; omega) | (with_reducible show (_ : Nat) ≤ _; omega) | (with_reducible show (_ : Nat) < _; omega) | exact CMul_l (by decide) | exact CMul_r (by decide))) | ((fail_if_success (show ∃ W : Nat → Nat → L2.St → Hp → Prop, _)); apply Exists.intro) | (refine iteT ?_) | (refine iteF ?_) | (refine wT ?_ ?_; focus omega) | (refine wF ?_ ?_; focus omega) | (refine wTv ?_ ?_; focus omega) | (refine wFv ?_ ?_; focus omega) | (refine wNT ?_ ?_; focus omega) | (refine wNF ?_ ?_; focus omega)))
              (intro u n_u; generalize he_u : upd _ u _ = H2; obtain ⟨e_u, s_u, f_u⟩ := new_f he_u n_u; clear he_u)
              have S2 := s_q.trans s_u
              refine ⟨.tuple [.str "mark", .int lot, .tuple (ps.map dPr)], .tuple [.str "copy", .int p.1, .int x], .tup (.of (s_u _ _ e_q)) (.cons (.str _) (.cons (.int _) (.cons (.tup (sameT S2 g2) (r_dpAllP qs ps g3 fun i q p a b => sameT S2 (g4 i q p a b))) .nil))), .tup (.of e_u) (.cons (.str _) (.cons (.int _) (.cons (.int _) .nil))), shM _ _, sh3 (by decide +kernel) _ _, _, rfl, wFb rfl ?_⟩
              (repeat ((fail_if_success (intro _)); first | (refine And.intro ?_ ?_; focus (first | rfl | assumption | exact .of (by assumption) | exact .inl (.of (by assumption)) | exact .inr (by assumption) | exact .inr (.of (by assumption)) | exact kit_ty (by decide +kernel) | exact .ty _ | exact tyT (by assumption) | exact .base (.int _) | (show _ ≤ sizeLine; first | decide | exact Nat.le_of_ble_eq_true rfl | (simp only [List.length_cons, List.length_nil]; decide)) | exact ⟨_, .of (by assumption)⟩ | exact ⟨_, by assumption⟩ | exact DGet.k (by assumption) | (with_reducible show (_ : Int) ≤ _; omega) | (with_reducible show (_ : Int) < _; omega) | (with_reducible show (_ : Nat) ≤ _; omega) | (with_reducible show (_ : Nat) < _; omega) | exact CMul_l (by decide) | exact CMul_r (by decide))) | ((fail_if_success (show ∃ W : Nat → Nat → L2.St → Hp → Prop, _)); apply Exists.intro) | (refine iteT ?_) | (refine iteF ?_) | (refine wT ?_ ?_; focus omega) | (refine wF ?_ ?_; focus omega) | (refine wTv ?_ ?_; focus omega) | (refine wFv ?_ ?_; focus omega) | (refine wNT ?_ ?_; focus omega) | (refine wNF ?_ ?_; focus omega)))
              (intro t0 n_t0; generalize he_t0 : upd _ t0 _ = H3; obtain ⟨e_t0, s_t0, f_t0⟩ := new_f he_t0 n_t0; clear he_t0)
              exact rep8 (.of e_t0) fun t nt => zeros _ t (S2.trans s_t0) nt rfl
        · (repeat ((fail_if_success (intro _)); first | (refine And.intro ?_ ?_; focus (first | rfl | assumption | exact .of (by assumption) | exact .inl (.of (by assumption)) | exact .inr (by assumption) | exact .inr (.of (by assumption)) | exact kit_ty (by decide +kernel) | exact .ty _ | exact tyT (by assumption) | exact .base (.int _) | (show _ ≤ sizeLine; first | decide | exact Nat.le_of_ble_eq_true rfl | (simp only [List.length_cons, List.length_nil]; decide)) | exact ⟨_, .of (by assumption)⟩ | exact ⟨_, by assumption⟩ | exact DGet.k (by assumption) | (with_reducible show (_ : Int) ≤ _; omega) | (with_reducible show (_ : Int) < _; omega) | (with_reducible show (_ : Nat) ≤ _; omega) | (with_reducible show (_ : Nat) < _; omega) | exact CMul_l (by decide) | exact CMul_r (by decide))) | ((fail_if_success (show ∃ W : Nat → Nat → L2.St → Hp → Prop, _)); apply Exists.intro) | (refine iteT ?_) | (refine iteF ?_) | (refine wT ?_ ?_; focus omega) | (refine wF ?_ ?_; focus omega) | (refine wTv ?_ ?_; focus omega) | (refine wFv ?_ ?_; focus omega) | (refine wNT ?_ ?_; focus omega) | (refine wNF ?_ ?_; focus omega)))
          (intro t0 n_t0; generalize he_t0 : upd _ t0 _ = H1; obtain ⟨e_t0, s_t0, f_t0⟩ := new_f he_t0 n_t0; clear he_t0)
          exact rep8 (.of e_t0) fun t nt => zeros _ t s_t0 nt (if_neg fun z => by rw [List.length_map] at h1; omega)
      · (repeat ((fail_if_success (intro _)); first | (refine And.intro ?_ ?_; focus (first | rfl | assumption | exact .of (by assumption) | exact .inl (.of (by assumption)) | exact .inr (by assumption) | exact .inr (.of (by assumption)) | exact kit_ty (by decide +kernel) | exact .ty _ | exact tyT (by assumption) | exact .base (.int _) | (show _ ≤ sizeLine; first | decide | exact Nat.le_of_ble_eq_true rfl | (simp only [List.length_cons, List.length_nil]; decide)) | exact ⟨_, .of (by assumption)⟩ | exact ⟨_, by assumption⟩ | exact DGet.k (by assumption) | (with_reducible show (_ : Int) ≤ _; omega) | (with_reducible show (_ : Int) < _; omega) | (with_reducible show (_ : Nat) ≤ _; omega) | (with_reducible show (_ : Nat) < _; omega) | exact CMul_l (by decide) | exact CMul_r (by decide))) | ((fail_if_success (show ∃ W : Nat → Nat → L2.St → Hp → Prop, _)); apply Exists.intro) | (refine iteT ?_) | (refine iteF ?_) | (refine wT ?_ ?_; focus omega) | (refine wF ?_ ?_; focus omega) | (refine wTv ?_ ?_; focus omega) | (refine wFv ?_ ?_; focus omega) | (refine wNT ?_ ?_; focus omega) | (refine wNF ?_ ?_; focus omega)))
        (intro t0 n_t0; generalize he_t0 : upd _ t0 _ = H1; obtain ⟨e_t0, s_t0, f_t0⟩ := new_f he_t0 n_t0; clear he_t0)
        exact rep8 (.of e_t0) fun t nt => zeros _ t s_t0 nt (if_neg fun z => by omega)
end
end K46
namespace K46
open PySem PySem.Spec PyProof.Rows L2 Rg
theorem all_int (l : List Int) : (l.map V.int).all flatV = true := by
  rw [List.all_map]
  exact List.all_eq_true.mpr fun _ _ => rfl
theorem MarksAt.at {K : PySem.W.Frag} {H : Hp} {ma : Addr} {ms : List Mk3} (h : MarksAt K H ma ms) {i : Nat} {m : Mk3} (hi : ms[i]? = some m) : ∃ (vs : List V) (a r pp pr : Addr) (z : Int), H ma = some (.lst vs) ∧ vs.length = ms.length ∧ atI vs (0 + (i : Int)) = some (.ref a) ∧ SqT K H a [.int z, .ref r] ∧ SqT K H r [.str "mark", .int m.1, .ref pp, .ref pr] ∧ PairsAt K H pp m.2.1 ∧ SqT K H pr (m.2.2.map V.int) := by
  obtain ⟨mas, h1, h2, h3⟩ := h
  have hl : i < mas.length := by have := (List.getElem?_eq_some_iff.mp hi).1; omega
  have e := List.getElem?_eq_getElem hl
  obtain ⟨z, r, q1, ⟨pp, pr, q2, q3, q4⟩⟩ := h3 i _ m e hi
  exact ⟨_, _, r, pp, pr, z, h1, by rw [List.length_map]; exact h2, atN (j := i) (by omega) (by rw [List.getElem?_map, e]; rfl), q1, q2, q3, q4⟩
theorem MarksAt.lst {K : PySem.W.Frag} {H : Hp} {ma : Addr} {ms : List Mk3} (h : MarksAt K H ma ms) : ∃ (vs : List V), H ma = some (.lst vs) ∧ vs.length = ms.length := by
  obtain ⟨mas, h1, h2, h3⟩ := h
  exact ⟨_, h1, by rw [List.length_map]; exact h2⟩
theorem PairsAt.at {K : PySem.W.Frag} {H : Hp} {pp : Addr} {ps : List (Int × Int)} (h : PairsAt K H pp ps) : ∃ qs : List Addr, SqT K H pp (qs.map V.ref) ∧ (qs.map V.ref).length = ps.length ∧ ∀ (j : Nat) (y : V), (qs.map V.ref)[j]? = some y → ∃ (q : Addr) (p : Int × Int), y = .ref q ∧ ps[j]? = some p ∧ SqT K H q [.int p.1, .int p.2] := by
  obtain ⟨qs, h1, h2, h3⟩ := h
  refine ⟨qs, h1, by rw [List.length_map]; exact h2, fun j y hj => ?_⟩
  rw [List.getElem?_map] at hj
  obtain ⟨q, hq, rfl⟩ := Option.map_eq_some_iff.mp hj
  have hl : j < ps.length := by have := (List.getElem?_eq_some_iff.mp hq).1; omega
  exact ⟨q, ps[j], rfl, List.getElem?_eq_getElem hl, h3 j q _ hq (List.getElem?_eq_getElem hl)⟩
def strkAt (ms : List Mk3) (at_ : Nat) (x : Int) (g : Bool) : Bool := match ms[at_]? with
  | some m => strk x g m.2.2 (ms.drop (at_ + 1))
  | none => false
theorem strkAt_t {ms : List Mk3} {at_ k : Nat} {x : Int} {g : Bool} {m : Mk3} (hat : at_ < ms.length) (h : ms[k]? = some m) (hx : x ∈ m.2.2) (hk : at_ < k ∨ (k = at_ ∧ g = false)) : strkAt ms at_ x g = true := by
  unfold strkAt
  rw [List.getElem?_eq_getElem hat]
  show strk x g ms[at_].2.2 _ = true
  unfold strk
  rcases hk with hk | ⟨rfl, rfl⟩
  · rw [Bool.or_eq_true]
    right
    rw [List.any_eq_true]
    refine ⟨m, ?_, decide_eq_true hx⟩
    refine List.mem_of_getElem? (i := k - (at_ + 1)) ?_
    rw [List.getElem?_drop, show at_ + 1 + (k - (at_ + 1)) = k by omega]
    exact h
  · rw [List.getElem?_eq_getElem hat] at h
    rw [Option.some.inj h, decide_eq_true hx]
    rfl
theorem strkAt_f {ms : List Mk3} {at_ : Nat} {x : Int} {g : Bool} (hat : at_ < ms.length) (h : ∀ (k : Nat) (m : Mk3), ms[k]? = some m → ¬ (x ∈ m.2.2 ∧ (at_ < k ∨ (k = at_ ∧ g = false)))) : strkAt ms at_ x g = false := by
  cases q : strkAt ms at_ x g with
  | false => rfl
  | true =>
    exfalso
    unfold strkAt at q
    rw [List.getElem?_eq_getElem hat] at q
    have q : strk x g ms[at_].2.2 (ms.drop (at_ + 1)) = true := q
    unfold strk at q
    rw [Bool.or_eq_true, Bool.and_eq_true] at q
    rcases q with ⟨q1, q2⟩ | q
    · exact h at_ _ (List.getElem?_eq_getElem hat) ⟨of_decide_eq_true q1, .inr ⟨rfl, by simpa using q2⟩⟩
    · rw [List.any_eq_true] at q
      obtain ⟨m, hm, hx⟩ := q
      obtain ⟨k, hk⟩ := List.getElem?_of_mem hm
      rw [List.getElem?_drop] at hk
      exact h _ m hk ⟨of_decide_eq_true hx, .inl (by omega)⟩
section
variable {P : Program} {w : World} {K : PySem.W.Frag} {mg : Str → Option Value} {base : Heap}
def sp_cells_after (CD CP : Addr) (K : PySem.W.Frag) : Sp := fun vs H Q _ => ∃ (d ma : Addr) (x : Int) (g : Bool) (A : DA) (b n s hd la M : Int) (ts : List Addr) (hc : List (List Int)) (lg : LogL) (kv : List (Key × V)) (ms : List Mk3), vs = [.ref d, .ref ma, .int x, .bl g] ∧ DAt CD CP H d A b n s hd la (ts.map V.ref) (lg.map gV) kv ∧ LogAt K H b s M lg ∧ HomAt K H ts hc ∧ MarksAt K H ma ms ∧ ms.length ≤ 100 ∧ (∀ m ∈ ms, m.2.1.length ≤ 64) ∧ 0 ≤ x ∧ x < b ∧
  ∀ (H' : Hp) (t : Addr), Same H H' → SqT K H' t ((foundC hc lg x (liveF g ms (fun _ => none) x)).map V.int) → Q (.ref t) H'
theorem ok_cells_after (T : Tx K mg) : FnOk P w K mg base CX0 2 T.f_cells_after T.fd_cells_after ["disk", "marks", "x", "lapse"] (sp_cells_after T.C_Disk T.C_Plan K) := by
  refine T.F_cells_after.ok sc_cells_after (fun vs H Q E h => ?_) (fun cdv A0 outer s H vs Q E hr h => ?_)
  · obtain ⟨_, _, _, _, _, _, _, _, _, _, _, _, _, _, _, _, rfl, _⟩ := h; rfl
  · obtain ⟨d, ma, x, g, A, b, n, sl, hd, la, M, ts, hc, lg, kv, ms, rfl, D, hL, hH, hM, hz, hp, x0, xb, k⟩ := h
    refine ⟨_, (pss_one (ps_ret (pe_call (ok_cells_found T) hr rfl T.mg_cells_found T.F_cells_found.kp (b_cells_found T) .nil pass0 (pa_cons (pv 0) (pa_cons (pv 2) (pa_cons (pe_callN (ok_live_copies T) hr rfl T.mg_live_copies T.F_live_copies.kp (kb_live_copies T) pass0 (pa_cons (pv 1) pa_nil) (pk_cons (pv 3) pk_nil)) pa_nil)))))), ?_⟩
    refine ⟨_, rfl, _, rfl, _, rfl, _, rfl, rfl, rfl, ma, g, ms, rfl, hM, hz, hp, fun H1 dd lv S1 nd ed hF => ?_⟩
    exact ⟨d, dd, x, A, b, n, sl, hd, la, M, ts, hc, lg, kv, lv, _, rfl, D.same S1, hL.same S1, hH.same S1, ed, hF, x0, xb, fun H2 t S2 e => k H2 t (S1.trans S2) e⟩
/-- the call cells_after(disk, marks, x, lapse=g) -/
theorem kb_cells_after (T : Tx K mg) : KBn K T.fd_cells_after ["disk", "marks", "x", "lapse"] 3 ["lapse"] (fun us ws => us ++ ws) (fun us ws => us ++ ws) := by
  obtain ⟨oc, od, kV, doc, pm, an, cdv, ct, osl, e, lk, hcd⟩ := T.F_cells_after.ex
  refine ⟨fun s us ws _ l1 l2 => ?_, fun r1 r2 => r1.append r2⟩
  rw [e]
  match us, ws, l1, l2 with
  | [_, _, _], [_], _, _ => exact .of_eq rfl
def sp_Lstruck (K : PySem.W.Frag) : Sp := fun vs H Q _ => ∃ (ma : Addr) (i : Nat) (x : Int) (g : Bool) (ms : List Mk3), vs = [.ref ma, .int (0 + (i : Int)), .int x, .bl g] ∧ MarksAt K H ma ms ∧ ms.length ≤ 100 ∧ i < ms.length ∧ Q (.bl (strkAt ms i x g)) H
theorem ok_Lstruck (T : Tx K mg) : FnOk P w K mg base CX0 1 T.f_Lstruck T.fd_Lstruck ["_law_marks", "_law_at", "_law_x", "_law_gentle"] (sp_Lstruck K) := by
  refine T.F_Lstruck.ok sc_Lstruck (fun vs H Q E h => ?_) (fun cdv A outer s H vs Q E hr h => ?_)
  · obtain ⟨_, _, _, _, _, rfl, _⟩ := h; rfl
  · obtain ⟨ma, i, x, g, ms, rfl, hM, hz, hi, k⟩ := h
    refine ⟨_, (pss_cons (ps_for PassesOwn.never rfl (pi_range1 rfl T.b_range (pa_cons (pe_callB call_len_seq rfl T.b_len (by decide +kernel) (pa_cons (pv 0) pa_nil)) pa_nil)) (pg_name (i := 4) sc_Lstruck.nd rfl (.inl rfl))
        (pss_one (ps_if (PW.pt (pw_and (pt_cmpR op_in_seq (pv 2) (pe_ix ix_tup (pe_ix ix_tup (pe_ix ix_list (pv 0) (pv 4) (fun _ _ => rfl)) pe_int (fun _ _ => rfl)) pe_int (fun _ _ => rfl)) rfl) (pw_and1 (PW.pt (pw_or (pt_cmpR op_gt (pv 4) (pv 1) (nomark _)) (pw_or1 (PW.pt (pw_and (pt_cmpR op_eq (pv 4) (pv 1) (nomark _)) (pw_and1 (pt_not (pt_val (pv 3))))))))))))
          (pss_one (ps_ret pe_bl))
          pss_nil)))
      (pss_one (ps_ret pe_bl))), ?_⟩
    obtain ⟨vs, e1, e2⟩ := hM.lst
    refine ⟨_, rfl, ma, _, rfl, .inl (.of e1), ms.length, by rw [e2], by omega, by omega, for_range (lo := 0) (n := ms.length) (fun j σ H2 => ∃ v4 : Option V, σ = [some (.ref ma), some (.int (0 + (i : Int))), some (.int x), some (.bl g), v4] ∧ H2 = H ∧ ∀ (k : Nat) (m : Mk3), k < j → ms[k]? = some m → ¬ (x ∈ m.2.2 ∧ (i < k ∨ (k = i ∧ g = false))))
      ⟨none, rfl, rfl, fun k m h => absurd h (Nat.not_lt_zero _)⟩ ?_ ?_⟩
    · rintro j σ H2 hj ⟨v4, rfl, rfl, hn⟩
      obtain ⟨vs', a, r, pp, pr, z, f1, f2, f3, f4, f5, f6, f7⟩ := hM.at (List.getElem?_eq_getElem hj)
      have fv := all_int ms[j].2.2
      have stay : ¬ (x ∈ ms[j].2.2 ∧ (i < j ∨ (j = i ∧ g = false))) → ∀ (k : Nat) (m : Mk3), k < j + 1 → ms[k]? = some m → ¬ (x ∈ m.2.2 ∧ (i < k ∨ (k = i ∧ g = false))) := fun h k m hk e => by
        by_cases z : k = j
        · subst z
          rw [List.getElem?_eq_getElem hj] at e
          rw [← Option.some.inj e]
          exact h
        · exact hn k m (by omega) e
      (repeat ((fail_if_success (intro _)); first | (refine And.intro ?_ ?_; focus (first | rfl | assumption | exact .of (by assumption) | exact .inl (.of (by assumption)) | exact .inr (by assumption) | exact .inr (.of (by assumption)) | exact kit_ty (by decide +kernel) | exact .ty _ | exact tyT (by assumption) | exact .base (.int _) | (show _ ≤ sizeLine; first | decide | exact Nat.le_of_ble_eq_true rfl | (simp only [List.length_cons, List.length_nil]; decide)) | exact ⟨_, .of (by assumption)⟩ | exact ⟨_, by assumption⟩ | exact DGet.k (by assumption) | (with_reducible show (_ : Int) ≤ _; omega) | (with_reducible show (_ : Int) < _; omega) | (with_reducible show (_ : Nat) ≤ _; omega) | (with_reducible show (_ : Nat) < _; omega) | exact CMul_l (by decide) | exact CMul_r (by decide))) | ((fail_if_success (show ∃ W : Nat → Nat → L2.St → Hp → Prop, _)); apply Exists.intro) | (refine iteT ?_) | (refine iteF ?_) | (refine wT ?_ ?_; focus omega) | (refine wF ?_ ?_; focus omega) | (refine wTv ?_ ?_; focus omega) | (refine wFv ?_ ?_; focus omega) | (refine wNT ?_ ?_; focus omega) | (refine wNF ?_ ?_; focus omega)))
      rw [inV_int]
      refine wD (fun hx => ?_) fun hx => ?_
      · (repeat ((fail_if_success (intro _)); first | (refine And.intro ?_ ?_; focus (first | rfl | assumption | exact .of (by assumption) | exact .inl (.of (by assumption)) | exact .inr (by assumption) | exact .inr (.of (by assumption)) | exact kit_ty (by decide +kernel) | exact .ty _ | exact tyT (by assumption) | exact .base (.int _) | (show _ ≤ sizeLine; first | decide | exact Nat.le_of_ble_eq_true rfl | (simp only [List.length_cons, List.length_nil]; decide)) | exact ⟨_, .of (by assumption)⟩ | exact ⟨_, by assumption⟩ | exact DGet.k (by assumption) | (with_reducible show (_ : Int) ≤ _; omega) | (with_reducible show (_ : Int) < _; omega) | (with_reducible show (_ : Nat) ≤ _; omega) | (with_reducible show (_ : Nat) < _; omega) | exact CMul_l (by decide) | exact CMul_r (by decide))) | ((fail_if_success (show ∃ W : Nat → Nat → L2.St → Hp → Prop, _)); apply Exists.intro) | (refine iteT ?_) | (refine iteF ?_) | (refine wT ?_ ?_; focus omega) | (refine wF ?_ ?_; focus omega) | (refine wTv ?_ ?_; focus omega) | (refine wFv ?_ ?_; focus omega) | (refine wNT ?_ ?_; focus omega) | (refine wNF ?_ ?_; focus omega)))
        refine wD (fun h1 => ?_) fun h1 => ?_
        · (repeat ((fail_if_success (intro _)); first | (refine And.intro ?_ ?_; focus (first | rfl | assumption | exact .of (by assumption) | exact .inl (.of (by assumption)) | exact .inr (by assumption) | exact .inr (.of (by assumption)) | exact kit_ty (by decide +kernel) | exact .ty _ | exact tyT (by assumption) | exact .base (.int _) | (show _ ≤ sizeLine; first | decide | exact Nat.le_of_ble_eq_true rfl | (simp only [List.length_cons, List.length_nil]; decide)) | exact ⟨_, .of (by assumption)⟩ | exact ⟨_, by assumption⟩ | exact DGet.k (by assumption) | (with_reducible show (_ : Int) ≤ _; omega) | (with_reducible show (_ : Int) < _; omega) | (with_reducible show (_ : Nat) ≤ _; omega) | (with_reducible show (_ : Nat) < _; omega) | exact CMul_l (by decide) | exact CMul_r (by decide))) | ((fail_if_success (show ∃ W : Nat → Nat → L2.St → Hp → Prop, _)); apply Exists.intro) | (refine iteT ?_) | (refine iteF ?_) | (refine wT ?_ ?_; focus omega) | (refine wF ?_ ?_; focus omega) | (refine wTv ?_ ?_; focus omega) | (refine wFv ?_ ?_; focus omega) | (refine wNT ?_ ?_; focus omega) | (refine wNF ?_ ?_; focus omega)))
          rw [strkAt_t hi (List.getElem?_eq_getElem hj) hx (.inl (by omega))] at k
          exact k
        · (repeat ((fail_if_success (intro _)); first | (refine And.intro ?_ ?_; focus (first | rfl | assumption | exact .of (by assumption) | exact .inl (.of (by assumption)) | exact .inr (by assumption) | exact .inr (.of (by assumption)) | exact kit_ty (by decide +kernel) | exact .ty _ | exact tyT (by assumption) | exact .base (.int _) | (show _ ≤ sizeLine; first | decide | exact Nat.le_of_ble_eq_true rfl | (simp only [List.length_cons, List.length_nil]; decide)) | exact ⟨_, .of (by assumption)⟩ | exact ⟨_, by assumption⟩ | exact DGet.k (by assumption) | (with_reducible show (_ : Int) ≤ _; omega) | (with_reducible show (_ : Int) < _; omega) | (with_reducible show (_ : Nat) ≤ _; omega) | (with_reducible show (_ : Nat) < _; omega) | exact CMul_l (by decide) | exact CMul_r (by decide))) | ((fail_if_success (show ∃ W : Nat → Nat → L2.St → Hp → Prop, _)); apply Exists.intro) | (refine iteT ?_) | (refine iteF ?_) | (refine wT ?_ ?_; focus omega) | (refine wF ?_ ?_; focus omega) | (refine wTv ?_ ?_; focus omega) | (refine wFv ?_ ?_; focus omega) | (refine wNT ?_ ?_; focus omega) | (refine wNF ?_ ?_; focus omega)))
          refine wI (fun h2 => ?_) fun h2 => ?_
          · cases g with
            | true =>
              (repeat ((fail_if_success (intro _)); first | (refine And.intro ?_ ?_; focus (first | rfl | assumption | exact .of (by assumption) | exact .inl (.of (by assumption)) | exact .inr (by assumption) | exact .inr (.of (by assumption)) | exact kit_ty (by decide +kernel) | exact .ty _ | exact tyT (by assumption) | exact .base (.int _) | (show _ ≤ sizeLine; first | decide | exact Nat.le_of_ble_eq_true rfl | (simp only [List.length_cons, List.length_nil]; decide)) | exact ⟨_, .of (by assumption)⟩ | exact ⟨_, by assumption⟩ | exact DGet.k (by assumption) | (with_reducible show (_ : Int) ≤ _; omega) | (with_reducible show (_ : Int) < _; omega) | (with_reducible show (_ : Nat) ≤ _; omega) | (with_reducible show (_ : Nat) < _; omega) | exact CMul_l (by decide) | exact CMul_r (by decide))) | ((fail_if_success (show ∃ W : Nat → Nat → L2.St → Hp → Prop, _)); apply Exists.intro) | (refine iteT ?_) | (refine iteF ?_) | (refine wT ?_ ?_; focus omega) | (refine wF ?_ ?_; focus omega) | (refine wTv ?_ ?_; focus omega) | (refine wFv ?_ ?_; focus omega) | (refine wNT ?_ ?_; focus omega) | (refine wNF ?_ ?_; focus omega)))
              exact stay fun z => by rcases z.2 with z | z; omega; cases z.2
            | false =>
              (repeat ((fail_if_success (intro _)); first | (refine And.intro ?_ ?_; focus (first | rfl | assumption | exact .of (by assumption) | exact .inl (.of (by assumption)) | exact .inr (by assumption) | exact .inr (.of (by assumption)) | exact kit_ty (by decide +kernel) | exact .ty _ | exact tyT (by assumption) | exact .base (.int _) | (show _ ≤ sizeLine; first | decide | exact Nat.le_of_ble_eq_true rfl | (simp only [List.length_cons, List.length_nil]; decide)) | exact ⟨_, .of (by assumption)⟩ | exact ⟨_, by assumption⟩ | exact DGet.k (by assumption) | (with_reducible show (_ : Int) ≤ _; omega) | (with_reducible show (_ : Int) < _; omega) | (with_reducible show (_ : Nat) ≤ _; omega) | (with_reducible show (_ : Nat) < _; omega) | exact CMul_l (by decide) | exact CMul_r (by decide))) | ((fail_if_success (show ∃ W : Nat → Nat → L2.St → Hp → Prop, _)); apply Exists.intro) | (refine iteT ?_) | (refine iteF ?_) | (refine wT ?_ ?_; focus omega) | (refine wF ?_ ?_; focus omega) | (refine wTv ?_ ?_; focus omega) | (refine wFv ?_ ?_; focus omega) | (refine wNT ?_ ?_; focus omega) | (refine wNF ?_ ?_; focus omega)))
              rw [strkAt_t hi (List.getElem?_eq_getElem hj) hx (.inr ⟨by omega, rfl⟩)] at k
              exact k
          · (repeat ((fail_if_success (intro _)); first | (refine And.intro ?_ ?_; focus (first | rfl | assumption | exact .of (by assumption) | exact .inl (.of (by assumption)) | exact .inr (by assumption) | exact .inr (.of (by assumption)) | exact kit_ty (by decide +kernel) | exact .ty _ | exact tyT (by assumption) | exact .base (.int _) | (show _ ≤ sizeLine; first | decide | exact Nat.le_of_ble_eq_true rfl | (simp only [List.length_cons, List.length_nil]; decide)) | exact ⟨_, .of (by assumption)⟩ | exact ⟨_, by assumption⟩ | exact DGet.k (by assumption) | (with_reducible show (_ : Int) ≤ _; omega) | (with_reducible show (_ : Int) < _; omega) | (with_reducible show (_ : Nat) ≤ _; omega) | (with_reducible show (_ : Nat) < _; omega) | exact CMul_l (by decide) | exact CMul_r (by decide))) | ((fail_if_success (show ∃ W : Nat → Nat → L2.St → Hp → Prop, _)); apply Exists.intro) | (refine iteT ?_) | (refine iteF ?_) | (refine wT ?_ ?_; focus omega) | (refine wF ?_ ?_; focus omega) | (refine wTv ?_ ?_; focus omega) | (refine wFv ?_ ?_; focus omega) | (refine wNT ?_ ?_; focus omega) | (refine wNF ?_ ?_; focus omega)))
            exact stay fun z => by rcases z.2 with z | z <;> omega
      · exact ⟨_, rfl, rfl, stay fun z => hx z.1⟩
    · rintro σ H2 ⟨v4, rfl, rfl, hn⟩
      rw [strkAt_f hi fun k m e => hn k m (List.getElem?_eq_some_iff.mp e).1 e] at k
      exact k
def DueV (H : Hp) (v : V) : Option (Int × Int) → Prop
  | none => v = .non
  | some p => ∃ t, v = .ref t ∧ H t = some (.tup [.int p.1, .int p.2])
theorem DueV.same {H H' : Hp} {v : V} {o : Option (Int × Int)} (h : DueV H v o) (S : Same H H') : DueV H' v o := by
  cases o with
  | none => exact h
  | some p => obtain ⟨t, a, b⟩ := h; exact ⟨t, a, S _ _ b⟩
def sp_Ldue (K : PySem.W.Frag) : Sp := fun vs H Q _ => ∃ (ma : Addr) (x : Int) (g : Bool) (ms : List Mk3), vs = [.ref ma, .int x, .bl g] ∧ MarksAt K H ma ms ∧ ms.length ≤ 100 ∧ ∀ (H' : Hp) (v : V), Same H H' → DueV H' v (dueF x g ms none) → Q v H'
theorem ok_Ldue (T : Tx K mg) : FnOk P w K mg base CX0 2 T.f_Ldue T.fd_Ldue ["_law_marks", "_law_x", "_law_gentle"] (sp_Ldue K) := by
  refine T.F_Ldue.ok sc_Ldue (fun vs H Q E h => ?_) (fun cdv A outer s H vs Q E hr h => ?_)
  · obtain ⟨_, _, _, _, rfl, _⟩ := h; rfl
  · obtain ⟨ma, x, g, ms, rfl, hM, hz, k⟩ := h
    refine ⟨_, (pss_cons (ps_set (i := 3) sc_Ldue.nd rfl (.inl rfl) pe_non)
      (pss_cons (ps_for PassesOwn.never rfl (pi_range1 rfl T.b_range (pa_cons (pe_callB call_len_seq rfl T.b_len (by decide +kernel) (pa_cons (pv 0) pa_nil)) pa_nil)) (pg_name (i := 4) sc_Ldue.nd rfl (.inl rfl))
        (pss_cons (ps_set (i := 5) sc_Ldue.nd rfl (.inl rfl) (pe_ix ix_tup (pe_ix ix_list (pv 0) (pv 4) (fun _ _ => rfl)) pe_int (fun _ _ => rfl)))
        (pss_one (ps_for PassesOwn.never rfl (pi_tup (pe_ix ix_tup (pv 5) pe_int (fun _ _ => rfl))) (pg_name (i := 6) sc_Ldue.nd rfl (.inl rfl))
          (pss_one (ps_if (PW.pt (pw_and (pt_cmpR op_eq (pe_ix ix_tup (pv 6) pe_int (fun _ _ => rfl)) (pv 1) (nomark _)) (pw_and1 (pt_not (pt_val (pe_call (ok_Lstruck T) hr rfl T.mg_Lstruck T.F_Lstruck.kp (b_Lstruck T) .nil pass0 (pa_cons (pv 0) (pa_cons (pv 4) (pa_cons (pv 1) (pa_cons (pv 2) pa_nil))))))))))
            (pss_one (ps_set (i := 3) sc_Ldue.nd rfl (.inl rfl) (pe_tup (pa_cons (pe_ix ix_tup (pv 5) pe_int (fun _ _ => rfl)) (pa_cons (pe_ix ix_tup (pv 6) pe_int (fun _ _ => rfl)) pa_nil)))))
            pss_nil))))))
      (pss_one (ps_ret (pv 3))))), ?_⟩
    obtain ⟨vs, e1, e2⟩ := hM.lst
    refine ⟨_, rfl, ma, _, rfl, .inl (.of e1), ms.length, by rw [e2], by omega, by omega, for_range (lo := 0) (n := ms.length) (fun j σ H2 => ∃ (v3 : V) (v4 v5 v6 : Option V) (acc : Option (Int × Int)), σ = [some (.ref ma), some (.int x), some (.bl g), some v3, v4, v5, v6] ∧ Same H H2 ∧ DueV H2 v3 acc ∧ dueF x g ms none = dueF x g (ms.drop j) acc)
      ⟨.non, none, none, none, none, rfl, Same.refl _, rfl, rfl⟩ ?_ ?_⟩
    · rintro i σ H2 hi ⟨v3, v4, v5, v6, acc, rfl, S2, hv, hf⟩
      obtain ⟨vs', a, r, pp, pr, z, f1, f2, f3, f4, f5, f6, f7⟩ := (hM.same S2).at (List.getElem?_eq_getElem hi)
      obtain ⟨qs, g1, g2, g3⟩ := PairsAt.at f6
      have es : strkAt ms i x g = strk x g ms[i].2.2 (ms.drop (i + 1)) := by
        unfold strkAt
        rw [List.getElem?_eq_getElem hi]
      rw [List.drop_eq_getElem_cons hi, dueF, ← es] at hf
      (repeat ((fail_if_success (intro _)); first | (refine And.intro ?_ ?_; focus (first | rfl | assumption | exact .of (by assumption) | exact .inl (.of (by assumption)) | exact .inr (by assumption) | exact .inr (.of (by assumption)) | exact kit_ty (by decide +kernel) | exact .ty _ | exact tyT (by assumption) | exact .base (.int _) | (show _ ≤ sizeLine; first | decide | exact Nat.le_of_ble_eq_true rfl | (simp only [List.length_cons, List.length_nil]; decide)) | exact ⟨_, .of (by assumption)⟩ | exact ⟨_, by assumption⟩ | exact DGet.k (by assumption) | (with_reducible show (_ : Int) ≤ _; omega) | (with_reducible show (_ : Int) < _; omega) | (with_reducible show (_ : Nat) ≤ _; omega) | (with_reducible show (_ : Nat) < _; omega) | exact CMul_l (by decide) | exact CMul_r (by decide))) | ((fail_if_success (show ∃ W : Nat → Nat → L2.St → Hp → Prop, _)); apply Exists.intro) | (refine iteT ?_) | (refine iteF ?_) | (refine wT ?_ ?_; focus omega) | (refine wF ?_ ?_; focus omega) | (refine wTv ?_ ?_; focus omega) | (refine wFv ?_ ?_; focus omega) | (refine wNT ?_ ?_; focus omega) | (refine wNF ?_ ?_; focus omega)))
      refine for_tup (K := K) (a := pp) (xs := qs.map V.ref) (fun j σ H3 => ∃ (v3 : V) (v6 : Option V) (acc : Option (Int × Int)), σ = [some (.ref ma), some (.int x), some (.bl g), some v3, some (.int (0 + (i : Int))), some (.ref r), v6] ∧ Same H2 H3 ∧ DueV H3 v3 acc ∧ dueF x g ms none = dueF x g (ms.drop (i + 1)) (dueP x ms[i].1 (strkAt ms i x g) (ms[i].2.1.drop j) acc))
        ⟨v3, v6, acc, rfl, Same.refl _, hv, hf⟩ (fun j σ H3 _ ⟨_, _, _, _, S, _⟩ => sameT S g1) ?_ ?_
      · rintro j y σ H3 hj ⟨v3, v6, acc, rfl, S3, hv, hf⟩
        obtain ⟨q, p, rfl, p1, p2⟩ := g3 j y hj
        have p2 := sameT S3 p2
        have f5 := sameT S3 f5
        have hjl := (List.getElem?_eq_some_iff.mp p1).1
        rw [List.drop_eq_getElem_cons hjl, (List.getElem?_eq_some_iff.mp p1).2, dueP] at hf
        (repeat ((fail_if_success (intro _)); first | (refine And.intro ?_ ?_; focus (first | rfl | assumption | exact .of (by assumption) | exact .inl (.of (by assumption)) | exact .inr (by assumption) | exact .inr (.of (by assumption)) | exact kit_ty (by decide +kernel) | exact .ty _ | exact tyT (by assumption) | exact .base (.int _) | (show _ ≤ sizeLine; first | decide | exact Nat.le_of_ble_eq_true rfl | (simp only [List.length_cons, List.length_nil]; decide)) | exact ⟨_, .of (by assumption)⟩ | exact ⟨_, by assumption⟩ | exact DGet.k (by assumption) | (with_reducible show (_ : Int) ≤ _; omega) | (with_reducible show (_ : Int) < _; omega) | (with_reducible show (_ : Nat) ≤ _; omega) | (with_reducible show (_ : Nat) < _; omega) | exact CMul_l (by decide) | exact CMul_r (by decide))) | ((fail_if_success (show ∃ W : Nat → Nat → L2.St → Hp → Prop, _)); apply Exists.intro) | (refine iteT ?_) | (refine iteF ?_) | (refine wT ?_ ?_; focus omega) | (refine wF ?_ ?_; focus omega) | (refine wTv ?_ ?_; focus omega) | (refine wFv ?_ ?_; focus omega) | (refine wNT ?_ ?_; focus omega) | (refine wNF ?_ ?_; focus omega)))
        refine wI (fun h1 => ?_) fun h1 => ?_
        · refine ⟨_, rfl, _, rfl, _, rfl, _, rfl, ma, i, x, g, ms, rfl, hM.same (S2.trans S3), hz, hi, _, rfl, ?_⟩
          cases hs : strkAt ms i x g with
          | true =>
            rw [if_neg (fun z => by rw [hs] at z; cases z.2)] at hf
            (repeat ((fail_if_success (intro _)); first | (refine And.intro ?_ ?_; focus (first | rfl | assumption | exact .of (by assumption) | exact .inl (.of (by assumption)) | exact .inr (by assumption) | exact .inr (.of (by assumption)) | exact kit_ty (by decide +kernel) | exact .ty _ | exact tyT (by assumption) | exact .base (.int _) | (show _ ≤ sizeLine; first | decide | exact Nat.le_of_ble_eq_true rfl | (simp only [List.length_cons, List.length_nil]; decide)) | exact ⟨_, .of (by assumption)⟩ | exact ⟨_, by assumption⟩ | exact DGet.k (by assumption) | (with_reducible show (_ : Int) ≤ _; omega) | (with_reducible show (_ : Int) < _; omega) | (with_reducible show (_ : Nat) ≤ _; omega) | (with_reducible show (_ : Nat) < _; omega) | exact CMul_l (by decide) | exact CMul_r (by decide))) | ((fail_if_success (show ∃ W : Nat → Nat → L2.St → Hp → Prop, _)); apply Exists.intro) | (refine iteT ?_) | (refine iteF ?_) | (refine wT ?_ ?_; focus omega) | (refine wF ?_ ?_; focus omega) | (refine wTv ?_ ?_; focus omega) | (refine wFv ?_ ?_; focus omega) | (refine wNT ?_ ?_; focus omega) | (refine wNF ?_ ?_; focus omega)))
            rw [← hs]
            exact hf
          | false =>
            rw [if_pos ⟨h1, hs⟩] at hf
            (repeat ((fail_if_success (intro _)); first | (refine And.intro ?_ ?_; focus (first | rfl | assumption | exact .of (by assumption) | exact .inl (.of (by assumption)) | exact .inr (by assumption) | exact .inr (.of (by assumption)) | exact kit_ty (by decide +kernel) | exact .ty _ | exact tyT (by assumption) | exact .base (.int _) | (show _ ≤ sizeLine; first | decide | exact Nat.le_of_ble_eq_true rfl | (simp only [List.length_cons, List.length_nil]; decide)) | exact ⟨_, .of (by assumption)⟩ | exact ⟨_, by assumption⟩ | exact DGet.k (by assumption) | (with_reducible show (_ : Int) ≤ _; omega) | (with_reducible show (_ : Int) < _; omega) | (with_reducible show (_ : Nat) ≤ _; omega) | (with_reducible show (_ : Nat) < _; omega) | exact CMul_l (by decide) | exact CMul_r (by decide))) | ((fail_if_success (show ∃ W : Nat → Nat → L2.St → Hp → Prop, _)); apply Exists.intro) | (refine iteT ?_) | (refine iteF ?_) | (refine wT ?_ ?_; focus omega) | (refine wF ?_ ?_; focus omega) | (refine wTv ?_ ?_; focus omega) | (refine wFv ?_ ?_; focus omega) | (refine wNT ?_ ?_; focus omega) | (refine wNF ?_ ?_; focus omega)))
            (intro t n_t; generalize he_t : upd _ t _ = H4; obtain ⟨e_t, s_t, f_t⟩ := new_f he_t n_t; clear he_t)
            exact ⟨_, _, some (ms[i].1, p.2), rfl, S3.trans s_t, ⟨t, rfl, e_t⟩, by rw [← hs]; exact hf⟩
        · rw [if_neg fun z => h1 z.1] at hf
          exact ⟨v3, _, acc, rfl, S3, hv, hf⟩
      · rintro σ H3 ⟨v3, v6, acc, rfl, S3, hv, hf⟩
        rw [g2, List.drop_length] at hf
        exact ⟨v3, _, _, _, acc, rfl, S2.trans S3, hv, hf⟩
    · rintro σ H2 ⟨v3, v4, v5, v6, acc, rfl, S2, hv, hf⟩
      rw [List.drop_length] at hf
      exact ⟨_, rfl, k H2 v3 S2 (by rw [hf]; exact hv)⟩
end
end K46
namespace K46
open PySem PySem.Spec PyProof.Rows L2 Rg
theorem Asc.snoc {l : List Int} {y : Int} (h : Asc l) (k : ∀ x ∈ l, x < y) : Asc (l ++ [y]) := fun i a b e1 e2 => by
  by_cases hi : i + 1 < l.length
  · rw [List.getElem?_append_left (by omega)] at e1
    rw [List.getElem?_append_left hi] at e2
    exact h i a b e1 e2
  · rw [List.getElem?_append_right (by omega)] at e2
    cases q : i + 1 - l.length with
    | succ m => rw [q] at e2; simp at e2
    | zero =>
      rw [q] at e2
      cases e2
      rw [List.getElem?_append_left (by omega)] at e1
      exact k a (List.mem_of_getElem? e1)
theorem Asc.nil : Asc [] := fun i a b e1 _ => by simp at e1
/-- pairs stand at qs -/
def PrsAt (H : Hp) (qs : List Addr) (ps : List (Int × Int)) : Prop := qs.length = ps.length ∧ ∀ (i : Nat) (q : Addr) (p : Int × Int), qs[i]? = some q → ps[i]? = some p → H q = some (.tup [.int p.1, .int p.2])
theorem PrsAt.by {H H' : Hp} {qs : List Addr} {ps : List (Int × Int)} (h : PrsAt H qs ps) (f : ∀ b xs, H b = some (.tup xs) → H' b = some (.tup xs)) : PrsAt H' qs ps := ⟨h.1, fun i q p a b => f _ _ (h.2 i q p a b)⟩
theorem PrsAt.snoc {H : Hp} {qs : List Addr} {ps : List (Int × Int)} {t : Addr} {p : Int × Int} (h : PrsAt H qs ps) (e : H t = some (.tup [.int p.1, .int p.2])) : PrsAt H (qs ++ [t]) (ps ++ [p]) := by
  refine ⟨by simp [h.1], fun i u q a b => ?_⟩
  by_cases hi : i < qs.length
  · rw [List.getElem?_append_left hi] at a
    rw [List.getElem?_append_left (by rw [← h.1]; exact hi)] at b
    exact h.2 i u q a b
  · have h0 : qs.length ≤ i := Nat.le_of_not_lt hi
    rw [List.getElem?_append_right h0] at a
    rw [List.getElem?_append_right (by rw [← h.1]; exact h0), ← h.1] at b
    cases hk : i - qs.length with
    | zero =>
      rw [hk] at a b
      cases a
      cases b
      exact e
    | succ m =>
      rw [hk] at a
      simp at a
theorem PrsAt.pairs {K : PySem.W.Frag} {H : Hp} {qs : List Addr} {ps : List (Int × Int)} {pp : Addr} (h : PrsAt H qs ps) (e : SqT K H pp (qs.map V.ref)) : PairsAt K H pp ps := ⟨qs, e, h.1, fun i q p a b => .of (h.2 i q p a b)⟩
/-- the pairs and revokes that have been drawn, for the first i blocks -/
structure MkOk (n : Nat) (ps : List (Int × Int)) (rs : List Int) : Prop where
  pl : ps.length ≤ n
  rl : rs.length ≤ n
  p : ∀ p ∈ ps, 10 ≤ p.1 ∧ p.1 < 10 + (n : Int) ∧ -1 ≤ p.2 ∧ p.2 ≤ 29
  r : ∀ r ∈ rs, 10 ≤ r ∧ r < 10 + (n : Int)
  pa : Asc (ps.map (·.1))
  ra : Asc rs
theorem MkOk.fit {ps : List (Int × Int)} {rs : List Int} (h : MkOk 6 ps rs) {lot : Int} (l1 : 1 ≤ lot) (l2 : lot ≤ 999999) : Fit 24 30 (.mark lot ps rs) :=
  ⟨l1, l2, Nat.le_trans h.pl (by decide), Nat.le_trans h.rl (by decide), fun p hp => by have := h.p p hp; omega, h.pa, fun r hr => by have := h.r r hr; omega, h.ra⟩
theorem MkOk.pair {n : Nat} {ps : List (Int × Int)} {rs rs' : List Int} (h : MkOk n ps rs) {s : Int} (s0 : -1 ≤ s) (s1 : s ≤ 29) : (ps ++ [(10 + (n : Int), s)]).length ≤ n + 1 ∧ (∀ p ∈ ps ++ [(10 + (n : Int), s)], 10 ≤ p.1 ∧ p.1 < 10 + ((n + 1 : Nat) : Int) ∧ -1 ≤ p.2 ∧ p.2 ≤ 29) ∧ Asc ((ps ++ [(10 + (n : Int), s)]).map (·.1)) := by
  refine ⟨by have := h.pl; simp; omega, fun p hp => ?_, ?_⟩
  · rcases List.mem_append.mp hp with z | z
    · have := h.p p z; omega
    · have : p = (10 + (n : Int), s) := by simpa using z
      subst this
      dsimp only
      omega
  · rw [List.map_append]
    refine h.pa.snoc fun x hx => ?_
    obtain ⟨p, hp, rfl⟩ := List.mem_map.mp hx
    exact (h.p p hp).2.1
theorem MkOk.rev {n : Nat} {ps : List (Int × Int)} {rs : List Int} (h : MkOk n ps rs) : (rs ++ [10 + (n : Int)]).length ≤ n + 1 ∧ (∀ r ∈ rs ++ [10 + (n : Int)], 10 ≤ r ∧ r < 10 + ((n + 1 : Nat) : Int)) ∧ Asc (rs ++ [10 + (n : Int)]) := by
  refine ⟨by have := h.rl; simp; omega, fun r hr => ?_, h.ra.snoc fun x hx => (h.r x hx).2⟩
  rcases List.mem_append.mp hr with z | z
  · have := h.r r z; omega
  · have : r = 10 + (n : Int) := by simpa using z
    omega
theorem MkOk.stay {n : Nat} {ps : List (Int × Int)} {rs : List Int} (h : MkOk n ps rs) : MkOk (n + 1) ps rs :=
  ⟨Nat.le_succ_of_le h.pl, Nat.le_succ_of_le h.rl, fun p hp => by have := h.p p hp; omega, fun r hr => by have := h.r r hr; omega, h.pa, h.ra⟩
section
variable {P : Program} {w : World} {K : PySem.W.Frag} {mg : Str → Option Value} {base : Heap}
def sp_Lmark (K : PySem.W.Frag) : Sp := fun vs H Q _ => ∃ (p : Addr) (fs : List Int) (lot : Int), vs = [.ref p, .int lot] ∧ H p = some (.lst (fs.map V.int)) ∧
  ∀ (H' : Hp) (t : Addr) (ps : List (Int × Int)) (rs fs' : List Int), Kp [p] H H' → H' p = some (.lst (fs'.map V.int)) → RecAt K H' t (.mark lot ps rs) → MkOk 6 ps rs → Q (.ref t) H'
theorem ok_Lmark (T : Tx K mg) : FnOk P w K mg base CX0 2 T.f_Lmark T.fd_Lmark ["_law_feed_here", "_law_lot"] (sp_Lmark K) := by
  refine T.F_Lmark.ok sc_Lmark (fun vs H Q E h => ?_) (fun cdv A outer s H vs Q E hr h => ?_)
  · obtain ⟨_, _, _, rfl, _⟩ := h; rfl
  · obtain ⟨p, fs, lot, rfl, e, k⟩ := h
    refine ⟨_, (pss_cons (ps_set (i := 2) sc_Lmark.nd rfl (.inl rfl) (pe_lst pa_nil))
      (pss_cons (ps_set (i := 3) sc_Lmark.nd rfl (.inl rfl) (pe_lst pa_nil))
      (pss_cons (ps_for PassesOwn.never rfl (pi_range2 rfl T.b_range (pa_cons pe_int (pa_cons pe_int pa_nil))) (pg_name (i := 4) sc_Lmark.nd rfl (.inl rfl))
        (Evl.pss_cut (ps_if (pt_cmpR op_gt (pe_call (ok_Lpick T) hr rfl T.mg_Lpick T.F_Lpick.kp (b_Lpick T) .nil pass0 (pa_cons (pv 0) (pa_cons pe_int pa_nil))) pe_int (nomark _))
          (pss_one (ps_expr (pe_bm PySem.F.plainAttrs_list PySem.F.slot_list_append PySem.F.type_list_append mt_append (pv 2) (pa_cons (pe_tup (pa_cons (pv 4) (pa_cons (pe_op op_sub (pe_call (ok_Lpick T) hr rfl T.mg_Lpick T.F_Lpick.kp (b_Lpick T) .nil pass0 (pa_cons (pv 0) (pa_cons pe_int pa_nil))) pe_int) pa_nil))) pa_nil))))
          pss_nil)
        (pss_one (ps_if (pt_cmpR op_eq (pe_call (ok_Lpick T) hr rfl T.mg_Lpick T.F_Lpick.kp (b_Lpick T) .nil pass0 (pa_cons (pv 0) (pa_cons pe_int pa_nil))) pe_int (nomark _))
          (pss_one (ps_expr (pe_bm PySem.F.plainAttrs_list PySem.F.slot_list_append PySem.F.type_list_append mt_append (pv 3) (pa_cons (pv 4) pa_nil))))
          pss_nil))))
      (pss_one (ps_ret (pe_tup (pa_cons pe_str (pa_cons (pv 1) (pa_cons (pe_tupleOf rfl T.b_tuple (pv 2)) (pa_cons (pe_tupleOf rfl T.b_tuple (pv 3)) pa_nil)))))))))), ?_⟩
    refine ⟨Nat.zero_le _, fun c nc => ⟨Nat.zero_le _, fun r nr => ?_⟩⟩
    have ec : upd (upd H c (.lst [])) r (.lst []) c = some (.lst []) := by rw [upd_ne (unn' nr)]; exact upd_same
    have npc : p ≠ c := ne_of_none e nc
    have npr : p ≠ r := ne_of_none ((upd_ne npc).trans e) nr
    have ncr : c ≠ r := unn' nr
    have nrH : H r = none := un nr
    have k0 : Kp [p] H (upd (upd H c (.lst [])) r (.lst [])) := (Kp.refl.put nc).put nrH
    have ep : upd (upd H c (.lst [])) r (.lst []) p = some (.lst (fs.map V.int)) := by rw [upd_ne npr, upd_ne npc]; exact e
    have er : upd (upd H c (.lst [])) r (.lst []) r = some (.lst []) := upd_same
    generalize upd (upd H c (.lst [])) r (.lst []) = H1 at k0 ep ec er ⊢
    refine ⟨10, 16, rfl, ⟨by decide, by decide, by decide, by decide⟩, for_range (lo := 10) (n := 6) (fun i σ H2 => ∃ (fs : List Int) (qs : List Addr) (ps : List (Int × Int)) (rs : List Int) (v4 : Option V), σ = [some (.ref p), some (.int lot), some (.ref c), some (.ref r), v4] ∧ Kp [p] H H2 ∧ H2 p = some (.lst (fs.map V.int)) ∧ H2 c = some (.lst (qs.map V.ref)) ∧ PrsAt H2 qs ps ∧ H2 r = some (.lst (rs.map V.int)) ∧ MkOk i ps rs)
      ⟨fs, [], [], [], none, rfl, k0, ep, ec, ⟨rfl, fun i q p a _ => by simp at a⟩, er, ⟨Nat.le_refl _, Nat.le_refl _, (by simp), (by simp), Asc.nil, Asc.nil⟩⟩ ?_ ?_⟩
    · rintro i σ H2 hi ⟨fs, qs, ps, rs, v4, rfl, k2, e2, c2, hq, r2, hm⟩
      refine ⟨fun σ' H' => ∃ (fs : List Int) (qs : List Addr) (ps : List (Int × Int)), σ' = [some (.ref p), some (.int lot), some (.ref c), some (.ref r), some (.int (10 + (i : Int)))] ∧ Kp [p] H H' ∧ H' p = some (.lst (fs.map V.int)) ∧ H' c = some (.lst (qs.map V.ref)) ∧ PrsAt H' qs ps ∧ H' r = some (.lst (rs.map V.int)) ∧ ps.length ≤ i + 1 ∧ (∀ p ∈ ps, 10 ≤ p.1 ∧ p.1 < 10 + ((i + 1 : Nat) : Int) ∧ -1 ≤ p.2 ∧ p.2 ≤ 29) ∧ Asc (ps.map (·.1)), ?_, ?_⟩
      · refine ⟨_, rfl, p, fs, 3, rfl, e2, by decide, fun a f3 a0 a3 _ => ?_⟩
        have k3 : Kp [p] H (upd H2 p (.lst (f3.map V.int))) := k2.own1
        have kk : Kp [p] H2 (upd H2 p (.lst (f3.map V.int))) := Kp.refl.own1
        have e3 : upd H2 p (.lst (f3.map V.int)) p = some (.lst (f3.map V.int)) := upd_same
        have c3 := kk.at1 c2 npc.symm
        have r3 := kk.at1 r2 npr.symm
        have hq3 := hq.by (H' := upd H2 p (.lst (f3.map V.int))) fun b xs z => kk.at1 z (ne_of z e2 (by intro y; cases y))
        generalize upd H2 p (.lst (f3.map V.int)) = H3 at k3 e3 c3 r3 hq3 ⊢
        have st := hm.stay
        (repeat ((fail_if_success (intro _)); first | (refine And.intro ?_ ?_; focus (first | rfl | assumption | exact .of (by assumption) | exact .inl (.of (by assumption)) | exact .inr (by assumption) | exact .inr (.of (by assumption)) | exact kit_ty (by decide +kernel) | exact .ty _ | exact tyT (by assumption) | exact .base (.int _) | (show _ ≤ sizeLine; first | decide | exact Nat.le_of_ble_eq_true rfl | (simp only [List.length_cons, List.length_nil]; decide)) | exact ⟨_, .of (by assumption)⟩ | exact ⟨_, by assumption⟩ | exact DGet.k (by assumption) | (with_reducible show (_ : Int) ≤ _; omega) | (with_reducible show (_ : Int) < _; omega) | (with_reducible show (_ : Nat) ≤ _; omega) | (with_reducible show (_ : Nat) < _; omega) | exact CMul_l (by decide) | exact CMul_r (by decide))) | ((fail_if_success (show ∃ W : Nat → Nat → L2.St → Hp → Prop, _)); apply Exists.intro) | (refine iteT ?_) | (refine iteF ?_) | (refine wT ?_ ?_; focus omega) | (refine wF ?_ ?_; focus omega) | (refine wTv ?_ ?_; focus omega) | (refine wFv ?_ ?_; focus omega) | (refine wNT ?_ ?_; focus omega) | (refine wNF ?_ ?_; focus omega)))
        refine wD (fun h1 => ?_) fun h1 => ?_
        · refine ⟨_, rfl, .inl ⟨rfl, _, .inl (.inl c3)⟩, _, rfl, _, rfl, p, f3, 31, rfl, e3, by decide, fun b f4 b0 b4 _ => ?_⟩
          have k4 : Kp [p] H (upd H3 p (.lst (f4.map V.int))) := k3.own1
          have kk : Kp [p] H3 (upd H3 p (.lst (f4.map V.int))) := Kp.refl.own1
          have e4 : upd H3 p (.lst (f4.map V.int)) p = some (.lst (f4.map V.int)) := upd_same
          have c4 := kk.at1 c3 npc.symm
          have r4 := kk.at1 r3 npr.symm
          have hq4 := hq3.by (H' := upd H3 p (.lst (f4.map V.int))) fun b xs z => kk.at1 z (ne_of z e3 (by intro y; cases y))
          generalize upd H3 p (.lst (f4.map V.int)) = H4 at k4 e4 c4 r4 hq4 ⊢
          (repeat ((fail_if_success (intro _)); first | (refine And.intro ?_ ?_; focus (first | rfl | assumption | exact .of (by assumption) | exact .inl (.of (by assumption)) | exact .inr (by assumption) | exact .inr (.of (by assumption)) | exact kit_ty (by decide +kernel) | exact .ty _ | exact tyT (by assumption) | exact .base (.int _) | (show _ ≤ sizeLine; first | decide | exact Nat.le_of_ble_eq_true rfl | (simp only [List.length_cons, List.length_nil]; decide)) | exact ⟨_, .of (by assumption)⟩ | exact ⟨_, by assumption⟩ | exact DGet.k (by assumption) | (with_reducible show (_ : Int) ≤ _; omega) | (with_reducible show (_ : Int) < _; omega) | (with_reducible show (_ : Nat) ≤ _; omega) | (with_reducible show (_ : Nat) < _; omega) | exact CMul_l (by decide) | exact CMul_r (by decide))) | ((fail_if_success (show ∃ W : Nat → Nat → L2.St → Hp → Prop, _)); apply Exists.intro) | (refine iteT ?_) | (refine iteF ?_) | (refine wT ?_ ?_; focus omega) | (refine wF ?_ ?_; focus omega) | (refine wTv ?_ ?_; focus omega) | (refine wFv ?_ ?_; focus omega) | (refine wNT ?_ ?_; focus omega) | (refine wNF ?_ ?_; focus omega)))
          (intro t n_t; generalize he_t : upd _ t _ = H5; obtain ⟨e_t, s_t, f_t⟩ := new_f he_t n_t; clear he_t)
          have c5 := s_t _ _ c4
          refine ⟨c, _, _, rfl, rfl, c5, ?_, f4, qs ++ [t], ps ++ [(10 + (i : Int), b - 1)], rfl, (k4.same s_t).put nc, ?_, ?_, ?_, ?_, hm.pair (rs' := []) (by omega) (by omega)⟩
          · rw [List.length_map, hq4.1]
            exact Nat.lt_of_le_of_lt (show ps.length ≤ 6 by have := hm.pl; omega) (by decide)
          · rw [upd_ne npc]; exact s_t _ _ e4
          · rw [upd_same, List.map_append]; rfl
          · exact ((hq4.by fun b xs => s_t b _).snoc (p := (10 + (i : Int), b - 1)) e_t).by fun b xs z => by rw [upd_ne (ne_of z c5 (by intro y; cases y))]; exact z
          · rw [upd_ne ncr.symm]; exact s_t _ _ r4
        · exact ⟨f3, qs, ps, rfl, k3, e3, c3, hq3, r3, st.pl, st.p, st.pa⟩
      · rintro σ' H3 ⟨fs, qs, ps, rfl, k3, e3, c3, hq3, r3, m1, m2, m3⟩
        refine ⟨_, rfl, p, fs, 4, rfl, e3, by decide, fun a f4 a0 a3 _ => ?_⟩
        have k4 : Kp [p] H (upd H3 p (.lst (f4.map V.int))) := k3.own1
        have kk : Kp [p] H3 (upd H3 p (.lst (f4.map V.int))) := Kp.refl.own1
        have e4 : upd H3 p (.lst (f4.map V.int)) p = some (.lst (f4.map V.int)) := upd_same
        have c4 := kk.at1 c3 npc.symm
        have r4 := kk.at1 r3 npr.symm
        have hq4 := hq3.by (H' := upd H3 p (.lst (f4.map V.int))) fun b xs z => kk.at1 z (ne_of z e3 (by intro y; cases y))
        generalize upd H3 p (.lst (f4.map V.int)) = H4 at k4 e4 c4 r4 hq4 ⊢
        have st := hm.stay
        (repeat ((fail_if_success (intro _)); first | (refine And.intro ?_ ?_; focus (first | rfl | assumption | exact .of (by assumption) | exact .inl (.of (by assumption)) | exact .inr (by assumption) | exact .inr (.of (by assumption)) | exact kit_ty (by decide +kernel) | exact .ty _ | exact tyT (by assumption) | exact .base (.int _) | (show _ ≤ sizeLine; first | decide | exact Nat.le_of_ble_eq_true rfl | (simp only [List.length_cons, List.length_nil]; decide)) | exact ⟨_, .of (by assumption)⟩ | exact ⟨_, by assumption⟩ | exact DGet.k (by assumption) | (with_reducible show (_ : Int) ≤ _; omega) | (with_reducible show (_ : Int) < _; omega) | (with_reducible show (_ : Nat) ≤ _; omega) | (with_reducible show (_ : Nat) < _; omega) | exact CMul_l (by decide) | exact CMul_r (by decide))) | ((fail_if_success (show ∃ W : Nat → Nat → L2.St → Hp → Prop, _)); apply Exists.intro) | (refine iteT ?_) | (refine iteF ?_) | (refine wT ?_ ?_; focus omega) | (refine wF ?_ ?_; focus omega) | (refine wTv ?_ ?_; focus omega) | (refine wFv ?_ ?_; focus omega) | (refine wNT ?_ ?_; focus omega) | (refine wNF ?_ ?_; focus omega)))
        refine wI (fun h1 => ?_) fun h1 => ?_
        · obtain ⟨n1, n2, n3⟩ := hm.rev
          refine ⟨_, rfl, .inl ⟨rfl, _, .inl (.inl r4)⟩, _, rfl, r, _, _, rfl, rfl, r4, ?_, f4, qs, ps, rs ++ [10 + (i : Int)], _, rfl, k4.put nrH, ?_, ?_, ?_, ?_, ⟨m1, n1, m2, n2, m3, n3⟩⟩
          · rw [List.length_map]
            exact Nat.lt_of_le_of_lt (show rs.length ≤ 6 by have := hm.rl; omega) (by decide)
          · rw [upd_ne npr]; exact e4
          · rw [upd_ne ncr]; exact c4
          · exact hq4.by fun b xs z => by rw [upd_ne (ne_of z r4 (by intro y; cases y))]; exact z
          · rw [upd_same, List.map_append]; rfl
        · exact ⟨f4, qs, ps, rs, _, rfl, k4, e4, c4, hq4, r4, ⟨m1, st.rl, m2, st.r, m3, st.ra⟩⟩
    · rintro σ H2 ⟨fs, qs, ps, rs, v4, rfl, k2, e2, c2, hq, r2, hm⟩
      refine ⟨_, rfl, _, rfl, .inl ⟨c, _, rfl, .of c2, ?_⟩⟩
      (intro pp n_pp; generalize he_pp : upd _ pp _ = H3; obtain ⟨e_pp, s_pp, f_pp⟩ := new_f he_pp n_pp; clear he_pp)
      refine ⟨_, rfl, .inl ⟨r, _, rfl, .of (s_pp _ _ r2), ?_⟩⟩
      (intro pr n_pr; generalize he_pr : upd _ pr _ = H4; obtain ⟨e_pr, s_pr, f_pr⟩ := new_f he_pr n_pr; clear he_pr)
      (repeat ((fail_if_success (intro _)); first | (refine And.intro ?_ ?_; focus (first | rfl | assumption | exact .of (by assumption) | exact .inl (.of (by assumption)) | exact .inr (by assumption) | exact .inr (.of (by assumption)) | exact kit_ty (by decide +kernel) | exact .ty _ | exact tyT (by assumption) | exact .base (.int _) | (show _ ≤ sizeLine; first | decide | exact Nat.le_of_ble_eq_true rfl | (simp only [List.length_cons, List.length_nil]; decide)) | exact ⟨_, .of (by assumption)⟩ | exact ⟨_, by assumption⟩ | exact DGet.k (by assumption) | (with_reducible show (_ : Int) ≤ _; omega) | (with_reducible show (_ : Int) < _; omega) | (with_reducible show (_ : Nat) ≤ _; omega) | (with_reducible show (_ : Nat) < _; omega) | exact CMul_l (by decide) | exact CMul_r (by decide))) | ((fail_if_success (show ∃ W : Nat → Nat → L2.St → Hp → Prop, _)); apply Exists.intro) | (refine iteT ?_) | (refine iteF ?_) | (refine wT ?_ ?_; focus omega) | (refine wF ?_ ?_; focus omega) | (refine wTv ?_ ?_; focus omega) | (refine wFv ?_ ?_; focus omega) | (refine wNT ?_ ?_; focus omega) | (refine wNF ?_ ?_; focus omega)))
      (intro t n_t; generalize he_t : upd _ t _ = H5; obtain ⟨e_t, s_t, f_t⟩ := new_f he_t n_t; clear he_t)
      have S5 := (s_pp.trans s_pr).trans s_t
      exact k H5 t ps rs fs (k2.same S5) (S5 _ _ e2) ⟨pp, pr, .of e_t, (hq.by fun b xs => S5 b _).pairs (.of (s_t _ _ (s_pr _ _ e_pp))), .of (s_t _ _ e_pr)⟩ hm
end
end K46
namespace K46
open PySem PySem.Spec PyProof.Rows L2 Rg
section
variable {P : Program} {w : World} {K : PySem.W.Frag} {mg : Str → Option Value} {base : Heap}
def sp_Ldue_cells (K : PySem.W.Frag) : Sp := fun vs H Q _ => ∃ (lq ho : Addr) (v : V) (x b s M : Int) (ts : List Addr) (hc : List (List Int)) (lg : LogL) (o : Option (Int × Int)), vs = [.ref lq, .ref ho, v, .int x] ∧ H lq = some (.lst (lg.map gV)) ∧ (lg.length : Int) = s ∧ LogAt K H b s M lg ∧ H ho = some (.lst (ts.map V.ref)) ∧ HomAt K H ts hc ∧ DueV H v o ∧ 0 ≤ x ∧ x < hc.length ∧ (∀ p, o = some p → -1 ≤ p.2 ∧ p.2 < s) ∧
  ∀ (H' : Hp) (t : Addr), Same H H' → SqT K H' t ((foundC hc lg x o).map V.int) → Q (.ref t) H'
theorem ok_Ldue_cells (T : Tx K mg) : FnOk P w K mg base CX0 1 T.f_Ldue_cells T.fd_Ldue_cells ["_law_log", "_law_home", "_law_due_here", "_law_x"] (sp_Ldue_cells K) := by
  refine T.F_Ldue_cells.ok sc_Ldue_cells (fun vs H Q E h => ?_) (fun cdv A outer s H vs Q E hr h => ?_)
  · obtain ⟨_, _, _, _, _, _, _, _, _, _, _, rfl, _⟩ := h; rfl
  · obtain ⟨lq, ho, v, x, b, sl, M, ts, hc, lg, o, rfl, eq, el, hL, eho, hH, hv, x0, xl, hb, k⟩ := h
    refine ⟨_, (pss_cons (ps_if (pt_cmpR op_isN (pv 2) pe_non (nomark _))
        (pss_one (ps_ret (pe_ix ix_list (pv 1) (pv 3) (fun _ _ => rfl))))
        pss_nil)
      (pss_cons (ps_if (PW.pt (pw_or (pt_cmpR op_eq (pe_ix ix_tup (pv 2) pe_int (fun _ _ => rfl)) (pe_un un_neg pe_int) (nomark _)) (pw_or1 (pt_cmpR op_isN (pe_ix ix_list (pv 0) (pe_ix ix_tup (pv 2) pe_int (fun _ _ => rfl)) (fun _ _ => rfl)) pe_non (nomark _)))))
        (pss_one (ps_ret (pe_tup (pa_cons pe_int (pa_cons pe_int (pa_cons pe_int (pa_cons pe_int (pa_cons pe_int (pa_cons pe_int (pa_cons pe_int (pa_cons pe_int pa_nil)))))))))))
        pss_nil)
      (pss_cons (ps_set (i := 4) sc_Ldue_cells.nd rfl (.inl rfl) (pe_ix ix_list (pv 0) (pe_ix ix_tup (pv 2) pe_int (fun _ _ => rfl)) (fun _ _ => rfl)))
      (pss_cons (ps_if (PW.pt (pw_or (pt_cmpR op_ne (pe_ix ix_tup (pv 4) pe_int (fun _ _ => rfl)) pe_str (nomark _)) (pw_or (pt_cmpR op_ne (pe_ix ix_tup (pv 4) pe_int (fun _ _ => rfl)) (pe_ix ix_tup (pv 2) pe_int (fun _ _ => rfl)) (nomark _)) (pw_or1 (pt_cmpR op_ne (pe_ix ix_tup (pv 4) pe_int (fun _ _ => rfl)) (pv 3) (nomark _))))))
        (pss_one (ps_ret (pe_tup (pa_cons pe_int (pa_cons pe_int (pa_cons pe_int (pa_cons pe_int (pa_cons pe_int (pa_cons pe_int (pa_cons pe_int (pa_cons pe_int pa_nil)))))))))))
        pss_nil)
      (pss_one (ps_ret (pe_ix ix_tup (pv 4) pe_int (fun _ _ => rfl)))))))), ?_⟩
    cases o with
    | none =>
      obtain rfl : v = .non := hv
      obtain ⟨t, t1, t2⟩ := hH.at (i := x.toNat) (by omega)
      have g1 : atI (ts.map V.ref) x = some (.ref t) := atN (j := x.toNat) (by omega) (by rw [List.getElem?_map, t1]; rfl)
      (repeat ((fail_if_success (intro _)); first | (refine And.intro ?_ ?_; focus (first | rfl | assumption | exact .of (by assumption) | exact .inl (.of (by assumption)) | exact .inr (by assumption) | exact .inr (.of (by assumption)) | exact kit_ty (by decide +kernel) | exact .ty _ | exact tyT (by assumption) | exact .base (.int _) | (show _ ≤ sizeLine; first | decide | exact Nat.le_of_ble_eq_true rfl | (simp only [List.length_cons, List.length_nil]; decide)) | exact ⟨_, .of (by assumption)⟩ | exact ⟨_, by assumption⟩ | exact DGet.k (by assumption) | (with_reducible show (_ : Int) ≤ _; omega) | (with_reducible show (_ : Int) < _; omega) | (with_reducible show (_ : Nat) ≤ _; omega) | (with_reducible show (_ : Nat) < _; omega) | exact CMul_l (by decide) | exact CMul_r (by decide))) | ((fail_if_success (show ∃ W : Nat → Nat → L2.St → Hp → Prop, _)); apply Exists.intro) | (refine iteT ?_) | (refine iteF ?_) | (refine wT ?_ ?_; focus omega) | (refine wF ?_ ?_; focus omega) | (refine wTv ?_ ?_; focus omega) | (refine wFv ?_ ?_; focus omega) | (refine wNT ?_ ?_; focus omega) | (refine wNF ?_ ?_; focus omega)))
      exact k H t (Same.refl _) t2
    | some p =>
      obtain ⟨t, rfl, et⟩ := hv
      obtain ⟨b1, b2⟩ := hb p rfl
      have zeros : ∀ (t : Addr) (H1 : Hp), H t = none → upd H t (.tup (zer.map V.int)) = H1 → foundC hc lg x (some p) = zer → Q (.ref t) H1 := fun t H1 nt e1 ez => by
        rw [← e1]
        exact k _ t (same_upd nt) (by rw [ez]; exact .of upd_same)
      (repeat ((fail_if_success (intro _)); first | (refine And.intro ?_ ?_; focus (first | rfl | assumption | exact .of (by assumption) | exact .inl (.of (by assumption)) | exact .inr (by assumption) | exact .inr (.of (by assumption)) | exact kit_ty (by decide +kernel) | exact .ty _ | exact tyT (by assumption) | exact .base (.int _) | (show _ ≤ sizeLine; first | decide | exact Nat.le_of_ble_eq_true rfl | (simp only [List.length_cons, List.length_nil]; decide)) | exact ⟨_, .of (by assumption)⟩ | exact ⟨_, by assumption⟩ | exact DGet.k (by assumption) | (with_reducible show (_ : Int) ≤ _; omega) | (with_reducible show (_ : Int) < _; omega) | (with_reducible show (_ : Nat) ≤ _; omega) | (with_reducible show (_ : Nat) < _; omega) | exact CMul_l (by decide) | exact CMul_r (by decide))) | ((fail_if_success (show ∃ W : Nat → Nat → L2.St → Hp → Prop, _)); apply Exists.intro) | (refine iteT ?_) | (refine iteF ?_) | (refine wT ?_ ?_; focus omega) | (refine wF ?_ ?_; focus omega) | (refine wTv ?_ ?_; focus omega) | (refine wFv ?_ ?_; focus omega) | (refine wNT ?_ ?_; focus omega) | (refine wNF ?_ ?_; focus omega)))
      refine wI (fun h1 => ?_) fun h1 => ?_
      · (repeat ((fail_if_success (intro _)); first | (refine And.intro ?_ ?_; focus (first | rfl | assumption | exact .of (by assumption) | exact .inl (.of (by assumption)) | exact .inr (by assumption) | exact .inr (.of (by assumption)) | exact kit_ty (by decide +kernel) | exact .ty _ | exact tyT (by assumption) | exact .base (.int _) | (show _ ≤ sizeLine; first | decide | exact Nat.le_of_ble_eq_true rfl | (simp only [List.length_cons, List.length_nil]; decide)) | exact ⟨_, .of (by assumption)⟩ | exact ⟨_, by assumption⟩ | exact DGet.k (by assumption) | (with_reducible show (_ : Int) ≤ _; omega) | (with_reducible show (_ : Int) < _; omega) | (with_reducible show (_ : Nat) ≤ _; omega) | (with_reducible show (_ : Nat) < _; omega) | exact CMul_l (by decide) | exact CMul_r (by decide))) | ((fail_if_success (show ∃ W : Nat → Nat → L2.St → Hp → Prop, _)); apply Exists.intro) | (refine iteT ?_) | (refine iteF ?_) | (refine wT ?_ ?_; focus omega) | (refine wF ?_ ?_; focus omega) | (refine wTv ?_ ?_; focus omega) | (refine wFv ?_ ?_; focus omega) | (refine wNT ?_ ?_; focus omega) | (refine wNF ?_ ?_; focus omega)))
        exact fun t nt => zeros t _ nt rfl (if_neg fun z => by omega)
      · obtain ⟨o, eo⟩ : ∃ o, lg[p.2.toNat]? = some o := ⟨_, List.getElem?_eq_getElem (by omega)⟩
        have g1 : atI (lg.map gV) p.2 = some (gV o) := atN (j := p.2.toNat) (by omega) (by rw [List.getElem?_map, eo]; rfl)
        have eF : foundC hc lg x (some p) = foundR p.1 x o := by
          show (if 0 ≤ p.2 ∧ p.2 < lg.length then _ else _) = _
          rw [if_pos (by omega), List.getD_eq_getElem?_getD, eo]; rfl
        rw [eF] at k zeros
        (repeat ((fail_if_success (intro _)); first | (refine And.intro ?_ ?_; focus (first | rfl | assumption | exact .of (by assumption) | exact .inl (.of (by assumption)) | exact .inr (by assumption) | exact .inr (.of (by assumption)) | exact kit_ty (by decide +kernel) | exact .ty _ | exact tyT (by assumption) | exact .base (.int _) | (show _ ≤ sizeLine; first | decide | exact Nat.le_of_ble_eq_true rfl | (simp only [List.length_cons, List.length_nil]; decide)) | exact ⟨_, .of (by assumption)⟩ | exact ⟨_, by assumption⟩ | exact DGet.k (by assumption) | (with_reducible show (_ : Int) ≤ _; omega) | (with_reducible show (_ : Int) < _; omega) | (with_reducible show (_ : Nat) ≤ _; omega) | (with_reducible show (_ : Nat) < _; omega) | exact CMul_l (by decide) | exact CMul_r (by decide))) | ((fail_if_success (show ∃ W : Nat → Nat → L2.St → Hp → Prop, _)); apply Exists.intro) | (refine iteT ?_) | (refine iteF ?_) | (refine wT ?_ ?_; focus omega) | (refine wF ?_ ?_; focus omega) | (refine wTv ?_ ?_; focus omega) | (refine wFv ?_ ?_; focus omega) | (refine wNT ?_ ?_; focus omega) | (refine wNF ?_ ?_; focus omega)))
        cases o with
        | none =>
          (repeat ((fail_if_success (intro _)); first | (refine And.intro ?_ ?_; focus (first | rfl | assumption | exact .of (by assumption) | exact .inl (.of (by assumption)) | exact .inr (by assumption) | exact .inr (.of (by assumption)) | exact kit_ty (by decide +kernel) | exact .ty _ | exact tyT (by assumption) | exact .base (.int _) | (show _ ≤ sizeLine; first | decide | exact Nat.le_of_ble_eq_true rfl | (simp only [List.length_cons, List.length_nil]; decide)) | exact ⟨_, .of (by assumption)⟩ | exact ⟨_, by assumption⟩ | exact DGet.k (by assumption) | (with_reducible show (_ : Int) ≤ _; omega) | (with_reducible show (_ : Int) < _; omega) | (with_reducible show (_ : Nat) ≤ _; omega) | (with_reducible show (_ : Nat) < _; omega) | exact CMul_l (by decide) | exact CMul_r (by decide))) | ((fail_if_success (show ∃ W : Nat → Nat → L2.St → Hp → Prop, _)); apply Exists.intro) | (refine iteT ?_) | (refine iteF ?_) | (refine wT ?_ ?_; focus omega) | (refine wF ?_ ?_; focus omega) | (refine wTv ?_ ?_; focus omega) | (refine wFv ?_ ?_; focus omega) | (refine wNT ?_ ?_; focus omega) | (refine wNF ?_ ?_; focus omega)))
          exact fun t nt => zeros t _ nt rfl rfl
        | some u =>
          obtain ⟨ra, r⟩ := u
          obtain ⟨hR, _, _⟩ := hL _ _ _ eo
          cases r with
          | copy lot y c =>
            obtain ⟨pc, h1, h2⟩ := hR
            (repeat ((fail_if_success (intro _)); first | (refine And.intro ?_ ?_; focus (first | rfl | assumption | exact .of (by assumption) | exact .inl (.of (by assumption)) | exact .inr (by assumption) | exact .inr (.of (by assumption)) | exact kit_ty (by decide +kernel) | exact .ty _ | exact tyT (by assumption) | exact .base (.int _) | (show _ ≤ sizeLine; first | decide | exact Nat.le_of_ble_eq_true rfl | (simp only [List.length_cons, List.length_nil]; decide)) | exact ⟨_, .of (by assumption)⟩ | exact ⟨_, by assumption⟩ | exact DGet.k (by assumption) | (with_reducible show (_ : Int) ≤ _; omega) | (with_reducible show (_ : Int) < _; omega) | (with_reducible show (_ : Nat) ≤ _; omega) | (with_reducible show (_ : Nat) < _; omega) | exact CMul_l (by decide) | exact CMul_r (by decide))) | ((fail_if_success (show ∃ W : Nat → Nat → L2.St → Hp → Prop, _)); apply Exists.intro) | (refine iteT ?_) | (refine iteF ?_) | (refine wT ?_ ?_; focus omega) | (refine wF ?_ ?_; focus omega) | (refine wTv ?_ ?_; focus omega) | (refine wFv ?_ ?_; focus omega) | (refine wNT ?_ ?_; focus omega) | (refine wNF ?_ ?_; focus omega)))
            refine wNe (fun e1 => ?_) fun e1 => ?_
            · (repeat ((fail_if_success (intro _)); first | (refine And.intro ?_ ?_; focus (first | rfl | assumption | exact .of (by assumption) | exact .inl (.of (by assumption)) | exact .inr (by assumption) | exact .inr (.of (by assumption)) | exact kit_ty (by decide +kernel) | exact .ty _ | exact tyT (by assumption) | exact .base (.int _) | (show _ ≤ sizeLine; first | decide | exact Nat.le_of_ble_eq_true rfl | (simp only [List.length_cons, List.length_nil]; decide)) | exact ⟨_, .of (by assumption)⟩ | exact ⟨_, by assumption⟩ | exact DGet.k (by assumption) | (with_reducible show (_ : Int) ≤ _; omega) | (with_reducible show (_ : Int) < _; omega) | (with_reducible show (_ : Nat) ≤ _; omega) | (with_reducible show (_ : Nat) < _; omega) | exact CMul_l (by decide) | exact CMul_r (by decide))) | ((fail_if_success (show ∃ W : Nat → Nat → L2.St → Hp → Prop, _)); apply Exists.intro) | (refine iteT ?_) | (refine iteF ?_) | (refine wT ?_ ?_; focus omega) | (refine wF ?_ ?_; focus omega) | (refine wTv ?_ ?_; focus omega) | (refine wFv ?_ ?_; focus omega) | (refine wNT ?_ ?_; focus omega) | (refine wNF ?_ ?_; focus omega)))
              exact fun t nt => zeros t _ nt rfl (if_neg fun z => e1 z.1)
            · (repeat ((fail_if_success (intro _)); first | (refine And.intro ?_ ?_; focus (first | rfl | assumption | exact .of (by assumption) | exact .inl (.of (by assumption)) | exact .inr (by assumption) | exact .inr (.of (by assumption)) | exact kit_ty (by decide +kernel) | exact .ty _ | exact tyT (by assumption) | exact .base (.int _) | (show _ ≤ sizeLine; first | decide | exact Nat.le_of_ble_eq_true rfl | (simp only [List.length_cons, List.length_nil]; decide)) | exact ⟨_, .of (by assumption)⟩ | exact ⟨_, by assumption⟩ | exact DGet.k (by assumption) | (with_reducible show (_ : Int) ≤ _; omega) | (with_reducible show (_ : Int) < _; omega) | (with_reducible show (_ : Nat) ≤ _; omega) | (with_reducible show (_ : Nat) < _; omega) | exact CMul_l (by decide) | exact CMul_r (by decide))) | ((fail_if_success (show ∃ W : Nat → Nat → L2.St → Hp → Prop, _)); apply Exists.intro) | (refine iteT ?_) | (refine iteF ?_) | (refine wT ?_ ?_; focus omega) | (refine wF ?_ ?_; focus omega) | (refine wTv ?_ ?_; focus omega) | (refine wFv ?_ ?_; focus omega) | (refine wNT ?_ ?_; focus omega) | (refine wNF ?_ ?_; focus omega)))
              refine wNe (fun e2 => ?_) fun e2 => ?_
              · (repeat ((fail_if_success (intro _)); first | (refine And.intro ?_ ?_; focus (first | rfl | assumption | exact .of (by assumption) | exact .inl (.of (by assumption)) | exact .inr (by assumption) | exact .inr (.of (by assumption)) | exact kit_ty (by decide +kernel) | exact .ty _ | exact tyT (by assumption) | exact .base (.int _) | (show _ ≤ sizeLine; first | decide | exact Nat.le_of_ble_eq_true rfl | (simp only [List.length_cons, List.length_nil]; decide)) | exact ⟨_, .of (by assumption)⟩ | exact ⟨_, by assumption⟩ | exact DGet.k (by assumption) | (with_reducible show (_ : Int) ≤ _; omega) | (with_reducible show (_ : Int) < _; omega) | (with_reducible show (_ : Nat) ≤ _; omega) | (with_reducible show (_ : Nat) < _; omega) | exact CMul_l (by decide) | exact CMul_r (by decide))) | ((fail_if_success (show ∃ W : Nat → Nat → L2.St → Hp → Prop, _)); apply Exists.intro) | (refine iteT ?_) | (refine iteF ?_) | (refine wT ?_ ?_; focus omega) | (refine wF ?_ ?_; focus omega) | (refine wTv ?_ ?_; focus omega) | (refine wFv ?_ ?_; focus omega) | (refine wNT ?_ ?_; focus omega) | (refine wNF ?_ ?_; focus omega)))
                exact fun t nt => zeros t _ nt rfl (if_neg fun z => e2 z.2)
              · rw [show foundR p.1 x (some (ra, Rec.copy lot y c)) = c from if_pos ⟨e1, e2⟩] at k
                (repeat ((fail_if_success (intro _)); first | (refine And.intro ?_ ?_; focus (first | rfl | assumption | exact .of (by assumption) | exact .inl (.of (by assumption)) | exact .inr (by assumption) | exact .inr (.of (by assumption)) | exact kit_ty (by decide +kernel) | exact .ty _ | exact tyT (by assumption) | exact .base (.int _) | (show _ ≤ sizeLine; first | decide | exact Nat.le_of_ble_eq_true rfl | (simp only [List.length_cons, List.length_nil]; decide)) | exact ⟨_, .of (by assumption)⟩ | exact ⟨_, by assumption⟩ | exact DGet.k (by assumption) | (with_reducible show (_ : Int) ≤ _; omega) | (with_reducible show (_ : Int) < _; omega) | (with_reducible show (_ : Nat) ≤ _; omega) | (with_reducible show (_ : Nat) < _; omega) | exact CMul_l (by decide) | exact CMul_r (by decide))) | ((fail_if_success (show ∃ W : Nat → Nat → L2.St → Hp → Prop, _)); apply Exists.intro) | (refine iteT ?_) | (refine iteF ?_) | (refine wT ?_ ?_; focus omega) | (refine wF ?_ ?_; focus omega) | (refine wTv ?_ ?_; focus omega) | (refine wFv ?_ ?_; focus omega) | (refine wNT ?_ ?_; focus omega) | (refine wNF ?_ ?_; focus omega)))
                exact k H pc (Same.refl _) h2
          | mark lot ps rs =>
            obtain ⟨pp, pr, h1, ⟨qs, g2, g3, g4⟩, _⟩ := hR
            (repeat ((fail_if_success (intro _)); first | (refine And.intro ?_ ?_; focus (first | rfl | assumption | exact .of (by assumption) | exact .inl (.of (by assumption)) | exact .inr (by assumption) | exact .inr (.of (by assumption)) | exact kit_ty (by decide +kernel) | exact .ty _ | exact tyT (by assumption) | exact .base (.int _) | (show _ ≤ sizeLine; first | decide | exact Nat.le_of_ble_eq_true rfl | (simp only [List.length_cons, List.length_nil]; decide)) | exact ⟨_, .of (by assumption)⟩ | exact ⟨_, by assumption⟩ | exact DGet.k (by assumption) | (with_reducible show (_ : Int) ≤ _; omega) | (with_reducible show (_ : Int) < _; omega) | (with_reducible show (_ : Nat) ≤ _; omega) | (with_reducible show (_ : Nat) < _; omega) | exact CMul_l (by decide) | exact CMul_r (by decide))) | ((fail_if_success (show ∃ W : Nat → Nat → L2.St → Hp → Prop, _)); apply Exists.intro) | (refine iteT ?_) | (refine iteF ?_) | (refine wT ?_ ?_; focus omega) | (refine wF ?_ ?_; focus omega) | (refine wTv ?_ ?_; focus omega) | (refine wFv ?_ ?_; focus omega) | (refine wNT ?_ ?_; focus omega) | (refine wNF ?_ ?_; focus omega)))
            exact fun t nt => zeros t _ nt rfl rfl
end
end K46
namespace K46
open PySem PySem.Spec PyProof.Rows L2 Rg
theorem dueP_in {x lot : Int} {st : Bool} {p : Int × Int} : ∀ {ps : List (Int × Int)} {acc : Option (Int × Int)}, dueP x lot st ps acc = some p → acc = some p ∨ ∃ q ∈ ps, p.2 = q.2
  | [], _, h => .inl h
  | q :: ps, acc, h => by
    rw [dueP] at h
    rcases dueP_in h with z | ⟨q', hq, e⟩
    · by_cases c : q.1 = x ∧ st = false
      · rw [if_pos c] at z
        exact .inr ⟨q, List.mem_cons_self, by rw [← Option.some.inj z]⟩
      · rw [if_neg c] at z
        exact .inl z
    · exact .inr ⟨q', List.mem_cons_of_mem _ hq, e⟩
theorem dueF_in {x : Int} {g : Bool} {p : Int × Int} : ∀ {ms : List Mk3} {acc : Option (Int × Int)}, dueF x g ms acc = some p → acc = some p ∨ ∃ m ∈ ms, ∃ q ∈ m.2.1, p.2 = q.2
  | [], _, h => .inl h
  | m :: ms, acc, h => by
    rw [dueF] at h
    rcases dueF_in h with z | ⟨m', hm, q, hq, e⟩
    · rcases dueP_in z with z | ⟨q, hq, e⟩
      · exact .inl z
      · exact .inr ⟨m, List.mem_cons_self, q, hq, e⟩
    · exact .inr ⟨m', List.mem_cons_of_mem _ hm, q, hq, e⟩
theorem marks_dp {K : PySem.W.Frag} {H : Hp} : ∀ (mas : List Addr) (ms : List Mk3), mas.length = ms.length → (∀ (i : Nat) (a : Addr) (m : Mk3), mas[i]? = some a → ms[i]? = some m → ∃ (z : Int) (r : Addr), SqT K H a [.int z, .ref r] ∧ MarkAt K H r m) →
    ∃ ds, DpAll K H (mas.map V.ref) ds ∧ PyData.canLayAll0 ds = true ∧ PyData.depthAll ds ≤ 4
  | [], [], _, _ => ⟨[], .nil, rfl, Nat.zero_le _⟩
  | a :: mas, m :: ms, hl, h => by
    obtain ⟨ds, h1, h2, h3⟩ := marks_dp mas ms (by simpa using hl) fun i a m e1 e2 => h (i + 1) a m (by simpa using e1) (by simpa using e2)
    obtain ⟨z, r, q1, q2⟩ := h 0 a m rfl rfl
    refine ⟨.tuple [.int z, dR (.mark m.1 m.2.1 m.2.2)] :: ds, .cons (.tup q1 (.cons (.int z) (.cons (dpR q2) .nil))) h1, ?_, ?_⟩
    · show (PyData.canLay0 (dR (.mark m.1 m.2.1 m.2.2)) && true && PyData.canLayAll0 ds) = true
      rw [canR, h2]; rfl
    · show max (max 0 (max (PyData.depth (dR (.mark m.1 m.2.1 m.2.2))) 0) + 1) (PyData.depthAll ds) ≤ 4
      have := depR (.mark m.1 m.2.1 m.2.2)
      omega
  | [], _ :: _, hl, _ => by simp at hl
  | _ :: _, [], hl, _ => by simp at hl
/-- two lists of the same marks are alike -/
theorem MarksAt.eq {K : PySem.W.Frag} {H : Hp} {ma q : Addr} {ms : List Mk3} {vs : List V} (h : MarksAt K H ma ms) (e1 : H ma = some (.lst vs)) (e2 : H q = some (.lst vs)) : ∃ dd, Dp K H (.ref q) dd ∧ Dp K H (.ref ma) dd ∧ SeqAt.shaped dd = true ∧ PyData.eqv dd dd = true := by
  obtain ⟨mas, h1, h2, h3⟩ := h
  rw [h1] at e1
  cases e1
  obtain ⟨ds, d1, d2, d3⟩ := marks_dp mas ms h2 h3
  have sh : SeqAt.shaped (.list ds) = true := by
    unfold SeqAt.shaped
    rw [Bool.and_eq_true]
    refine ⟨d2, decide_eq_true ?_⟩
    show PyData.depthAll ds + 1 ≤ 64
    omega
  exact ⟨_, .lst (.of e2) d1, .lst (.of h1) d1, sh, SeqAt.eqv_refl (.list ds) d2⟩
theorem MarksAt.copy {K : PySem.W.Frag} {H : Hp} {ma q : Addr} {ms : List Mk3} {vs : List V} (h : MarksAt K H ma ms) (e1 : H ma = some (.lst vs)) (e2 : H q = some (.lst vs)) : MarksAt K H q ms := by
  obtain ⟨mas, h1, h2, h3⟩ := h
  rw [h1] at e1
  cases e1
  exact ⟨mas, e2, h2, h3⟩
section
variable {P : Program} {w : World} {K : PySem.W.Frag} {mg : Str → Option Value} {base : Heap}
def sp_Lagrees (CD CP : Addr) (K : PySem.W.Frag) : Sp := fun vs H Q _ => ∃ (d ma lq ho : Addr) (x : Int) (g : Bool) (A : DA) (b n s hd la M : Int) (ts ts' : List Addr) (hc : List (List Int)) (lg : LogL) (kv : List (Key × V)) (ms : List Mk3), vs = [.ref d, .ref ma, .ref lq, .ref ho, .int x, .bl g] ∧ DAt CD CP H d A b n s hd la (ts.map V.ref) (lg.map gV) kv ∧ LogAt K H b s M lg ∧ HomAt K H ts hc ∧ MarksAt K H ma ms ∧ ms.length ≤ 100 ∧ (∀ m ∈ ms, m.2.1.length ≤ 64) ∧ (∀ m ∈ ms, ∀ p ∈ m.2.1, -1 ≤ p.2 ∧ p.2 < s) ∧ 0 ≤ x ∧ x < b ∧ H lq = some (.lst (lg.map gV)) ∧ H ho = some (.lst (ts'.map V.ref)) ∧ HomAt K H ts' hc ∧ (∀ c ∈ hc, c.length ≤ 1000) ∧
  ∀ H' : Hp, Same H H' → Q (.bl true) H'
theorem foundC_len {hc : List (List Int)} {lg : LogL} {x b s : Int} {o : Option (Int × Int)} (h : ∀ c ∈ hc, c.length ≤ 1000) (hf : ∀ (i : Nat) (a : Addr) (r : Rec), lg[i]? = some (some (a, r)) → Fit b s r) : (foundC hc lg x o).length ≤ 1000 := by
  have z : zer.length ≤ 1000 := by decide
  cases o with
  | none =>
    show (hc.getD x.toNat zer).length ≤ 1000
    rw [List.getD_eq_getElem?_getD]
    cases q : hc[x.toNat]? with
    | none => exact z
    | some c => exact h c (List.mem_of_getElem? q)
  | some p =>
    show (if 0 ≤ p.2 ∧ p.2 < lg.length then _ else _ : List Int).length ≤ 1000
    split
    · rw [List.getD_eq_getElem?_getD]
      cases q : lg[p.2.toNat]? with
      | none => exact z
      | some o =>
        cases o with
        | none => exact z
        | some u =>
          obtain ⟨ra, r⟩ := u
          cases r with
          | mark l ps rs => exact z
          | copy l y c =>
            show (if l = p.1 ∧ y = x then c else zer : List Int).length ≤ 1000
            split
            · rw [(hf _ _ _ q).2.2.2.2.2.len]; decide
            · exact z
    · exact z
theorem ok_Lagrees (T : Tx K mg) : FnOk P w K mg base CX0 3 T.f_Lagrees T.fd_Lagrees ["_law_disk", "_law_marks", "_law_log", "_law_home", "_law_x", "_law_gentle"] (sp_Lagrees T.C_Disk T.C_Plan K) := by
  refine T.F_Lagrees.ok sc_Lagrees (fun vs H Q E h => ?_) (fun cdv A0 outer s H vs Q E hr h => ?_)
  · obtain ⟨_, _, _, _, _, _, _, _, _, _, _, _, _, _, _, _, _, _, _, rfl, _⟩ := h; rfl
  · obtain ⟨d, ma, lq, ho, x, g, A, b, n, sl, hd, la, M, ts, ts', hc, lg, kv, ms, rfl, D, hL, hH, hM, hz, hp, hs, x0, xb, eq, eho, hH', hcl, k⟩ := h
    have hr1 := hr.mono (show 1 ≤ 2 by decide)
    refine ⟨_, (pss_cons (ps_set (i := 6) sc_Lagrees.nd rfl (.inl rfl) (pe_call (ok_Ldue T) hr rfl T.mg_Ldue T.F_Ldue.kp (b_Ldue T) .nil pass0 (pa_cons (pv 1) (pa_cons (pv 4) (pa_cons (pv 5) pa_nil)))))
      (pss_cons (ps_set (i := 7) sc_Lagrees.nd rfl (.inl rfl) (pe_listof (K := K) (pv 1) T.b_list))
      (pss_cons (ps_set (i := 8) sc_Lagrees.nd rfl (.inl rfl) (pe_callN (ok_live_copy T) hr rfl T.mg_live_copy T.F_live_copy.kp (kb_live_copy T) pass0 (pa_cons (pv 7) (pa_cons (pv 4) pa_nil)) (pk_cons (pv 5) pk_nil)))
      (pss_cons (ps_if (PW.pt (pw_and (pt_cmpR op_isN (pv 6) pe_non (nomark _)) (pw_and1 (pt_cmpR op_notN (pv 8) pe_non (nomark _)))))
        (pss_one (ps_ret pe_bl))
        pss_nil)
      (pss_cons (ps_if (PW.pt (pw_and (pt_cmpR op_notN (pv 6) pe_non (nomark _)) (pw_and1 (pt_not (pt_val (pe_call (ok_Lnumbers T) hr1 rfl T.mg_Lnumbers T.F_Lnumbers.kp (b_Lnumbers T) .nil pass0 (pa_cons (pv 8) (pa_cons (pv 6) pa_nil))))))))
        (pss_one (ps_ret pe_bl))
        pss_nil)
      (pss_cons (ps_if (pt_not (pt_val (pe_call (ok_Lnumbers T) hr1 rfl T.mg_Lnumbers T.F_Lnumbers.kp (b_Lnumbers T) .nil pass0 (pa_cons (pe_callN (ok_cells_after T) hr rfl T.mg_cells_after T.F_cells_after.kp (kb_cells_after T) pass0 (pa_cons (pv 0) (pa_cons (pv 7) (pa_cons (pv 4) pa_nil))) (pk_cons (pv 5) pk_nil)) (pa_cons (pe_call (ok_Ldue_cells T) hr1 rfl T.mg_Ldue_cells T.F_Ldue_cells.kp (b_Ldue_cells T) .nil pass0 (pa_cons (pv 2) (pa_cons (pv 3) (pa_cons (pv 6) (pa_cons (pv 4) pa_nil))))) pa_nil)))))
        (pss_one (ps_ret pe_bl))
        pss_nil)
      (pss_one (ps_ret (pe_cmpR (op_eqD hr.units) (pv 7) (pv 1) (nomark _)))))))))), ?_⟩
    have lgl : (lg.length : Int) = sl := by have := D.gl; rw [List.length_map] at this; exact this
    subst lgl
    have hcl2 : (hc.length : Int) = b := by have := D.hl; rw [List.length_map, hH.1] at this; exact this
    obtain ⟨vs, e1, e2⟩ := hM.lst
    refine ⟨_, rfl, _, rfl, _, rfl, ma, x, g, ms, rfl, hM, hz, fun H1 v S1 hv => ?_⟩
    rw [due_is_live] at hv
    have e1' := S1 _ _ e1
    refine ⟨_, rfl, ma, vs, rfl, .inl (.of e1'), ?_⟩
    (intro q n_q; generalize he_q : upd _ q _ = H2; obtain ⟨e_q, s_q, f_q⟩ := new_f he_q n_q; clear he_q)
    have S2 := S1.trans s_q
    have hM2 := (hM.same S2).copy (S2 _ _ e1) e_q
    refine ⟨_, rfl, _, rfl, _, rfl, rfl, rfl, q, x, g, ms, rfl, hM2, hz, hp, fun H3 u S3 hu => ?_⟩
    have S03 := S2.trans S3
    have hM3 := hM2.same S3
    have hv3 := hv.same (s_q.trans S3)
    have hb : ∀ p, liveF g ms (fun _ => none) x = some p → -1 ≤ p.2 ∧ p.2 < lg.length := fun p e => by
      rw [← due_is_live] at e
      rcases dueF_in e with z | ⟨m, hm, q, hq, e⟩
      · cases z
      · have := hs m hm q hq
        omega
    generalize ho2 : liveF g ms (fun _ => none) x = o at hv hv3 hu hb
    have hv4 := hv3
    have hln := foundC_len (x := x) (o := o) hcl fun i a r e => (hL i a r e).2.1
    have e3 := S3 _ _ e_q
    have e1'' := S03 _ _ e1
    have D3 := D.same S03
    have hL3 := hL.same S03
    have hH3 := hH.same S03
    have n1 : (2 : Nat) ≤ 1000 := by decide
    cases o with
    | none =>
      obtain rfl : v = .non := hv
      obtain rfl : u = .non := hu
      (repeat ((fail_if_success (intro _)); first | (refine And.intro ?_ ?_; focus (first | rfl | assumption | exact .of (by assumption) | exact .inl (.of (by assumption)) | exact .inr (by assumption) | exact .inr (.of (by assumption)) | exact kit_ty (by decide +kernel) | exact .ty _ | exact tyT (by assumption) | exact .base (.int _) | (show _ ≤ sizeLine; first | decide | exact Nat.le_of_ble_eq_true rfl | (simp only [List.length_cons, List.length_nil]; decide)) | exact ⟨_, .of (by assumption)⟩ | exact ⟨_, by assumption⟩ | exact DGet.k (by assumption) | (with_reducible show (_ : Int) ≤ _; omega) | (with_reducible show (_ : Int) < _; omega) | (with_reducible show (_ : Nat) ≤ _; omega) | (with_reducible show (_ : Nat) < _; omega) | exact CMul_l (by decide) | exact CMul_r (by decide))) | ((fail_if_success (show ∃ W : Nat → Nat → L2.St → Hp → Prop, _)); apply Exists.intro) | (refine iteT ?_) | (refine iteF ?_) | (refine wT ?_ ?_; focus omega) | (refine wF ?_ ?_; focus omega) | (refine wTv ?_ ?_; focus omega) | (refine wFv ?_ ?_; focus omega) | (refine wNT ?_ ?_; focus omega) | (refine wNF ?_ ?_; focus omega)))
      intro H4 t S4 ht
      rw [ho2] at ht
      have S04 := S03.trans S4
      have q4 := S04 _ _ eq
      have hL4 := hL.same S04
      have o4 := S04 _ _ eho
      have hH4 := hH'.same S04
      have d4 := hv4.same S4
      have x4 : x < hc.length := by omega
      (repeat ((fail_if_success (intro _)); first | (refine And.intro ?_ ?_; focus (first | rfl | assumption | exact .of (by assumption) | exact .inl (.of (by assumption)) | exact .inr (by assumption) | exact .inr (.of (by assumption)) | exact kit_ty (by decide +kernel) | exact .ty _ | exact tyT (by assumption) | exact .base (.int _) | (show _ ≤ sizeLine; first | decide | exact Nat.le_of_ble_eq_true rfl | (simp only [List.length_cons, List.length_nil]; decide)) | exact ⟨_, .of (by assumption)⟩ | exact ⟨_, by assumption⟩ | exact DGet.k (by assumption) | (with_reducible show (_ : Int) ≤ _; omega) | (with_reducible show (_ : Int) < _; omega) | (with_reducible show (_ : Nat) ≤ _; omega) | (with_reducible show (_ : Nat) < _; omega) | exact CMul_l (by decide) | exact CMul_r (by decide))) | ((fail_if_success (show ∃ W : Nat → Nat → L2.St → Hp → Prop, _)); apply Exists.intro) | (refine iteT ?_) | (refine iteF ?_) | (refine wT ?_ ?_; focus omega) | (refine wF ?_ ?_; focus omega) | (refine wTv ?_ ?_; focus omega) | (refine wFv ?_ ?_; focus omega) | (refine wNT ?_ ?_; focus omega) | (refine wNF ?_ ?_; focus omega)))
      intro H5 t' S5 ht'
      have S05 := S04.trans S5
      have ht5 := sameT S5 ht
      obtain ⟨dd, j1, j2, j3, j4⟩ := (hM.same S05).eq (S05 _ _ e1) (S5 _ _ (S4 _ _ e3))
      (repeat ((fail_if_success (intro _)); first | (refine And.intro ?_ ?_; focus (first | rfl | assumption | exact .of (by assumption) | exact .inl (.of (by assumption)) | exact .inr (by assumption) | exact .inr (.of (by assumption)) | exact kit_ty (by decide +kernel) | exact .ty _ | exact tyT (by assumption) | exact .base (.int _) | (show _ ≤ sizeLine; first | decide | exact Nat.le_of_ble_eq_true rfl | (simp only [List.length_cons, List.length_nil]; decide)) | exact ⟨_, .of (by assumption)⟩ | exact ⟨_, by assumption⟩ | exact DGet.k (by assumption) | (with_reducible show (_ : Int) ≤ _; omega) | (with_reducible show (_ : Int) < _; omega) | (with_reducible show (_ : Nat) ≤ _; omega) | (with_reducible show (_ : Nat) < _; omega) | exact CMul_l (by decide) | exact CMul_r (by decide))) | ((fail_if_success (show ∃ W : Nat → Nat → L2.St → Hp → Prop, _)); apply Exists.intro) | (refine iteT ?_) | (refine iteF ?_) | (refine wT ?_ ?_; focus omega) | (refine wF ?_ ?_; focus omega) | (refine wTv ?_ ?_; focus omega) | (refine wFv ?_ ?_; focus omega) | (refine wNT ?_ ?_; focus omega) | (refine wNF ?_ ?_; focus omega)))
      rw [j4]
      exact k H5 S05
    | some p =>
      obtain ⟨t1, rfl, f1⟩ := hv3
      obtain ⟨t2, rfl, f2⟩ := hu
      have f1' : SqT K H3 t1 ([p.1, p.2].map V.int) := .of f1
      have f2' : SqT K H3 t2 ([p.1, p.2].map V.int) := .of f2
      (repeat ((fail_if_success (intro _)); first | (refine And.intro ?_ ?_; focus (first | rfl | assumption | exact .of (by assumption) | exact .inl (.of (by assumption)) | exact .inr (by assumption) | exact .inr (.of (by assumption)) | exact kit_ty (by decide +kernel) | exact .ty _ | exact tyT (by assumption) | exact .base (.int _) | (show _ ≤ sizeLine; first | decide | exact Nat.le_of_ble_eq_true rfl | (simp only [List.length_cons, List.length_nil]; decide)) | exact ⟨_, .of (by assumption)⟩ | exact ⟨_, by assumption⟩ | exact DGet.k (by assumption) | (with_reducible show (_ : Int) ≤ _; omega) | (with_reducible show (_ : Int) < _; omega) | (with_reducible show (_ : Nat) ≤ _; omega) | (with_reducible show (_ : Nat) < _; omega) | exact CMul_l (by decide) | exact CMul_r (by decide))) | ((fail_if_success (show ∃ W : Nat → Nat → L2.St → Hp → Prop, _)); apply Exists.intro) | (refine iteT ?_) | (refine iteF ?_) | (refine wT ?_ ?_; focus omega) | (refine wF ?_ ?_; focus omega) | (refine wTv ?_ ?_; focus omega) | (refine wFv ?_ ?_; focus omega) | (refine wNT ?_ ?_; focus omega) | (refine wNF ?_ ?_; focus omega)))
      intro H4 t S4 ht
      rw [ho2] at ht
      have S04 := S03.trans S4
      have q4 := S04 _ _ eq
      have hL4 := hL.same S04
      have o4 := S04 _ _ eho
      have hH4 := hH'.same S04
      have d4 := hv4.same S4
      have x4 : x < hc.length := by omega
      (repeat ((fail_if_success (intro _)); first | (refine And.intro ?_ ?_; focus (first | rfl | assumption | exact .of (by assumption) | exact .inl (.of (by assumption)) | exact .inr (by assumption) | exact .inr (.of (by assumption)) | exact kit_ty (by decide +kernel) | exact .ty _ | exact tyT (by assumption) | exact .base (.int _) | (show _ ≤ sizeLine; first | decide | exact Nat.le_of_ble_eq_true rfl | (simp only [List.length_cons, List.length_nil]; decide)) | exact ⟨_, .of (by assumption)⟩ | exact ⟨_, by assumption⟩ | exact DGet.k (by assumption) | (with_reducible show (_ : Int) ≤ _; omega) | (with_reducible show (_ : Int) < _; omega) | (with_reducible show (_ : Nat) ≤ _; omega) | (with_reducible show (_ : Nat) < _; omega) | exact CMul_l (by decide) | exact CMul_r (by decide))) | ((fail_if_success (show ∃ W : Nat → Nat → L2.St → Hp → Prop, _)); apply Exists.intro) | (refine iteT ?_) | (refine iteF ?_) | (refine wT ?_ ?_; focus omega) | (refine wF ?_ ?_; focus omega) | (refine wTv ?_ ?_; focus omega) | (refine wFv ?_ ?_; focus omega) | (refine wNT ?_ ?_; focus omega) | (refine wNF ?_ ?_; focus omega)))
      intro H5 t' S5 ht'
      have S05 := S04.trans S5
      have ht5 := sameT S5 ht
      obtain ⟨dd, j1, j2, j3, j4⟩ := (hM.same S05).eq (S05 _ _ e1) (S5 _ _ (S4 _ _ e3))
      (repeat ((fail_if_success (intro _)); first | (refine And.intro ?_ ?_; focus (first | rfl | assumption | exact .of (by assumption) | exact .inl (.of (by assumption)) | exact .inr (by assumption) | exact .inr (.of (by assumption)) | exact kit_ty (by decide +kernel) | exact .ty _ | exact tyT (by assumption) | exact .base (.int _) | (show _ ≤ sizeLine; first | decide | exact Nat.le_of_ble_eq_true rfl | (simp only [List.length_cons, List.length_nil]; decide)) | exact ⟨_, .of (by assumption)⟩ | exact ⟨_, by assumption⟩ | exact DGet.k (by assumption) | (with_reducible show (_ : Int) ≤ _; omega) | (with_reducible show (_ : Int) < _; omega) | (with_reducible show (_ : Nat) ≤ _; omega) | (with_reducible show (_ : Nat) < _; omega) | exact CMul_l (by decide) | exact CMul_r (by decide))) | ((fail_if_success (show ∃ W : Nat → Nat → L2.St → Hp → Prop, _)); apply Exists.intro) | (refine iteT ?_) | (refine iteF ?_) | (refine wT ?_ ?_; focus omega) | (refine wF ?_ ?_; focus omega) | (refine wTv ?_ ?_; focus omega) | (refine wFv ?_ ?_; focus omega) | (refine wNT ?_ ?_; focus omega) | (refine wNF ?_ ?_; focus omega)))
      rw [j4]
      exact k H5 S05
end
end K46
namespace K46
open PySem PySem.Spec PyProof.Rows L2 Rg
section
variable {K : PySem.W.Frag} {CD CP : Addr} {Ps : List Addr} {H H' : Hp} {p d lq : Addr} {A : DA} {b n s hd la M : Int} {hs gs : List V} {lg : LogL} {kv : List (Key × V)}
/-- what a law's own writes change -/
def DkS (p d lq : Addr) (A : DA) (Ps : List Addr) : List Addr := p :: lq :: A.ho :: A.lg :: d :: A.pd :: Ps
theorem Dk.isnS (x : Dk K CD CP Ps H p d lq A b n s hd la M hs lg kv) : ∀ a ∈ DkS p d lq A Ps, Isnt H a := fun a h => by
  obtain ⟨dx, ho⟩ := x.D.ob
  obtain ⟨fs, ep⟩ := x.f
  unfold DkS at h
  rcases List.mem_cons.mp h with z | z
  · rw [z]; exact isnt_lst ep
  rcases List.mem_cons.mp z with z | z
  · rw [z]; exact isnt_lst x.l
  rcases List.mem_cons.mp z with z | z
  · rw [z]; exact isnt_lst x.D.ho
  rcases List.mem_cons.mp z with z | z
  · rw [z]; exact isnt_lst x.D.lg
  exact x.isn a z
end
section
variable {P : Program} {w : World} {K : PySem.W.Frag} {mg : Str → Option Value} {base : Heap}
def sp_Lfill (K : PySem.W.Frag) (CD CP : Addr) (Ps : List Addr) : Sp := fun vs H Q _ => ∃ (p d lq u : Addr) (A : DA) (hd la M lot : Int) (hs : List V) (lg : LogL) (ps : List (Int × Int)) (rs : List Int), vs = [.ref p, .ref d, .ref lq, .ref u] ∧ Dk K CD CP Ps H p d lq A 24 5 30 hd la M hs lg [] ∧ RecAt K H u (.mark lot ps rs) ∧ MkOk 6 ps rs ∧ 1 ≤ lot ∧ lot < M ∧ lot ≤ 999 ∧
  ∀ (H' : Hp) (la' : Int) (lg' : LogL), Kp (DkS p d lq A Ps) H H' → Dk K CD CP Ps H' p d lq A 24 5 30 hd la' M hs lg' [] → Q .non H'
theorem ok_Lfill (T : Tx K mg) (B : TBs T base) : FnOk P w K mg base CX0 12 T.f_Lfill T.fd_Lfill ["_law_feed_here", "_law_disk", "_law_log", "_law_record"] (sp_Lfill K T.C_Disk T.C_Plan T.Ps) := by
  refine T.F_Lfill.ok sc_Lfill (fun vs H Q E h => ?_) (fun cdv A0 outer s H vs Q E hr h => ?_)
  · obtain ⟨_, _, _, _, _, _, _, _, _, _, _, _, _, rfl, _⟩ := h; rfl
  · obtain ⟨p, d, lq, u, A, hd, la, M, lot, hs, lg, ps, rs, rfl, X, hR, hm, l1, lM, l9, k⟩ := h
    have hr1 := hr.mono (show 1 ≤ 11 by decide)
    have hr2 := hr.mono (show 2 ≤ 11 by decide)
    refine ⟨_, (pss_cons (ps_set (i := 4) sc_Lfill.nd rfl (.inl rfl) (pe_ix ix_tup (pv 3) pe_int (fun _ _ => rfl)))
      (pss_one (ps_for PassesOwn.never rfl (pi_tup (pe_ix ix_tup (pv 3) pe_int (fun _ _ => rfl))) (pg_name (i := 5) sc_Lfill.nd rfl (.inl rfl))
        (pss_cons (ps_set (i := 6) sc_Lfill.nd rfl (.inl rfl) (pe_ix ix_tup (pv 5) pe_int (fun _ _ => rfl)))
        (pss_cons (ps_set (i := 7) sc_Lfill.nd rfl (.inl rfl) (pe_ix ix_tup (pv 5) pe_int (fun _ _ => rfl)))
        (pss_cons (ps_set (i := 8) sc_Lfill.nd rfl (.inl rfl) (pe_call (ok_Lpick T) hr1 rfl T.mg_Lpick T.F_Lpick.kp (b_Lpick T) .nil pass0 (pa_cons (pv 0) (pa_cons pe_int pa_nil))))
        (pss_cons (ps_set (i := 9) sc_Lfill.nd rfl (.inl rfl) (pe_call (ok_Lcells T) hr2 rfl T.mg_Lcells T.F_Lcells.kp (b_Lcells T) .nil pass0 (pa_cons (pv 0) (pa_cons (pe_op op_add (pe_op op_mul pe_int (pv 4)) (pv 6)) pa_nil))))
        (pss_one (ps_if (PW.pt (pw_and (pt_cmpR op_ge (pv 7) pe_int (nomark _)) (pw_and1 (pt_cmpR op_lt (pv 8) pe_int (nomark _)))))
          (pss_one (ps_expr (pe_call (ok_Lput T B) hr rfl T.mg_Lput T.F_Lput.kp (b_Lput T) .nil pass0 (pa_cons (pv 1) (pa_cons (pv 2) (pa_cons (pv 7) (pa_cons (pe_tup (pa_cons pe_str (pa_cons (pv 4) (pa_cons (pv 6) (pa_cons (pv 9) pa_nil))))) pa_nil)))))))
          (pss_one (ps_if (PW.pt (pw_and (pt_cmpR op_ge (pv 7) pe_int (nomark _)) (pw_and1 (pt_cmpR op_eq (pv 8) pe_int (nomark _)))))
            (pss_one (ps_expr (pe_call (ok_Lput T B) hr rfl T.mg_Lput T.F_Lput.kp (b_Lput T) .nil pass0 (pa_cons (pv 1) (pa_cons (pv 2) (pa_cons (pv 7) (pa_cons (pe_tup (pa_cons pe_str (pa_cons (pe_op op_add (pv 4) pe_int) (pa_cons (pv 6) (pa_cons (pv 9) pa_nil))))) pa_nil)))))))
            (pss_one (ps_if (PW.pt (pw_and (pt_cmpR op_ge (pv 7) pe_int (nomark _)) (pw_and1 (pt_cmpR op_eq (pv 8) pe_int (nomark _)))))
              (pss_one (ps_expr (pe_call (ok_Lput T B) hr rfl T.mg_Lput T.F_Lput.kp (b_Lput T) .nil pass0 (pa_cons (pv 1) (pa_cons (pv 2) (pa_cons (pv 7) (pa_cons (pe_tup (pa_cons pe_str (pa_cons (pv 4) (pa_cons (pe_op op_add (pv 6) pe_int) (pa_cons (pv 9) pa_nil))))) pa_nil)))))))
              (pss_one (ps_if (PW.pt (pw_and (pt_cmpR op_ge (pv 7) pe_int (nomark _)) (pw_and1 (pt_cmpR op_eq (pv 8) pe_int (nomark _)))))
                (pss_one (ps_expr (pe_call (ok_Lput T B) hr rfl T.mg_Lput T.F_Lput.kp (b_Lput T) .nil pass0 (pa_cons (pv 1) (pa_cons (pv 2) (pa_cons (pv 7) (pa_cons (pe_tup (pa_cons pe_str (pa_cons (pv 4) (pa_cons (pe_tup (pa_cons (pe_tup (pa_cons (pv 6) (pa_cons (pv 7) pa_nil))) pa_nil)) (pa_cons (pe_tup pa_nil) pa_nil))))) pa_nil)))))))
                pss_nil))))))))))))))), ?_⟩
    obtain ⟨pp, pr, h1, hP, h3⟩ := hR
    obtain ⟨qs, g1, g2, g3⟩ := PairsAt.at hP
    have isn := X.isnS
    (repeat ((fail_if_success (intro _)); first | (refine And.intro ?_ ?_; focus (first | rfl | assumption | exact .of (by assumption) | exact .inl (.of (by assumption)) | exact .inr (by assumption) | exact .inr (.of (by assumption)) | exact kit_ty (by decide +kernel) | exact .ty _ | exact tyT (by assumption) | exact .base (.int _) | (show _ ≤ sizeLine; first | decide | exact Nat.le_of_ble_eq_true rfl | (simp only [List.length_cons, List.length_nil]; decide)) | exact ⟨_, .of (by assumption)⟩ | exact ⟨_, by assumption⟩ | exact DGet.k (by assumption) | (with_reducible show (_ : Int) ≤ _; omega) | (with_reducible show (_ : Int) < _; omega) | (with_reducible show (_ : Nat) ≤ _; omega) | (with_reducible show (_ : Nat) < _; omega) | exact CMul_l (by decide) | exact CMul_r (by decide))) | ((fail_if_success (show ∃ W : Nat → Nat → L2.St → Hp → Prop, _)); apply Exists.intro) | (refine iteT ?_) | (refine iteF ?_) | (refine wT ?_ ?_; focus omega) | (refine wF ?_ ?_; focus omega) | (refine wTv ?_ ?_; focus omega) | (refine wFv ?_ ?_; focus omega) | (refine wNT ?_ ?_; focus omega) | (refine wNF ?_ ?_; focus omega)))
    refine for_tup (K := K) (a := pp) (xs := qs.map V.ref) (fun j σ H2 => ∃ (la' : Int) (lg' : LogL) (v5 v6 v7 v8 v9 : Option V), σ = [some (.ref p), some (.ref d), some (.ref lq), some (.ref u), some (.int lot), v5, v6, v7, v8, v9] ∧ Kp (DkS p d lq A T.Ps) H H2 ∧ Dk K T.C_Disk T.C_Plan T.Ps H2 p d lq A 24 5 30 hd la' M hs lg' [])
      ⟨la, lg, none, none, none, none, none, rfl, Kp.refl, X⟩ (fun j σ H2 _ ⟨_, _, _, _, _, _, _, _, kk, _⟩ => seqT_kp kk isn g1) ?_ ?_
    · rintro j y σ H2 hj ⟨la', lg', v5, v6, v7, v8, v9, rfl, k2, X2⟩
      obtain ⟨q, pq, rfl, p1, p2⟩ := g3 j y hj
      have p2 := seqT_kp k2 isn p2
      have hb := hm.p pq (List.mem_of_getElem? p1)
      obtain ⟨f2, e2⟩ := X2.f
      refine ⟨_, rfl, q, _, 0, .int pq.1, rfl, rfl, p2, rfl, _, rfl, q, _, 1, .int pq.2, rfl, rfl, p2, rfl, ?_⟩
      refine ⟨_, rfl, p, f2, 8, rfl, e2, by decide, fun ch f3 c0 c8 _ => ?_⟩
      have X3 := X2.pick f3
      have k3 : Kp (DkS p d lq A T.Ps) H (upd H2 p (.lst (f3.map V.int))) := k2.own (by simp [DkS])
      have e3 : upd H2 p (.lst (f3.map V.int)) p = some (.lst (f3.map V.int)) := upd_same
      generalize upd H2 p (.lst (f3.map V.int)) = H3 at X3 k3 e3 ⊢
      have z0 : 0 ≤ 100 * lot + pq.1 := by omega
      have z1 : 100 * lot + pq.1 ≤ 999999999 := by omega
      (repeat ((fail_if_success (intro _)); first | (refine And.intro ?_ ?_; focus (first | rfl | assumption | exact .of (by assumption) | exact .inl (.of (by assumption)) | exact .inr (by assumption) | exact .inr (.of (by assumption)) | exact kit_ty (by decide +kernel) | exact .ty _ | exact tyT (by assumption) | exact .base (.int _) | (show _ ≤ sizeLine; first | decide | exact Nat.le_of_ble_eq_true rfl | (simp only [List.length_cons, List.length_nil]; decide)) | exact ⟨_, .of (by assumption)⟩ | exact ⟨_, by assumption⟩ | exact DGet.k (by assumption) | (with_reducible show (_ : Int) ≤ _; omega) | (with_reducible show (_ : Int) < _; omega) | (with_reducible show (_ : Nat) ≤ _; omega) | (with_reducible show (_ : Nat) < _; omega) | exact CMul_l (by decide) | exact CMul_r (by decide))) | ((fail_if_success (show ∃ W : Nat → Nat → L2.St → Hp → Prop, _)); apply Exists.intro) | (refine iteT ?_) | (refine iteF ?_) | (refine wT ?_ ?_; focus omega) | (refine wF ?_ ?_; focus omega) | (refine wTv ?_ ?_; focus omega) | (refine wFv ?_ ?_; focus omega) | (refine wNT ?_ ?_; focus omega) | (refine wNF ?_ ?_; focus omega)))
      intro H4 t c f4 k4 e4 et hc
      have X4 := X3.feed k4 e4
      have k04 : Kp (DkS p d lq A T.Ps) H H4 := k3.trans (k4.mono fun x h => by rcases List.mem_singleton.mp h with rfl; simp [DkS])
      have out : ∀ (H6 : Hp) (la6 : Int) (lg6 : LogL), Kp (DkS p d lq A T.Ps) H H6 → Dk K T.C_Disk T.C_Plan T.Ps H6 p d lq A 24 5 30 hd la6 M hs lg6 [] → ∃ (la' : Int) (lg' : LogL) (v5 v6 v7 v8 v9 : Option V), [some (V.ref p), some (.ref d), some (.ref lq), some (.ref u), some (.int lot), some (.ref q), some (.int pq.1), some (.int pq.2), some (.int ch), some (.ref t)] = [some (.ref p), some (.ref d), some (.ref lq), some (.ref u), some (.int lot), v5, v6, v7, v8, v9] ∧ Kp (DkS p d lq A T.Ps) H H6 ∧ Dk K T.C_Disk T.C_Plan T.Ps H6 p d lq A 24 5 30 hd la' M hs lg' [] := fun H6 la6 lg6 k6 X6 => ⟨la6, lg6, _, _, _, _, _, rfl, k6, X6⟩
      have cf : ∀ (l x : Int), lot ≤ l → l ≤ lot + 1 → pq.1 ≤ x → x ≤ pq.1 + 1 → Fit 24 30 (.copy l x c) := fun l x a1 a2 a3 a4 => ⟨by omega, by omega, by omega, by omega, by omega, hc⟩
      (repeat ((fail_if_success (intro _)); first | (refine And.intro ?_ ?_; focus (first | rfl | assumption | exact .of (by assumption) | exact .inl (.of (by assumption)) | exact .inr (by assumption) | exact .inr (.of (by assumption)) | exact kit_ty (by decide +kernel) | exact .ty _ | exact tyT (by assumption) | exact .base (.int _) | (show _ ≤ sizeLine; first | decide | exact Nat.le_of_ble_eq_true rfl | (simp only [List.length_cons, List.length_nil]; decide)) | exact ⟨_, .of (by assumption)⟩ | exact ⟨_, by assumption⟩ | exact DGet.k (by assumption) | (with_reducible show (_ : Int) ≤ _; omega) | (with_reducible show (_ : Int) < _; omega) | (with_reducible show (_ : Nat) ≤ _; omega) | (with_reducible show (_ : Nat) < _; omega) | exact CMul_l (by decide) | exact CMul_r (by decide))) | ((fail_if_success (show ∃ W : Nat → Nat → L2.St → Hp → Prop, _)); apply Exists.intro) | (refine iteT ?_) | (refine iteF ?_) | (refine wT ?_ ?_; focus omega) | (refine wF ?_ ?_; focus omega) | (refine wTv ?_ ?_; focus omega) | (refine wFv ?_ ?_; focus omega) | (refine wNT ?_ ?_; focus omega) | (refine wNF ?_ ?_; focus omega)))
      refine wD (fun h0 => ?_) fun h0 => ?_
      · (repeat ((fail_if_success (intro _)); first | (refine And.intro ?_ ?_; focus (first | rfl | assumption | exact .of (by assumption) | exact .inl (.of (by assumption)) | exact .inr (by assumption) | exact .inr (.of (by assumption)) | exact kit_ty (by decide +kernel) | exact .ty _ | exact tyT (by assumption) | exact .base (.int _) | (show _ ≤ sizeLine; first | decide | exact Nat.le_of_ble_eq_true rfl | (simp only [List.length_cons, List.length_nil]; decide)) | exact ⟨_, .of (by assumption)⟩ | exact ⟨_, by assumption⟩ | exact DGet.k (by assumption) | (with_reducible show (_ : Int) ≤ _; omega) | (with_reducible show (_ : Int) < _; omega) | (with_reducible show (_ : Nat) ≤ _; omega) | (with_reducible show (_ : Nat) < _; omega) | exact CMul_l (by decide) | exact CMul_r (by decide))) | ((fail_if_success (show ∃ W : Nat → Nat → L2.St → Hp → Prop, _)); apply Exists.intro) | (refine iteT ?_) | (refine iteF ?_) | (refine wT ?_ ?_; focus omega) | (refine wF ?_ ?_; focus omega) | (refine wTv ?_ ?_; focus omega) | (refine wFv ?_ ?_; focus omega) | (refine wNT ?_ ?_; focus omega) | (refine wNF ?_ ?_; focus omega)))
        refine wD (fun h4 => ?_) fun h4 => ?_
        · (repeat ((fail_if_success (intro _)); first | (refine And.intro ?_ ?_; focus (first | rfl | assumption | exact .of (by assumption) | exact .inl (.of (by assumption)) | exact .inr (by assumption) | exact .inr (.of (by assumption)) | exact kit_ty (by decide +kernel) | exact .ty _ | exact tyT (by assumption) | exact .base (.int _) | (show _ ≤ sizeLine; first | decide | exact Nat.le_of_ble_eq_true rfl | (simp only [List.length_cons, List.length_nil]; decide)) | exact ⟨_, .of (by assumption)⟩ | exact ⟨_, by assumption⟩ | exact DGet.k (by assumption) | (with_reducible show (_ : Int) ≤ _; omega) | (with_reducible show (_ : Int) < _; omega) | (with_reducible show (_ : Nat) ≤ _; omega) | (with_reducible show (_ : Nat) < _; omega) | exact CMul_l (by decide) | exact CMul_r (by decide))) | ((fail_if_success (show ∃ W : Nat → Nat → L2.St → Hp → Prop, _)); apply Exists.intro) | (refine iteT ?_) | (refine iteF ?_) | (refine wT ?_ ?_; focus omega) | (refine wF ?_ ?_; focus omega) | (refine wTv ?_ ?_; focus omega) | (refine wFv ?_ ?_; focus omega) | (refine wNT ?_ ?_; focus omega) | (refine wNF ?_ ?_; focus omega)))
          (intro u5 n_u5; generalize he_u5 : upd _ u5 _ = H5; obtain ⟨e_u5, s_u5, f_u5⟩ := new_f he_u5 n_u5; clear he_u5)
          have X5 := X4.same (s_u5)
          have hru : RecAt K H5 u5 (Rec.copy lot pq.1 c) := ⟨t, .of e_u5, .of (s_u5 _ _ et)⟩
          have fit : Fit 24 30 (Rec.copy lot pq.1 c) := cf _ _ (by omega) (by omega) (by omega) (by omega)
          have rl : (Rec.copy lot pq.1 c).lot ≤ M := by show lot ≤ M; omega
          (repeat ((fail_if_success (intro _)); first | (refine And.intro ?_ ?_; focus (first | rfl | assumption | exact .of (by assumption) | exact .inl (.of (by assumption)) | exact .inr (by assumption) | exact .inr (.of (by assumption)) | exact kit_ty (by decide +kernel) | exact .ty _ | exact tyT (by assumption) | exact .base (.int _) | (show _ ≤ sizeLine; first | decide | exact Nat.le_of_ble_eq_true rfl | (simp only [List.length_cons, List.length_nil]; decide)) | exact ⟨_, .of (by assumption)⟩ | exact ⟨_, by assumption⟩ | exact DGet.k (by assumption) | (with_reducible show (_ : Int) ≤ _; omega) | (with_reducible show (_ : Int) < _; omega) | (with_reducible show (_ : Nat) ≤ _; omega) | (with_reducible show (_ : Nat) < _; omega) | exact CMul_l (by decide) | exact CMul_r (by decide))) | ((fail_if_success (show ∃ W : Nat → Nat → L2.St → Hp → Prop, _)); apply Exists.intro) | (refine iteT ?_) | (refine iteF ?_) | (refine wT ?_ ?_; focus omega) | (refine wF ?_ ?_; focus omega) | (refine wTv ?_ ?_; focus omega) | (refine wFv ?_ ?_; focus omega) | (refine wNT ?_ ?_; focus omega) | (refine wNF ?_ ?_; focus omega)))
          intro H6 k6 X6
          exact out H6 _ _ ((k04.same (s_u5)).trans (k6.mono fun x h => List.mem_cons_of_mem _ h)) X6
        · (repeat ((fail_if_success (intro _)); first | (refine And.intro ?_ ?_; focus (first | rfl | assumption | exact .of (by assumption) | exact .inl (.of (by assumption)) | exact .inr (by assumption) | exact .inr (.of (by assumption)) | exact kit_ty (by decide +kernel) | exact .ty _ | exact tyT (by assumption) | exact .base (.int _) | (show _ ≤ sizeLine; first | decide | exact Nat.le_of_ble_eq_true rfl | (simp only [List.length_cons, List.length_nil]; decide)) | exact ⟨_, .of (by assumption)⟩ | exact ⟨_, by assumption⟩ | exact DGet.k (by assumption) | (with_reducible show (_ : Int) ≤ _; omega) | (with_reducible show (_ : Int) < _; omega) | (with_reducible show (_ : Nat) ≤ _; omega) | (with_reducible show (_ : Nat) < _; omega) | exact CMul_l (by decide) | exact CMul_r (by decide))) | ((fail_if_success (show ∃ W : Nat → Nat → L2.St → Hp → Prop, _)); apply Exists.intro) | (refine iteT ?_) | (refine iteF ?_) | (refine wT ?_ ?_; focus omega) | (refine wF ?_ ?_; focus omega) | (refine wTv ?_ ?_; focus omega) | (refine wFv ?_ ?_; focus omega) | (refine wNT ?_ ?_; focus omega) | (refine wNF ?_ ?_; focus omega)))
          refine wI (fun h5 => ?_) fun h5 => ?_
          · (repeat ((fail_if_success (intro _)); first | (refine And.intro ?_ ?_; focus (first | rfl | assumption | exact .of (by assumption) | exact .inl (.of (by assumption)) | exact .inr (by assumption) | exact .inr (.of (by assumption)) | exact kit_ty (by decide +kernel) | exact .ty _ | exact tyT (by assumption) | exact .base (.int _) | (show _ ≤ sizeLine; first | decide | exact Nat.le_of_ble_eq_true rfl | (simp only [List.length_cons, List.length_nil]; decide)) | exact ⟨_, .of (by assumption)⟩ | exact ⟨_, by assumption⟩ | exact DGet.k (by assumption) | (with_reducible show (_ : Int) ≤ _; omega) | (with_reducible show (_ : Int) < _; omega) | (with_reducible show (_ : Nat) ≤ _; omega) | (with_reducible show (_ : Nat) < _; omega) | exact CMul_l (by decide) | exact CMul_r (by decide))) | ((fail_if_success (show ∃ W : Nat → Nat → L2.St → Hp → Prop, _)); apply Exists.intro) | (refine iteT ?_) | (refine iteF ?_) | (refine wT ?_ ?_; focus omega) | (refine wF ?_ ?_; focus omega) | (refine wTv ?_ ?_; focus omega) | (refine wFv ?_ ?_; focus omega) | (refine wNT ?_ ?_; focus omega) | (refine wNF ?_ ?_; focus omega)))
            (intro u5 n_u5; generalize he_u5 : upd _ u5 _ = H5; obtain ⟨e_u5, s_u5, f_u5⟩ := new_f he_u5 n_u5; clear he_u5)
            have X5 := X4.same (s_u5)
            have hru : RecAt K H5 u5 (Rec.copy (lot + 1) pq.1 c) := ⟨t, .of e_u5, .of (s_u5 _ _ et)⟩
            have fit : Fit 24 30 (Rec.copy (lot + 1) pq.1 c) := cf _ _ (by omega) (by omega) (by omega) (by omega)
            have rl : (Rec.copy (lot + 1) pq.1 c).lot ≤ M := by show lot + 1 ≤ M; omega
            (repeat ((fail_if_success (intro _)); first | (refine And.intro ?_ ?_; focus (first | rfl | assumption | exact .of (by assumption) | exact .inl (.of (by assumption)) | exact .inr (by assumption) | exact .inr (.of (by assumption)) | exact kit_ty (by decide +kernel) | exact .ty _ | exact tyT (by assumption) | exact .base (.int _) | (show _ ≤ sizeLine; first | decide | exact Nat.le_of_ble_eq_true rfl | (simp only [List.length_cons, List.length_nil]; decide)) | exact ⟨_, .of (by assumption)⟩ | exact ⟨_, by assumption⟩ | exact DGet.k (by assumption) | (with_reducible show (_ : Int) ≤ _; omega) | (with_reducible show (_ : Int) < _; omega) | (with_reducible show (_ : Nat) ≤ _; omega) | (with_reducible show (_ : Nat) < _; omega) | exact CMul_l (by decide) | exact CMul_r (by decide))) | ((fail_if_success (show ∃ W : Nat → Nat → L2.St → Hp → Prop, _)); apply Exists.intro) | (refine iteT ?_) | (refine iteF ?_) | (refine wT ?_ ?_; focus omega) | (refine wF ?_ ?_; focus omega) | (refine wTv ?_ ?_; focus omega) | (refine wFv ?_ ?_; focus omega) | (refine wNT ?_ ?_; focus omega) | (refine wNF ?_ ?_; focus omega)))
            intro H6 k6 X6
            exact out H6 _ _ ((k04.same (s_u5)).trans (k6.mono fun x h => List.mem_cons_of_mem _ h)) X6
          · (repeat ((fail_if_success (intro _)); first | (refine And.intro ?_ ?_; focus (first | rfl | assumption | exact .of (by assumption) | exact .inl (.of (by assumption)) | exact .inr (by assumption) | exact .inr (.of (by assumption)) | exact kit_ty (by decide +kernel) | exact .ty _ | exact tyT (by assumption) | exact .base (.int _) | (show _ ≤ sizeLine; first | decide | exact Nat.le_of_ble_eq_true rfl | (simp only [List.length_cons, List.length_nil]; decide)) | exact ⟨_, .of (by assumption)⟩ | exact ⟨_, by assumption⟩ | exact DGet.k (by assumption) | (with_reducible show (_ : Int) ≤ _; omega) | (with_reducible show (_ : Int) < _; omega) | (with_reducible show (_ : Nat) ≤ _; omega) | (with_reducible show (_ : Nat) < _; omega) | exact CMul_l (by decide) | exact CMul_r (by decide))) | ((fail_if_success (show ∃ W : Nat → Nat → L2.St → Hp → Prop, _)); apply Exists.intro) | (refine iteT ?_) | (refine iteF ?_) | (refine wT ?_ ?_; focus omega) | (refine wF ?_ ?_; focus omega) | (refine wTv ?_ ?_; focus omega) | (refine wFv ?_ ?_; focus omega) | (refine wNT ?_ ?_; focus omega) | (refine wNF ?_ ?_; focus omega)))
            refine wI (fun h6 => ?_) fun h6 => ?_
            · (repeat ((fail_if_success (intro _)); first | (refine And.intro ?_ ?_; focus (first | rfl | assumption | exact .of (by assumption) | exact .inl (.of (by assumption)) | exact .inr (by assumption) | exact .inr (.of (by assumption)) | exact kit_ty (by decide +kernel) | exact .ty _ | exact tyT (by assumption) | exact .base (.int _) | (show _ ≤ sizeLine; first | decide | exact Nat.le_of_ble_eq_true rfl | (simp only [List.length_cons, List.length_nil]; decide)) | exact ⟨_, .of (by assumption)⟩ | exact ⟨_, by assumption⟩ | exact DGet.k (by assumption) | (with_reducible show (_ : Int) ≤ _; omega) | (with_reducible show (_ : Int) < _; omega) | (with_reducible show (_ : Nat) ≤ _; omega) | (with_reducible show (_ : Nat) < _; omega) | exact CMul_l (by decide) | exact CMul_r (by decide))) | ((fail_if_success (show ∃ W : Nat → Nat → L2.St → Hp → Prop, _)); apply Exists.intro) | (refine iteT ?_) | (refine iteF ?_) | (refine wT ?_ ?_; focus omega) | (refine wF ?_ ?_; focus omega) | (refine wTv ?_ ?_; focus omega) | (refine wFv ?_ ?_; focus omega) | (refine wNT ?_ ?_; focus omega) | (refine wNF ?_ ?_; focus omega)))
              (intro u5 n_u5; generalize he_u5 : upd _ u5 _ = H5; obtain ⟨e_u5, s_u5, f_u5⟩ := new_f he_u5 n_u5; clear he_u5)
              have X5 := X4.same (s_u5)
              have hru : RecAt K H5 u5 (Rec.copy lot (pq.1 + 1) c) := ⟨t, .of e_u5, .of (s_u5 _ _ et)⟩
              have fit : Fit 24 30 (Rec.copy lot (pq.1 + 1) c) := cf _ _ (by omega) (by omega) (by omega) (by omega)
              have rl : (Rec.copy lot (pq.1 + 1) c).lot ≤ M := by show lot ≤ M; omega
              (repeat ((fail_if_success (intro _)); first | (refine And.intro ?_ ?_; focus (first | rfl | assumption | exact .of (by assumption) | exact .inl (.of (by assumption)) | exact .inr (by assumption) | exact .inr (.of (by assumption)) | exact kit_ty (by decide +kernel) | exact .ty _ | exact tyT (by assumption) | exact .base (.int _) | (show _ ≤ sizeLine; first | decide | exact Nat.le_of_ble_eq_true rfl | (simp only [List.length_cons, List.length_nil]; decide)) | exact ⟨_, .of (by assumption)⟩ | exact ⟨_, by assumption⟩ | exact DGet.k (by assumption) | (with_reducible show (_ : Int) ≤ _; omega) | (with_reducible show (_ : Int) < _; omega) | (with_reducible show (_ : Nat) ≤ _; omega) | (with_reducible show (_ : Nat) < _; omega) | exact CMul_l (by decide) | exact CMul_r (by decide))) | ((fail_if_success (show ∃ W : Nat → Nat → L2.St → Hp → Prop, _)); apply Exists.intro) | (refine iteT ?_) | (refine iteF ?_) | (refine wT ?_ ?_; focus omega) | (refine wF ?_ ?_; focus omega) | (refine wTv ?_ ?_; focus omega) | (refine wFv ?_ ?_; focus omega) | (refine wNT ?_ ?_; focus omega) | (refine wNF ?_ ?_; focus omega)))
              intro H6 k6 X6
              exact out H6 _ _ ((k04.same (s_u5)).trans (k6.mono fun x h => List.mem_cons_of_mem _ h)) X6
            · (repeat ((fail_if_success (intro _)); first | (refine And.intro ?_ ?_; focus (first | rfl | assumption | exact .of (by assumption) | exact .inl (.of (by assumption)) | exact .inr (by assumption) | exact .inr (.of (by assumption)) | exact kit_ty (by decide +kernel) | exact .ty _ | exact tyT (by assumption) | exact .base (.int _) | (show _ ≤ sizeLine; first | decide | exact Nat.le_of_ble_eq_true rfl | (simp only [List.length_cons, List.length_nil]; decide)) | exact ⟨_, .of (by assumption)⟩ | exact ⟨_, by assumption⟩ | exact DGet.k (by assumption) | (with_reducible show (_ : Int) ≤ _; omega) | (with_reducible show (_ : Int) < _; omega) | (with_reducible show (_ : Nat) ≤ _; omega) | (with_reducible show (_ : Nat) < _; omega) | exact CMul_l (by decide) | exact CMul_r (by decide))) | ((fail_if_success (show ∃ W : Nat → Nat → L2.St → Hp → Prop, _)); apply Exists.intro) | (refine iteT ?_) | (refine iteF ?_) | (refine wT ?_ ?_; focus omega) | (refine wF ?_ ?_; focus omega) | (refine wTv ?_ ?_; focus omega) | (refine wFv ?_ ?_; focus omega) | (refine wNT ?_ ?_; focus omega) | (refine wNF ?_ ?_; focus omega)))
              refine wI (fun h7 => ?_) fun h7 => ?_
              · (repeat ((fail_if_success (intro _)); first | (refine And.intro ?_ ?_; focus (first | rfl | assumption | exact .of (by assumption) | exact .inl (.of (by assumption)) | exact .inr (by assumption) | exact .inr (.of (by assumption)) | exact kit_ty (by decide +kernel) | exact .ty _ | exact tyT (by assumption) | exact .base (.int _) | (show _ ≤ sizeLine; first | decide | exact Nat.le_of_ble_eq_true rfl | (simp only [List.length_cons, List.length_nil]; decide)) | exact ⟨_, .of (by assumption)⟩ | exact ⟨_, by assumption⟩ | exact DGet.k (by assumption) | (with_reducible show (_ : Int) ≤ _; omega) | (with_reducible show (_ : Int) < _; omega) | (with_reducible show (_ : Nat) ≤ _; omega) | (with_reducible show (_ : Nat) < _; omega) | exact CMul_l (by decide) | exact CMul_r (by decide))) | ((fail_if_success (show ∃ W : Nat → Nat → L2.St → Hp → Prop, _)); apply Exists.intro) | (refine iteT ?_) | (refine iteF ?_) | (refine wT ?_ ?_; focus omega) | (refine wF ?_ ?_; focus omega) | (refine wTv ?_ ?_; focus omega) | (refine wFv ?_ ?_; focus omega) | (refine wNT ?_ ?_; focus omega) | (refine wNF ?_ ?_; focus omega)))
                (intro u1 n_u1; generalize he_u1 : upd _ u1 _ = H41; obtain ⟨e_u1, s_u1, f_u1⟩ := new_f he_u1 n_u1; clear he_u1)
                (repeat ((fail_if_success (intro _)); first | (refine And.intro ?_ ?_; focus (first | rfl | assumption | exact .of (by assumption) | exact .inl (.of (by assumption)) | exact .inr (by assumption) | exact .inr (.of (by assumption)) | exact kit_ty (by decide +kernel) | exact .ty _ | exact tyT (by assumption) | exact .base (.int _) | (show _ ≤ sizeLine; first | decide | exact Nat.le_of_ble_eq_true rfl | (simp only [List.length_cons, List.length_nil]; decide)) | exact ⟨_, .of (by assumption)⟩ | exact ⟨_, by assumption⟩ | exact DGet.k (by assumption) | (with_reducible show (_ : Int) ≤ _; omega) | (with_reducible show (_ : Int) < _; omega) | (with_reducible show (_ : Nat) ≤ _; omega) | (with_reducible show (_ : Nat) < _; omega) | exact CMul_l (by decide) | exact CMul_r (by decide))) | ((fail_if_success (show ∃ W : Nat → Nat → L2.St → Hp → Prop, _)); apply Exists.intro) | (refine iteT ?_) | (refine iteF ?_) | (refine wT ?_ ?_; focus omega) | (refine wF ?_ ?_; focus omega) | (refine wTv ?_ ?_; focus omega) | (refine wFv ?_ ?_; focus omega) | (refine wNT ?_ ?_; focus omega) | (refine wNF ?_ ?_; focus omega)))
                (intro u2 n_u2; generalize he_u2 : upd _ u2 _ = H42; obtain ⟨e_u2, s_u2, f_u2⟩ := new_f he_u2 n_u2; clear he_u2)
                (repeat ((fail_if_success (intro _)); first | (refine And.intro ?_ ?_; focus (first | rfl | assumption | exact .of (by assumption) | exact .inl (.of (by assumption)) | exact .inr (by assumption) | exact .inr (.of (by assumption)) | exact kit_ty (by decide +kernel) | exact .ty _ | exact tyT (by assumption) | exact .base (.int _) | (show _ ≤ sizeLine; first | decide | exact Nat.le_of_ble_eq_true rfl | (simp only [List.length_cons, List.length_nil]; decide)) | exact ⟨_, .of (by assumption)⟩ | exact ⟨_, by assumption⟩ | exact DGet.k (by assumption) | (with_reducible show (_ : Int) ≤ _; omega) | (with_reducible show (_ : Int) < _; omega) | (with_reducible show (_ : Nat) ≤ _; omega) | (with_reducible show (_ : Nat) < _; omega) | exact CMul_l (by decide) | exact CMul_r (by decide))) | ((fail_if_success (show ∃ W : Nat → Nat → L2.St → Hp → Prop, _)); apply Exists.intro) | (refine iteT ?_) | (refine iteF ?_) | (refine wT ?_ ?_; focus omega) | (refine wF ?_ ?_; focus omega) | (refine wTv ?_ ?_; focus omega) | (refine wFv ?_ ?_; focus omega) | (refine wNT ?_ ?_; focus omega) | (refine wNF ?_ ?_; focus omega)))
                (intro u3 n_u3; generalize he_u3 : upd _ u3 _ = H43; obtain ⟨e_u3, s_u3, f_u3⟩ := new_f he_u3 n_u3; clear he_u3)
                (repeat ((fail_if_success (intro _)); first | (refine And.intro ?_ ?_; focus (first | rfl | assumption | exact .of (by assumption) | exact .inl (.of (by assumption)) | exact .inr (by assumption) | exact .inr (.of (by assumption)) | exact kit_ty (by decide +kernel) | exact .ty _ | exact tyT (by assumption) | exact .base (.int _) | (show _ ≤ sizeLine; first | decide | exact Nat.le_of_ble_eq_true rfl | (simp only [List.length_cons, List.length_nil]; decide)) | exact ⟨_, .of (by assumption)⟩ | exact ⟨_, by assumption⟩ | exact DGet.k (by assumption) | (with_reducible show (_ : Int) ≤ _; omega) | (with_reducible show (_ : Int) < _; omega) | (with_reducible show (_ : Nat) ≤ _; omega) | (with_reducible show (_ : Nat) < _; omega) | exact CMul_l (by decide) | exact CMul_r (by decide))) | ((fail_if_success (show ∃ W : Nat → Nat → L2.St → Hp → Prop, _)); apply Exists.intro) | (refine iteT ?_) | (refine iteF ?_) | (refine wT ?_ ?_; focus omega) | (refine wF ?_ ?_; focus omega) | (refine wTv ?_ ?_; focus omega) | (refine wFv ?_ ?_; focus omega) | (refine wNT ?_ ?_; focus omega) | (refine wNF ?_ ?_; focus omega)))
                (intro u5 n_u5; generalize he_u5 : upd _ u5 _ = H5; obtain ⟨e_u5, s_u5, f_u5⟩ := new_f he_u5 n_u5; clear he_u5)
                have X5 := X4.same (((s_u1.trans s_u2).trans s_u3).trans s_u5)
                have hru : RecAt K H5 u5 (Rec.mark lot [(pq.1, pq.2)] []) := ⟨u2, u3, .of e_u5, ⟨[u1], .of (s_u5 _ _ (s_u3 _ _ e_u2)), rfl, fun i q p a b => by cases i with | succ i => simp at a | zero => cases a; cases b; exact .of (s_u5 _ _ (s_u3 _ _ (s_u2 _ _ e_u1)))⟩, .of (s_u5 _ _ e_u3)⟩
                have fit : Fit 24 30 (Rec.mark lot [(pq.1, pq.2)] []) := ⟨by omega, by omega, (by show 1 ≤ 64; decide), (by show 0 ≤ 64; decide), fun p hp => by
                    obtain rfl : p = (pq.1, pq.2) := by simpa using hp
                    refine ⟨?_, ?_, ?_, ?_, ?_, ?_⟩ <;> dsimp only <;> omega, fun i x y e1 e2 => by cases i <;> simp at e2, (fun r hr => nomatch hr), Asc.nil⟩
                have rl : (Rec.mark lot [(pq.1, pq.2)] []).lot ≤ M := by show lot ≤ M; omega
                (repeat ((fail_if_success (intro _)); first | (refine And.intro ?_ ?_; focus (first | rfl | assumption | exact .of (by assumption) | exact .inl (.of (by assumption)) | exact .inr (by assumption) | exact .inr (.of (by assumption)) | exact kit_ty (by decide +kernel) | exact .ty _ | exact tyT (by assumption) | exact .base (.int _) | (show _ ≤ sizeLine; first | decide | exact Nat.le_of_ble_eq_true rfl | (simp only [List.length_cons, List.length_nil]; decide)) | exact ⟨_, .of (by assumption)⟩ | exact ⟨_, by assumption⟩ | exact DGet.k (by assumption) | (with_reducible show (_ : Int) ≤ _; omega) | (with_reducible show (_ : Int) < _; omega) | (with_reducible show (_ : Nat) ≤ _; omega) | (with_reducible show (_ : Nat) < _; omega) | exact CMul_l (by decide) | exact CMul_r (by decide))) | ((fail_if_success (show ∃ W : Nat → Nat → L2.St → Hp → Prop, _)); apply Exists.intro) | (refine iteT ?_) | (refine iteF ?_) | (refine wT ?_ ?_; focus omega) | (refine wF ?_ ?_; focus omega) | (refine wTv ?_ ?_; focus omega) | (refine wFv ?_ ?_; focus omega) | (refine wNT ?_ ?_; focus omega) | (refine wNF ?_ ?_; focus omega)))
                intro H6 k6 X6
                exact out H6 _ _ ((k04.same (((s_u1.trans s_u2).trans s_u3).trans s_u5)).trans (k6.mono fun x h => List.mem_cons_of_mem _ h)) X6
              · exact out H4 _ _ k04 X4
      · (repeat ((fail_if_success (intro _)); first | (refine And.intro ?_ ?_; focus (first | rfl | assumption | exact .of (by assumption) | exact .inl (.of (by assumption)) | exact .inr (by assumption) | exact .inr (.of (by assumption)) | exact kit_ty (by decide +kernel) | exact .ty _ | exact tyT (by assumption) | exact .base (.int _) | (show _ ≤ sizeLine; first | decide | exact Nat.le_of_ble_eq_true rfl | (simp only [List.length_cons, List.length_nil]; decide)) | exact ⟨_, .of (by assumption)⟩ | exact ⟨_, by assumption⟩ | exact DGet.k (by assumption) | (with_reducible show (_ : Int) ≤ _; omega) | (with_reducible show (_ : Int) < _; omega) | (with_reducible show (_ : Nat) ≤ _; omega) | (with_reducible show (_ : Nat) < _; omega) | exact CMul_l (by decide) | exact CMul_r (by decide))) | ((fail_if_success (show ∃ W : Nat → Nat → L2.St → Hp → Prop, _)); apply Exists.intro) | (refine iteT ?_) | (refine iteF ?_) | (refine wT ?_ ?_; focus omega) | (refine wF ?_ ?_; focus omega) | (refine wTv ?_ ?_; focus omega) | (refine wFv ?_ ?_; focus omega) | (refine wNT ?_ ?_; focus omega) | (refine wNF ?_ ?_; focus omega)))
        exact X4
    · rintro σ H2 ⟨la', lg', v5, v6, v7, v8, v9, rfl, k2, X2⟩
      exact k H2 la' lg' k2 X2
end
end K46
namespace K46
open PySem PySem.Spec PyProof.Rows L2 Rg
section
variable {K : PySem.W.Frag} {CD CP : Addr} {Ps : List Addr} {H H' : Hp} {p d lq : Addr} {A : DA} {b n s hd la M : Int} {hs gs : List V} {lg : LogL} {kv : List (Key × V)}
/-- another list is written -/
theorem Dk.list (x : Dk K CD CP Ps H p d lq A b n s hd la M hs lg kv) {a : Addr} {xs : List V} (e0 : H a = some (.lst xs)) (n1 : a ≠ p) (n2 : a ≠ lq) (n3 : a ≠ A.ho) (n4 : a ≠ A.lg) (o : HO) : Dk K CD CP Ps (upd H a o) p d lq A b n s hd la M hs lg kv := by
  obtain ⟨fs, ep⟩ := x.f
  obtain ⟨dx, ho⟩ := x.D.ob
  obtain ⟨px, hp⟩ := x.D.pl.ob
  have k : Kp [a] H (upd H a o) := Kp.refl.own1
  have g : ∀ {c : Addr} {o : HO}, H c = some o → c ≠ a → upd H a _ c = some o := fun q z => k.at1 q z
  refine ⟨x.D.keep fun c hc o q => g q ?_, ⟨fs, g ep n1.symm⟩, g x.l n2.symm, x.L.kp k (by simp only [List.mem_singleton]; rintro c rfl; exact isnt_lst e0), x.t.upd e0 (by intro _ z; cases z), x.n1, x.n2, x.n3, x.n4, x.n5⟩
  simp only [List.mem_cons, List.not_mem_nil, or_false] at hc
  rcases hc with rfl | rfl | rfl | rfl | rfl
  · exact ne_of ho e0 (by intro z; cases z)
  · exact ne_of hp e0 (by intro z; cases z)
  · exact n3.symm
  · exact n4.symm
  · exact ne_of x.D.pd e0 (by intro z; cases z)
/-- a home is sure -/
theorem Dk.homed (x : Dk K CD CP Ps H p d lq A b n s hd la M hs lg kv) {kv' : List (Key × V)} {hs' : List V} (t : Tab Ps H') (k : Kp [A.pd, A.ho, A.lg] H H') (e : DAt CD CP H' d A b n s hd la hs' (lg.map gV) kv') : Dk K CD CP Ps H' p d lq A b n s hd la M hs' lg kv' := by
  obtain ⟨fs0, e0⟩ := x.f
  have hpd := x.D.pd
  have ni : ∀ {a : Addr} {xs : List V}, H a = some (.lst xs) → a ≠ A.ho → a ≠ A.lg → a ∉ [A.pd, A.ho, A.lg] := fun {a xs} h z1 z2 z => by
    simp only [List.mem_cons, List.not_mem_nil, or_false] at z
    rcases z with z | z | z
    · rw [z, hpd] at h; cases h
    · exact z1 z
    · exact z2 z
  have isn : ∀ a ∈ [A.pd, A.ho, A.lg], Isnt H a := fun a z => by
    simp only [List.mem_cons, List.not_mem_nil, or_false] at z
    rcases z with rfl | rfl | rfl
    · exact isnt_dK hpd
    · exact isnt_lst x.D.ho
    · exact isnt_lst x.D.lg
  exact ⟨e, ⟨fs0, k _ _ e0 (ni e0 x.n2 x.n3)⟩, k _ _ x.l (ni x.l x.n4 x.n5), x.L.kp k isn, t, x.n1, x.n2, x.n3, x.n4, x.n5⟩
/-- a list that is not the disk's, nor the feed, nor the log's -/
theorem Dk.nin (x : Dk K CD CP Ps H p d lq A b n s hd la M hs lg kv) {a : Addr} {xs : List V} (e0 : H a = some (.lst xs)) (n1 : a ≠ p) (n2 : a ≠ lq) (n3 : a ≠ A.ho) (n4 : a ≠ A.lg) : a ∉ DkS p d lq A Ps := fun h => by
  obtain ⟨dx, ho⟩ := x.D.ob
  unfold DkS at h
  simp only [List.mem_cons] at h
  rcases h with h | h | h | h | h | h | h
  · exact n1 h
  · exact n2 h
  · exact n3 h
  · exact n4 h
  · rw [h, ho] at e0; cases e0
  · rw [h, x.D.pd] at e0; cases e0
  · exact x.t.nin e0 (by intro _ z; cases z) h
theorem MarksAt.kp {S : List Addr} {ma : Addr} {ms : List Mk3} (h : MarksAt K H ma ms) (k : Kp S H H') (isn : ∀ a ∈ S, Isnt H a) (n : ma ∉ S) : MarksAt K H' ma ms := by
  obtain ⟨mas, h1, h2, h3⟩ := h
  exact ⟨mas, k _ _ h1 n, h2, fun i a m e1 e2 => let ⟨z, r, q1, q2⟩ := h3 i a m e1 e2; ⟨z, r, seqT_kp k isn q1, q2.by fun _ _ => seqT_kp k isn⟩⟩
theorem MarksAt.snoc {ma t r : Addr} {ms : List Mk3} {vs : List V} {z : Int} {m : Mk3} (h : MarksAt K H ma ms) (e : H ma = some (.lst vs)) (et : H t = some (.tup [.int z, .ref r])) (hm : MarkAt K H r m) : MarksAt K (upd H ma (.lst (vs ++ [.ref t]))) ma (ms ++ [m]) := by
  obtain ⟨mas, h1, h2, h3⟩ := h
  rw [h1] at e
  cases e
  have k : ∀ b xs, SqT K H b xs → SqT K (upd H ma (.lst (mas.map V.ref ++ [.ref t]))) b xs := fun b xs q => seqT_kp (S := [ma]) Kp.refl.own1 (by simp only [List.mem_singleton]; rintro c rfl; exact isnt_lst h1) q
  refine ⟨mas ++ [t], by rw [upd_same, List.map_append]; rfl, by simp [h2], fun i u q a b => ?_⟩
  by_cases hi : i < mas.length
  · rw [List.getElem?_append_left hi] at a
    rw [List.getElem?_append_left (by rw [← h2]; exact hi)] at b
    obtain ⟨z, r, q1, q2⟩ := h3 i u q a b
    exact ⟨z, r, k _ _ q1, q2.by k⟩
  · have h0 : mas.length ≤ i := Nat.le_of_not_lt hi
    rw [List.getElem?_append_right h0] at a
    rw [List.getElem?_append_right (by rw [← h2]; exact h0), ← h2] at b
    cases hk : i - mas.length with
    | zero =>
      rw [hk] at a b
      cases a
      cases b
      exact ⟨z, r, k _ _ (.of et), hm.by k⟩
    | succ m =>
      rw [hk] at a
      simp at a
def dHm (hc : List (List Int)) : List PyData := hc.map fun c => .tuple (c.map PyData.int)
theorem canH : ∀ hc : List (List Int), PyData.canLayAll0 (dHm hc) = true
  | [] => rfl
  | c :: hc => by
    show (PyData.canLayAll0 (c.map PyData.int) && PyData.canLayAll0 (dHm hc)) = true
    rw [r_canI, canH hc]; rfl
theorem depH : ∀ hc : List (List Int), PyData.depthAll (dHm hc) ≤ 1
  | [] => Nat.zero_le _
  | c :: hc => by
    show max (PyData.depthAll (c.map PyData.int) + 1) (PyData.depthAll (dHm hc)) ≤ 1
    have := depH hc
    rw [r_depI]
    omega
theorem shH (hc : List (List Int)) : SeqAt.shaped (.list (dHm hc)) = true := by
  unfold SeqAt.shaped
  rw [Bool.and_eq_true]
  refine ⟨canH hc, decide_eq_true ?_⟩
  show PyData.depthAll (dHm hc) + 1 ≤ 64
  have := depH hc
  omega
theorem eqH (hc : List (List Int)) : PyData.eqv (.list (dHm hc)) (.list (dHm hc)) = true := SeqAt.eqv_refl _ (canH hc)
theorem dpAllH : ∀ (ts : List Addr) (hc : List (List Int)), HomAt K H ts hc → DpAll K H (ts.map V.ref) (dHm hc)
  | [], [], _ => .nil
  | t :: ts, c :: hc, h => .cons (.tup (h.2 0 t c rfl rfl) (r_dpAllI c)) (dpAllH ts hc ⟨by have := h.1; simpa using this, fun i t c a b => h.2 (i + 1) t c (by simpa using a) (by simpa using b)⟩)
  | [], _ :: _, h => by have := h.1; simp at this
  | _ :: _, [], h => by have := h.1; simp at this
theorem HomAt.dp {ts : List Addr} {hc : List (List Int)} {q : Addr} (h : HomAt K H ts hc) (e : SqL K H q (ts.map V.ref)) : Dp K H (.ref q) (.list (dHm hc)) := .lst e (dpAllH ts hc h)
theorem HomAt.kp {S : List Addr} {ts : List Addr} {hc : List (List Int)} (h : HomAt K H ts hc) (k : Kp S H H') (isn : ∀ a ∈ S, Isnt H a) : HomAt K H' ts hc := h.by fun _ _ => seqT_kp k isn
end
end K46
namespace K46
open PySem PySem.Spec PyProof.Rows L2 Rg
def sp_law (K : PySem.W.Frag) (Ps : List Addr) : Sp := fun vs H Q _ => ∃ (a : Addr) (ns : List Int), vs = [.ref a] ∧ Tab Ps H ∧ SqL K H a (ns.map V.int) ∧ ns.length ≤ 63 ∧ ∀ H', Q (.bl true) H'
section
variable {P : Program} {w : World} {K : PySem.W.Frag} {mg : Str → Option Value} {base : Heap}
theorem ok_law (T : Tx K mg) (B : TBs T base) : FnOk P w K mg base CX0 13 T.f_law T.fd_law ["_law_script"] (sp_law K T.Ps) := by
  refine T.F_law.ok sc_law (fun vs H Q E h => ?_) (fun cdv A0 outer s H vs Q E hr h => ?_)
  · obtain ⟨_, _, rfl, _⟩ := h; rfl
  · obtain ⟨a, ns, rfl, ht, hS, hlen, k⟩ := h
    have hr1 := hr.mono (show 1 ≤ 12 by decide)
    have hr2 := hr.mono (show 2 ≤ 12 by decide)
    have hr3 := hr.mono (show 3 ≤ 12 by decide)
    have hr10 := hr.mono (show 10 ≤ 12 by decide)
    refine ⟨_, (pss_cons (ps_set (i := 1) sc_law.nd rfl (.inl rfl) (pe_call (ok_Lfeed T) hr1 rfl T.mg_Lfeed T.F_Lfeed.kp (b_Lfeed T) .nil pass0 (pa_cons (pv 0) pa_nil)))
      (pss_cons (ps_set (i := 2) sc_law.nd rfl (.inl rfl) (pe_make T.mk_Disk (ok_Disk_init T) hr2 rfl T.mg_Disk (b_Disk___init__ T) .nil pass0 (pa_cons (pe_makeK T.mk_Plan (ok_Plan_init T) hr2 rfl T.mg_Plan (kb_Plan T) pass0 (pa_cons pe_int pa_nil) (pk_cons pe_int (pk_cons pe_int pk_nil))) pa_nil)))
      (pss_cons (ps_setLc (i := 3) (own := [("_law_slot", 4)]) (g := gName 4) (tt := tYes) rfl sc_law.nd rfl rfl (sw_true rfl rfl rfl (by decide +kernel)) (pi_range1 rfl T.b_range (pa_cons pe_int pa_nil)) (blkOk_by (N := ["_law_script", "_law_feed_here", "_law_disk", "_law_log", "_law_slot", "_law_marks", "_law_k", "_law_pair", "_law_home", "_law_x", "_law_gentle"]) (sc := defScope s_law) (by decide +kernel)) (fun _ _ _ _ _ => pg_name (i := 4) sc_law.nd rfl (Or.inl rfl)) (fun _ _ _ _ _ => pts_nil) (fun _ _ _ _ _ => pe_non))
      (pss_cons (ps_set (i := 5) sc_law.nd rfl (.inl rfl) (pe_lst pa_nil))
      (pss_cons (ps_for PassesOwn.never rfl (pi_range1 rfl T.b_range (pa_cons (pe_call (ok_Lpick T) hr1 rfl T.mg_Lpick T.F_Lpick.kp (b_Lpick T) .nil pass0 (pa_cons (pv 1) (pa_cons pe_int pa_nil))) pa_nil)) (pg_name (i := 6) sc_law.nd rfl (.inl rfl))
        (pss_one (ps_expr (pe_bm PySem.F.plainAttrs_list PySem.F.slot_list_append PySem.F.type_list_append mt_append (pv 5) (pa_cons (pe_tup (pa_cons (pe_op op_sub pe_int (pv 6)) (pa_cons (pe_call (ok_Lmark T) hr2 rfl T.mg_Lmark T.F_Lmark.kp (b_Lmark T) .nil pass0 (pa_cons (pv 1) (pa_cons (pe_op op_add (pv 6) pe_int) pa_nil))) pa_nil))) pa_nil)))))
      (pss_cons (ps_for PassesOwn.never rfl (pi_list (pv 5)) (pg_name (i := 7) sc_law.nd rfl (.inl rfl))
        (pss_one (ps_expr (pe_call (ok_Lfill T B) hr rfl T.mg_Lfill T.F_Lfill.kp (b_Lfill T) .nil pass0 (pa_cons (pv 1) (pa_cons (pv 2) (pa_cons (pv 3) (pa_cons (pe_ix ix_tup (pv 7) pe_int (fun _ _ => rfl)) pa_nil))))))))
      (pss_cons (ps_setLc (i := 8) (own := [("_law_x", 9)]) (g := gName 9) (tt := tYes) rfl sc_law.nd rfl rfl (sw_true rfl rfl rfl (by decide +kernel)) (pi_range1 rfl T.b_range (pa_cons pe_int pa_nil)) (blkOk_by (N := ["_law_script", "_law_feed_here", "_law_disk", "_law_log", "_law_slot", "_law_marks", "_law_k", "_law_pair", "_law_home", "_law_x", "_law_gentle"]) (sc := defScope s_law) (by decide +kernel)) (fun _ _ _ _ _ => pg_name (i := 9) sc_law.nd rfl (Or.inl rfl)) (fun _ _ _ _ _ => pts_nil) (fun _ _ _ _ _ => (pe_tup (pa_cons pe_int (pa_cons pe_int (pa_cons pe_int (pa_cons pe_int (pa_cons pe_int (pa_cons pe_int (pa_cons pe_int (pa_cons pe_int pa_nil)))))))))))
      (pss_cons (ps_for PassesOwn.never rfl (pi_range2 rfl T.b_range (pa_cons pe_int (pa_cons pe_int pa_nil))) (pg_name (i := 9) sc_law.nd rfl (.inl rfl))
        (pss_cons (ps_asg (pe_call (ok_Lcells T) hr2 rfl T.mg_Lcells T.F_Lcells.kp (b_Lcells T) .nil pass0 (pa_cons (pv 1) (pa_cons (pv 9) pa_nil))) (pg_sub (pv 8) (pv 9) set_list))
        (pss_one (ps_expr (pe_meth (pv 2) T.cl_Disk T.m_Disk_sure (ok_sure T) hr2 (b_Disk_sure T) .nil pass0 (pa_cons (pe_meth (pv 2) T.cl_Disk T.m_Disk_issue (ok_issue T B) hr10 (b_Disk_issue T) .nil pass0 (pa_cons (pe_tup (pa_cons pe_str (pa_cons (pv 9) pa_nil))) (pa_cons (pe_ix ix_list (pv 8) (pv 9) (fun _ _ => rfl)) pa_nil))) pa_nil))))))
      (pss_cons (ps_for PassesOwn.never rfl (pi_range2 rfl T.b_range (pa_cons pe_int (pa_cons pe_int pa_nil))) (pg_name (i := 9) sc_law.nd rfl (.inl rfl))
        (pss_one (ps_for PassesOwn.never rfl (pi_list (pe_lst (pa_cons pe_bl (pa_cons pe_bl pa_nil)))) (pg_name (i := 10) sc_law.nd rfl (.inl rfl))
          (pss_cons (ps_if (pt_not (pt_val (pe_call (ok_Lagrees T) hr3 rfl T.mg_Lagrees T.F_Lagrees.kp (b_Lagrees T) .nil pass0 (pa_cons (pv 2) (pa_cons (pv 5) (pa_cons (pv 3) (pa_cons (pv 8) (pa_cons (pv 9) (pa_cons (pv 10) pa_nil)))))))))
            (pss_one (ps_ret pe_bl))
            pss_nil)
          (pss_one (ps_if (pt_not (pt_val (pe_call (ok_Lagrees T) hr3 rfl T.mg_Lagrees T.F_Lagrees.kp (b_Lagrees T) .nil pass0 (pa_cons (pv 2) (pa_cons (pe_lst pa_nil) (pa_cons (pv 3) (pa_cons (pv 8) (pa_cons (pv 9) (pa_cons (pv 10) pa_nil)))))))))
            (pss_one (ps_ret pe_bl))
            pss_nil))))))
      (pss_one (ps_ret (pe_and (pe_cmpR (op_eqD hr.units) (pe_listof (K := K) (pe_fld (pv 2) rfl) T.b_list) (pv 3) (nomark _)) (pe_one (pe_cmpR (op_eqD hr.units) (pe_listof (K := K) (pe_fld (pv 2) rfl) T.b_list) (pv 8) (nomark _))))))))))))))), ?_⟩
    refine ⟨_, rfl, a, ns, rfl, hS, hlen, fun H1 p fs S1 np ep hf => ?_⟩
    refine ⟨rfl, rfl, fun px pdx npx npdx ned => ?_⟩
    refine ⟨px, pdx, 24, 5, 30, rfl, upd_same, by decide, by decide, by decide, by decide, by decide, by decide, by decide, ?_⟩
    have Pl : PlanAt T.C_Plan (upd (upd (upd H1 pdx (.own px)) px (.ins T.C_Plan pdx [])) px (.ins T.C_Plan pdx (planF 24 5 30))) px 24 5 30 :=
      ⟨⟨pdx, upd_same⟩, by decide, by decide, by decide, by decide, by decide, by decide, by decide⟩
    have s2 : Same H1 (upd (upd (upd H1 pdx (.own px)) px (.ins T.C_Plan pdx [])) px (.ins T.C_Plan pdx (planF 24 5 30))) := fun x o e => by
      rw [upd_ne (ne_of_none e npx), upd_ne (ne_of_none e npx), upd_ne (ne_of_none e npdx)]
      exact e
    generalize upd (upd (upd H1 pdx (.own px)) px (.ins T.C_Plan pdx [])) px (.ins T.C_Plan pdx (planF 24 5 30)) = H2 at Pl s2 ⊢
    have ep2 := s2 _ _ ep
    have t2 := (ht.same S1).same s2
    refine ⟨rfl, fun d ddx nd nddx ned2 => ?_⟩
    have s3 : Same H2 (upd (upd H2 ddx (.own d)) d (.ins T.C_Disk ddx [])) := fun x o e => by
      rw [upd_ne (ne_of_none e nd), upd_ne (ne_of_none e nddx)]
      exact e
    obtain ⟨pdx2, epx⟩ := Pl.ob
    refine ⟨d, ddx, px, 24, 5, 30, rfl, upd_same, Pl.same s3, ne_of_none epx nd, fun H3 A ts eA k3 fho flg D3 z3 => ⟨rfl, ?_⟩⟩
    have k3' : Same H2 H3 := fun x o e => k3.at1 (s3 _ _ e) (ne_of_none e nd)
    have ep3 := k3' _ _ ep2
    have t3 := t2.same k3'
    have nh3 : p ≠ A.ho := ne_of_none (s3 _ _ ep2) fho
    have nl3 : p ≠ A.lg := ne_of_none (s3 _ _ ep2) flg
    have rep : (List.replicate 30 (none : Option (Addr × Rec))).map gV = List.replicate 30 .non := by simp [gV]
    -- the log of one's own
    refine ⟨30, rfl, by decide, by decide, fun G nG => ?_⟩
    refine lc_range (lo := 0) (n := 30) (fun i H' => H' = upd H3 G (.lst (List.replicate i .non))) rfl ?_ ?_
    · rintro i H' hi rfl
      refine ⟨rfl, yes_ ⟨_, upd_same, ?_, ?_⟩⟩
      · rw [List.length_replicate]
        exact Nat.lt_of_lt_of_le (show i < 200 by omega) (by decide)
      · rw [upd_upd, List.replicate_succ']
    rintro H6 rfl
    have s6 := same_upd (H := H3) (o := .lst (List.replicate 30 .non)) nG
    have lts : ts.length = 24 := by have := D3.hl; rw [List.length_map] at this; omega
    have X6 : Dk K T.C_Disk T.C_Plan T.Ps (upd H3 G (.lst (List.replicate 30 .non))) p d G A 24 5 30 0 0 10 (ts.map V.ref) (List.replicate 30 none) [] := by
      refine ⟨by rw [rep]; exact D3.same s6, ⟨_, s6 _ _ ep3⟩, by rw [rep]; exact upd_same, fun i a r q => ?_, t3.same s6, ne_of_none ep3 nG, nh3, nl3, (ne_of_none D3.ho nG).symm, (ne_of_none D3.lg nG).symm⟩
      have := List.mem_of_getElem? q
      simp at this
    have M6 : HomAt K (upd H3 G (.lst (List.replicate 30 .non))) ts (List.replicate 24 zer) := ⟨by rw [lts, List.length_replicate], fun i t c a b => by
      have := z3 t (List.mem_of_getElem? a)
      rw [List.getElem?_replicate] at b
      split at b
      · cases b
        exact .of (s6 _ _ this)
      · cases b⟩
    generalize upd H3 G (.lst (List.replicate 30 .non)) = H6 at X6 M6 ⊢
    clear rep t3 ep3 s6 D3 z3 t2 ep2 Pl k3' ep np
    refine ⟨Nat.zero_le _, ?_⟩
    (intro ma n_ma; generalize he_ma : upd _ ma _ = H7; obtain ⟨e_ma, s_ma, f_ma⟩ := new_f he_ma n_ma; clear he_ma)
    have X7 := X6.same s_ma
    have M7 := M6.same s_ma
    obtain ⟨fs7, e7⟩ := X7.f
    have nmp : ma ≠ p := fun z => by obtain ⟨_, e⟩ := X6.f; rw [← z, n_ma] at e; cases e
    have nmG : ma ≠ G := fun z => by have e := X6.l; rw [← z, n_ma] at e; cases e
    have nmh : ma ≠ A.ho := fun z => by have e := X6.D.ho; rw [← z, n_ma] at e; cases e
    have nml : ma ≠ A.lg := fun z => by have e := X6.D.lg; rw [← z, n_ma] at e; cases e
    refine ⟨_, rfl, p, fs7, 7, rfl, e7, by decide, fun m fs8 m0 m7 _ => ?_⟩
    have X8 := X7.pick fs8
    have kk : Kp [p] H7 (upd H7 p (.lst (fs8.map V.int))) := Kp.refl.own1
    have e8 := kk.at1 e_ma nmp
    have M8 := M7.kp kk (by simp only [List.mem_singleton]; rintro c rfl; exact isnt_lst e7)
    generalize upd H7 p (.lst (fs8.map V.int)) = H8 at X8 e8 M8 ⊢
    clear kk X7 M7 e7 X6 M6 n_ma s_ma f_ma e_ma
    refine ⟨m, rfl, by omega, by omega, ?_⟩
    refine for_range (lo := 0) (n := m.toNat) (fun i σ H' => ∃ (v6 : Option V) (ms : List Mk3), σ = [some (.ref a), some (.ref p), some (.ref d), some (.ref G), none, some (.ref ma), v6, none, none, none, none] ∧ Dk K T.C_Disk T.C_Plan T.Ps H' p d G A 24 5 30 0 0 10 (ts.map V.ref) (List.replicate 30 none) [] ∧ HomAt K H' ts (List.replicate 24 zer) ∧ MarksAt K H' ma ms ∧ ms.length = i ∧ ∀ (j : Nat) (m : Mk3), ms[j]? = some m → m.1 = (j : Int) + 1 ∧ MkOk 6 m.2.1 m.2.2)
      ⟨none, [], rfl, X8, M8, ⟨[], e8, rfl, fun i a m h => by simp at h⟩, rfl, fun j m h => by simp at h⟩ ?_ ?_
    · rintro i σ H9 hi ⟨v6, ms, rfl, X9, M9, A9, hl, hm⟩
      obtain ⟨vs9, ea9, el9⟩ := A9.lst
      obtain ⟨f9, e9⟩ := X9.f
      refine ⟨_, rfl, .inl ⟨rfl, _, .inl (.inl ea9)⟩, _, rfl, _, _, rfl, rfl, _, rfl, _, rfl, _, _, rfl, rfl, p, f9, _, rfl, e9, fun H10 r ps rs f10 k10 e10 hR hok => ?_⟩
      have X10 := X9.feed k10 e10
      have isn9 : ∀ c ∈ [p], Isnt H9 c := by simp only [List.mem_singleton]; rintro c rfl; exact isnt_lst e9
      have A10 := A9.kp k10 isn9 (by simp [nmp])
      have M10 := M9.kp k10 isn9
      have ea10 := k10.at1 ea9 nmp
      (repeat ((fail_if_success (intro _)); first | (refine And.intro ?_ ?_; focus (first | rfl | assumption | exact .of (by assumption) | exact .inl (.of (by assumption)) | exact .inr (by assumption) | exact .inr (.of (by assumption)) | exact kit_ty (by decide +kernel) | exact .ty _ | exact tyT (by assumption) | exact .base (.int _) | (show _ ≤ sizeLine; first | decide | exact Nat.le_of_ble_eq_true rfl | (simp only [List.length_cons, List.length_nil]; decide)) | exact ⟨_, .of (by assumption)⟩ | exact ⟨_, by assumption⟩ | exact DGet.k (by assumption) | (with_reducible show (_ : Int) ≤ _; omega) | (with_reducible show (_ : Int) < _; omega) | (with_reducible show (_ : Nat) ≤ _; omega) | (with_reducible show (_ : Nat) < _; omega) | exact CMul_l (by decide) | exact CMul_r (by decide))) | ((fail_if_success (show ∃ W : Nat → Nat → L2.St → Hp → Prop, _)); apply Exists.intro) | (refine iteT ?_) | (refine iteF ?_) | (refine wT ?_ ?_; focus omega) | (refine wF ?_ ?_; focus omega) | (refine wTv ?_ ?_; focus omega) | (refine wFv ?_ ?_; focus omega) | (refine wNT ?_ ?_; focus omega) | (refine wNF ?_ ?_; focus omega)))
      (intro t n_t; generalize he_t : upd _ t _ = H11; obtain ⟨e_t, s_t, f_t⟩ := new_f he_t n_t; clear he_t)
      have ea11 := s_t _ _ ea10
      refine ⟨ma, _, _, rfl, rfl, ea11, lt_line (by omega), _, ms ++ [(0 + (i : Int) + 1, ps, rs)], rfl, (X10.same s_t).list ea11 nmp nmG nmh nml _, ?_, (A10.same s_t).snoc ea11 e_t (hR.same s_t), by simp [hl], fun j m h => ?_⟩
      · exact (M10.same s_t).kp (S := [ma]) Kp.refl.own1 (by simp only [List.mem_singleton]; rintro c rfl; exact isnt_lst ea11)
      · by_cases hj : j < ms.length
        · rw [List.getElem?_append_left hj] at h
          exact hm j m h
        · rw [List.getElem?_append_right (by omega)] at h
          cases q : j - ms.length with
          | succ n => rw [q] at h; simp at h
          | zero =>
            rw [q] at h
            cases h
            exact ⟨by dsimp only; omega, hok⟩
    rintro σ H9 ⟨v6, ms, rfl, X9, M9, A9, hl, hm⟩
    clear X8 M8 e8
    have hml : ms.length ≤ 6 := by omega
    obtain ⟨mas, eM, lM, gM⟩ := id A9
    have isn := X9.isnS
    have nma := X9.nin eM nmp nmG nmh nml
    refine ⟨_, rfl, ma, rfl, ⟨_, .of eM⟩, for_list (K := K) (a := ma) (xs := mas.map V.ref) (fun i σ H' => ∃ (v7 : Option V) (la : Int) (lg : LogL), σ = [some (.ref a), some (.ref p), some (.ref d), some (.ref G), none, some (.ref ma), v6, v7, none, none, none] ∧ Dk K T.C_Disk T.C_Plan T.Ps H' p d G A 24 5 30 0 la 10 (ts.map V.ref) lg [] ∧ Kp (DkS p d G A T.Ps) H9 H')
      ⟨none, 0, _, rfl, X9, Kp.refl⟩ (fun i σ H' _ ⟨_, _, _, _, _, kk⟩ => .of (kk _ _ eM nma)) ?_ ?_⟩
    · rintro i y σ H10 hi ⟨v7, la, lg, rfl, X10, k10⟩
      have him : i < mas.length := by have := (List.getElem?_eq_some_iff.mp hi).1; rw [List.length_map] at this; exact this
      rw [List.getElem?_map, List.getElem?_eq_getElem him] at hi
      have hi : V.ref mas[i] = y := Option.some.inj hi
      subst hi
      obtain ⟨z, r, q1, q2⟩ := gM i _ _ (List.getElem?_eq_getElem him) (List.getElem?_eq_getElem (show i < ms.length by omega))
      have q1 := seqT_kp k10 isn q1
      have q2 : RecAt K H10 r (.mark ms[i].1 ms[i].2.1 ms[i].2.2) := q2.by fun _ _ => seqT_kp k10 isn
      obtain ⟨l1, ok⟩ := hm i _ (List.getElem?_eq_getElem (show i < ms.length by omega))
      (repeat ((fail_if_success (intro _)); first | (refine And.intro ?_ ?_; focus (first | rfl | assumption | exact .of (by assumption) | exact .inl (.of (by assumption)) | exact .inr (by assumption) | exact .inr (.of (by assumption)) | exact kit_ty (by decide +kernel) | exact .ty _ | exact tyT (by assumption) | exact .base (.int _) | (show _ ≤ sizeLine; first | decide | exact Nat.le_of_ble_eq_true rfl | (simp only [List.length_cons, List.length_nil]; decide)) | exact ⟨_, .of (by assumption)⟩ | exact ⟨_, by assumption⟩ | exact DGet.k (by assumption) | (with_reducible show (_ : Int) ≤ _; omega) | (with_reducible show (_ : Int) < _; omega) | (with_reducible show (_ : Nat) ≤ _; omega) | (with_reducible show (_ : Nat) < _; omega) | exact CMul_l (by decide) | exact CMul_r (by decide))) | ((fail_if_success (show ∃ W : Nat → Nat → L2.St → Hp → Prop, _)); apply Exists.intro) | (refine iteT ?_) | (refine iteF ?_) | (refine wT ?_ ?_; focus omega) | (refine wF ?_ ?_; focus omega) | (refine wTv ?_ ?_; focus omega) | (refine wFv ?_ ?_; focus omega) | (refine wNT ?_ ?_; focus omega) | (refine wNF ?_ ?_; focus omega)))
      intro H11 la' lg' k11 X11
      exact ⟨_, la', lg', rfl, X11, k10.trans k11⟩
    rintro σ H10 ⟨v7, la, lg, rfl, X10, k10⟩
    have A10 := A9.kp k10 isn nma
    have M10 := M9.kp k10 isn
    clear X9 A9 M9 eM gM k10 isn nma
    -- the homes of one's own
    refine ⟨24, rfl, by decide, by decide, fun D nD => ?_⟩
    refine lc_range (lo := 0) (n := 24) (fun i H' => ∃ us : List Addr, us.length = i ∧ H' D = some (.lst (us.map V.ref)) ∧ (∀ t ∈ us, H' t = some (.tup zer8)) ∧ Same H10 H') ⟨[], rfl, upd_same, by simp, same_upd nD⟩ ?_ ?_
    · rintro i H' hi ⟨us, h1, h2, h3, S2⟩
      refine ⟨rfl, yes_ ⟨by show 8 ≤ sizeLine; decide, ?_⟩⟩
      (intro t n_t; generalize he_t : upd _ t _ = Ht; obtain ⟨e_t, s_t, f_t⟩ := new_f he_t n_t; clear he_t)
      have h2' := s_t _ _ h2
      refine ⟨_, h2', lt_line (by rw [List.length_map]; omega), us ++ [t], by simp [h1], by rw [upd_same, List.map_append]; rfl, fun x hx => ?_, fun x o hx => ?_⟩
      · have ex : Ht x = some (.tup zer8) := by
          rcases List.mem_append.mp hx with z | z
          · exact s_t _ _ (h3 x z)
          · rw [List.mem_singleton.mp z]; exact e_t
        rw [upd_ne fun z => by rw [z, h2'] at ex; cases ex]
        exact ex
      · rw [upd_ne (ne_of_none hx nD)]
        exact s_t _ _ (S2 _ _ hx)
    rintro H11 ⟨us, lus, e11, z11, S11⟩
    have X11 := X10.same S11
    have A11 := A10.same S11
    have M11 := M10.same S11
    have U11 : HomAt K H11 us (List.replicate 24 zer) := ⟨by rw [lus, List.length_replicate], fun i t c a b => by
      have := z11 t (List.mem_of_getElem? a)
      rw [List.getElem?_replicate] at b
      split at b
      · cases b
        exact .of this
      · cases b⟩
    have nDp : D ≠ p := fun z => by obtain ⟨_, e⟩ := X10.f; rw [← z, nD] at e; cases e
    have nDG : D ≠ G := fun z => by have e := X10.l; rw [← z, nD] at e; cases e
    have nDh : D ≠ A.ho := fun z => by have e := X10.D.ho; rw [← z, nD] at e; cases e
    have nDl : D ≠ A.lg := fun z => by have e := X10.D.lg; rw [← z, nD] at e; cases e
    have nDm : D ≠ ma := fun z => by obtain ⟨_, e, _⟩ := A10; rw [← z, nD] at e; cases e
    clear X10 A10 M10 S11 nD z11
    refine ⟨10, 17, rfl, ⟨by decide, by decide, by decide, by decide⟩, for_range (lo := 10) (n := 7) (fun i σ H' => ∃ (v9 : Option V) (la : Int) (ts us : List Addr) (hc : List (List Int)), σ = [some (.ref a), some (.ref p), some (.ref d), some (.ref G), none, some (.ref ma), v6, v7, some (.ref D), v9, none] ∧ Dk K T.C_Disk T.C_Plan T.Ps H' p d G A 24 5 30 0 la 10 (ts.map V.ref) lg [] ∧ HomAt K H' ts hc ∧ H' D = some (.lst (us.map V.ref)) ∧ HomAt K H' us hc ∧ MarksAt K H' ma ms ∧ (∀ c ∈ hc, c.length ≤ 1000) ∧ hc.length = 24)
      ⟨none, la, ts, us, _, rfl, X11, M11, e11, U11, A11, fun c h => by rw [List.eq_of_mem_replicate h]; decide, rfl⟩ ?_ ?_⟩
    · rintro i σ H12 hi ⟨v9, la, ts, us, hc, rfl, X12, M12, e12, U12, A12, hcl, hc24⟩
      obtain ⟨f12, ep12⟩ := X12.f
      have z0 : (0 : Int) ≤ 10 + (i : Int) := by omega
      have z1 : 10 + (i : Int) ≤ 999999999 := by omega
      (repeat ((fail_if_success (intro _)); first | (refine And.intro ?_ ?_; focus (first | rfl | assumption | exact .of (by assumption) | exact .inl (.of (by assumption)) | exact .inr (by assumption) | exact .inr (.of (by assumption)) | exact kit_ty (by decide +kernel) | exact .ty _ | exact tyT (by assumption) | exact .base (.int _) | (show _ ≤ sizeLine; first | decide | exact Nat.le_of_ble_eq_true rfl | (simp only [List.length_cons, List.length_nil]; decide)) | exact ⟨_, .of (by assumption)⟩ | exact ⟨_, by assumption⟩ | exact DGet.k (by assumption) | (with_reducible show (_ : Int) ≤ _; omega) | (with_reducible show (_ : Int) < _; omega) | (with_reducible show (_ : Nat) ≤ _; omega) | (with_reducible show (_ : Nat) < _; omega) | exact CMul_l (by decide) | exact CMul_r (by decide))) | ((fail_if_success (show ∃ W : Nat → Nat → L2.St → Hp → Prop, _)); apply Exists.intro) | (refine iteT ?_) | (refine iteF ?_) | (refine wT ?_ ?_; focus omega) | (refine wF ?_ ?_; focus omega) | (refine wTv ?_ ?_; focus omega) | (refine wFv ?_ ?_; focus omega) | (refine wNT ?_ ?_; focus omega) | (refine wNF ?_ ?_; focus omega)))
      intro H13 t c f13 k13 e13 et hcs
      have isn12 : ∀ c ∈ [p], Isnt H12 c := by simp only [List.mem_singleton]; rintro c rfl; exact isnt_lst ep12
      have X13 := X12.feed k13 e13
      have M13 := M12.kp k13 isn12
      have U13 := U12.kp k13 isn12
      have A13 := A12.kp k13 isn12 (by simp [nmp])
      have eD13 := k13.at1 e12 nDp
      have hix : ixN (us.map V.ref).length (10 + (i : Int)) = some (10 + i) := ixN_at (by omega) (by rw [List.length_map, U12.1]; omega)
      refine ⟨_, rfl, _, rfl, D, _, _, _, rfl, rfl, eD13, hix, ?_⟩
      have hM13 := M13
      have X14 := X13.list eD13 nDp nDG nDh nDl (.lst ((us.map V.ref).set (10 + i) (.ref t)))
      have isD : ∀ c ∈ [D], Isnt H13 c := by simp only [List.mem_singleton]; rintro c rfl; exact isnt_lst eD13
      have kD : Kp [D] H13 (upd H13 D (.lst ((us.map V.ref).set (10 + i) (.ref t)))) := Kp.refl.own1
      have M14 := M13.kp kD isD
      have U14 := (U13.set (.of et) (10 + i)).kp kD isD
      have A14 := A13.kp kD isD (by simp [nDm.symm])
      have e14 : upd H13 D (.lst ((us.map V.ref).set (10 + i) (.ref t))) D = some (.lst ((us.set (10 + i) t).map V.ref)) := by rw [upd_same, List.map_set]
      have et14 : SqT K (upd H13 D (.lst ((us.map V.ref).set (10 + i) (.ref t)))) t (c.map V.int) := seqT_kp kD isD (.of et)
      have u14 : atI ((us.set (10 + i) t).map V.ref) (10 + (i : Int)) = some (.ref t) := atN (j := 10 + i) (by omega) (by rw [List.getElem?_map, List.getElem?_set, if_pos rfl, if_pos (by rw [U12.1]; omega)]; rfl)
      generalize upd H13 D (.lst ((us.map V.ref).set (10 + i) (.ref t))) = H14 at X14 M14 U14 A14 e14 et14 ⊢
      obtain ⟨dx, ho⟩ := X14.D.ob
      have cD := T.cl_Disk
      (repeat ((fail_if_success (intro _)); first | (refine And.intro ?_ ?_; focus (first | rfl | assumption | exact .of (by assumption) | exact .inl (.of (by assumption)) | exact .inr (by assumption) | exact .inr (.of (by assumption)) | exact kit_ty (by decide +kernel) | exact .ty _ | exact tyT (by assumption) | exact .base (.int _) | (show _ ≤ sizeLine; first | decide | exact Nat.le_of_ble_eq_true rfl | (simp only [List.length_cons, List.length_nil]; decide)) | exact ⟨_, .of (by assumption)⟩ | exact ⟨_, by assumption⟩ | exact DGet.k (by assumption) | (with_reducible show (_ : Int) ≤ _; omega) | (with_reducible show (_ : Int) < _; omega) | (with_reducible show (_ : Nat) ≤ _; omega) | (with_reducible show (_ : Nat) < _; omega) | exact CMul_l (by decide) | exact CMul_r (by decide))) | ((fail_if_success (show ∃ W : Nat → Nat → L2.St → Hp → Prop, _)); apply Exists.intro) | (refine iteT ?_) | (refine iteF ?_) | (refine wT ?_ ?_; focus omega) | (refine wF ?_ ?_; focus omega) | (refine wTv ?_ ?_; focus omega) | (refine wFv ?_ ?_; focus omega) | (refine wNT ?_ ?_; focus omega) | (refine wNF ?_ ?_; focus omega)))
      (intro q n_q; generalize he_q : upd _ q _ = H15; obtain ⟨e_q, s_q, f_q⟩ := new_f he_q n_q; clear he_q)
      have e15 := s_q _ _ e14
      have X15 := X14.same s_q
      have D15 := X15.D
      have t15 := X15.t
      have hq : PlcAt K H15 q (.home (10 + (i : Int))) := .of e_q
      have hw : WhatAt K H15 t 24 30 (.home (10 + (i : Int))) := ⟨by omega, by omega, c, sameT s_q et14, hcs⟩
      have isn15 := X15.isn
      (repeat ((fail_if_success (intro _)); first | (refine And.intro ?_ ?_; focus (first | rfl | assumption | exact .of (by assumption) | exact .inl (.of (by assumption)) | exact .inr (by assumption) | exact .inr (.of (by assumption)) | exact kit_ty (by decide +kernel) | exact .ty _ | exact tyT (by assumption) | exact .base (.int _) | (show _ ≤ sizeLine; first | decide | exact Nat.le_of_ble_eq_true rfl | (simp only [List.length_cons, List.length_nil]; decide)) | exact ⟨_, .of (by assumption)⟩ | exact ⟨_, by assumption⟩ | exact DGet.k (by assumption) | (with_reducible show (_ : Int) ≤ _; omega) | (with_reducible show (_ : Int) < _; omega) | (with_reducible show (_ : Nat) ≤ _; omega) | (with_reducible show (_ : Nat) < _; omega) | exact CMul_l (by decide) | exact CMul_r (by decide))) | ((fail_if_success (show ∃ W : Nat → Nat → L2.St → Hp → Prop, _)); apply Exists.intro) | (refine iteT ?_) | (refine iteF ?_) | (refine wT ?_ ?_; focus omega) | (refine wF ?_ ?_; focus omega) | (refine wTv ?_ ?_; focus omega) | (refine wFv ?_ ?_; focus omega) | (refine wNT ?_ ?_; focus omega) | (refine wNF ?_ ?_; focus omega)))
      intro H16 wt t16 k16 D16 e16
      have X16 := X15.issued t16 k16 D16
      have hq16 := hq.by fun _ _ => seqT_kp k16 isn15
      have rg : Rng 24 30 (.home (10 + (i : Int))) := ⟨by omega, by omega⟩
      (repeat ((fail_if_success (intro _)); first | (refine And.intro ?_ ?_; focus (first | rfl | assumption | exact .of (by assumption) | exact .inl (.of (by assumption)) | exact .inr (by assumption) | exact .inr (.of (by assumption)) | exact kit_ty (by decide +kernel) | exact .ty _ | exact tyT (by assumption) | exact .base (.int _) | (show _ ≤ sizeLine; first | decide | exact Nat.le_of_ble_eq_true rfl | (simp only [List.length_cons, List.length_nil]; decide)) | exact ⟨_, .of (by assumption)⟩ | exact ⟨_, by assumption⟩ | exact DGet.k (by assumption) | (with_reducible show (_ : Int) ≤ _; omega) | (with_reducible show (_ : Int) < _; omega) | (with_reducible show (_ : Nat) ≤ _; omega) | (with_reducible show (_ : Nat) < _; omega) | exact CMul_l (by decide) | exact CMul_r (by decide))) | ((fail_if_success (show ∃ W : Nat → Nat → L2.St → Hp → Prop, _)); apply Exists.intro) | (refine iteT ?_) | (refine iteF ?_) | (refine wT ?_ ?_; focus omega) | (refine wF ?_ ?_; focus omega) | (refine wTv ?_ ?_; focus omega) | (refine wFv ?_ ?_; focus omega) | (refine wNT ?_ ?_; focus omega) | (refine wNF ?_ ?_; focus omega)))
      intro H17 t17 k17 D17
      have hs17 : putH (.home (10 + (i : Int))) (.ref t) (ts.map V.ref) = (ts.set (10 + i) t).map V.ref := by
        show (ts.map V.ref).set (10 + (i : Int)).toNat (.ref t) = _
        rw [show (10 + (i : Int)).toNat = 10 + i by omega, List.map_set]
      rw [hs17] at D17
      have X17 := X16.homed t17 k17 D17
      have nD' := X14.nin e14 nDp nDG nDh nDl
      obtain ⟨vsM, eM14, _⟩ := A14.lst
      have nM' := X14.nin eM14 nmp nmG nmh nml
      have k57 : Kp (DkS p d G A T.Ps) H15 H17 := (k16.mono fun x h => by
        rcases List.mem_cons.mp h with z | z
        · simp [DkS, z]
        rcases List.mem_cons.mp z with z | z
        · simp [DkS, z]
        · simp [DkS, z]).trans (k17.mono fun x h => by
        simp only [List.mem_cons, List.not_mem_nil, or_false] at h
        rcases h with z | z | z <;> simp [DkS, z])
      have isnS := X15.isnS
      refine ⟨_, la + 1, ts.set (10 + i) t, us.set (10 + i) t, hc.set (10 + i) c, rfl, X17, ((M14.same s_q).set (sameT s_q et14) _).kp k57 isnS, k57 _ _ e15 nD', (U14.same s_q).kp k57 isnS, (A14.same s_q).kp k57 isnS nM', fun c' h => ?_, by rw [List.length_set]; exact hc24⟩
      rcases List.mem_or_eq_of_mem_set h with z | z
      · exact hcl _ z
      · rw [z, hcs.len]; decide
    rintro σ H12 ⟨v9, la, ts, us, hc, rfl, X12, M12, e12, U12, A12, hcl, hc24⟩
    clear X11 M11 e11 U11 A11
    have hz : ms.length ≤ 100 := by omega
    have mk : ∀ m ∈ ms, MkOk 6 m.2.1 m.2.2 := fun m h => by obtain ⟨j, hj⟩ := List.getElem?_of_mem h; exact (hm j m hj).2
    have hp1 : ∀ m ∈ ms, m.2.1.length ≤ 64 := fun m h => Nat.le_trans (mk m h).pl (by decide)
    have hp2 : ∀ m ∈ ms, ∀ p ∈ m.2.1, -1 ≤ p.2 ∧ p.2 < (30 : Int) := fun m h p hp => by have := (mk m h).p p hp; omega
    have hp3 : ∀ m ∈ ([] : List Mk3), m.2.1.length ≤ 64 := fun m h => nomatch h
    have hp4 : ∀ m ∈ ([] : List Mk3), ∀ p ∈ m.2.1, -1 ≤ p.2 ∧ p.2 < (30 : Int) := fun m h => nomatch h
    have hz0 : ([] : List Mk3).length ≤ 100 := by decide
    refine ⟨9, 18, rfl, ⟨by decide, by decide, by decide, by decide⟩, for_range (lo := 9) (n := 9) (fun i σ H' => ∃ (v9 v10 : Option V), σ = [some (.ref a), some (.ref p), some (.ref d), some (.ref G), none, some (.ref ma), v6, v7, some (.ref D), v9, v10] ∧ Same H12 H')
      ⟨v9, none, rfl, Same.refl _⟩ ?_ ?_⟩
    · rintro i σ H13 hi ⟨v9, v10, rfl, S13⟩
      have x0 : (0 : Int) ≤ 9 + (i : Int) := by omega
      have x1 : 9 + (i : Int) < 24 := by omega
      refine ⟨by show 2 ≤ sizeLine; decide, ?_⟩
      (intro q n_q; generalize he_q : upd _ q _ = H14; obtain ⟨e_q, s_q, f_q⟩ := new_f he_q n_q; clear he_q)
      have S14 := S13.trans s_q
      refine ⟨_, rfl, ⟨_, .of e_q⟩, for_list (K := K) (a := q) (xs := [.bl true, .bl false]) (fun j σ H' => ∃ (v10 : Option V), σ = [some (.ref a), some (.ref p), some (.ref d), some (.ref G), none, some (.ref ma), v6, v7, some (.ref D), some (.int (9 + (i : Int))), v10] ∧ Same H14 H')
        ⟨v10, rfl, Same.refl _⟩ (fun j σ H' _ ⟨_, _, S⟩ => .of (S _ _ e_q)) ?_ ?_⟩
      · rintro j y σ H15 hj ⟨v10, rfl, S15⟩
        have S := S14.trans S15
        obtain ⟨g, rfl⟩ : ∃ g, y = V.bl g := by
          rcases j with _ | _ | j
          · exact ⟨true, (Option.some.inj hj).symm⟩
          · exact ⟨false, (Option.some.inj hj).symm⟩
          · simp at hj
        have D15 := X12.D.same S
        have L15 := X12.L.same S
        have M15 := M12.same S
        have A15 := A12.same S
        have G15 := S _ _ X12.l
        have E15 := S _ _ e12
        have U15 := U12.same S
        (repeat ((fail_if_success (intro _)); first | (refine And.intro ?_ ?_; focus (first | rfl | assumption | exact .of (by assumption) | exact .inl (.of (by assumption)) | exact .inr (by assumption) | exact .inr (.of (by assumption)) | exact kit_ty (by decide +kernel) | exact .ty _ | exact tyT (by assumption) | exact .base (.int _) | (show _ ≤ sizeLine; first | decide | exact Nat.le_of_ble_eq_true rfl | (simp only [List.length_cons, List.length_nil]; decide)) | exact ⟨_, .of (by assumption)⟩ | exact ⟨_, by assumption⟩ | exact DGet.k (by assumption) | (with_reducible show (_ : Int) ≤ _; omega) | (with_reducible show (_ : Int) < _; omega) | (with_reducible show (_ : Nat) ≤ _; omega) | (with_reducible show (_ : Nat) < _; omega) | exact CMul_l (by decide) | exact CMul_r (by decide))) | ((fail_if_success (show ∃ W : Nat → Nat → L2.St → Hp → Prop, _)); apply Exists.intro) | (refine iteT ?_) | (refine iteF ?_) | (refine wT ?_ ?_; focus omega) | (refine wF ?_ ?_; focus omega) | (refine wTv ?_ ?_; focus omega) | (refine wFv ?_ ?_; focus omega) | (refine wNT ?_ ?_; focus omega) | (refine wNF ?_ ?_; focus omega)))
        intro H16 S16
        have SS := S.trans S16
        have D16 := X12.D.same SS
        have L16 := X12.L.same SS
        have M16 := M12.same SS
        have A16 := A12.same SS
        have G16 := SS _ _ X12.l
        have E16 := SS _ _ e12
        have U16 := U12.same SS
        (repeat ((fail_if_success (intro _)); first | (refine And.intro ?_ ?_; focus (first | rfl | assumption | exact .of (by assumption) | exact .inl (.of (by assumption)) | exact .inr (by assumption) | exact .inr (.of (by assumption)) | exact kit_ty (by decide +kernel) | exact .ty _ | exact tyT (by assumption) | exact .base (.int _) | (show _ ≤ sizeLine; first | decide | exact Nat.le_of_ble_eq_true rfl | (simp only [List.length_cons, List.length_nil]; decide)) | exact ⟨_, .of (by assumption)⟩ | exact ⟨_, by assumption⟩ | exact DGet.k (by assumption) | (with_reducible show (_ : Int) ≤ _; omega) | (with_reducible show (_ : Int) < _; omega) | (with_reducible show (_ : Nat) ≤ _; omega) | (with_reducible show (_ : Nat) < _; omega) | exact CMul_l (by decide) | exact CMul_r (by decide))) | ((fail_if_success (show ∃ W : Nat → Nat → L2.St → Hp → Prop, _)); apply Exists.intro) | (refine iteT ?_) | (refine iteF ?_) | (refine wT ?_ ?_; focus omega) | (refine wF ?_ ?_; focus omega) | (refine wTv ?_ ?_; focus omega) | (refine wFv ?_ ?_; focus omega) | (refine wNT ?_ ?_; focus omega) | (refine wNF ?_ ?_; focus omega)))
        (intro w n_w; generalize he_w : upd _ w _ = H17; obtain ⟨e_w, s_w, f_w⟩ := new_f he_w n_w; clear he_w)
        have ST := SS.trans s_w
        have D17 := X12.D.same ST
        have L17 := X12.L.same ST
        have M17 := M12.same ST
        have A17 := A12.same ST
        have G17 := ST _ _ X12.l
        have E17 := ST _ _ e12
        have U17 := U12.same ST
        have N17 : MarksAt K H17 w [] := ⟨[], e_w, rfl, fun i a m h => by simp at h⟩
        clear A17
        (repeat ((fail_if_success (intro _)); first | (refine And.intro ?_ ?_; focus (first | rfl | assumption | exact .of (by assumption) | exact .inl (.of (by assumption)) | exact .inr (by assumption) | exact .inr (.of (by assumption)) | exact kit_ty (by decide +kernel) | exact .ty _ | exact tyT (by assumption) | exact .base (.int _) | (show _ ≤ sizeLine; first | decide | exact Nat.le_of_ble_eq_true rfl | (simp only [List.length_cons, List.length_nil]; decide)) | exact ⟨_, .of (by assumption)⟩ | exact ⟨_, by assumption⟩ | exact DGet.k (by assumption) | (with_reducible show (_ : Int) ≤ _; omega) | (with_reducible show (_ : Int) < _; omega) | (with_reducible show (_ : Nat) ≤ _; omega) | (with_reducible show (_ : Nat) < _; omega) | exact CMul_l (by decide) | exact CMul_r (by decide))) | ((fail_if_success (show ∃ W : Nat → Nat → L2.St → Hp → Prop, _)); apply Exists.intro) | (refine iteT ?_) | (refine iteF ?_) | (refine wT ?_ ?_; focus omega) | (refine wF ?_ ?_; focus omega) | (refine wTv ?_ ?_; focus omega) | (refine wFv ?_ ?_; focus omega) | (refine wNT ?_ ?_; focus omega) | (refine wNF ?_ ?_; focus omega)))
        intro H18 S18
        (repeat ((fail_if_success (intro _)); first | (refine And.intro ?_ ?_; focus (first | rfl | assumption | exact .of (by assumption) | exact .inl (.of (by assumption)) | exact .inr (by assumption) | exact .inr (.of (by assumption)) | exact kit_ty (by decide +kernel) | exact .ty _ | exact tyT (by assumption) | exact .base (.int _) | (show _ ≤ sizeLine; first | decide | exact Nat.le_of_ble_eq_true rfl | (simp only [List.length_cons, List.length_nil]; decide)) | exact ⟨_, .of (by assumption)⟩ | exact ⟨_, by assumption⟩ | exact DGet.k (by assumption) | (with_reducible show (_ : Int) ≤ _; omega) | (with_reducible show (_ : Int) < _; omega) | (with_reducible show (_ : Nat) ≤ _; omega) | (with_reducible show (_ : Nat) < _; omega) | exact CMul_l (by decide) | exact CMul_r (by decide))) | ((fail_if_success (show ∃ W : Nat → Nat → L2.St → Hp → Prop, _)); apply Exists.intro) | (refine iteT ?_) | (refine iteF ?_) | (refine wT ?_ ?_; focus omega) | (refine wF ?_ ?_; focus omega) | (refine wTv ?_ ?_; focus omega) | (refine wFv ?_ ?_; focus omega) | (refine wNT ?_ ?_; focus omega) | (refine wNF ?_ ?_; focus omega)))
        exact ((S15.trans S16).trans s_w).trans S18
      · rintro σ H15 ⟨v10, rfl, S15⟩
        exact ⟨_, _, rfl, S14.trans S15⟩
    rintro σ H13 ⟨v9, v10, rfl, S13⟩
    have X13 := X12.same S13
    have M13 := M12.same S13
    have U13 := U12.same S13
    have e13 := S13 _ _ e12
    obtain ⟨dx, ho⟩ := X13.D.ob
    have cD := T.cl_Disk
    have nlg := T.na_Disk_log
    have nho := T.na_Disk_home
    have elg := X13.D.lg
    have eho := X13.D.ho
    have rest : ∀ (H14 : Hp) (l : Addr), Same H13 H14 → H14 l = some (.lst (lg.map gV)) → Dp K H14 (.ref l) (.list (lg.map dO)) ∧ Dp K H14 (.ref G) (.list (lg.map dO)) := fun H14 l S e =>
      ⟨(X13.L.same S).dp (.of e), (X13.L.same S).dp (.of (S _ _ X13.l))⟩
    (repeat ((fail_if_success (intro _)); first | (refine And.intro ?_ ?_; focus (first | rfl | assumption | exact .of (by assumption) | exact .inl (.of (by assumption)) | exact .inr (by assumption) | exact .inr (.of (by assumption)) | exact kit_ty (by decide +kernel) | exact .ty _ | exact tyT (by assumption) | exact .base (.int _) | (show _ ≤ sizeLine; first | decide | exact Nat.le_of_ble_eq_true rfl | (simp only [List.length_cons, List.length_nil]; decide)) | exact ⟨_, .of (by assumption)⟩ | exact ⟨_, by assumption⟩ | exact DGet.k (by assumption) | (with_reducible show (_ : Int) ≤ _; omega) | (with_reducible show (_ : Int) < _; omega) | (with_reducible show (_ : Nat) ≤ _; omega) | (with_reducible show (_ : Nat) < _; omega) | exact CMul_l (by decide) | exact CMul_r (by decide))) | ((fail_if_success (show ∃ W : Nat → Nat → L2.St → Hp → Prop, _)); apply Exists.intro) | (refine iteT ?_) | (refine iteF ?_) | (refine wT ?_ ?_; focus omega) | (refine wF ?_ ?_; focus omega) | (refine wTv ?_ ?_; focus omega) | (refine wFv ?_ ?_; focus omega) | (refine wNT ?_ ?_; focus omega) | (refine wNF ?_ ?_; focus omega)))
    (intro l n_l; generalize he_l : upd _ l _ = H14; obtain ⟨e_l, s_l, f_l⟩ := new_f he_l n_l; clear he_l)
    obtain ⟨r1, r2⟩ := rest H14 l s_l e_l
    have sh1 := shL lg
    have ho14 := s_l _ _ ho
    have eho14 := s_l _ _ eho
    (repeat ((fail_if_success (intro _)); first | (refine And.intro ?_ ?_; focus (first | rfl | assumption | exact .of (by assumption) | exact .inl (.of (by assumption)) | exact .inr (by assumption) | exact .inr (.of (by assumption)) | exact kit_ty (by decide +kernel) | exact .ty _ | exact tyT (by assumption) | exact .base (.int _) | (show _ ≤ sizeLine; first | decide | exact Nat.le_of_ble_eq_true rfl | (simp only [List.length_cons, List.length_nil]; decide)) | exact ⟨_, .of (by assumption)⟩ | exact ⟨_, by assumption⟩ | exact DGet.k (by assumption) | (with_reducible show (_ : Int) ≤ _; omega) | (with_reducible show (_ : Int) < _; omega) | (with_reducible show (_ : Nat) ≤ _; omega) | (with_reducible show (_ : Nat) < _; omega) | exact CMul_l (by decide) | exact CMul_r (by decide))) | ((fail_if_success (show ∃ W : Nat → Nat → L2.St → Hp → Prop, _)); apply Exists.intro) | (refine iteT ?_) | (refine iteF ?_) | (refine wT ?_ ?_; focus omega) | (refine wF ?_ ?_; focus omega) | (refine wTv ?_ ?_; focus omega) | (refine wFv ?_ ?_; focus omega) | (refine wNT ?_ ?_; focus omega) | (refine wNF ?_ ?_; focus omega)))
    rw [eqL]
    (repeat ((fail_if_success (intro _)); first | (refine And.intro ?_ ?_; focus (first | rfl | assumption | exact .of (by assumption) | exact .inl (.of (by assumption)) | exact .inr (by assumption) | exact .inr (.of (by assumption)) | exact kit_ty (by decide +kernel) | exact .ty _ | exact tyT (by assumption) | exact .base (.int _) | (show _ ≤ sizeLine; first | decide | exact Nat.le_of_ble_eq_true rfl | (simp only [List.length_cons, List.length_nil]; decide)) | exact ⟨_, .of (by assumption)⟩ | exact ⟨_, by assumption⟩ | exact DGet.k (by assumption) | (with_reducible show (_ : Int) ≤ _; omega) | (with_reducible show (_ : Int) < _; omega) | (with_reducible show (_ : Nat) ≤ _; omega) | (with_reducible show (_ : Nat) < _; omega) | exact CMul_l (by decide) | exact CMul_r (by decide))) | ((fail_if_success (show ∃ W : Nat → Nat → L2.St → Hp → Prop, _)); apply Exists.intro) | (refine iteT ?_) | (refine iteF ?_) | (refine wT ?_ ?_; focus omega) | (refine wF ?_ ?_; focus omega) | (refine wTv ?_ ?_; focus omega) | (refine wFv ?_ ?_; focus omega) | (refine wNT ?_ ?_; focus omega) | (refine wNF ?_ ?_; focus omega)))
    (intro u n_u; generalize he_u : upd _ u _ = H15; obtain ⟨e_u, s_u, f_u⟩ := new_f he_u n_u; clear he_u)
    have S15 := s_l.trans s_u
    have r3 := (M13.same S15).dp (.of e_u)
    have r4 := (U13.same S15).dp (.of (S15 _ _ e13))
    have sh2 := shH hc
    (repeat ((fail_if_success (intro _)); first | (refine And.intro ?_ ?_; focus (first | rfl | assumption | exact .of (by assumption) | exact .inl (.of (by assumption)) | exact .inr (by assumption) | exact .inr (.of (by assumption)) | exact kit_ty (by decide +kernel) | exact .ty _ | exact tyT (by assumption) | exact .base (.int _) | (show _ ≤ sizeLine; first | decide | exact Nat.le_of_ble_eq_true rfl | (simp only [List.length_cons, List.length_nil]; decide)) | exact ⟨_, .of (by assumption)⟩ | exact ⟨_, by assumption⟩ | exact DGet.k (by assumption) | (with_reducible show (_ : Int) ≤ _; omega) | (with_reducible show (_ : Int) < _; omega) | (with_reducible show (_ : Nat) ≤ _; omega) | (with_reducible show (_ : Nat) < _; omega) | exact CMul_l (by decide) | exact CMul_r (by decide))) | ((fail_if_success (show ∃ W : Nat → Nat → L2.St → Hp → Prop, _)); apply Exists.intro) | (refine iteT ?_) | (refine iteF ?_) | (refine wT ?_ ?_; focus omega) | (refine wF ?_ ?_; focus omega) | (refine wTv ?_ ?_; focus omega) | (refine wFv ?_ ?_; focus omega) | (refine wNT ?_ ?_; focus omega) | (refine wNF ?_ ?_; focus omega)))
    rw [eqH]
    exact k _
end
end K46
open_top K46pre for PySem.Challenge.rw_lotsandties_k46_live_copies
namespace K46
open PySem PySem.Spec PyProof.Rows L2 Rg
theorem law_binds {K : PySem.W.Frag} {mg : Str → Option Value} (T : Tx K mg) (s : Shared) (v : Value) : BindsTo s T.fd_law ⟨[v], []⟩ [("_law_script", v)] := by
  obtain ⟨oc, od, kV, doc, pm, an, cdv, ct, osl, e, lk, hcd⟩ := T.F_law.ex
  rw [e]
  exact .of_eq rfl
/-- the tables of the code objects that stand written -/
def tabsK (K : PySem.W.Frag) : List Addr := K.filterMap fun p => match p.2 with
  | ⟨.type "code", _, .fields vs, _⟩ => (match (vs[11]? : Option Value) with
    | some (.ref P) => some P
    | _ => none)
  | _ => none
theorem look_mem {c : Addr} {o : Obj} : ∀ K : PySem.W.Frag, K.lookup c = some o → (c, o) ∈ K
  | [], h => by cases h
  | (a, u) :: K, h => by
    by_cases e : (c == a) = true
    · rw [List.lookup_cons, e] at h
      cases h
      rw [show c = a from beq_iff_eq.mp e]
      exact List.mem_cons_self
    · rw [List.lookup_cons, show (c == a) = false by simpa using e] at h
      exact List.mem_cons_of_mem _ (look_mem K h)
theorem tabs_all {K : PySem.W.Frag} {ts : List Addr} (h : (tabsK K).all (fun P => ts.contains P) = true) {c P : Addr} (e : PySem.W.codeHdIn K c P = true) : P ∈ ts := by
  have hp : P ∈ tabsK K := by
    unfold PySem.W.codeHdIn at e
    split at e
    · rename_i vs _ hk
      refine List.mem_filterMap.mpr ⟨_, look_mem K hk, ?_⟩
      simp only [Bool.and_eq_true] at e
      obtain ⟨⟨⟨⟨⟨e1, _⟩, _⟩, _⟩, _⟩, _⟩ := e
      split at e1
      · rename_i P' h11
        rw [show P' = P from beq_iff_eq.mp e1] at h11
        show (match (vs[11]? : Option Value) with | some (.ref P) => some P | _ => none) = some P
        rw [h11]
      · cases e1
    · cases e
  simpa using List.all_eq_true.mp h P hp
theorem fin_G {l : PySem.W.OpenLaw} {w : World} {K : PySem.W.Frag} {mg : Str → Option Value} {fa : Addr} {h : Heap} {ts : List Addr} (z : Nonempty (Tx K mg)) (hmg : mg "law" = some (.ref fa)) (KX : K.In h) (TT : ∀ P ∈ ts, h.get? P = some { cls := .none, data := .fields #[] }) (TK : ∀ {c P : Addr}, PySem.W.codeHdIn K c P = true → P ∈ ts) :
    LamX.LawAtS l w K L2.CX0 13 63 "_law_script" mg fa h := by
  obtain ⟨T⟩ := z
  have e : T.f_law = fa := Value.ref.inj (Option.some.inj (T.mg_law.symm.trans hmg))
  subst e
  refine ⟨T.fd_law, [(T.cc_is_cell_row, T.P_is_cell_row), (T.cc_is_ascending, T.P_is_ascending), (T.cc_are_pairs, T.P_are_pairs), (T.cc_are_revokes, T.P_are_revokes), (T.cc_fits_plan, T.P_fits_plan), (T.cc_Disk_busy, T.P_Disk_busy)], sp_law K T.Ps, List.forall_mem_cons.mpr ⟨TT _ (TK T.ch_is_cell_row), List.forall_mem_cons.mpr ⟨TT _ (TK T.ch_is_ascending), List.forall_mem_cons.mpr ⟨TT _ (TK T.ch_are_pairs), List.forall_mem_cons.mpr ⟨TT _ (TK T.ch_are_revokes), List.forall_mem_cons.mpr ⟨TT _ (TK T.ch_fits_plan), List.forall_mem_cons.mpr ⟨TT _ (TK T.ch_Disk_busy), fun _ z => nomatch z⟩⟩⟩⟩⟩⟩, List.forall_mem_cons.mpr ⟨T.cn_is_cell_row, List.forall_mem_cons.mpr ⟨T.cn_is_ascending, List.forall_mem_cons.mpr ⟨T.cn_are_pairs, List.forall_mem_cons.mpr ⟨T.cn_are_revokes, List.forall_mem_cons.mpr ⟨T.cn_fits_plan, List.forall_mem_cons.mpr ⟨T.cn_Disk_busy, fun _ z => nomatch z⟩⟩⟩⟩⟩⟩, List.forall_mem_cons.mpr ⟨PySem.W.codeHd_of_K KX T.ch_is_cell_row, List.forall_mem_cons.mpr ⟨PySem.W.codeHd_of_K KX T.ch_is_ascending, List.forall_mem_cons.mpr ⟨PySem.W.codeHd_of_K KX T.ch_are_pairs, List.forall_mem_cons.mpr ⟨PySem.W.codeHd_of_K KX T.ch_are_revokes, List.forall_mem_cons.mpr ⟨PySem.W.codeHd_of_K KX T.ch_fits_plan, List.forall_mem_cons.mpr ⟨PySem.W.codeHd_of_K KX T.ch_Disk_busy, fun _ z => nomatch z⟩⟩⟩⟩⟩⟩, fun s v => law_binds T s v, fun H a ns hl _ hT hS => ⟨a, ns, rfl, ?_, hS, hl, fun _ => rfl⟩, fun base _ _ TB => ok_law T ⟨TB (T.cc_is_cell_row, T.P_is_cell_row) (by simp), TB (T.cc_is_ascending, T.P_is_ascending) (by simp), TB (T.cc_are_pairs, T.P_are_pairs) (by simp), TB (T.cc_are_revokes, T.P_are_revokes) (by simp), TB (T.cc_fits_plan, T.P_fits_plan) (by simp), TB (T.cc_Disk_busy, T.P_Disk_busy) (by simp)⟩⟩
  exact List.forall_mem_cons.mpr ⟨⟨#[], hT (T.cc_is_cell_row, T.P_is_cell_row) (by simp), True.intro⟩, List.forall_mem_cons.mpr ⟨⟨#[], hT (T.cc_is_ascending, T.P_is_ascending) (by simp), True.intro⟩, List.forall_mem_cons.mpr ⟨⟨#[], hT (T.cc_are_pairs, T.P_are_pairs) (by simp), True.intro⟩, List.forall_mem_cons.mpr ⟨⟨#[], hT (T.cc_are_revokes, T.P_are_revokes) (by simp), True.intro⟩, List.forall_mem_cons.mpr ⟨⟨#[], hT (T.cc_fits_plan, T.P_fits_plan) (by simp), True.intro⟩, List.forall_mem_cons.mpr ⟨⟨#[], hT (T.cc_Disk_busy, T.P_Disk_busy) (by simp), True.intro⟩, fun _ z => nomatch z⟩⟩⟩⟩⟩⟩
theorem all_mk {w : World} {K : PySem.W.Frag} {h : Heap} {mg : Str → Option Value} (X : K.In h) (G : h.Ns mainGlobals mg)
    {a_is_number : Addr}
    {od_is_number an_is_number : Option Addr} {sl_is_number : Array (Option Value)} {oc_is_number kV_is_number dc_is_number pm_is_number cd_is_number ct_is_number : Value}
    (l_is_number : K.lookup a_is_number = some ⟨oc_is_number, od_is_number, .func (PySem.W.fnOf "is_number" "is_number" (defArgs s_is_number) (defBody s_is_number) (defScope s_is_number) .none kV_is_number dc_is_number pm_is_number an_is_number cd_is_number ct_is_number), sl_is_number⟩)
    (c_is_number : PySem.W.codeIn K cd_is_number "is_number" = true)
    (k_is_number : PySem.W.keepIn K (.ref a_is_number) = true)
    (g_is_number : PySem.W.nsIn K mainGlobals "is_number" = some (some (.ref a_is_number)))
    {a_is_cell : Addr}
    {od_is_cell an_is_cell : Option Addr} {sl_is_cell : Array (Option Value)} {oc_is_cell kV_is_cell dc_is_cell pm_is_cell cd_is_cell ct_is_cell : Value}
    (l_is_cell : K.lookup a_is_cell = some ⟨oc_is_cell, od_is_cell, .func (PySem.W.fnOf "is_cell" "is_cell" (defArgs s_is_cell) (defBody s_is_cell) (defScope s_is_cell) .none kV_is_cell dc_is_cell pm_is_cell an_is_cell cd_is_cell ct_is_cell), sl_is_cell⟩)
    (c_is_cell : PySem.W.codeIn K cd_is_cell "is_cell" = true)
    (k_is_cell : PySem.W.keepIn K (.ref a_is_cell) = true)
    (g_is_cell : PySem.W.nsIn K mainGlobals "is_cell" = some (some (.ref a_is_cell)))
    {a_is_block : Addr}
    {od_is_block an_is_block : Option Addr} {sl_is_block : Array (Option Value)} {oc_is_block kV_is_block dc_is_block pm_is_block cd_is_block ct_is_block : Value}
    (l_is_block : K.lookup a_is_block = some ⟨oc_is_block, od_is_block, .func (PySem.W.fnOf "is_block" "is_block" (defArgs s_is_block) (defBody s_is_block) (defScope s_is_block) .none kV_is_block dc_is_block pm_is_block an_is_block cd_is_block ct_is_block), sl_is_block⟩)
    (c_is_block : PySem.W.codeIn K cd_is_block "is_block" = true)
    (k_is_block : PySem.W.keepIn K (.ref a_is_block) = true)
    (g_is_block : PySem.W.nsIn K mainGlobals "is_block" = some (some (.ref a_is_block)))
    {a_is_cell_row : Addr}
    {od_is_cell_row an_is_cell_row : Option Addr} {sl_is_cell_row : Array (Option Value)} {oc_is_cell_row kV_is_cell_row dc_is_cell_row pm_is_cell_row cd_is_cell_row ct_is_cell_row : Value}
    (l_is_cell_row : K.lookup a_is_cell_row = some ⟨oc_is_cell_row, od_is_cell_row, .func (PySem.W.fnOf "is_cell_row" "is_cell_row" (defArgs s_is_cell_row) (defBody s_is_cell_row) (defScope s_is_cell_row) .none kV_is_cell_row dc_is_cell_row pm_is_cell_row an_is_cell_row cd_is_cell_row ct_is_cell_row), sl_is_cell_row⟩)
    (c_is_cell_row : PySem.W.codeIn K cd_is_cell_row "is_cell_row" = true)
    (k_is_cell_row : PySem.W.keepIn K (.ref a_is_cell_row) = true)
    (g_is_cell_row : PySem.W.nsIn K mainGlobals "is_cell_row" = some (some (.ref a_is_cell_row)))
    {ac_is_cell_row : Addr}
    (cc1_is_cell_row : cd_is_cell_row = .ref ac_is_cell_row)
    (ch1_is_cell_row : PySem.W.codeHdIn K ac_is_cell_row (He.tabOf K ac_is_cell_row) = true)
    (cn1_is_cell_row : K.lookup (He.tabOf K ac_is_cell_row) = none)
    {a_is_ascending : Addr}
    {od_is_ascending an_is_ascending : Option Addr} {sl_is_ascending : Array (Option Value)} {oc_is_ascending kV_is_ascending dc_is_ascending pm_is_ascending cd_is_ascending ct_is_ascending : Value}
    (l_is_ascending : K.lookup a_is_ascending = some ⟨oc_is_ascending, od_is_ascending, .func (PySem.W.fnOf "is_ascending" "is_ascending" (defArgs s_is_ascending) (defBody s_is_ascending) (defScope s_is_ascending) .none kV_is_ascending dc_is_ascending pm_is_ascending an_is_ascending cd_is_ascending ct_is_ascending), sl_is_ascending⟩)
    (c_is_ascending : PySem.W.codeIn K cd_is_ascending "is_ascending" = true)
    (k_is_ascending : PySem.W.keepIn K (.ref a_is_ascending) = true)
    (g_is_ascending : PySem.W.nsIn K mainGlobals "is_ascending" = some (some (.ref a_is_ascending)))
    {ac_is_ascending : Addr}
    (cc1_is_ascending : cd_is_ascending = .ref ac_is_ascending)
    (ch1_is_ascending : PySem.W.codeHdIn K ac_is_ascending (He.tabOf K ac_is_ascending) = true)
    (cn1_is_ascending : K.lookup (He.tabOf K ac_is_ascending) = none)
    {a_is_pair : Addr}
    {od_is_pair an_is_pair : Option Addr} {sl_is_pair : Array (Option Value)} {oc_is_pair kV_is_pair dc_is_pair pm_is_pair cd_is_pair ct_is_pair : Value}
    (l_is_pair : K.lookup a_is_pair = some ⟨oc_is_pair, od_is_pair, .func (PySem.W.fnOf "_is_pair" "_is_pair" (defArgs s_is_pair) (defBody s_is_pair) (defScope s_is_pair) .none kV_is_pair dc_is_pair pm_is_pair an_is_pair cd_is_pair ct_is_pair), sl_is_pair⟩)
    (c_is_pair : PySem.W.codeIn K cd_is_pair "_is_pair" = true)
    (k_is_pair : PySem.W.keepIn K (.ref a_is_pair) = true)
    (g_is_pair : PySem.W.nsIn K mainGlobals "_is_pair" = some (some (.ref a_is_pair)))
    {a_are_pairs : Addr}
    {od_are_pairs an_are_pairs : Option Addr} {sl_are_pairs : Array (Option Value)} {oc_are_pairs kV_are_pairs dc_are_pairs pm_are_pairs cd_are_pairs ct_are_pairs : Value}
    (l_are_pairs : K.lookup a_are_pairs = some ⟨oc_are_pairs, od_are_pairs, .func (PySem.W.fnOf "_are_pairs" "_are_pairs" (defArgs s_are_pairs) (defBody s_are_pairs) (defScope s_are_pairs) .none kV_are_pairs dc_are_pairs pm_are_pairs an_are_pairs cd_are_pairs ct_are_pairs), sl_are_pairs⟩)
    (c_are_pairs : PySem.W.codeIn K cd_are_pairs "_are_pairs" = true)
    (k_are_pairs : PySem.W.keepIn K (.ref a_are_pairs) = true)
    (g_are_pairs : PySem.W.nsIn K mainGlobals "_are_pairs" = some (some (.ref a_are_pairs)))
    {ac_are_pairs : Addr}
    (cc1_are_pairs : cd_are_pairs = .ref ac_are_pairs)
    (ch1_are_pairs : PySem.W.codeHdIn K ac_are_pairs (He.tabOf K ac_are_pairs) = true)
    (cn1_are_pairs : K.lookup (He.tabOf K ac_are_pairs) = none)
    {a_are_revokes : Addr}
    {od_are_revokes an_are_revokes : Option Addr} {sl_are_revokes : Array (Option Value)} {oc_are_revokes kV_are_revokes dc_are_revokes pm_are_revokes cd_are_revokes ct_are_revokes : Value}
    (l_are_revokes : K.lookup a_are_revokes = some ⟨oc_are_revokes, od_are_revokes, .func (PySem.W.fnOf "_are_revokes" "_are_revokes" (defArgs s_are_revokes) (defBody s_are_revokes) (defScope s_are_revokes) .none kV_are_revokes dc_are_revokes pm_are_revokes an_are_revokes cd_are_revokes ct_are_revokes), sl_are_revokes⟩)
    (c_are_revokes : PySem.W.codeIn K cd_are_revokes "_are_revokes" = true)
    (k_are_revokes : PySem.W.keepIn K (.ref a_are_revokes) = true)
    (g_are_revokes : PySem.W.nsIn K mainGlobals "_are_revokes" = some (some (.ref a_are_revokes)))
    {ac_are_revokes : Addr}
    (cc1_are_revokes : cd_are_revokes = .ref ac_are_revokes)
    (ch1_are_revokes : PySem.W.codeHdIn K ac_are_revokes (He.tabOf K ac_are_revokes) = true)
    (cn1_are_revokes : K.lookup (He.tabOf K ac_are_revokes) = none)
    {a_is_record : Addr}
    {od_is_record an_is_record : Option Addr} {sl_is_record : Array (Option Value)} {oc_is_record kV_is_record dc_is_record pm_is_record cd_is_record ct_is_record : Value}
    (l_is_record : K.lookup a_is_record = some ⟨oc_is_record, od_is_record, .func (PySem.W.fnOf "is_record" "is_record" (defArgs s_is_record) (defBody s_is_record) (defScope s_is_record) .none kV_is_record dc_is_record pm_is_record an_is_record cd_is_record ct_is_record), sl_is_record⟩)
    (c_is_record : PySem.W.codeIn K cd_is_record "is_record" = true)
    (k_is_record : PySem.W.keepIn K (.ref a_is_record) = true)
    (g_is_record : PySem.W.nsIn K mainGlobals "is_record" = some (some (.ref a_is_record)))
    {a_fits_plan : Addr}
    {od_fits_plan an_fits_plan : Option Addr} {sl_fits_plan : Array (Option Value)} {oc_fits_plan kV_fits_plan dc_fits_plan pm_fits_plan cd_fits_plan ct_fits_plan : Value}
    (l_fits_plan : K.lookup a_fits_plan = some ⟨oc_fits_plan, od_fits_plan, .func (PySem.W.fnOf "fits_plan" "fits_plan" (defArgs s_fits_plan) (defBody s_fits_plan) (defScope s_fits_plan) .none kV_fits_plan dc_fits_plan pm_fits_plan an_fits_plan cd_fits_plan ct_fits_plan), sl_fits_plan⟩)
    (c_fits_plan : PySem.W.codeIn K cd_fits_plan "fits_plan" = true)
    (k_fits_plan : PySem.W.keepIn K (.ref a_fits_plan) = true)
    (g_fits_plan : PySem.W.nsIn K mainGlobals "fits_plan" = some (some (.ref a_fits_plan)))
    {ac_fits_plan : Addr}
    (cc1_fits_plan : cd_fits_plan = .ref ac_fits_plan)
    (ch1_fits_plan : PySem.W.codeHdIn K ac_fits_plan (He.tabOf K ac_fits_plan) = true)
    (cn1_fits_plan : K.lookup (He.tabOf K ac_fits_plan) = none)
    {a_live_copies : Addr}
    {od_live_copies an_live_copies : Option Addr} {sl_live_copies : Array (Option Value)} {oc_live_copies kV_live_copies dc_live_copies pm_live_copies cd_live_copies ct_live_copies : Value}
    (l_live_copies : K.lookup a_live_copies = some ⟨oc_live_copies, od_live_copies, .func (PySem.W.fnOf "live_copies" "live_copies" (defArgs s_live_copies) (defBody s_live_copies) (defScope s_live_copies) .none kV_live_copies dc_live_copies pm_live_copies an_live_copies cd_live_copies ct_live_copies), sl_live_copies⟩)
    (c_live_copies : PySem.W.codeIn K cd_live_copies "live_copies" = true)
    (k_live_copies : PySem.W.keepIn K (.ref a_live_copies) = true)
    (g_live_copies : PySem.W.nsIn K mainGlobals "live_copies" = some (some (.ref a_live_copies)))
    {a_live_copy : Addr}
    {od_live_copy an_live_copy : Option Addr} {sl_live_copy : Array (Option Value)} {oc_live_copy kV_live_copy dc_live_copy pm_live_copy cd_live_copy ct_live_copy : Value}
    (l_live_copy : K.lookup a_live_copy = some ⟨oc_live_copy, od_live_copy, .func (PySem.W.fnOf "live_copy" "live_copy" (defArgs s_live_copy) (defBody s_live_copy) (defScope s_live_copy) .none kV_live_copy dc_live_copy pm_live_copy an_live_copy cd_live_copy ct_live_copy), sl_live_copy⟩)
    (c_live_copy : PySem.W.codeIn K cd_live_copy "live_copy" = true)
    (k_live_copy : PySem.W.keepIn K (.ref a_live_copy) = true)
    (g_live_copy : PySem.W.nsIn K mainGlobals "live_copy" = some (some (.ref a_live_copy)))
    {a_cells_found : Addr}
    {od_cells_found an_cells_found : Option Addr} {sl_cells_found : Array (Option Value)} {oc_cells_found kV_cells_found dc_cells_found pm_cells_found cd_cells_found ct_cells_found : Value}
    (l_cells_found : K.lookup a_cells_found = some ⟨oc_cells_found, od_cells_found, .func (PySem.W.fnOf "cells_found" "cells_found" (defArgs s_cells_found) (defBody s_cells_found) (defScope s_cells_found) .none kV_cells_found dc_cells_found pm_cells_found an_cells_found cd_cells_found ct_cells_found), sl_cells_found⟩)
    (c_cells_found : PySem.W.codeIn K cd_cells_found "cells_found" = true)
    (k_cells_found : PySem.W.keepIn K (.ref a_cells_found) = true)
    (g_cells_found : PySem.W.nsIn K mainGlobals "cells_found" = some (some (.ref a_cells_found)))
    {a_cells_after : Addr}
    {od_cells_after an_cells_after : Option Addr} {sl_cells_after : Array (Option Value)} {oc_cells_after kV_cells_after dc_cells_after pm_cells_after cd_cells_after ct_cells_after : Value}
    (l_cells_after : K.lookup a_cells_after = some ⟨oc_cells_after, od_cells_after, .func (PySem.W.fnOf "cells_after" "cells_after" (defArgs s_cells_after) (defBody s_cells_after) (defScope s_cells_after) .none kV_cells_after dc_cells_after pm_cells_after an_cells_after cd_cells_after ct_cells_after), sl_cells_after⟩)
    (c_cells_after : PySem.W.codeIn K cd_cells_after "cells_after" = true)
    (k_cells_after : PySem.W.keepIn K (.ref a_cells_after) = true)
    (g_cells_after : PySem.W.nsIn K mainGlobals "cells_after" = some (some (.ref a_cells_after)))
    {a_is_place : Addr}
    {od_is_place an_is_place : Option Addr} {sl_is_place : Array (Option Value)} {oc_is_place kV_is_place dc_is_place pm_is_place cd_is_place ct_is_place : Value}
    (l_is_place : K.lookup a_is_place = some ⟨oc_is_place, od_is_place, .func (PySem.W.fnOf "_is_place" "_is_place" (defArgs s_is_place) (defBody s_is_place) (defScope s_is_place) .none kV_is_place dc_is_place pm_is_place an_is_place cd_is_place ct_is_place), sl_is_place⟩)
    (c_is_place : PySem.W.codeIn K cd_is_place "_is_place" = true)
    (k_is_place : PySem.W.keepIn K (.ref a_is_place) = true)
    (g_is_place : PySem.W.nsIn K mainGlobals "_is_place" = some (some (.ref a_is_place)))
    {a_is_content : Addr}
    {od_is_content an_is_content : Option Addr} {sl_is_content : Array (Option Value)} {oc_is_content kV_is_content dc_is_content pm_is_content cd_is_content ct_is_content : Value}
    (l_is_content : K.lookup a_is_content = some ⟨oc_is_content, od_is_content, .func (PySem.W.fnOf "_is_content" "_is_content" (defArgs s_is_content) (defBody s_is_content) (defScope s_is_content) .none kV_is_content dc_is_content pm_is_content an_is_content cd_is_content ct_is_content), sl_is_content⟩)
    (c_is_content : PySem.W.codeIn K cd_is_content "_is_content" = true)
    (k_is_content : PySem.W.keepIn K (.ref a_is_content) = true)
    (g_is_content : PySem.W.nsIn K mainGlobals "_is_content" = some (some (.ref a_is_content)))
    {a_Lfeed : Addr}
    {od_Lfeed an_Lfeed : Option Addr} {sl_Lfeed : Array (Option Value)} {oc_Lfeed kV_Lfeed dc_Lfeed pm_Lfeed cd_Lfeed ct_Lfeed : Value}
    (l_Lfeed : K.lookup a_Lfeed = some ⟨oc_Lfeed, od_Lfeed, .func (PySem.W.fnOf "_law_feed" "_law_feed" (defArgs s_Lfeed) (defBody s_Lfeed) (defScope s_Lfeed) .none kV_Lfeed dc_Lfeed pm_Lfeed an_Lfeed cd_Lfeed ct_Lfeed), sl_Lfeed⟩)
    (c_Lfeed : PySem.W.codeIn K cd_Lfeed "_law_feed" = true)
    (k_Lfeed : PySem.W.keepIn K (.ref a_Lfeed) = true)
    (g_Lfeed : PySem.W.nsIn K mainGlobals "_law_feed" = some (some (.ref a_Lfeed)))
    {a_Lpick : Addr}
    {od_Lpick an_Lpick : Option Addr} {sl_Lpick : Array (Option Value)} {oc_Lpick kV_Lpick dc_Lpick pm_Lpick cd_Lpick ct_Lpick : Value}
    (l_Lpick : K.lookup a_Lpick = some ⟨oc_Lpick, od_Lpick, .func (PySem.W.fnOf "_law_pick" "_law_pick" (defArgs s_Lpick) (defBody s_Lpick) (defScope s_Lpick) .none kV_Lpick dc_Lpick pm_Lpick an_Lpick cd_Lpick ct_Lpick), sl_Lpick⟩)
    (c_Lpick : PySem.W.codeIn K cd_Lpick "_law_pick" = true)
    (k_Lpick : PySem.W.keepIn K (.ref a_Lpick) = true)
    (g_Lpick : PySem.W.nsIn K mainGlobals "_law_pick" = some (some (.ref a_Lpick)))
    {a_Lcells : Addr}
    {od_Lcells an_Lcells : Option Addr} {sl_Lcells : Array (Option Value)} {oc_Lcells kV_Lcells dc_Lcells pm_Lcells cd_Lcells ct_Lcells : Value}
    (l_Lcells : K.lookup a_Lcells = some ⟨oc_Lcells, od_Lcells, .func (PySem.W.fnOf "_law_cells" "_law_cells" (defArgs s_Lcells) (defBody s_Lcells) (defScope s_Lcells) .none kV_Lcells dc_Lcells pm_Lcells an_Lcells cd_Lcells ct_Lcells), sl_Lcells⟩)
    (c_Lcells : PySem.W.codeIn K cd_Lcells "_law_cells" = true)
    (k_Lcells : PySem.W.keepIn K (.ref a_Lcells) = true)
    (g_Lcells : PySem.W.nsIn K mainGlobals "_law_cells" = some (some (.ref a_Lcells)))
    {a_Lmark : Addr}
    {od_Lmark an_Lmark : Option Addr} {sl_Lmark : Array (Option Value)} {oc_Lmark kV_Lmark dc_Lmark pm_Lmark cd_Lmark ct_Lmark : Value}
    (l_Lmark : K.lookup a_Lmark = some ⟨oc_Lmark, od_Lmark, .func (PySem.W.fnOf "_law_mark" "_law_mark" (defArgs s_Lmark) (defBody s_Lmark) (defScope s_Lmark) .none kV_Lmark dc_Lmark pm_Lmark an_Lmark cd_Lmark ct_Lmark), sl_Lmark⟩)
    (c_Lmark : PySem.W.codeIn K cd_Lmark "_law_mark" = true)
    (k_Lmark : PySem.W.keepIn K (.ref a_Lmark) = true)
    (g_Lmark : PySem.W.nsIn K mainGlobals "_law_mark" = some (some (.ref a_Lmark)))
    {a_Lput : Addr}
    {od_Lput an_Lput : Option Addr} {sl_Lput : Array (Option Value)} {oc_Lput kV_Lput dc_Lput pm_Lput cd_Lput ct_Lput : Value}
    (l_Lput : K.lookup a_Lput = some ⟨oc_Lput, od_Lput, .func (PySem.W.fnOf "_law_put" "_law_put" (defArgs s_Lput) (defBody s_Lput) (defScope s_Lput) .none kV_Lput dc_Lput pm_Lput an_Lput cd_Lput ct_Lput), sl_Lput⟩)
    (c_Lput : PySem.W.codeIn K cd_Lput "_law_put" = true)
    (k_Lput : PySem.W.keepIn K (.ref a_Lput) = true)
    (g_Lput : PySem.W.nsIn K mainGlobals "_law_put" = some (some (.ref a_Lput)))
    {a_Lfill : Addr}
    {od_Lfill an_Lfill : Option Addr} {sl_Lfill : Array (Option Value)} {oc_Lfill kV_Lfill dc_Lfill pm_Lfill cd_Lfill ct_Lfill : Value}
    (l_Lfill : K.lookup a_Lfill = some ⟨oc_Lfill, od_Lfill, .func (PySem.W.fnOf "_law_fill" "_law_fill" (defArgs s_Lfill) (defBody s_Lfill) (defScope s_Lfill) .none kV_Lfill dc_Lfill pm_Lfill an_Lfill cd_Lfill ct_Lfill), sl_Lfill⟩)
    (c_Lfill : PySem.W.codeIn K cd_Lfill "_law_fill" = true)
    (k_Lfill : PySem.W.keepIn K (.ref a_Lfill) = true)
    (g_Lfill : PySem.W.nsIn K mainGlobals "_law_fill" = some (some (.ref a_Lfill)))
    {a_Lstruck : Addr}
    {od_Lstruck an_Lstruck : Option Addr} {sl_Lstruck : Array (Option Value)} {oc_Lstruck kV_Lstruck dc_Lstruck pm_Lstruck cd_Lstruck ct_Lstruck : Value}
    (l_Lstruck : K.lookup a_Lstruck = some ⟨oc_Lstruck, od_Lstruck, .func (PySem.W.fnOf "_law_struck" "_law_struck" (defArgs s_Lstruck) (defBody s_Lstruck) (defScope s_Lstruck) .none kV_Lstruck dc_Lstruck pm_Lstruck an_Lstruck cd_Lstruck ct_Lstruck), sl_Lstruck⟩)
    (c_Lstruck : PySem.W.codeIn K cd_Lstruck "_law_struck" = true)
    (k_Lstruck : PySem.W.keepIn K (.ref a_Lstruck) = true)
    (g_Lstruck : PySem.W.nsIn K mainGlobals "_law_struck" = some (some (.ref a_Lstruck)))
    {a_Ldue : Addr}
    {od_Ldue an_Ldue : Option Addr} {sl_Ldue : Array (Option Value)} {oc_Ldue kV_Ldue dc_Ldue pm_Ldue cd_Ldue ct_Ldue : Value}
    (l_Ldue : K.lookup a_Ldue = some ⟨oc_Ldue, od_Ldue, .func (PySem.W.fnOf "_law_due" "_law_due" (defArgs s_Ldue) (defBody s_Ldue) (defScope s_Ldue) .none kV_Ldue dc_Ldue pm_Ldue an_Ldue cd_Ldue ct_Ldue), sl_Ldue⟩)
    (c_Ldue : PySem.W.codeIn K cd_Ldue "_law_due" = true)
    (k_Ldue : PySem.W.keepIn K (.ref a_Ldue) = true)
    (g_Ldue : PySem.W.nsIn K mainGlobals "_law_due" = some (some (.ref a_Ldue)))
    {a_Ldue_cells : Addr}
    {od_Ldue_cells an_Ldue_cells : Option Addr} {sl_Ldue_cells : Array (Option Value)} {oc_Ldue_cells kV_Ldue_cells dc_Ldue_cells pm_Ldue_cells cd_Ldue_cells ct_Ldue_cells : Value}
    (l_Ldue_cells : K.lookup a_Ldue_cells = some ⟨oc_Ldue_cells, od_Ldue_cells, .func (PySem.W.fnOf "_law_due_cells" "_law_due_cells" (defArgs s_Ldue_cells) (defBody s_Ldue_cells) (defScope s_Ldue_cells) .none kV_Ldue_cells dc_Ldue_cells pm_Ldue_cells an_Ldue_cells cd_Ldue_cells ct_Ldue_cells), sl_Ldue_cells⟩)
    (c_Ldue_cells : PySem.W.codeIn K cd_Ldue_cells "_law_due_cells" = true)
    (k_Ldue_cells : PySem.W.keepIn K (.ref a_Ldue_cells) = true)
    (g_Ldue_cells : PySem.W.nsIn K mainGlobals "_law_due_cells" = some (some (.ref a_Ldue_cells)))
    {a_Lnumbers : Addr}
    {od_Lnumbers an_Lnumbers : Option Addr} {sl_Lnumbers : Array (Option Value)} {oc_Lnumbers kV_Lnumbers dc_Lnumbers pm_Lnumbers cd_Lnumbers ct_Lnumbers : Value}
    (l_Lnumbers : K.lookup a_Lnumbers = some ⟨oc_Lnumbers, od_Lnumbers, .func (PySem.W.fnOf "_law_numbers" "_law_numbers" (defArgs s_Lnumbers) (defBody s_Lnumbers) (defScope s_Lnumbers) .none kV_Lnumbers dc_Lnumbers pm_Lnumbers an_Lnumbers cd_Lnumbers ct_Lnumbers), sl_Lnumbers⟩)
    (c_Lnumbers : PySem.W.codeIn K cd_Lnumbers "_law_numbers" = true)
    (k_Lnumbers : PySem.W.keepIn K (.ref a_Lnumbers) = true)
    (g_Lnumbers : PySem.W.nsIn K mainGlobals "_law_numbers" = some (some (.ref a_Lnumbers)))
    {a_Lagrees : Addr}
    {od_Lagrees an_Lagrees : Option Addr} {sl_Lagrees : Array (Option Value)} {oc_Lagrees kV_Lagrees dc_Lagrees pm_Lagrees cd_Lagrees ct_Lagrees : Value}
    (l_Lagrees : K.lookup a_Lagrees = some ⟨oc_Lagrees, od_Lagrees, .func (PySem.W.fnOf "_law_agrees" "_law_agrees" (defArgs s_Lagrees) (defBody s_Lagrees) (defScope s_Lagrees) .none kV_Lagrees dc_Lagrees pm_Lagrees an_Lagrees cd_Lagrees ct_Lagrees), sl_Lagrees⟩)
    (c_Lagrees : PySem.W.codeIn K cd_Lagrees "_law_agrees" = true)
    (k_Lagrees : PySem.W.keepIn K (.ref a_Lagrees) = true)
    (g_Lagrees : PySem.W.nsIn K mainGlobals "_law_agrees" = some (some (.ref a_Lagrees)))
    {a_law : Addr}
    {od_law an_law : Option Addr} {sl_law : Array (Option Value)} {oc_law kV_law dc_law pm_law cd_law ct_law : Value}
    (l_law : K.lookup a_law = some ⟨oc_law, od_law, .func (PySem.W.fnOf "law" "law" (defArgs s_law) (defBody s_law) (defScope s_law) .none kV_law dc_law pm_law an_law cd_law ct_law), sl_law⟩)
    (c_law : PySem.W.codeIn K cd_law "law" = true)
    (k_law : PySem.W.keepIn K (.ref a_law) = true)
    (g_law : PySem.W.nsIn K mainGlobals "law" = some (some (.ref a_law)))
    {a_Plan___init__ : Addr}
    {od_Plan___init__ an_Plan___init__ : Option Addr} {sl_Plan___init__ : Array (Option Value)} {oc_Plan___init__ kV_Plan___init__ dc_Plan___init__ pm_Plan___init__ cd_Plan___init__ ct_Plan___init__ : Value}
    (l_Plan___init__ : K.lookup a_Plan___init__ = some ⟨oc_Plan___init__, od_Plan___init__, .func (PySem.W.fnOf "__init__" "Plan.__init__" (defArgs s_Plan___init__) (defBody s_Plan___init__) (defScope s_Plan___init__) .none kV_Plan___init__ dc_Plan___init__ pm_Plan___init__ an_Plan___init__ cd_Plan___init__ ct_Plan___init__), sl_Plan___init__⟩)
    (c_Plan___init__ : PySem.W.codeIn K cd_Plan___init__ "Plan.__init__" = true)
    (k_Plan___init__ : PySem.W.keepIn K (.ref a_Plan___init__) = true)
    {a_Disk___init__ : Addr}
    {od_Disk___init__ an_Disk___init__ : Option Addr} {sl_Disk___init__ : Array (Option Value)} {oc_Disk___init__ kV_Disk___init__ dc_Disk___init__ pm_Disk___init__ cd_Disk___init__ ct_Disk___init__ : Value}
    (l_Disk___init__ : K.lookup a_Disk___init__ = some ⟨oc_Disk___init__, od_Disk___init__, .func (PySem.W.fnOf "__init__" "Disk.__init__" (defArgs s_Disk___init__) (defBody s_Disk___init__) (defScope s_Disk___init__) .none kV_Disk___init__ dc_Disk___init__ pm_Disk___init__ an_Disk___init__ cd_Disk___init__ ct_Disk___init__), sl_Disk___init__⟩)
    (c_Disk___init__ : PySem.W.codeIn K cd_Disk___init__ "Disk.__init__" = true)
    (k_Disk___init__ : PySem.W.keepIn K (.ref a_Disk___init__) = true)
    {a_Disk_issue : Addr}
    {od_Disk_issue an_Disk_issue : Option Addr} {sl_Disk_issue : Array (Option Value)} {oc_Disk_issue kV_Disk_issue dc_Disk_issue pm_Disk_issue cd_Disk_issue ct_Disk_issue : Value}
    (l_Disk_issue : K.lookup a_Disk_issue = some ⟨oc_Disk_issue, od_Disk_issue, .func (PySem.W.fnOf "issue" "Disk.issue" (defArgs s_Disk_issue) (defBody s_Disk_issue) (defScope s_Disk_issue) .none kV_Disk_issue dc_Disk_issue pm_Disk_issue an_Disk_issue cd_Disk_issue ct_Disk_issue), sl_Disk_issue⟩)
    (c_Disk_issue : PySem.W.codeIn K cd_Disk_issue "Disk.issue" = true)
    (k_Disk_issue : PySem.W.keepIn K (.ref a_Disk_issue) = true)
    {a_Disk_busy : Addr}
    {od_Disk_busy an_Disk_busy : Option Addr} {sl_Disk_busy : Array (Option Value)} {oc_Disk_busy kV_Disk_busy dc_Disk_busy pm_Disk_busy cd_Disk_busy ct_Disk_busy : Value}
    (l_Disk_busy : K.lookup a_Disk_busy = some ⟨oc_Disk_busy, od_Disk_busy, .func (PySem.W.fnOf "busy" "Disk.busy" (defArgs s_Disk_busy) (defBody s_Disk_busy) (defScope s_Disk_busy) .none kV_Disk_busy dc_Disk_busy pm_Disk_busy an_Disk_busy cd_Disk_busy ct_Disk_busy), sl_Disk_busy⟩)
    (c_Disk_busy : PySem.W.codeIn K cd_Disk_busy "Disk.busy" = true)
    (k_Disk_busy : PySem.W.keepIn K (.ref a_Disk_busy) = true)
    {ac_Disk_busy : Addr}
    (cc1_Disk_busy : cd_Disk_busy = .ref ac_Disk_busy)
    (ch1_Disk_busy : PySem.W.codeHdIn K ac_Disk_busy (He.tabOf K ac_Disk_busy) = true)
    (cn1_Disk_busy : K.lookup (He.tabOf K ac_Disk_busy) = none)
    {a_Disk_sure : Addr}
    {od_Disk_sure an_Disk_sure : Option Addr} {sl_Disk_sure : Array (Option Value)} {oc_Disk_sure kV_Disk_sure dc_Disk_sure pm_Disk_sure cd_Disk_sure ct_Disk_sure : Value}
    (l_Disk_sure : K.lookup a_Disk_sure = some ⟨oc_Disk_sure, od_Disk_sure, .func (PySem.W.fnOf "sure" "Disk.sure" (defArgs s_Disk_sure) (defBody s_Disk_sure) (defScope s_Disk_sure) .none kV_Disk_sure dc_Disk_sure pm_Disk_sure an_Disk_sure cd_Disk_sure ct_Disk_sure), sl_Disk_sure⟩)
    (c_Disk_sure : PySem.W.codeIn K cd_Disk_sure "Disk.sure" = true)
    (k_Disk_sure : PySem.W.keepIn K (.ref a_Disk_sure) = true)
    {a_Disk__put : Addr}
    {od_Disk__put an_Disk__put : Option Addr} {sl_Disk__put : Array (Option Value)} {oc_Disk__put kV_Disk__put dc_Disk__put pm_Disk__put cd_Disk__put ct_Disk__put : Value}
    (l_Disk__put : K.lookup a_Disk__put = some ⟨oc_Disk__put, od_Disk__put, .func (PySem.W.fnOf "_put" "Disk._put" (defArgs s_Disk__put) (defBody s_Disk__put) (defScope s_Disk__put) .none kV_Disk__put dc_Disk__put pm_Disk__put an_Disk__put cd_Disk__put ct_Disk__put), sl_Disk__put⟩)
    (c_Disk__put : PySem.W.codeIn K cd_Disk__put "Disk._put" = true)
    (k_Disk__put : PySem.W.keepIn K (.ref a_Disk__put) = true)
    {aC_Plan : Addr}
    (g_Plan : PySem.W.nsIn K mainGlobals "Plan" = some (some (.ref aC_Plan)))
    (pg_Plan : PySem.W.plainGet K aC_Plan Str.empty = true)
    (hd_Plan : PySem.W.hasDictIn K aC_Plan = true)
    (po_Plan : PySem.W.plainOver K aC_Plan = true)
    (sa_Plan : PySem.W.findIn K (.ref aC_Plan) "__setattr__" = some (some (.builtin "object.__setattr__")))
    (n_Plan_blocks : PySem.W.findIn K (.ref aC_Plan) "blocks" = some none)
    (n_Plan_nodes : PySem.W.findIn K (.ref aC_Plan) "nodes" = some none)
    (n_Plan_slots : PySem.W.findIn K (.ref aC_Plan) "slots" = some none)
    (n_Plan_maps : PySem.W.findIn K (.ref aC_Plan) "maps" = some none)
    (n_Plan_first_node : PySem.W.findIn K (.ref aC_Plan) "first_node" = some none)
    (n_Plan_first_data : PySem.W.findIn K (.ref aC_Plan) "first_data" = some none)
    (mk1_Plan : PySem.W.makesIn K aC_Plan = true)
    (mk2_Plan : PySem.W.findIn K (.ref aC_Plan) "__init__" = some (some (.ref a_Plan___init__)))
    (mk3_Plan : PySem.W.isFn K (.ref a_Plan___init__) = true)
    (mk4_Plan : PySem.W.keepIn K (.ref aC_Plan) = true)
    {mcv_Plan : Value}
    (tp_Plan : PySem.W.typeIn K (.ref aC_Plan) = some mcv_Plan)
    (rd_Plan : PySem.W.readsIn K aC_Plan mcv_Plan = true)
    (ga_Plan : PySem.W.specialIn K (.ref aC_Plan) "__getattribute__" = some (some (.builtin "type.__getattribute__")))
    {tv_Plan_WIDTH : Tok}
    (v_Plan_WIDTH : PySem.W.findCls K (.ref aC_Plan) mcv_Plan "WIDTH" = some (.val (.int 8 tv_Plan_WIDTH)))
    {tc_Plan_WIDTH : Tok}
    (o_Plan_WIDTH : PySem.W.findIn K (.ref aC_Plan) "WIDTH" = some (some (.int 8 tc_Plan_WIDTH)))
    (og_Plan_WIDTH : PySem.W.specialIn K (.int 8 tc_Plan_WIDTH) "__get__" = some none)
    {aC_Disk : Addr}
    (g_Disk : PySem.W.nsIn K mainGlobals "Disk" = some (some (.ref aC_Disk)))
    (pg_Disk : PySem.W.plainGet K aC_Disk Str.empty = true)
    (hd_Disk : PySem.W.hasDictIn K aC_Disk = true)
    (po_Disk : PySem.W.plainOver K aC_Disk = true)
    (sa_Disk : PySem.W.findIn K (.ref aC_Disk) "__setattr__" = some (some (.builtin "object.__setattr__")))
    (n_Disk_plan : PySem.W.findIn K (.ref aC_Disk) "plan" = some none)
    (n_Disk_home : PySem.W.findIn K (.ref aC_Disk) "home" = some none)
    (n_Disk_log : PySem.W.findIn K (.ref aC_Disk) "log" = some none)
    (n_Disk_head : PySem.W.findIn K (.ref aC_Disk) "head" = some none)
    (n_Disk_last : PySem.W.findIn K (.ref aC_Disk) "last" = some none)
    (n_Disk__pending : PySem.W.findIn K (.ref aC_Disk) "_pending" = some none)
    (mk1_Disk : PySem.W.makesIn K aC_Disk = true)
    (mk2_Disk : PySem.W.findIn K (.ref aC_Disk) "__init__" = some (some (.ref a_Disk___init__)))
    (mk3_Disk : PySem.W.isFn K (.ref a_Disk___init__) = true)
    (mk4_Disk : PySem.W.keepIn K (.ref aC_Disk) = true)
    (m1_Disk_issue : PySem.W.findIn K (.ref aC_Disk) "issue" = some (some (.ref a_Disk_issue)))
    (m2_Disk_issue : PySem.W.isFn K (.ref a_Disk_issue) = true)
    (m1_Disk_busy : PySem.W.findIn K (.ref aC_Disk) "busy" = some (some (.ref a_Disk_busy)))
    (m2_Disk_busy : PySem.W.isFn K (.ref a_Disk_busy) = true)
    (m1_Disk_sure : PySem.W.findIn K (.ref aC_Disk) "sure" = some (some (.ref a_Disk_sure)))
    (m2_Disk_sure : PySem.W.isFn K (.ref a_Disk_sure) = true)
    (m1_Disk__put : PySem.W.findIn K (.ref aC_Disk) "_put" = some (some (.ref a_Disk__put)))
    (m2_Disk__put : PySem.W.isFn K (.ref a_Disk__put) = true)
    {t_LEAST_BLOCKS : Tok}
    (gc_LEAST_BLOCKS : PySem.W.nsIn K mainGlobals "LEAST_BLOCKS" = some (some (.int 8 t_LEAST_BLOCKS)))
    {t_MOST_BLOCKS : Tok}
    (gc_MOST_BLOCKS : PySem.W.nsIn K mainGlobals "MOST_BLOCKS" = some (some (.int 64 t_MOST_BLOCKS)))
    {t_LEAST_NODES : Tok}
    (gc_LEAST_NODES : PySem.W.nsIn K mainGlobals "LEAST_NODES" = some (some (.int 2 t_LEAST_NODES)))
    {t_MOST_NODES : Tok}
    (gc_MOST_NODES : PySem.W.nsIn K mainGlobals "MOST_NODES" = some (some (.int 16 t_MOST_NODES)))
    {t_MOST_SLOTS : Tok}
    (gc_MOST_SLOTS : PySem.W.nsIn K mainGlobals "MOST_SLOTS" = some (some (.int 200 t_MOST_SLOTS)))
    {t_LEAST_DATA : Tok}
    (gc_LEAST_DATA : PySem.W.nsIn K mainGlobals "LEAST_DATA" = some (some (.int 2 t_LEAST_DATA)))
    {t_FIRST_MAP : Tok}
    (gc_FIRST_MAP : PySem.W.nsIn K mainGlobals "FIRST_MAP" = some (some (.int 2 t_FIRST_MAP)))
    {t_CELL_MOST : Tok}
    (gc_CELL_MOST : PySem.W.nsIn K mainGlobals "CELL_MOST" = some (some (.int 999999999 t_CELL_MOST)))
    {t_BLOCK_MOST : Tok}
    (gc_BLOCK_MOST : PySem.W.nsIn K mainGlobals "BLOCK_MOST" = some (some (.int 63 t_BLOCK_MOST)))
    {t_MOST_LOT : Tok}
    (gc_MOST_LOT : PySem.W.nsIn K mainGlobals "MOST_LOT" = some (some (.int 999999 t_MOST_LOT)))
    {t_MOST_SLOT : Tok}
    (gc_MOST_SLOT : PySem.W.nsIn K mainGlobals "MOST_SLOT" = some (some (.int 199 t_MOST_SLOT)))
    {t_NO_SLOT : Tok}
    (gc_NO_SLOT : PySem.W.nsIn K mainGlobals "NO_SLOT" = some (some (.int (-1) t_NO_SLOT)))
    (nb_abs : PySem.W.nsIn K mainGlobals "abs" = some none)
    (nb_all : PySem.W.nsIn K mainGlobals "all" = some none)
    (nb_any : PySem.W.nsIn K mainGlobals "any" = some none)
    (nb_bool : PySem.W.nsIn K mainGlobals "bool" = some none)
    (nb_enumerate : PySem.W.nsIn K mainGlobals "enumerate" = some none)
    (nb_int : PySem.W.nsIn K mainGlobals "int" = some none)
    (nb_isinstance : PySem.W.nsIn K mainGlobals "isinstance" = some none)
    (nb_len : PySem.W.nsIn K mainGlobals "len" = some none)
    (nb_list : PySem.W.nsIn K mainGlobals "list" = some none)
    (nb_max : PySem.W.nsIn K mainGlobals "max" = some none)
    (nb_range : PySem.W.nsIn K mainGlobals "range" = some none)
    (nb_tuple : PySem.W.nsIn K mainGlobals "tuple" = some none)
    (nb_zip : PySem.W.nsIn K mainGlobals "zip" = some none)
    : Nonempty (Tx K mg) := ⟨{
      f_is_number := a_is_number,
      fd_is_number := PySem.W.fnOf "is_number" "is_number" (defArgs s_is_number) (defBody s_is_number) (defScope s_is_number) .none kV_is_number dc_is_number pm_is_number an_is_number cd_is_number ct_is_number,
      F_is_number := fun_mk (st := s_is_number) l_is_number c_is_number k_is_number,
      mg_is_number := PySem.W.mg_of X G g_is_number,
      f_is_cell := a_is_cell,
      fd_is_cell := PySem.W.fnOf "is_cell" "is_cell" (defArgs s_is_cell) (defBody s_is_cell) (defScope s_is_cell) .none kV_is_cell dc_is_cell pm_is_cell an_is_cell cd_is_cell ct_is_cell,
      F_is_cell := fun_mk (st := s_is_cell) l_is_cell c_is_cell k_is_cell,
      mg_is_cell := PySem.W.mg_of X G g_is_cell,
      f_is_block := a_is_block,
      fd_is_block := PySem.W.fnOf "is_block" "is_block" (defArgs s_is_block) (defBody s_is_block) (defScope s_is_block) .none kV_is_block dc_is_block pm_is_block an_is_block cd_is_block ct_is_block,
      F_is_block := fun_mk (st := s_is_block) l_is_block c_is_block k_is_block,
      mg_is_block := PySem.W.mg_of X G g_is_block,
      f_is_cell_row := a_is_cell_row,
      fd_is_cell_row := PySem.W.fnOf "is_cell_row" "is_cell_row" (defArgs s_is_cell_row) (defBody s_is_cell_row) (defScope s_is_cell_row) .none kV_is_cell_row dc_is_cell_row pm_is_cell_row an_is_cell_row cd_is_cell_row ct_is_cell_row,
      F_is_cell_row := fun_mk (st := s_is_cell_row) l_is_cell_row c_is_cell_row k_is_cell_row,
      mg_is_cell_row := PySem.W.mg_of X G g_is_cell_row,
      cc_is_cell_row := ac_is_cell_row,
      P_is_cell_row := He.tabOf K ac_is_cell_row,
      code_is_cell_row := cc1_is_cell_row,
      ch_is_cell_row := ch1_is_cell_row,
      cn_is_cell_row := cn1_is_cell_row,
      f_is_ascending := a_is_ascending,
      fd_is_ascending := PySem.W.fnOf "is_ascending" "is_ascending" (defArgs s_is_ascending) (defBody s_is_ascending) (defScope s_is_ascending) .none kV_is_ascending dc_is_ascending pm_is_ascending an_is_ascending cd_is_ascending ct_is_ascending,
      F_is_ascending := fun_mk (st := s_is_ascending) l_is_ascending c_is_ascending k_is_ascending,
      mg_is_ascending := PySem.W.mg_of X G g_is_ascending,
      cc_is_ascending := ac_is_ascending,
      P_is_ascending := He.tabOf K ac_is_ascending,
      code_is_ascending := cc1_is_ascending,
      ch_is_ascending := ch1_is_ascending,
      cn_is_ascending := cn1_is_ascending,
      f_is_pair := a_is_pair,
      fd_is_pair := PySem.W.fnOf "_is_pair" "_is_pair" (defArgs s_is_pair) (defBody s_is_pair) (defScope s_is_pair) .none kV_is_pair dc_is_pair pm_is_pair an_is_pair cd_is_pair ct_is_pair,
      F_is_pair := fun_mk (st := s_is_pair) l_is_pair c_is_pair k_is_pair,
      mg_is_pair := PySem.W.mg_of X G g_is_pair,
      f_are_pairs := a_are_pairs,
      fd_are_pairs := PySem.W.fnOf "_are_pairs" "_are_pairs" (defArgs s_are_pairs) (defBody s_are_pairs) (defScope s_are_pairs) .none kV_are_pairs dc_are_pairs pm_are_pairs an_are_pairs cd_are_pairs ct_are_pairs,
      F_are_pairs := fun_mk (st := s_are_pairs) l_are_pairs c_are_pairs k_are_pairs,
      mg_are_pairs := PySem.W.mg_of X G g_are_pairs,
      cc_are_pairs := ac_are_pairs,
      P_are_pairs := He.tabOf K ac_are_pairs,
      code_are_pairs := cc1_are_pairs,
      ch_are_pairs := ch1_are_pairs,
      cn_are_pairs := cn1_are_pairs,
      f_are_revokes := a_are_revokes,
      fd_are_revokes := PySem.W.fnOf "_are_revokes" "_are_revokes" (defArgs s_are_revokes) (defBody s_are_revokes) (defScope s_are_revokes) .none kV_are_revokes dc_are_revokes pm_are_revokes an_are_revokes cd_are_revokes ct_are_revokes,
      F_are_revokes := fun_mk (st := s_are_revokes) l_are_revokes c_are_revokes k_are_revokes,
      mg_are_revokes := PySem.W.mg_of X G g_are_revokes,
      cc_are_revokes := ac_are_revokes,
      P_are_revokes := He.tabOf K ac_are_revokes,
      code_are_revokes := cc1_are_revokes,
      ch_are_revokes := ch1_are_revokes,
      cn_are_revokes := cn1_are_revokes,
      f_is_record := a_is_record,
      fd_is_record := PySem.W.fnOf "is_record" "is_record" (defArgs s_is_record) (defBody s_is_record) (defScope s_is_record) .none kV_is_record dc_is_record pm_is_record an_is_record cd_is_record ct_is_record,
      F_is_record := fun_mk (st := s_is_record) l_is_record c_is_record k_is_record,
      mg_is_record := PySem.W.mg_of X G g_is_record,
      f_fits_plan := a_fits_plan,
      fd_fits_plan := PySem.W.fnOf "fits_plan" "fits_plan" (defArgs s_fits_plan) (defBody s_fits_plan) (defScope s_fits_plan) .none kV_fits_plan dc_fits_plan pm_fits_plan an_fits_plan cd_fits_plan ct_fits_plan,
      F_fits_plan := fun_mk (st := s_fits_plan) l_fits_plan c_fits_plan k_fits_plan,
      mg_fits_plan := PySem.W.mg_of X G g_fits_plan,
      cc_fits_plan := ac_fits_plan,
      P_fits_plan := He.tabOf K ac_fits_plan,
      code_fits_plan := cc1_fits_plan,
      ch_fits_plan := ch1_fits_plan,
      cn_fits_plan := cn1_fits_plan,
      f_live_copies := a_live_copies,
      fd_live_copies := PySem.W.fnOf "live_copies" "live_copies" (defArgs s_live_copies) (defBody s_live_copies) (defScope s_live_copies) .none kV_live_copies dc_live_copies pm_live_copies an_live_copies cd_live_copies ct_live_copies,
      F_live_copies := fun_mk (st := s_live_copies) l_live_copies c_live_copies k_live_copies,
      mg_live_copies := PySem.W.mg_of X G g_live_copies,
      f_live_copy := a_live_copy,
      fd_live_copy := PySem.W.fnOf "live_copy" "live_copy" (defArgs s_live_copy) (defBody s_live_copy) (defScope s_live_copy) .none kV_live_copy dc_live_copy pm_live_copy an_live_copy cd_live_copy ct_live_copy,
      F_live_copy := fun_mk (st := s_live_copy) l_live_copy c_live_copy k_live_copy,
      mg_live_copy := PySem.W.mg_of X G g_live_copy,
      f_cells_found := a_cells_found,
      fd_cells_found := PySem.W.fnOf "cells_found" "cells_found" (defArgs s_cells_found) (defBody s_cells_found) (defScope s_cells_found) .none kV_cells_found dc_cells_found pm_cells_found an_cells_found cd_cells_found ct_cells_found,
      F_cells_found := fun_mk (st := s_cells_found) l_cells_found c_cells_found k_cells_found,
      mg_cells_found := PySem.W.mg_of X G g_cells_found,
      f_cells_after := a_cells_after,
      fd_cells_after := PySem.W.fnOf "cells_after" "cells_after" (defArgs s_cells_after) (defBody s_cells_after) (defScope s_cells_after) .none kV_cells_after dc_cells_after pm_cells_after an_cells_after cd_cells_after ct_cells_after,
      F_cells_after := fun_mk (st := s_cells_after) l_cells_after c_cells_after k_cells_after,
      mg_cells_after := PySem.W.mg_of X G g_cells_after,
      f_is_place := a_is_place,
      fd_is_place := PySem.W.fnOf "_is_place" "_is_place" (defArgs s_is_place) (defBody s_is_place) (defScope s_is_place) .none kV_is_place dc_is_place pm_is_place an_is_place cd_is_place ct_is_place,
      F_is_place := fun_mk (st := s_is_place) l_is_place c_is_place k_is_place,
      mg_is_place := PySem.W.mg_of X G g_is_place,
      f_is_content := a_is_content,
      fd_is_content := PySem.W.fnOf "_is_content" "_is_content" (defArgs s_is_content) (defBody s_is_content) (defScope s_is_content) .none kV_is_content dc_is_content pm_is_content an_is_content cd_is_content ct_is_content,
      F_is_content := fun_mk (st := s_is_content) l_is_content c_is_content k_is_content,
      mg_is_content := PySem.W.mg_of X G g_is_content,
      f_Lfeed := a_Lfeed,
      fd_Lfeed := PySem.W.fnOf "_law_feed" "_law_feed" (defArgs s_Lfeed) (defBody s_Lfeed) (defScope s_Lfeed) .none kV_Lfeed dc_Lfeed pm_Lfeed an_Lfeed cd_Lfeed ct_Lfeed,
      F_Lfeed := fun_mk (st := s_Lfeed) l_Lfeed c_Lfeed k_Lfeed,
      mg_Lfeed := PySem.W.mg_of X G g_Lfeed,
      f_Lpick := a_Lpick,
      fd_Lpick := PySem.W.fnOf "_law_pick" "_law_pick" (defArgs s_Lpick) (defBody s_Lpick) (defScope s_Lpick) .none kV_Lpick dc_Lpick pm_Lpick an_Lpick cd_Lpick ct_Lpick,
      F_Lpick := fun_mk (st := s_Lpick) l_Lpick c_Lpick k_Lpick,
      mg_Lpick := PySem.W.mg_of X G g_Lpick,
      f_Lcells := a_Lcells,
      fd_Lcells := PySem.W.fnOf "_law_cells" "_law_cells" (defArgs s_Lcells) (defBody s_Lcells) (defScope s_Lcells) .none kV_Lcells dc_Lcells pm_Lcells an_Lcells cd_Lcells ct_Lcells,
      F_Lcells := fun_mk (st := s_Lcells) l_Lcells c_Lcells k_Lcells,
      mg_Lcells := PySem.W.mg_of X G g_Lcells,
      f_Lmark := a_Lmark,
      fd_Lmark := PySem.W.fnOf "_law_mark" "_law_mark" (defArgs s_Lmark) (defBody s_Lmark) (defScope s_Lmark) .none kV_Lmark dc_Lmark pm_Lmark an_Lmark cd_Lmark ct_Lmark,
      F_Lmark := fun_mk (st := s_Lmark) l_Lmark c_Lmark k_Lmark,
      mg_Lmark := PySem.W.mg_of X G g_Lmark,
      f_Lput := a_Lput,
      fd_Lput := PySem.W.fnOf "_law_put" "_law_put" (defArgs s_Lput) (defBody s_Lput) (defScope s_Lput) .none kV_Lput dc_Lput pm_Lput an_Lput cd_Lput ct_Lput,
      F_Lput := fun_mk (st := s_Lput) l_Lput c_Lput k_Lput,
      mg_Lput := PySem.W.mg_of X G g_Lput,
      f_Lfill := a_Lfill,
      fd_Lfill := PySem.W.fnOf "_law_fill" "_law_fill" (defArgs s_Lfill) (defBody s_Lfill) (defScope s_Lfill) .none kV_Lfill dc_Lfill pm_Lfill an_Lfill cd_Lfill ct_Lfill,
      F_Lfill := fun_mk (st := s_Lfill) l_Lfill c_Lfill k_Lfill,
      mg_Lfill := PySem.W.mg_of X G g_Lfill,
      f_Lstruck := a_Lstruck,
      fd_Lstruck := PySem.W.fnOf "_law_struck" "_law_struck" (defArgs s_Lstruck) (defBody s_Lstruck) (defScope s_Lstruck) .none kV_Lstruck dc_Lstruck pm_Lstruck an_Lstruck cd_Lstruck ct_Lstruck,
      F_Lstruck := fun_mk (st := s_Lstruck) l_Lstruck c_Lstruck k_Lstruck,
      mg_Lstruck := PySem.W.mg_of X G g_Lstruck,
      f_Ldue := a_Ldue,
      fd_Ldue := PySem.W.fnOf "_law_due" "_law_due" (defArgs s_Ldue) (defBody s_Ldue) (defScope s_Ldue) .none kV_Ldue dc_Ldue pm_Ldue an_Ldue cd_Ldue ct_Ldue,
      F_Ldue := fun_mk (st := s_Ldue) l_Ldue c_Ldue k_Ldue,
      mg_Ldue := PySem.W.mg_of X G g_Ldue,
      f_Ldue_cells := a_Ldue_cells,
      fd_Ldue_cells := PySem.W.fnOf "_law_due_cells" "_law_due_cells" (defArgs s_Ldue_cells) (defBody s_Ldue_cells) (defScope s_Ldue_cells) .none kV_Ldue_cells dc_Ldue_cells pm_Ldue_cells an_Ldue_cells cd_Ldue_cells ct_Ldue_cells,
      F_Ldue_cells := fun_mk (st := s_Ldue_cells) l_Ldue_cells c_Ldue_cells k_Ldue_cells,
      mg_Ldue_cells := PySem.W.mg_of X G g_Ldue_cells,
      f_Lnumbers := a_Lnumbers,
      fd_Lnumbers := PySem.W.fnOf "_law_numbers" "_law_numbers" (defArgs s_Lnumbers) (defBody s_Lnumbers) (defScope s_Lnumbers) .none kV_Lnumbers dc_Lnumbers pm_Lnumbers an_Lnumbers cd_Lnumbers ct_Lnumbers,
      F_Lnumbers := fun_mk (st := s_Lnumbers) l_Lnumbers c_Lnumbers k_Lnumbers,
      mg_Lnumbers := PySem.W.mg_of X G g_Lnumbers,
      f_Lagrees := a_Lagrees,
      fd_Lagrees := PySem.W.fnOf "_law_agrees" "_law_agrees" (defArgs s_Lagrees) (defBody s_Lagrees) (defScope s_Lagrees) .none kV_Lagrees dc_Lagrees pm_Lagrees an_Lagrees cd_Lagrees ct_Lagrees,
      F_Lagrees := fun_mk (st := s_Lagrees) l_Lagrees c_Lagrees k_Lagrees,
      mg_Lagrees := PySem.W.mg_of X G g_Lagrees,
      f_law := a_law,
      fd_law := PySem.W.fnOf "law" "law" (defArgs s_law) (defBody s_law) (defScope s_law) .none kV_law dc_law pm_law an_law cd_law ct_law,
      F_law := fun_mk (st := s_law) l_law c_law k_law,
      mg_law := PySem.W.mg_of X G g_law,
      f_Plan___init__ := a_Plan___init__,
      fd_Plan___init__ := PySem.W.fnOf "__init__" "Plan.__init__" (defArgs s_Plan___init__) (defBody s_Plan___init__) (defScope s_Plan___init__) .none kV_Plan___init__ dc_Plan___init__ pm_Plan___init__ an_Plan___init__ cd_Plan___init__ ct_Plan___init__,
      F_Plan___init__ := fun_mk (st := s_Plan___init__) l_Plan___init__ c_Plan___init__ k_Plan___init__,
      f_Disk___init__ := a_Disk___init__,
      fd_Disk___init__ := PySem.W.fnOf "__init__" "Disk.__init__" (defArgs s_Disk___init__) (defBody s_Disk___init__) (defScope s_Disk___init__) .none kV_Disk___init__ dc_Disk___init__ pm_Disk___init__ an_Disk___init__ cd_Disk___init__ ct_Disk___init__,
      F_Disk___init__ := fun_mk (st := s_Disk___init__) l_Disk___init__ c_Disk___init__ k_Disk___init__,
      f_Disk_issue := a_Disk_issue,
      fd_Disk_issue := PySem.W.fnOf "issue" "Disk.issue" (defArgs s_Disk_issue) (defBody s_Disk_issue) (defScope s_Disk_issue) .none kV_Disk_issue dc_Disk_issue pm_Disk_issue an_Disk_issue cd_Disk_issue ct_Disk_issue,
      F_Disk_issue := fun_mk (st := s_Disk_issue) l_Disk_issue c_Disk_issue k_Disk_issue,
      f_Disk_busy := a_Disk_busy,
      fd_Disk_busy := PySem.W.fnOf "busy" "Disk.busy" (defArgs s_Disk_busy) (defBody s_Disk_busy) (defScope s_Disk_busy) .none kV_Disk_busy dc_Disk_busy pm_Disk_busy an_Disk_busy cd_Disk_busy ct_Disk_busy,
      F_Disk_busy := fun_mk (st := s_Disk_busy) l_Disk_busy c_Disk_busy k_Disk_busy,
      cc_Disk_busy := ac_Disk_busy,
      P_Disk_busy := He.tabOf K ac_Disk_busy,
      code_Disk_busy := cc1_Disk_busy,
      ch_Disk_busy := ch1_Disk_busy,
      cn_Disk_busy := cn1_Disk_busy,
      f_Disk_sure := a_Disk_sure,
      fd_Disk_sure := PySem.W.fnOf "sure" "Disk.sure" (defArgs s_Disk_sure) (defBody s_Disk_sure) (defScope s_Disk_sure) .none kV_Disk_sure dc_Disk_sure pm_Disk_sure an_Disk_sure cd_Disk_sure ct_Disk_sure,
      F_Disk_sure := fun_mk (st := s_Disk_sure) l_Disk_sure c_Disk_sure k_Disk_sure,
      f_Disk__put := a_Disk__put,
      fd_Disk__put := PySem.W.fnOf "_put" "Disk._put" (defArgs s_Disk__put) (defBody s_Disk__put) (defScope s_Disk__put) .none kV_Disk__put dc_Disk__put pm_Disk__put an_Disk__put cd_Disk__put ct_Disk__put,
      F_Disk__put := fun_mk (st := s_Disk__put) l_Disk__put c_Disk__put k_Disk__put,
      C_Plan := aC_Plan,
      mg_Plan := PySem.W.mg_of X G g_Plan,
      cl_Plan := ⟨pg_Plan, hd_Plan, po_Plan, sa_Plan⟩,
      na_Plan_blocks := n_Plan_blocks,
      na_Plan_nodes := n_Plan_nodes,
      na_Plan_slots := n_Plan_slots,
      na_Plan_maps := n_Plan_maps,
      na_Plan_first_node := n_Plan_first_node,
      na_Plan_first_data := n_Plan_first_data,
      mk_Plan := ⟨mk1_Plan, mk2_Plan, mk3_Plan, mk4_Plan⟩,
      mc_Plan := mcv_Plan,
      cr_Plan := ⟨rd_Plan, ga_Plan⟩,
      cv_Plan_WIDTH := ⟨_, v_Plan_WIDTH, ⟨_, rfl⟩⟩,
      con_Plan_WIDTH := ⟨_, o_Plan_WIDTH, ⟨_, rfl⟩, og_Plan_WIDTH, by decide +kernel⟩,
      C_Disk := aC_Disk,
      mg_Disk := PySem.W.mg_of X G g_Disk,
      cl_Disk := ⟨pg_Disk, hd_Disk, po_Disk, sa_Disk⟩,
      na_Disk_plan := n_Disk_plan,
      na_Disk_home := n_Disk_home,
      na_Disk_log := n_Disk_log,
      na_Disk_head := n_Disk_head,
      na_Disk_last := n_Disk_last,
      na_Disk__pending := n_Disk__pending,
      mk_Disk := ⟨mk1_Disk, mk2_Disk, mk3_Disk, mk4_Disk⟩,
      m_Disk_issue := ⟨m1_Disk_issue, m2_Disk_issue, k_Disk_issue⟩,
      m_Disk_busy := ⟨m1_Disk_busy, m2_Disk_busy, k_Disk_busy⟩,
      m_Disk_sure := ⟨m1_Disk_sure, m2_Disk_sure, k_Disk_sure⟩,
      m_Disk__put := ⟨m1_Disk__put, m2_Disk__put, k_Disk__put⟩,
      c_LEAST_BLOCKS := ⟨_, PySem.W.mg_of X G gc_LEAST_BLOCKS⟩,
      c_MOST_BLOCKS := ⟨_, PySem.W.mg_of X G gc_MOST_BLOCKS⟩,
      c_LEAST_NODES := ⟨_, PySem.W.mg_of X G gc_LEAST_NODES⟩,
      c_MOST_NODES := ⟨_, PySem.W.mg_of X G gc_MOST_NODES⟩,
      c_MOST_SLOTS := ⟨_, PySem.W.mg_of X G gc_MOST_SLOTS⟩,
      c_LEAST_DATA := ⟨_, PySem.W.mg_of X G gc_LEAST_DATA⟩,
      c_FIRST_MAP := ⟨_, PySem.W.mg_of X G gc_FIRST_MAP⟩,
      c_CELL_MOST := ⟨_, PySem.W.mg_of X G gc_CELL_MOST⟩,
      c_BLOCK_MOST := ⟨_, PySem.W.mg_of X G gc_BLOCK_MOST⟩,
      c_MOST_LOT := ⟨_, PySem.W.mg_of X G gc_MOST_LOT⟩,
      c_MOST_SLOT := ⟨_, PySem.W.mg_of X G gc_MOST_SLOT⟩,
      c_NO_SLOT := ⟨_, PySem.W.mg_of X G gc_NO_SLOT⟩,
      b_abs := PySem.W.mg_none_of X G nb_abs,
      b_all := PySem.W.mg_none_of X G nb_all,
      b_any := PySem.W.mg_none_of X G nb_any,
      b_bool := PySem.W.mg_none_of X G nb_bool,
      b_enumerate := PySem.W.mg_none_of X G nb_enumerate,
      b_int := PySem.W.mg_none_of X G nb_int,
      b_isinstance := PySem.W.mg_none_of X G nb_isinstance,
      b_len := PySem.W.mg_none_of X G nb_len,
      b_list := PySem.W.mg_none_of X G nb_list,
      b_max := PySem.W.mg_none_of X G nb_max,
      b_range := PySem.W.mg_none_of X G nb_range,
      b_tuple := PySem.W.mg_none_of X G nb_tuple,
      b_zip := PySem.W.mg_none_of X G nb_zip
    }⟩
end K46
open PySem PySem.W PyProof.Rows
set_option maxRecDepth 100000 in
set_option maxHeartbeats 0 in
theorem PySem.Challenge.cw_lotsandties_k46_live_copies_holds : PySem.Challenge.rw_lotsandties_k46_live_copies.Holds := by
  w_on; o_law; o_head (PySem.W.kmHook K46pre.heap_39 [2, 3, 15, 17, 18, 20, 21, 22, 29, 30, 31, 32, 35, 42, 43, 44, 47, 54, 55, 56, 59, 66, 67, 68, 71, 78, 79, 80, 83, 90, 91, 92, 95, 97, 98, 100, 101, 102, 104, 105, 107, 108, 109, 111, 112, 114, 115, 123, 125, 126, 128, 129, 130, 133, 134, 135, 136, 137, 138, 140, 141, 143, 144, 145, 147, 148, 150, 151, 152, 154, 155, 157, 158, 159, 161, 162, 164, 165, 166, 167, 168, 169, 170, 173, 175, 176, 178, 179, 180, 182, 183, 185, 186, 187, 189, 190, 192, 193, 194, 196, 197, 199, 200, 201, 203, 204, 206, 207, 208, 210, 211, 213, 214, 215, 218, 219, 220, 222, 223, 225, 226, 227, 229, 230, 232, 233, 234, 236, 237, 239, 240, 241, 243, 244, 246, 247, 248, 250, 251, 253, 254, 255, 257, 258, 260, 261, 262, 264, 265, 267, 268, 269, 271, 272, 274, 275, 276, 278, 279, 281, 282, 290, 293, 294, 295, 297, 298, 300, 301, 302, 303, 304, 305, 307, 308, 310, 311, 312, 313, 315, 316, 318, 319, 320, 322, 323, 325, 326, 327, 330, 331, 332, 334, 335, 337, 338, 339, 341, 342, 344, 345, 346, 348, 349, 351, 352, 353, 354, 355, 357, 358, 360, 361, 362, 364, 365, 367, 368, 369, 371, 372, 374, 375, 376, 378, 379, 381, 382, 383, 384, 385, 386, 387, 390, 392, 393, 395, 396, 397, 399, 400, 402, 403, 404, 406, 407, 409, 410, 411, 413, 414, 416, 417, 418, 420, 421, 423, 424, 425, 427, 428, 430, 431, 432, 434, 435, 437, 438, 439, 441, 442, 444, 445, 446, 448, 449, 451, 452, 453, 455, 456, 458, 459, 460, 462, 463, 465, 466, 467, 470, 471] (fun _ => by kernel_rfl) [16, 96, 103, 110, 124, 131, 139, 146, 153, 160, 174, 181, 188, 195, 202, 209, 216, 221, 228, 235, 242, 249, 256, 263, 270, 277, 291, 296, 306, 314, 321, 328, 333, 340, 347, 356, 363, 370, 377, 391, 398, 405, 412, 419, 426, 433, 440, 447, 454, 461, 468]); (case hw => w_witness2)
  k_fill
  refine LamX.walk_ofTs (l := PySem.Challenge.rw_lotsandties_k46_live_copies) (n := 63) (k := 13) (x := "_law_script") (CX := fun _ => L2.CX0) rfl (by decide) rfl ⟨rfl, by decide, by decide⟩ (fun w h Y => PySem.W.km_in_of Y) ?F (fun _ _ _ _ _ h => h)
  case F =>
    intro w mg fa h Y KX G hmg
    refine K46.fin_G (ts := [16, 96, 103, 110, 124, 131, 139, 146, 153, 160, 174, 181, 188, 195, 202, 209, 216, 221, 228, 235, 242, 249, 256, 263, 270, 277, 291, 296, 306, 314, 321, 328, 333, 340, 347, 356, 363, 370, 377, 391, 398, 405, 412, 419, 426, 433, 440, 447, 454, 461, 468]) ?_ hmg KX (PySem.W.km_tabs_of Y) (K46.tabs_all (by kernel_rfl))
    refine' K46.all_mk (w := w) KX G ?l_is_number ?c_is_number ?k_is_number ?g_is_number ?l_is_cell ?c_is_cell ?k_is_cell ?g_is_cell ?l_is_block ?c_is_block ?k_is_block ?g_is_block ?l_is_cell_row ?c_is_cell_row ?k_is_cell_row ?g_is_cell_row ?cc1_is_cell_row ?ch1_is_cell_row ?cn1_is_cell_row ?l_is_ascending ?c_is_ascending ?k_is_ascending ?g_is_ascending ?cc1_is_ascending ?ch1_is_ascending ?cn1_is_ascending ?l_is_pair ?c_is_pair ?k_is_pair ?g_is_pair ?l_are_pairs ?c_are_pairs ?k_are_pairs ?g_are_pairs ?cc1_are_pairs ?ch1_are_pairs ?cn1_are_pairs ?l_are_revokes ?c_are_revokes ?k_are_revokes ?g_are_revokes ?cc1_are_revokes ?ch1_are_revokes ?cn1_are_revokes ?l_is_record ?c_is_record ?k_is_record ?g_is_record ?l_fits_plan ?c_fits_plan ?k_fits_plan ?g_fits_plan ?cc1_fits_plan ?ch1_fits_plan ?cn1_fits_plan ?l_live_copies ?c_live_copies ?k_live_copies ?g_live_copies ?l_live_copy ?c_live_copy ?k_live_copy ?g_live_copy ?l_cells_found ?c_cells_found ?k_cells_found ?g_cells_found ?l_cells_after ?c_cells_after ?k_cells_after ?g_cells_after ?l_is_place ?c_is_place ?k_is_place ?g_is_place ?l_is_content ?c_is_content ?k_is_content ?g_is_content ?l_Lfeed ?c_Lfeed ?k_Lfeed ?g_Lfeed ?l_Lpick ?c_Lpick ?k_Lpick ?g_Lpick ?l_Lcells ?c_Lcells ?k_Lcells ?g_Lcells ?l_Lmark ?c_Lmark ?k_Lmark ?g_Lmark ?l_Lput ?c_Lput ?k_Lput ?g_Lput ?l_Lfill ?c_Lfill ?k_Lfill ?g_Lfill ?l_Lstruck ?c_Lstruck ?k_Lstruck ?g_Lstruck ?l_Ldue ?c_Ldue ?k_Ldue ?g_Ldue ?l_Ldue_cells ?c_Ldue_cells ?k_Ldue_cells ?g_Ldue_cells ?l_Lnumbers ?c_Lnumbers ?k_Lnumbers ?g_Lnumbers ?l_Lagrees ?c_Lagrees ?k_Lagrees ?g_Lagrees ?l_law ?c_law ?k_law ?g_law ?l_Plan___init__ ?c_Plan___init__ ?k_Plan___init__ ?l_Disk___init__ ?c_Disk___init__ ?k_Disk___init__ ?l_Disk_issue ?c_Disk_issue ?k_Disk_issue ?l_Disk_busy ?c_Disk_busy ?k_Disk_busy ?cc1_Disk_busy ?ch1_Disk_busy ?cn1_Disk_busy ?l_Disk_sure ?c_Disk_sure ?k_Disk_sure ?l_Disk__put ?c_Disk__put ?k_Disk__put ?g_Plan ?pg_Plan ?hd_Plan ?po_Plan ?sa_Plan ?n_Plan_blocks ?n_Plan_nodes ?n_Plan_slots ?n_Plan_maps ?n_Plan_first_node ?n_Plan_first_data ?mk1_Plan ?mk2_Plan ?mk3_Plan ?mk4_Plan ?tp_Plan ?rd_Plan ?ga_Plan ?v_Plan_WIDTH ?o_Plan_WIDTH ?og_Plan_WIDTH ?g_Disk ?pg_Disk ?hd_Disk ?po_Disk ?sa_Disk ?n_Disk_plan ?n_Disk_home ?n_Disk_log ?n_Disk_head ?n_Disk_last ?n_Disk__pending ?mk1_Disk ?mk2_Disk ?mk3_Disk ?mk4_Disk ?m1_Disk_issue ?m2_Disk_issue ?m1_Disk_busy ?m2_Disk_busy ?m1_Disk_sure ?m2_Disk_sure ?m1_Disk__put ?m2_Disk__put ?gc_LEAST_BLOCKS ?gc_MOST_BLOCKS ?gc_LEAST_NODES ?gc_MOST_NODES ?gc_MOST_SLOTS ?gc_LEAST_DATA ?gc_FIRST_MAP ?gc_CELL_MOST ?gc_BLOCK_MOST ?gc_MOST_LOT ?gc_MOST_SLOT ?gc_NO_SLOT ?nb_abs ?nb_all ?nb_any ?nb_bool ?nb_enumerate ?nb_int ?nb_isinstance ?nb_len ?nb_list ?nb_max ?nb_range ?nb_tuple ?nb_zip
    (case g_is_number => k_is)
    (case g_is_cell => k_is)
    (case g_is_block => k_is)
    (case g_is_cell_row => k_is)
    (case g_is_ascending => k_is)
    (case g_is_pair => k_is)
    (case g_are_pairs => k_is)
    (case g_are_revokes => k_is)
    (case g_is_record => k_is)
    (case g_fits_plan => k_is)
    (case g_live_copies => k_is)
    (case g_live_copy => k_is)
    (case g_cells_found => k_is)
    (case g_cells_after => k_is)
    (case g_is_place => k_is)
    (case g_is_content => k_is)
    (case g_Lfeed => k_is)
    (case g_Lpick => k_is)
    (case g_Lcells => k_is)
    (case g_Lmark => k_is)
    (case g_Lput => k_is)
    (case g_Lfill => k_is)
    (case g_Lstruck => k_is)
    (case g_Ldue => k_is)
    (case g_Ldue_cells => k_is)
    (case g_Lnumbers => k_is)
    (case g_Lagrees => k_is)
    (case g_law => k_is)
    (case g_Plan => k_is)
    (case g_Disk => k_is)
    (case tp_Plan => k_is)
    (case mk2_Plan => k_is)
    (case mk2_Disk => k_is)
    (case m1_Disk_issue => k_is)
    (case m1_Disk_busy => k_is)
    (case m1_Disk_sure => k_is)
    (case m1_Disk__put => k_is)
    (case l_is_number => k_is)
    (case c_is_number => k_is)
    (case k_is_number => k_is)
    (case l_is_cell => k_is)
    (case c_is_cell => k_is)
    (case k_is_cell => k_is)
    (case l_is_block => k_is)
    (case c_is_block => k_is)
    (case k_is_block => k_is)
    (case l_is_cell_row => k_is)
    (case c_is_cell_row => k_is)
    (case k_is_cell_row => k_is)
    (case l_is_ascending => k_is)
    (case c_is_ascending => k_is)
    (case k_is_ascending => k_is)
    (case l_is_pair => k_is)
    (case c_is_pair => k_is)
    (case k_is_pair => k_is)
    (case l_are_pairs => k_is)
    (case c_are_pairs => k_is)
    (case k_are_pairs => k_is)
    (case l_are_revokes => k_is)
    (case c_are_revokes => k_is)
    (case k_are_revokes => k_is)
    (case l_is_record => k_is)
    (case c_is_record => k_is)
    (case k_is_record => k_is)
    (case l_fits_plan => k_is)
    (case c_fits_plan => k_is)
    (case k_fits_plan => k_is)
    (case l_live_copies => k_is)
    (case c_live_copies => k_is)
    (case k_live_copies => k_is)
    (case l_live_copy => k_is)
    (case c_live_copy => k_is)
    (case k_live_copy => k_is)
    (case l_cells_found => k_is)
    (case c_cells_found => k_is)
    (case k_cells_found => k_is)
    (case l_cells_after => k_is)
    (case c_cells_after => k_is)
    (case k_cells_after => k_is)
    (case l_is_place => k_is)
    (case c_is_place => k_is)
    (case k_is_place => k_is)
    (case l_is_content => k_is)
    (case c_is_content => k_is)
    (case k_is_content => k_is)
    (case l_Lfeed => k_is)
    (case c_Lfeed => k_is)
    (case k_Lfeed => k_is)
    (case l_Lpick => k_is)
    (case c_Lpick => k_is)
    (case k_Lpick => k_is)
    (case l_Lcells => k_is)
    (case c_Lcells => k_is)
    (case k_Lcells => k_is)
    (case l_Lmark => k_is)
    (case c_Lmark => k_is)
    (case k_Lmark => k_is)
    (case l_Lput => k_is)
    (case c_Lput => k_is)
    (case k_Lput => k_is)
    (case l_Lfill => k_is)
    (case c_Lfill => k_is)
    (case k_Lfill => k_is)
    (case l_Lstruck => k_is)
    (case c_Lstruck => k_is)
    (case k_Lstruck => k_is)
    (case l_Ldue => k_is)
    (case c_Ldue => k_is)
    (case k_Ldue => k_is)
    (case l_Ldue_cells => k_is)
    (case c_Ldue_cells => k_is)
    (case k_Ldue_cells => k_is)
    (case l_Lnumbers => k_is)
    (case c_Lnumbers => k_is)
    (case k_Lnumbers => k_is)
    (case l_Lagrees => k_is)
    (case c_Lagrees => k_is)
    (case k_Lagrees => k_is)
    (case l_law => k_is)
    (case c_law => k_is)
    (case k_law => k_is)
    (case l_Plan___init__ => k_is)
    (case c_Plan___init__ => k_is)
    (case k_Plan___init__ => k_is)
    (case l_Disk___init__ => k_is)
    (case c_Disk___init__ => k_is)
    (case k_Disk___init__ => k_is)
    (case l_Disk_issue => k_is)
    (case c_Disk_issue => k_is)
    (case k_Disk_issue => k_is)
    (case l_Disk_busy => k_is)
    (case c_Disk_busy => k_is)
    (case k_Disk_busy => k_is)
    (case l_Disk_sure => k_is)
    (case c_Disk_sure => k_is)
    (case k_Disk_sure => k_is)
    (case l_Disk__put => k_is)
    (case c_Disk__put => k_is)
    (case k_Disk__put => k_is)
    (case pg_Plan => k_is)
    (case hd_Plan => k_is)
    (case po_Plan => k_is)
    (case sa_Plan => k_is)
    (case n_Plan_blocks => k_is)
    (case n_Plan_nodes => k_is)
    (case n_Plan_slots => k_is)
    (case n_Plan_maps => k_is)
    (case n_Plan_first_node => k_is)
    (case n_Plan_first_data => k_is)
    (case mk1_Plan => k_is)
    (case mk3_Plan => k_is)
    (case mk4_Plan => k_is)
    (case rd_Plan => k_is)
    (case ga_Plan => k_is)
    (case v_Plan_WIDTH => k_is)
    (case o_Plan_WIDTH => k_is)
    (case og_Plan_WIDTH => k_is)
    (case pg_Disk => k_is)
    (case hd_Disk => k_is)
    (case po_Disk => k_is)
    (case sa_Disk => k_is)
    (case n_Disk_plan => k_is)
    (case n_Disk_home => k_is)
    (case n_Disk_log => k_is)
    (case n_Disk_head => k_is)
    (case n_Disk_last => k_is)
    (case n_Disk__pending => k_is)
    (case mk1_Disk => k_is)
    (case mk3_Disk => k_is)
    (case mk4_Disk => k_is)
    (case m2_Disk_issue => k_is)
    (case m2_Disk_busy => k_is)
    (case m2_Disk_sure => k_is)
    (case m2_Disk__put => k_is)
    (case gc_LEAST_BLOCKS => k_is)
    (case gc_MOST_BLOCKS => k_is)
    (case gc_LEAST_NODES => k_is)
    (case gc_MOST_NODES => k_is)
    (case gc_MOST_SLOTS => k_is)
    (case gc_LEAST_DATA => k_is)
    (case gc_FIRST_MAP => k_is)
    (case gc_CELL_MOST => k_is)
    (case gc_BLOCK_MOST => k_is)
    (case gc_MOST_LOT => k_is)
    (case gc_MOST_SLOT => k_is)
    (case gc_NO_SLOT => k_is)
    (case nb_abs => k_is)
    (case nb_all => k_is)
    (case nb_any => k_is)
    (case nb_bool => k_is)
    (case nb_enumerate => k_is)
    (case nb_int => k_is)
    (case nb_isinstance => k_is)
    (case nb_len => k_is)
    (case nb_list => k_is)
    (case nb_max => k_is)
    (case nb_range => k_is)
    (case nb_tuple => k_is)
    (case nb_zip => k_is)
    (case cc1_is_cell_row => first | rfl | k_is | kernel_rfl)
    (case cc1_is_ascending => first | rfl | k_is | kernel_rfl)
    (case cc1_are_pairs => first | rfl | k_is | kernel_rfl)
    (case cc1_are_revokes => first | rfl | k_is | kernel_rfl)
    (case cc1_fits_plan => first | rfl | k_is | kernel_rfl)
    (case cc1_Disk_busy => first | rfl | k_is | kernel_rfl)
    (case ch1_is_cell_row => first | rfl | k_is | kernel_rfl)
    (case ch1_is_ascending => first | rfl | k_is | kernel_rfl)
    (case ch1_are_pairs => first | rfl | k_is | kernel_rfl)
    (case ch1_are_revokes => first | rfl | k_is | kernel_rfl)
    (case ch1_fits_plan => first | rfl | k_is | kernel_rfl)
    (case ch1_Disk_busy => first | rfl | k_is | kernel_rfl)
    (case cn1_is_cell_row => first | rfl | k_is | kernel_rfl)
    (case cn1_is_ascending => first | rfl | k_is | kernel_rfl)
    (case cn1_are_pairs => first | rfl | k_is | kernel_rfl)
    (case cn1_are_revokes => first | rfl | k_is | kernel_rfl)
    (case cn1_fits_plan => first | rfl | k_is | kernel_rfl)
    (case cn1_Disk_busy => first | rfl | k_is | kernel_rfl)
