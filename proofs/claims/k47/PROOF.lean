import PyProof.Rows.All
import Wide.All
import OpenK.AllK
import Wide.FinOn
import HandS.ForMost
import HandS.IsInst
import HandS.Evl
import HandS.ClsMeth
import HandS.MakeKwOnly
import HandS.TryOnly
import HandS.ExcOwn
import HandS.ExcIs
import HandS.ExcCtx
import HandS.HotCalls
import HandS.WordsExc
import HandS.Conv
import HandS.FStr
import HandS.RaiseMore
import HandS.Style
import HandS.Small
import HandS.More
import HandS.Star
import KE.GoesMore
import HandS.Walk
import HandS.SetBool
import HandS.Strs
import HandS.SetFor
import HandS.SortInts
import HandS.SortRule
import HandS.HeadHook2
import KE.KOwnIter
import HandS.IterVal
import HandS.Lambda
import HandS.RevTup
import HandS.Rev
import HandS.EndTab
import HandS.TupMul
import HandS.Zip
import HandS.Dict
import HandS.StrMore
import HandS.HeadHook4
import KE.KNestM
import HandS.AnyAll
import HandS.GenOver
import PySem.Challenge.RW_lotsandties_k47_slots_that_are_read
set_option Elab.async false
set_option linter.all false
set_option maxRecDepth 100000
set_option maxHeartbeats 4000000
namespace Rg
open PySem PySem.Spec PyProof.Rows L2
/-! ### heaps -/
theorem same_upd {H : Hp} {p : Addr} {o : HO} (h : H p = none) : Same H (upd H p o) := fun b x e => by
  rw [upd_ne (ne_of_none e h)]
  exact e
theorem upd_id {H : Hp} {p : Addr} {o : HO} (h : H p = some o) : upd H p o = H := by
  funext b
  by_cases e : b = p
  · rw [e, upd_same, h]
  · rw [upd_ne e]
theorem yes_ {σ : L2.St} {H : Hp} {A B : Hp → Prop} (h : A H) : tYes σ H fun b H3 => if b = true then A H3 else B H3 := by
  show if true = true then A H else B H
  rw [if_pos rfl]
  exact h
/-- what is free behind a store was free, and is another place -/
theorem un {H : Hp} {a b : Addr} {o : HO} (e : upd H a o b = none) : H b = none := by
  by_cases z : b = a
  · rw [z, upd_same] at e; cases e
  · rw [upd_ne z] at e; exact e
theorem unn {H : Hp} {a b : Addr} {o : HO} (e : upd H a o b = none) : b ≠ a := fun z => by
  rw [z, upd_same] at e; cases e
theorem unn' {H : Hp} {a b : Addr} {o : HO} (e : upd H a o b = none) : a ≠ b := fun z => unn e z.symm
theorem upd_comm {H : Hp} {p q : Addr} {o o' : HO} (h : p ≠ q) : upd (upd H p o) q o' = upd (upd H q o') p o := by
  funext b
  by_cases e : b = p
  · rw [e, upd_same, upd_ne h, upd_same]
  · by_cases e2 : b = q
    · rw [e2, upd_same, upd_ne h.symm, upd_same]
    · rw [upd_ne e2, upd_ne e, upd_ne e, upd_ne e2]
theorem upd_app {H : Hp} {p : Addr} {fs : List Int} {x : Int} : upd (upd H p (.lst (fs.map V.int))) p (.lst (fs.map V.int ++ [V.int x])) = upd H p (.lst ((fs ++ [x]).map V.int)) := by
  rw [upd_upd, List.map_append]
  rfl
/-- kept but for what stands at S -/
def Kp (S : List Addr) (H H' : Hp) : Prop := ∀ x o, H x = some o → x ∉ S → H' x = some o
theorem Kp.refl {S : List Addr} {H : Hp} : Kp S H H := fun _ _ e _ => e
theorem Kp.new {S : List Addr} {H H1 : Hp} {a : Addr} {o : HO} (k : Kp S H H1) (h : H1 a = none) : Kp S H (upd H1 a o) := fun x u e n => by
  rw [upd_ne (ne_of_none (k x u e n) h)]
  exact k x u e n
theorem Kp.own {S : List Addr} {H H1 : Hp} {a : Addr} {o : HO} (k : Kp S H H1) (h : a ∈ S) : Kp S H (upd H1 a o) := fun x u e n => by
  have z : x ≠ a := fun z => by rw [z] at n; exact n h
  rw [upd_ne z]
  exact k x u e n
theorem Kp.own1 {p : Addr} {H H1 : Hp} {o : HO} (k : Kp [p] H H1) : Kp [p] H (upd H1 p o) := k.own (by simp)
theorem Kp.trans {S : List Addr} {H H1 H2 : Hp} (a : Kp S H H1) (b : Kp S H1 H2) : Kp S H H2 := fun x o e n => b x o (a x o e n) n
theorem Kp.same {S : List Addr} {H H1 H2 : Hp} (a : Kp S H H1) (b : Same H1 H2) : Kp S H H2 := fun x o e n => b x o (a x o e n)
theorem Kp.of {S : List Addr} {H H1 : Hp} (b : Same H H1) : Kp S H H1 := fun x o e _ => b x o e
theorem Kp.mono {S S' : List Addr} {H H1 : Hp} (a : Kp S H H1) (h : ∀ x, x ∈ S → x ∈ S') : Kp S' H H1 := fun x o e n => a x o e fun z => n (h x z)
theorem Kp.free {S : List Addr} {H H1 : Hp} {x : Addr} (a : Kp S H H1) (n : x ∉ S) (h : H1 x = none) : H x = none := by
  cases q : H x with
  | none => rfl
  | some o => rw [a x o q n] at h; cases h
theorem Kp.at1 {p x : Addr} {H H' : Hp} {o : HO} (k : Kp [p] H H') (e : H x = some o) (n : x ≠ p) : H' x = some o := k x o e (by simp [n])
theorem Kp.ret {a : Addr} {S : List Addr} {H H' : Hp} {o : HO} (k : Kp (a :: S) H H') (h : H a = none) : Kp S H H' := fun x u e n => k x u e (by
  intro z
  rcases List.mem_cons.mp z with z | z
  · rw [z, h] at e; cases e
  · exact n z)
theorem own_f {H H' : Hp} {p : Addr} {o : HO} (h : upd H p o = H') : H' p = some o ∧ Kp [p] H H' ∧ ∀ x, H' x = none → H x = none ∧ x ≠ p := by
  subst h
  exact ⟨upd_same, Kp.refl.own1, fun x e => ⟨un e, unn e⟩⟩
theorem new_f {H H' : Hp} {a : Addr} {o : HO} (h : upd H a o = H') (n : H a = none) : H' a = some o ∧ Same H H' ∧ ∀ x, H' x = none → H x = none ∧ x ≠ a := by
  subst h
  exact ⟨upd_same, same_upd n, fun x e => ⟨un e, unn e⟩⟩
/-- a whole-number constant of the module -/
theorem pe_gc {X : Cx} {x : Str} {n : Int} {pos : Pos} (hm : ∃ t, X.mg x = some (.int n t)) (hg : Gl X x := by rfl) (hd : (x == ("__debug__" : Str)) = false := by decide) : PE X (.Name x pos) (tC (.int n)) :=
  let ⟨t, h⟩ := hm
  pe_glob hg h ⟨t, rfl⟩ hd
/-- a text constant of the module -/
theorem pe_gs {X : Cx} {x z : Str} {pos : Pos} (hm : ∃ t, X.mg x = some (.str z t)) (hg : Gl X x := by rfl) (hd : (x == ("__debug__" : Str)) = false := by decide) : PE X (.Name x pos) (tC (.str z)) :=
  let ⟨t, h⟩ := hm
  pe_glob hg h ⟨t, rfl⟩ hd
/-- C.f, C a class of the module, f a value of the class -/
theorem pe_cv {X : Cx} {x f : Str} {C : Addr} {mc : Value} {v : V} {p pos : Pos} (hm : X.mg x = some (.ref C)) (r : ClX.CRead X.K C mc) (k : ∃ u, ClX.CVal X.K C mc f v u) (hg : Gl X x := by rfl) (hd : (x == ("__debug__" : Str)) = false := by decide)
    (hb : attributeBase (.Name x p) f X.env (eval (.Name x p) X.env) = eval (.Name x p) X.env := by rfl) : PE X (.Attribute (.Name x p) f pos) (tC v) := by
  obtain ⟨u, k⟩ := k
  have := (ClX.pe_cval (pos := pos) (pe_glob (X := X) (x := x) (v := .ref C) (u := .ref C) (pos := p) hg hm rfl hd) hb)
  exact ⟨fun pins s σ H Q I h => this.run pins s σ H Q I ⟨C, mc, v, u, rfl, r, k, h⟩⟩
/-! ### the same rules with the written part named (inside a comprehension) -/
section
variable {X : Cx} {K : PySem.W.Frag}
def rListOf (K : PySem.W.Frag) : List V → Hp → VK → Prop := fun xs H Q => ∃ p ys, xs = [.ref p] ∧ (SqL K H p ys ∨ SqT K H p ys) ∧ ∀ l, H l = none → Q (.ref l) (upd H l (.lst ys))
theorem pe_listof {e : Expr} {te : TE} {p pos : Pos} (he : PE X e te) (hm : X.mg "list" = none) (hK : X.K = K := by rfl) (hg : Gl X "list" := by rfl) (hs : starEach [e] X.env = (false, eval e X.env) :: starEach [] X.env := by rfl) : PE X (.Call (.Name "list" p) [e] [] pos) (tCB (rListOf K) (tCons te tNil)) := by
  subst hK
  exact pe_callTy call_list_of hg hm (by decide +kernel) (pa_cons he pa_nil hs) (he := hs)
theorem pe_fldK {e : Expr} {f : Str} {pos : Pos} {ta : TE} (he : PE X e ta) (hb : attributeBase e f X.env (eval e X.env) = eval e X.env) (hK : X.K = K := by rfl) : PE X (.Attribute e f pos) (tFld K ta f) := by
  subst hK
  exact pe_fld he hb
theorem pe_ixK {a b : Expr} {pos : Pos} {ta tb : TE} (ha : PE X a ta) (hb : PE X b tb) (hs : PlainIx b) (hK : X.K = K := by rfl) : PE X (.Subscript a b pos) (tOp (rIxL K) ta tb) := by
  subst hK
  exact pe_ix ix_list ha hb hs
theorem pe_lenK {e : Expr} {te : TE} {p pos : Pos} (he : PE X e te) (hm : X.mg "len" = none) (hK : X.K = K := by rfl) (hg : Gl X "len" := by rfl) (hs : starEach [e] X.env = (false, eval e X.env) :: starEach [] X.env := by rfl) : PE X (.Call (.Name "len" p) [e] [] pos) (tCB (fun xs H Q => ∃ p ys, xs = [.ref p] ∧ (SqL K H p ys ∨ SqT K H p ys) ∧ Q (.int ys.length) H) (tCons te tNil)) := by
  subst hK
  exact pe_callB call_len_seq hg hm (by decide +kernel) (pa_cons he pa_nil hs) (he := hs)
end
/-! ### static methods, called off the class -/
structure SMet (K : PySem.W.Frag) (C : Addr) (mc : Value) (m : Str) (g : Addr) : Prop where
  ex : ∃ p, PySem.W.findCls K (.ref C) mc m = some (.get (.builtin "staticmethod.__get__") (.ref p) .none (.ref C)) ∧ (∃ rest, PySem.W.recIn K p "staticmethod" = some (.ref g :: rest)) ∧ PySem.W.keepIn K (.ref g) = true
/-- C.m(e, ..), C the class at C, m a static method -/
def tSMeth (sp : Sp) (dvs : List V) (E : XK) (t : TA) : TE := fun σ H Q => t σ H fun vs H2 => sp (vs ++ dvs) H2 Q E
section
variable {X : Cx} {CX : CXT} {k : Nat} {C g : Addr} {mc : Value} {sp : Sp} {E : XK} {x : Str} {e : Expr} {es : List Expr} {m : Str} {p pos apos : Pos} {t : TA} {pl : Sem Bool} {fd : FuncData} {ps : List Str} {ds : List Value} {dvs : List V}
theorem pe_smeth (hmx : X.mg x = some (.ref C)) (r : ClX.CRead X.K C mc) (c : SMet X.K C mc m g) (F : FnOk X.prog X.w X.K X.mg X.base CX k g fd ps sp) (hr : Room k X.A) (hb : Binds X.K fd ps ds) (hd : Vals dvs ds) (hx : Passes CX X E) (ha : PA X (e :: es) t) (hg : Gl X x := by rfl) (hdb : (x == ("__debug__" : Str)) = false := by decide)
    (hst : starEach (e :: es) X.env = (false, eval e X.env) :: starEach es X.env := by rfl) (hpl : (backTo pos (starEach es X.env)).any (·.1) = false := by rfl)
    (ht : eval (.Call (.Attribute (.Name x p) m apos) (e :: es) [] pos) X.env = (do
      let ov ← eval (.Name x p) X.env
      standAt apos.atName
      let (f, first) ← holding [ov] (getMethod ov m pl)
      callWith pos f first (backTo pos (starEach (e :: es) X.env)) (backToKw pos (keywordEach [] X.env))) := by rfl) :
    PE X (.Call (.Attribute (.Name x p) m apos) (e :: es) [] pos) (tSMeth sp dvs E t) := by
  obtain ⟨q, at_, ⟨rest, hp⟩, hk⟩ := c.ex
  refine ⟨fun pins s σ H Q I h => ?_⟩
  refine PySem.W.methodCall_KW (pl := pl) (ld_glob I hg hmx ?_ hdb) ht
  refine PySem.W.method_cls I.kIn r.ga (PySem.W.cls_bind I.kIn r.rd at_ ?_)
  refine wpAny_call (PySem.W.sm_get (s := { s with toks := s.toks + 1 }) I.kIn hp (PySem.W.handed_on rfl ?_))
  refine PySem.W.callWith_K (f := .ref g) (first := []) (h₀ := X.base) I.ok.mod.kin hk (thn (ha.run pos pins _ σ H _ (I.tok _) h) fun us s1 ⟨vs, H1, I1, r1, q1⟩ => ⟨I1.kIn, ?_⟩) hst hpl
  exact run_fn F hr hb hd hx I1 r1 q1
end
/-! ### errors -/
theorem exm_sub {K : PySem.W.Frag} {D S : Addr} (h1 : PySem.W.subIn K (.ref S) (.type "BaseException") = some true) (h2 : PySem.W.isClsIn K S = true) (h3 : PySem.W.typeIn K (.ref S) = some (.type "type")) (h4 : PySem.W.subIn K (.ref D) (.ref S) = some true) :
    PySem.W.exmOne K (.ref D) (.ref S) = some true := by
  have e1 : (PySem.W.subIn K (.ref S) (.type "BaseException") == some true) = true := by rw [h1] <;> rfl
  have e2 : ((PySem.W.clsIn K S).isSome && PySem.W.typeIn K (.ref S) == some (.type "type")) = true := by
    have h2' : (PySem.W.clsIn K S).isSome = true := h2
    rw [h2', h3] <;> rfl
  show (if (PySem.W.subIn K (.ref S) (.type "BaseException") == some true) = true then (if ((PySem.W.clsIn K S).isSome && PySem.W.typeIn K (.ref S) == some (.type "type")) = true then PySem.W.subIn K (.ref D) (.ref S) else none) else none) = some true
  rw [if_pos e1, if_pos e2]
  exact h4
theorem kit_sub {K : PySem.W.Frag} {D S : Addr} {b : Bool} (hne : D ≠ S) (h2 : PySem.W.isClsIn K S = true) (h3 : PySem.W.typeIn K (.ref S) = some (.type "type")) (h4 : PySem.W.subIn K (.ref D) (.ref S) = some b) :
    PySem.W.kitOne K (.ref D) (.ref S) = some b := by
  have e2 : ((PySem.W.clsIn K S).isSome && PySem.W.typeIn K (.ref S) == some (.type "type")) = true := by
    have h2' : (PySem.W.clsIn K S).isSome = true := h2
    rw [h2', h3] <;> rfl
  unfold PySem.W.kitOne
  rw [if_neg (by intro z; exact hne (Value.ref.inj (beq_iff_eq.mp z)))]
  show (if ((PySem.W.clsIn K S).isSome && PySem.W.typeIn K (.ref S) == some (.type "type")) = true then PySem.W.subIn K (.ref D) (.ref S) else none) = some b
  rw [if_pos e2]
  exact h4
/-- a suite that is come to by an error of the class at D alone (no fields of its own) -/
def tOnly (cls : Value) (d : Option Addr) (D : Addr) (t : TS) : TS := fun E σ H => cls = .ref D ∧ d = none ∧ t E σ H
theorem pss_only {X : Cx} {sts : List Stmt} {t : TS} {cls : Value} {d : Option Addr} {D : Addr} (h : cls = .ref D → d = none → PSs X sts t) : PSs X sts (tOnly cls d D t) :=
  ⟨fun pins s σ H E I hh => (h hh.1 hh.2.1).run pins s σ H E I hh.2.2⟩
theorem kit_self {K : PySem.W.Frag} {D : Addr} : PySem.W.kitOne K (.ref D) (.ref D) = some true := by
  unfold PySem.W.kitOne
  rw [if_pos (beq_self_eq_true _)]
theorem dec_iv (a d : Int) : decide (V.int a = V.int d) = decide (a = d) := by
  by_cases e : a = d
  · subst e; simp
  · rw [decide_eq_false e, decide_eq_false fun q => e (V.int.inj q)]
end Rg
namespace Rg
open PySem PySem.Spec PyProof.Rows L2
/-! ### tests that are known -/
theorem wT {c A B : Prop} [Decidable c] (h : c) (a : A) : if decide c = true then A else B := by rw [decide_eq_true h, if_pos rfl]; exact a
theorem wF {c A B : Prop} [Decidable c] (h : ¬ c) (a : B) : if decide c = true then A else B := by rw [decide_eq_false h, if_neg Bool.false_ne_true]; exact a
theorem wTv {a b : Int} {A B : Prop} (h : a = b) (k : A) : if decide (V.int a = V.int b) = true then A else B := wT (by rw [h]) k
theorem wFv {a b : Int} {A B : Prop} (h : ¬ a = b) (k : B) : if decide (V.int a = V.int b) = true then A else B := wF (fun z => h (V.int.inj z)) k
theorem wI {a b : Int} {A B : Prop} (h1 : a = b → A) (h2 : ¬ a = b → B) : if decide (V.int a = V.int b) = true then A else B := by
  by_cases e : a = b
  · exact wTv e (h1 e)
  · exact wFv e (h2 e)
theorem wD {c A B : Prop} [Decidable c] (h1 : c → A) (h2 : ¬ c → B) : if decide c = true then A else B := by
  by_cases e : c
  · exact wT e (h1 e)
  · exact wF e (h2 e)
theorem wTn {c A B : Prop} [Decidable c] (h : ¬ c) (a : A) : if (!decide c) = true then A else B := by rw [decide_eq_false h]; exact iteT a
theorem wFn {c A B : Prop} [Decidable c] (h : c) (a : B) : if (!decide c) = true then A else B := by rw [decide_eq_true h]; exact iteF a
theorem wTb {b : Bool} {A B : Prop} (h : b = true) (a : A) : if b = true then A else B := by rw [if_pos h]; exact a
theorem wFb {b : Bool} {A B : Prop} (h : b = false) (a : B) : if b = true then A else B := by rw [if_neg (by rw [h]; decide)]; exact a
/-- what was free before may be written -/
theorem Kp.put {S : List Addr} {H H1 : Hp} {a : Addr} {o : HO} (k : Kp S H H1) (h : H a = none) : Kp S H (upd H1 a o) := fun x u e n => by
  rw [upd_ne (ne_of_none e h)]
  exact k x u e n
theorem wNT {a b : Int} {A B : Prop} (h : ¬ a = b) (k : A) : if (!decide (V.int a = V.int b)) = true then A else B := wTn (fun z => h (V.int.inj z)) k
theorem wNF {a b : Int} {A B : Prop} (h : a = b) (k : B) : if (!decide (V.int a = V.int b)) = true then A else B := wFn (by rw [h]) k
theorem wNe {a b : Int} {A B : Prop} (h1 : ¬ a = b → A) (h2 : a = b → B) : if (!decide (V.int a = V.int b)) = true then A else B := by
  by_cases e : a = b
  · exact wNF e (h2 e)
  · exact wNT e (h1 e)
theorem wND {c A B : Prop} [Decidable c] (h1 : ¬ c → A) (h2 : c → B) : if (!decide c) = true then A else B := by
  by_cases e : c
  · exact wFn e (h2 e)
  · exact wTn e (h1 e)
theorem CMul_l {i j : Int} (h : -(2 ^ 64) < i ∧ i < 2 ^ 64) : CMul i j := .inl h
theorem CMul_r {i j : Int} (h : -(2 ^ 64) < j ∧ j < 2 ^ 64) : CMul i j := .inr h
theorem lt_line {n : Nat} (h : n ≤ 10000) : n < sizeLine := Nat.lt_of_le_of_lt h (by decide)
/-- the slots written out -/
theorem sg {t : L2.St → Hp → Prop} {σ σ' : L2.St} {H : Hp} (e : σ = σ') (h : t σ' H) : t σ H := by rw [e]; exact h
theorem sgG {i : Nat} {v : V} {σ σ' : L2.St} {H : Hp} {k : L2.St → Hp → Prop} (e : σ.set i (some v) = σ') (h : k σ' H) : gName i v σ H k := by
  subst e
  exact h
end Rg
namespace Rg
open PySem PySem.Spec PyProof.Rows L2
/-! ### an error that a suite holds, handed to a def of one's own -/
section
variable {prog : Program} {w : World} {A : Around} {E : Value → Shared → Prop} {s : Shared}
/-- a walk over a list comes to its end while an error is handled -/
theorem list_end_hot {it l x1 : Addr} {i : Nat} {items} {Q : Option Value → Shared → Prop} (hot : HotX.HotAt A x1 s.heap) (hit : s.heap.IsListIter it l i) (hl : s.heap.IsList l items) (hx : items[i]? = none)
    (hQ : ∀ h', Heap.ExtBut it s.heap h' → Q none { s with heap := h' }) : wpAny (model prog w) A (pyNext (.ref it)) Q E s := by
  obtain ⟨hh, o1, vs1, h1, d1, c1⟩ := hot; obtain ⟨o, ho, hc, hd⟩ := id hit
  obtain ⟨ol, hol, _, nl, hdl⟩ := hl; unfold pyNext
  have ni : it ≠ x1 := fun z => by
    rw [← z, ho] at h1
    cases h1
    rw [hd] at d1
    cases d1
    simp at c1
  refine wpAny_bind (wpAny_attempt (wpAny_callSpecial?_slot (name := Str.ofString "__next__") hit.typeIs slot_listiter_next (wpAny_call_entry slot_listiter_next hit.typeIs entry_listiter_next ?_ (args_listiter_next _))))
  refine (show wpAny _ _ (field (.ref it) 0 >>= _) _ _ s from ?_); refine wpAny_bind (wpAny_field ho hd (x := .ref l) rfl ?_)
  refine (show wpAny _ _ (if (Value.ref l == Value.none) = true then _ else _) _ _ s from ?_); rw [if_neg (show ¬ ((Value.ref l == Value.none) = true) from Bool.false_ne_true)]
  refine (show wpAny _ _ (field (.ref it) 1 >>= _) _ _ s from ?_); refine wpAny_bind (wpAny_field ho hd (x := .int i 0) rfl ?_)
  refine (show wpAny _ _ (seqItems? (.ref l) >>= _) _ _ s from ?_); refine wpAny_bind (wpAny_seqItems hol hdl ?_)
  simp only [Int.toNat_natCast, hx]; refine wpAny_bind (wpAny_rule (wpAny_bind (wpAny_setField ho hd (by simp) ?_)))
  refine (show wpAny _ _ (newExc (.type "StopIteration") [] >>= _) _ _ _ from ?_); refine wpAny_bind ?_
  simp only [newExc, newTuple]; refine wpAny_bind (wpAny_newObj_type ?_ (by size_fits))
  refine wpAny_bind (m := firstArgMember _ _) (wpAny_of_eq (a := Value.none) (by first | rfl | (simp only [firstArgMember]; rfl)) ?_); refine wpAny_newObj_type ?_ (by size_fits)
  have g1 : ∀ f : Obj → Obj, (s.heap.update it f).get? x1 = some o1 := fun f => by rw [Heap.get?_update_other _ _ ni]; exact h1
  refine HotX.raiseNew_hot ⟨hh, o1, vs1, Heap.get?_push_of_some _ (Heap.get?_push_of_some _ (g1 _)), d1, c1⟩ (Nat.ne_of_lt (Heap.lt_size (Heap.get?_push_of_some _ (g1 _)))) (Heap.get?_push_size _ rfl) rfl (by first | (simp; done) | (simp; omega) | (simp only [Array.size_append]; simp; omega)) ?_
  refine wpAny_bind (wpAny_isInstance (T := "StopIteration") (b := true) ⟨_, Heap.get?_update_self _ (Heap.get?_push_size _ rfl) rfl, rfl⟩ isSubtype_stop ?_); refine wpAny_pure (hQ _ fun b o' nb e => ?_)
  have e2 : ∀ f oo, ((s.heap.update it f).push oo).get? b = some o' := fun f oo => (Heap.SameBut.update ..).extBut.push _ b o' nb e
  rw [Heap.get?_update_other _ _ (Nat.ne_of_gt (Heap.lt_size (e2 _ _)))]; exact Heap.get?_push_of_some _ (e2 _ _)
end
/-- the turns of a walk over a list while an error is handled -/
theorem turn_listH {P : Program} {w : World} {K : PySem.W.Frag} {tg : Expr} (a it : Addr) : L2H.TurnH P w K tg (Itl K a) [it] it (fun i h => h.IsListIter it a i) where
  mem := by simp
  obj := fun i h st b hb => (turn_list (P := P) (w := w) (K := K) (tg := tg) a it).obj i h st b hb
  keep := fun i h h' st k => (turn_list (P := P) (w := w) (K := K) (tg := tg) a it).keep i h h' st k
  item := by
    intro X hP hw hK hc i pins s σ H E I hf st hg; subst hP hw hK
    obtain ⟨xs, x, hq, hx⟩ := hg; obtain ⟨its, rv, p, hz⟩ := I.list hq
    obtain ⟨u, hu, ru⟩ := rv.get hx; obtain ⟨f0, f1, f2, f3, f4, f5⟩ := hf it (by simp)
    refine wpAny_pyNext_list_item st p.isList (x := u) (by simpa using hu) fun h' st' sb => ?_
    have I1 : Inv X pins σ H { s with heap := h' } := I.turned (t' := s.toks) (fun b o hb e => (sb.2 b hb).trans e) f0 f1 f3 f4 f5
    obtain ⟨o, e, c, d⟩ := id st'
    exact ⟨u, rfl, go_of (s := { s with heap := h' }) e c d (by decide) ⟨x, H, I1, ru, ⟨rfl, fun ys hy => by rw [I.list_inj hy hq]; exact hx⟩, st', fun b hb => (hf b hb).1⟩⟩
  done := by
    intro X hP hw hK hc i pins s σ H E I hf st hg; subst hP hw hK
    obtain ⟨xs, hq, hx⟩ := hg; obtain ⟨its, rv, p, hz⟩ := I.list hq
    obtain ⟨f0, f1, f2, f3, f4, f5⟩ := hf it (by simp); obtain ⟨x1, hot⟩ := hc.at I
    have hl := rv.length
    exact list_end_hot hot st p.isList (by simp; omega) fun h' eb => ⟨rfl, I.turned (t' := s.toks) (fun b o hb e => eb b o hb e) f0 f1 f3 f4 f5⟩
  self := fun _ _ _ _ _ st h => wpAny_pyIter_listiter st h
theorem pi_listH {X : Cx} {tg l : Expr} {tl : TE} (hl : PE X l tl) : L2H.PIH X tg l (iList X.K tl) := by
  refine ⟨fun pins s σ H R I h => thn (hl.run pins s σ H _ I h) fun v s1 ⟨x, H1, I1, r1, q1⟩ => ?_⟩
  obtain ⟨a, e, ⟨xs, hq⟩, q⟩ := q1; subst e; cases r1
  obtain ⟨its, rv, p, hz⟩ := I1.list hq; refine wpAny_pyIter_list p.isList ?_
  refine ⟨s1.heap.objs.size, [s1.heap.objs.size], _, _, H1, rfl, I1.kept (t' := s1.toks) (fun b o e => Heap.get?_push_of_some _ e), turn_listH a _, ⟨_, Heap.get?_push_size _ rfl, rfl, rfl⟩, fun b hb => ?_, q⟩
  have e : b = s1.heap.objs.size := by simpa using hb
  subst e; exact I1.fpOk (Nat.le_refl _) (I1.hok.fresh (Nat.le_refl _))
/-- a def that is called with the error that a suite holds (of the class at D) and lets nothing out -/
structure FnE (P : Program) (w : World) (K : PySem.W.Frag) (mg : Str → Option Value) (base : Heap) (k : Nat) (f : Addr) (fd : FuncData) (ps : List Str) (D : Addr) (sp : Addr → Sp) : Prop where
  len : ∀ a vs H Q E, sp a vs H Q E → vs.length = ps.length
  run : ∀ (A : Around) (outer : List Env) (s : Shared) (H : Hp) (args : Args) (us : List Value) (vs : List V) (Q : VK) (E : XK) (p : Addr × Obj), L2H.RoomH k A → L2H.Hot1 A p → Zc (.ref D) none p.2 → L2H.PinOk outer H s p → Env0 P w K mg base A outer s H →
    BindsTo s fd args (ps.zip us) → Vals vs us → sp p.1 vs H Q E → codeAny (model P w) A (.call (.ref f) args) (CR CX0 outer P w H s Q E) s
section
variable {P : Program} {w : World} {K : PySem.W.Frag} {mg : Str → Option Value} {base : Heap}
theorem _root_.L2.Fun.okE {x qual : Str} {st : Stmt} {f D : Addr} {fd : FuncData} {N ps : List Str} {k : Nat} {sp : Addr → Sp} (F : Fun K x qual st f fd) (S : FnScope N ps (defScope st)) (len : ∀ a vs H Q E, sp a vs H Q E → vs.length = ps.length)
    (hbody : ∀ (cdv : Value) (A : Around) (outer : List Env) (s : Shared) (H : Hp) (vs : List V) (Q : VK) (E : XK) (p : Addr × Obj), L2H.Hot1 A p → Zc (.ref D) none p.2 → L2H.RoomH k (A.deeper (envOfC qual (defScope st) s.heap.objs.size f cdv)) → sp p.1 vs H Q E →
      ∃ t, PSs (L2H.cxH CX0 P w K mg base N qual (defScope st) f cdv A outer s H E p) (defBody st) t ∧ t { nx := fun _ H' => Q .non H', rt := Q } (L2.start N vs) H) : FnE P w K mg base (k + 1) f fd ps D sp := by
  obtain ⟨oc, od, kV, doc, pm, an, cdv, ct, osl, rfl, lk, hcd⟩ := F.ex
  refine ⟨len, fun A outer s H args us vs Q E p hr hot hz hpin e0 hb r hsp => ?_⟩
  have hl := len _ _ _ _ _ hsp; have KX : K.In s.heap := e0.mod.kin.keeps fun b o e => (e0.bs b o e).1
  have lim : s.heap.NoLimit := e0.mod.nolimit.keeps fun b o e => (e0.bs b o e).1; have bb := hb
  have hkind : ∀ y ∈ ps.zip us, (defScope st).names.lookup y.1 = some .local ∨ ((defScope st).names.lookup y.1 = some .cell ∧ ((cellsFrom (s.heap.objs.size + 1) (defScope st).names []).lookup y.1).isSome = true) := fun ⟨n, v⟩ hy =>
    (S.par n (List.of_mem_zip hy).1).elim .inl fun q => .inr ⟨q, PySem.W.cellsFrom_some _ _ _ (.inl q)⟩
  refine codeAny_call_function hr.depth (KX _ _ lk) rfl S.co S.gen rfl (PySem.W.codeRec_of KX hcd) (bb _ _ _ _ (wpAny_newFunctionEnv_cells S.kind hkind fun env he s1 x => ?_))
  subst he; refine ⟨lim.keeps x.toInCall.keep, codeAny_func ?_⟩
  obtain ⟨t, ht, hq⟩ := hbody cdv A outer s H vs Q E p hot hz (hr.deeper _) hsp
  have I := L2H.inv_startH (CX := CX0) (E := E) S hpin e0 hl r x
  refine wpAny_mono (ht.run [] s1 (L2.start N vs) H _ I hq) (fun fl s' hs => ?_) fun _ _ hs => hs
  cases fl with
  | ret u => exact hs.elim fun v ⟨σ', H', J, rv, q⟩ => ⟨v, H', J.os, J.bare, J.base, J.hok, rv, q⟩
  | next => exact hs.elim fun σ' ⟨H', J, q⟩ => ⟨V.non, H', J.os, J.bare, J.base, J.hok, rfl, q⟩
  | brk => exact hs.elim fun _ ⟨_, _, q⟩ => q.elim
  | cont => exact hs.elim fun _ ⟨_, _, q⟩ => q.elim
end
section
variable {X : Cx} {k : Nat} {f D : Addr} {fd : FuncData} {ps : List Str} {sp : Addr → Sp} {x : Str} {q pos : Pos} {e : Expr} {es : List Expr} {t : TA}
/-- f(e, ..), f a def for the error at a -/
def tCallE (sp : Addr → Sp) (a : Addr) (t : TA) : TE := fun σ H Q => t σ H fun vs H1 => sp a vs H1 Q E0
theorem pe_callE (F : FnE X.prog X.w X.K X.mg X.base k f fd ps D sp) (hr : L2H.RoomH k X.A) {p : Addr × Obj} (hot : L2H.Hot1 X.A p) (hz : Zc (.ref D) none p.2) (hp : p ∈ X.pn) (hg : Gl X x) (hm : X.mg x = some (.ref f)) (hk : PySem.W.keepIn X.K (.ref f) = true) (hb : Binds X.K fd ps [])
    (ha : PA X (e :: es) t) (hdb : (x == ("__debug__" : Str)) = false := by decide) (he : starEach (e :: es) X.env = (false, eval e X.env) :: starEach es X.env := by rfl) (hpl : (backTo pos (starEach es X.env)).any (·.1) = false := by rfl) :
    PE X (.Call (.Name x q) (e :: es) [] pos) (tCallE sp p.1 t) := by
  refine ⟨fun pins s σ H Q I h => wpAny_Call_Name_kw (ld_glob I hg hm ?_ hdb)⟩
  refine PySem.W.callWith_K (h₀ := X.base) I.ok.mod.kin hk (thn (ha.run pos pins s σ H _ I h) fun us s1 ⟨vs, H1, I1, r, q⟩ => ⟨I1.kIn, ?_⟩) he hpl
  have hl : us.length = ps.length := by rw [← r.length]; exact F.len _ _ _ _ _ q
  have b := hb s1 us I1.kIn (by rw [List.append_nil]; exact hl)
  rw [List.append_nil] at b
  have P1 := I1.pin p (List.mem_append_left _ hp)
  have hpin : L2H.PinOk X.stack H1 s1 p := ⟨P1.1, P1.2.1, fun hm' => (List.mem_cons.mp (I1.stkSub p.1 hm')).elim P1.2.2.1 P1.2.2.2.1, P1.2.2.2.2⟩
  refine wpAny_call (codeAny_mono (F.run X.A X.stack s1 H1 ⟨us, []⟩ us vs Q E0 p hr hot hz hpin I1.env0 b r q) fun r' s' hq => ?_)
  cases r' with
  | error e => exact False.elim hq
  | ok fl =>
    cases fl with
    | ret u => exact I1.after hq
    | _ => exact False.elim hq
/-- isinstance of the error that is handled, in whatever def it is asked -/
theorem call_isP {a D : Addr} {oe : Obj} (C : ExcC X.K D) (hz : Zc (.ref D) none oe) (hf : ∃ vs, oe.data = .fields vs) (hp : (a, oe) ∈ X.pn) : CallR X (.builtin "isinstance") (rIsE X.K D a) := by
  rintro pins s σ H xs us Q I r ⟨c, cv, b, rfl, hcv, e, q⟩
  obtain ⟨vs, hv⟩ := hf
  cases r with
  | cons rx rr =>
    cases rr with
    | cons rt rr =>
      cases rr; cases rx
      have ec := hcv _ rt
      subst ec
      have hget := (I.pin (a, oe) (List.mem_append_left _ hp)).1
      have J : PySem.W.InstAt s.heap a oe D none := by
        obtain ⟨oc, od, oda, osl⟩ := oe
        obtain ⟨h1, h2⟩ := hz
        subst hv
        cases h1
        cases h2
        exact ⟨hget, rfl, rfl, trivial⟩
      exact PySem.W.kia_one (PySem.W.handS_kitx_exc C.hg C.hk C.hs C.hd C.ha C.hn C.ht C.hm) I.kIn J e (fun z => nomatch z) fun tk => ⟨.bl b, H, I.kept (t' := tk) fun _ _ z => z, rfl, q⟩
end
/-! ### defs that raise: the error's context is told to be None -/
section
variable {P : Program} {w : World} {K : PySem.W.Frag} {mg : Str → Option Value} {base : Heap}
theorem _root_.L2.Fun.okN {x qual : Str} {st : Stmt} {f : Addr} {fd : FuncData} {N ps : List Str} {k : Nat} {sp : Sp} (F : Fun K x qual st f fd) (S : FnScope N ps (defScope st)) (len : ∀ vs H Q E, sp vs H Q E → vs.length = ps.length)
    (hbody : ∀ (cdv : Value) (A : Around) (outer : List Env) (s : Shared) (H : Hp) (vs : List V) (Q : VK) (E : XK), Room k (A.deeper (envOfC qual (defScope st) s.heap.objs.size f cdv)) → sp vs H Q E →
      ∃ t, PSs (cxOf (L2N.CX P w) P w K mg base N qual (defScope st) f cdv A outer s H E) (defBody st) t ∧ t { nx := fun _ H' => Q .non H', rt := Q } (L2.start N vs) H) : FnOk P w K mg base (L2N.CX P w) (k + 1) f fd ps sp := by
  obtain ⟨oc, od, kV, doc, pm, an, cdv, ct, osl, rfl, lk, hcd⟩ := F.ex
  exact fn_of lk hcd S len fun A outer s H vs Q E hr hsp => hbody cdv A outer s H vs Q E hr hsp
theorem takes0N {X : Cx} : L2N.Takes X (fun _ _ _ _ => False) := fun _ _ x => by
  obtain ⟨_, _, _, _, _, _, _, _, _, _, _, _, _, _, _, _, z⟩ := x
  cases z
end
section
variable {X : Cx} {C : Addr} {bmB : List Value} {B newId initId : String}
/-- X(e) -/
theorem pmk_own1N {x : Str} {e : Expr} {ta : TE} {p pos : Pos} (F : ExcBaseFacts B newId initId bmB) (q : PySem.W.excIn X.K C bmB newId = true) (gC : X.mg x = some (.ref C)) (kC : PySem.W.keepIn X.K (.ref C) = true) (r : Raises X (.ref C)) (hg : Gl X x) (he : PE X e ta)
    (hs : starEach [e] X.env = (false, eval e X.env) :: starEach [] X.env := by rfl) (hdb : (x == ("__debug__" : Str)) = false := by decide) : L2N.PMk X (.Call (.Name x p) [e] [] pos) (fun σ H Q => ta σ H fun _ H1 => Q (.ref C) none H1) := by
  intro pins s σ H Q I h; refine wpAny_Call_Name_kw (ld_glob I hg gC ?_ hdb)
  refine PySem.W.callWith_K (h₀ := X.base) I.ok.mod.kin kC ?_ hs (by rfl); rw [hs]
  refine (show wpAny _ _ (spliced ((false, eval e X.env) :: backTo pos (starEach [] X.env))) _ _ s from ?_)
  refine Calls.spliced_cons (thn (he.run pins s σ H _ I h) fun u s1 ⟨v, H1, I1, r1, q1⟩ => Calls.spliced_nil ⟨I1.kIn, ?_⟩)
  refine (show wpAny _ _ (call (.ref C) [u]) _ _ _ from ?_)
  obtain ⟨bm, N, nm, qn, bs, hdct, sn, sub, ab, col, dd, k0, k1, k2, k3, k5, mN, hC, hN, hni, T⟩ := exc_obj I1.kIn q
  exact wpAny_call_exc_subT F T hC hN hni (fun h' e' hm => L2N.mk_of I1 hm r q1 (I1.hok.gone hm.new)) (by show 1 ≤ sizeLine; rw [sizeLine_eq]; omega)
end
/-! ### which class an error is of -/
theorem kit_subT {K : PySem.W.Frag} {D S : Addr} (h2 : PySem.W.isClsIn K S = true) (h3 : PySem.W.typeIn K (.ref S) = some (.type "type")) (h4 : PySem.W.subIn K (.ref D) (.ref S) = some true) : PySem.W.kitOne K (.ref D) (.ref S) = some true := by
  by_cases e : D = S
  · subst e
    exact kit_self
  · exact kit_sub e h2 h3 h4
theorem kit_blt {K : PySem.W.Frag} {D : Addr} {b : String} {r : Bool} (hm : PySem.W.kitMeta b = true) (h : PySem.W.subIn K (.ref D) (.type b) = some r) : PySem.W.kitOne K (.ref D) (.type b) = some r := by
  unfold PySem.W.kitOne
  rw [if_neg (by intro z; exact nomatch (beq_iff_eq.mp z))]
  unfold PySem.W.kitCls
  simpa [hm] using h
theorem takeB {α : Type} {l : List α} {i : Nat} {x : α} (h : l[i]? = some x) : l.take (i + 1) = l.take i ++ [x] := by
  rw [List.take_succ, h]
  rfl
/-! ### unpacking a tuple while an error is handled -/
section
variable {prog : Program} {w : World} {A : Around} {E : Value → Shared → Prop} {s : Shared}
theorem tup_end_hot {it l x1 : Addr} {i : Nat} {items} {Q : Option Value → Shared → Prop} (hot : HotX.HotAt A x1 s.heap) (hit : IsTupIter s.heap it l i) (hl : IsTup s.heap l items) (hx : items[i]? = none)
    (hQ : ∀ h', Heap.ExtBut it s.heap h' → Q none { s with heap := h' }) : wpAny (model prog w) A (pyNext (.ref it)) Q E s := by
  obtain ⟨hh, o1, vs1, h1, d1, c1⟩ := hot; obtain ⟨o, ho, hc, hd⟩ := id hit
  obtain ⟨ol, hol, _, nl, hdl⟩ := hl; unfold pyNext
  have ni : it ≠ x1 := fun z => by
    rw [← z, ho] at h1
    cases h1
    rw [hd] at d1
    cases d1
    simp at c1
  refine wpAny_bind (wpAny_attempt (wpAny_callSpecial?_slot (name := Str.ofString "__next__") hit.typeIs slot_tupleiter_next (wpAny_call_entry slot_tupleiter_next hit.typeIs entry_tupleiter_next ?_ (args_tupleiter_next _))))
  refine (show wpAny _ _ (field (.ref it) 0 >>= _) _ _ s from ?_); refine wpAny_bind (wpAny_field ho hd (x := .ref l) rfl ?_)
  refine (show wpAny _ _ (if (Value.ref l == Value.none) = true then _ else _) _ _ s from ?_); rw [if_neg (show ¬ ((Value.ref l == Value.none) = true) from Bool.false_ne_true)]
  refine (show wpAny _ _ (field (.ref it) 1 >>= _) _ _ s from ?_); refine wpAny_bind (wpAny_field ho hd (x := .int i 0) rfl ?_)
  refine (show wpAny _ _ (seqItems? (.ref l) >>= _) _ _ s from ?_); refine wpAny_bind (wpAny_seqItems hol hdl ?_)
  simp only [Int.toNat_natCast, hx]; refine wpAny_bind (wpAny_rule (wpAny_bind (wpAny_setField ho hd (by simp) ?_)))
  refine (show wpAny _ _ (newExc (.type "StopIteration") [] >>= _) _ _ _ from ?_); refine wpAny_bind ?_
  simp only [newExc, newTuple]; refine wpAny_bind (wpAny_newObj_type ?_ (by size_fits))
  refine wpAny_bind (m := firstArgMember _ _) (wpAny_of_eq (a := Value.none) (by first | rfl | (simp only [firstArgMember]; rfl)) ?_); refine wpAny_newObj_type ?_ (by size_fits)
  have g1 : ∀ f : Obj → Obj, (s.heap.update it f).get? x1 = some o1 := fun f => by rw [Heap.get?_update_other _ _ ni]; exact h1
  refine HotX.raiseNew_hot ⟨hh, o1, vs1, Heap.get?_push_of_some _ (Heap.get?_push_of_some _ (g1 _)), d1, c1⟩ (Nat.ne_of_lt (Heap.lt_size (Heap.get?_push_of_some _ (g1 _)))) (Heap.get?_push_size _ rfl) rfl (by first | (simp; done) | (simp; omega) | (simp only [Array.size_append]; simp; omega)) ?_
  refine wpAny_bind (wpAny_isInstance (T := "StopIteration") (b := true) ⟨_, Heap.get?_update_self _ (Heap.get?_push_size _ rfl) rfl, rfl⟩ isSubtype_stop ?_); refine wpAny_pure (hQ _ fun b o' nb e => ?_)
  have e2 : ∀ f oo, ((s.heap.update it f).push oo).get? b = some o' := fun f oo => (Heap.SameBut.update ..).extBut.push _ b o' nb e
  rw [Heap.get?_update_other _ _ (Nat.ne_of_gt (Heap.lt_size (e2 _ _)))]; exact Heap.get?_push_of_some _ (e2 _ _)
theorem unpack_hot {t x1 : Addr} {items : Array Value} {Q : List Value → Shared → Prop} (hot : HotX.HotAt A x1 s.heap) (ht : IsTup s.heap t items)
    (hQ : ∀ h', Heap.ExtBut s.heap.objs.size s.heap h' → Q items.toList { s with heap := h' }) : wpAny (model prog w) A (unpackItems (.ref t) items.size none) Q E s := by
  have hlt : t ≠ s.heap.objs.size := ht.elim fun o ho => Nat.ne_of_lt (Heap.lt_size ho.1)
  have hx : x1 ≠ s.heap.objs.size := hot.2.elim fun o ho => ho.elim fun _ h => Nat.ne_of_lt (Heap.lt_size h.1)
  unfold unpackItems notIterableAtAll; refine wpAny_bind (wpAny_bind (wpAny_specialOf ht.typeIs slot_tuple_iter.lookup (wpAny_pure ?_)))
  simp only [Bool.false_eq_true, if_false]; refine wpAny_bind (wpAny_holding (iter_tuple ht (wpAny_bind (wpAny_holding (draw_tuple hlt items.size 0 _ _ ⟨_, Heap.get?_push_size _ rfl, rfl, rfl⟩ (ht.push _) (by omega) fun h₁ hit₁ hs₁ => ?_)))))
  have hall : List.take items.size (List.drop 0 items.toList) = items.toList := by rw [List.drop_zero]; exact List.take_of_length_le (by simp)
  rw [hall, if_neg (by simp)]
  have ht₁ := (ht.push { cls := .type "tuple_iterator", data := .fields #[.ref t, .int 0 0] }).extBut hs₁.extBut hlt
  have hot₁ : HotX.HotAt A x1 h₁ := hot.2.elim fun o ho => ho.elim fun vv h => ⟨hot.1, o, vv, hs₁.extBut x1 o hx (Heap.get?_push_of_some _ h.1), h.2.1, h.2.2⟩
  refine wpAny_bind (wpAny_holding (tup_end_hot hot₁ hit₁ ht₁ (by simp) fun h₂ he₂ => ?_))
  simp only [Option.isSome_none, Bool.false_eq_true, if_false]; exact wpAny_pure (hQ h₂ fun b o hb e => he₂ b o hb (hs₁.extBut b o hb (Heap.get?_push_of_some _ e)))
end
/-- (a, b, ..) = a tuple, while an error is handled -/
theorem pg_tupH {X : Cx} {pos : Pos} {es : List Expr} {k : Nat} {t : TGs} {n : Nat} (hc : L2H.HotC X) (h : PGs X es t) (hn : (assignEach es X.env).length = n := by rfl) (hst : (assignEach es X.env).findIdx? (·.1) = none := by rfl) : PG X (.Tuple es k pos) (gTup X.K n t) := by
  refine ⟨fun pins s σ H v u Q I r hw => ?_⟩
  obtain ⟨a, xs, e1, hq, hl, hw⟩ := hw; subst e1; cases r
  obtain ⟨its, rv, ht, hz⟩ := I.tuple hq; obtain ⟨x1, hot⟩ := hc.at I
  rw [assign_Tuple]; refine wpAny_bind (wpAny_standAt ?_); unfold unpack
  rw [show (assignEach es X.env).length = its.toArray.size by simp [hn, ← hl, rv.length], hst]
  refine wpAny_bind (wpAny_holding (unpack_hot hot ht fun h' hx => ?_))
  have I1 : Inv X pins σ H { s with heap := h' } := I.kept (t' := s.toks) fun b o e => hx b o (Nat.ne_of_lt (Heap.lt_size e)) e
  exact h.run pins _ σ H xs _ Q I1 (by simpa using rv) hw
/-- a def that may raise, called where it does not -/
theorem passLN {X : Cx} : Passes (L2N.CX X.prog X.w) X E0 := fun _ _ _ _ _ _ _ h => by
  obtain ⟨_, _, _, _, _, _, _, _, _, _, _, _, z⟩ := h
  exact False.elim z
end Rg
namespace Rg
open PySem PySem.Spec PyProof.Rows L2
/-! ### enumerate(tuple) -/
open Sem (wp)
open AutoSeq1 (wpAny_loadPart')
theorem meets_enumerate_newT (l : Addr) (items : Array Value) (n : Nat) (dct : Option Addr) (sl : Array (Option Value)) :
    Meets (Builtin.«enumerate.__new__» ⟨[.type "enumerate", .ref l], []⟩) (fun _ R s => s.heap.get? l = some { cls := .type "tuple", dict := dct, data := .seq items n, slots := sl } ∧
      R (.ok (.ret (.ref (s.heap.push { cls := .type "tuple_iterator", data := .fields #[.ref l, .int 0 0] }).objs.size)))
        { s with heap := (s.heap.push { cls := .type "tuple_iterator", data := .fields #[.ref l, .int 0 0] }).push { cls := .type "enumerate", data := .fields #[.none, .bool false, .ref s.heap.objs.size, rawInt 0, .none, .none] } }) :=
  .of_wp fun prog w A R s h => by
    obtain ⟨hp, g, d, tk, os⟩ := s; obtain ⟨hl, h⟩ := h
    have hsub := sub_enumerate
    have hL : Heap.IsTuple (Shared.heap ⟨hp, g, d, tk, os⟩) l items := ⟨_, hl, rfl, n, rfl⟩
    wp_walk using wpAny_loadPart' hl
    refine wpAny_stack_any fun st => wpAny_pure ?_
    split
    · rename_i c _ _ _ _ _
      cases (c == Value.type "enumerate")
      · wp_walk using wpAny_loadPart' hl, wpAny_pyIter_tuple hL
        exact ⟨_, rfl, h⟩
      · wp_walk using wpAny_loadPart' hl, wpAny_pyIter_tuple hL
        exact ⟨_, rfl, h⟩
    · wp_walk using wpAny_loadPart' hl, wpAny_pyIter_tuple hL
      exact ⟨_, rfl, h⟩
section
variable {prog : Program} {w : World} {A : Around} {E : Value → Shared → Prop} {s : Shared}
theorem call_enumerate_tuple {l : Addr} {items : Array Value} {Q : Value → Shared → Prop} (hL : s.heap.IsTuple l items)
    (h : ∀ h', IsEnum h' (s.heap.objs.size + 1) s.heap.objs.size 0 .none → h'.IsTupleIter s.heap.objs.size l 0 → h'.objs.size = s.heap.objs.size + 2 →
      (∀ b o, s.heap.get? b = some o → h'.get? b = some o) → Q (.ref (s.heap.objs.size + 1)) { s with heap := h' }) :
    wpAny (model prog w) A (call (.type "enumerate") [.ref l]) Q E s := by
  obtain ⟨⟨c, dct, dt, sl⟩, hl, hc, n, hd⟩ := hL
  replace hc : c = .type "tuple" := hc
  replace hd : dt = .seq items n := hd
  subst hc hd
  refine callType_new F.called_enumerate (by decide) (F.typeCall_enumerate_1 _) (F.newCall_enumerate_1 _) (fun obj => F.args_object_init_2 obj _) F.entry_enumerate_new
    (meets_enumerate_newT l items n dct sl) ⟨hl, ?_⟩
  have hz : (s.heap.push { cls := .type "tuple_iterator", data := .fields #[.ref l, .int 0 0] }).objs.size = s.heap.objs.size + 1 := Heap.size_push ..
  show _ ∧ _
  rw [hz]
  have he : IsEnum ((s.heap.push { cls := .type "tuple_iterator", data := .fields #[.ref l, .int 0 0] }).push
      { cls := .type "enumerate", data := .fields #[.none, .bool false, .ref s.heap.objs.size, rawInt 0, .none, .none] }) (s.heap.objs.size + 1) s.heap.objs.size 0 .none := by
    have := Heap.get?_push_size (s.heap.push { cls := .type "tuple_iterator", data := .fields #[.ref l, .int 0 0] })
      (o := { cls := .type "enumerate", data := .fields #[.none, .bool false, .ref s.heap.objs.size, rawInt 0, .none, .none] }) rfl
    rw [hz] at this; exact this
  refine ⟨⟨_, he, rfl⟩, h _ he ⟨_, Heap.get?_push_of_some _ (Heap.get?_push_size _ rfl), rfl, rfl⟩ (by rw [Heap.size_push, hz]) fun b o x => Heap.get?_push_of_some _ (Heap.get?_push_of_some _ x)⟩
end
/-- the tuple at a as it stands at each turn, each item in a new pair -/
def IteT (K : PySem.W.Frag) (a : Addr) : It :=
  ⟨fun i H => ∃ (xs : List V) (x : V), SqT K H a xs ∧ xs[i]? = some x, fun i H v H' => ∃ T x, v = .ref T ∧ H T = none ∧ H' = upd H T (.tup [.int (i : Nat), x]) ∧ ∀ xs, SqT K H a xs → xs[i]? = some x, fun i H => ∃ xs : List V, SqT K H a xs ∧ xs.length ≤ i⟩
theorem turn_enumT {P : Program} {w : World} {K : PySem.W.Frag} {elts : List Expr} {kk : Nat} {tpos : Pos} (a e it : Addr) :
    Turn P w K (.Tuple elts kk tpos) (IteT K a) [e, it] e (fun i h => (∃ old, IsEnum h e it ((i : Nat) : Int) old) ∧ h.IsTupleIter it a i ∧ e ≠ it) where
  mem := by simp
  obj := fun i h st b hb => by
    obtain ⟨⟨old, he⟩, ⟨o, ho, hc, hd⟩, _⟩ := st
    have e' : b = e ∨ b = it := by simpa using hb
    rcases e' with z | z
    · rw [z]; exact ⟨_, he, fun v q => nomatch q⟩
    · rw [z]; exact ⟨o, ho, fun v q => by rw [hd] at q; cases q⟩
  keep := fun i h h' st k => let ⟨⟨old, he⟩, hi, hne⟩ := st; ⟨⟨old, k e (by simp) _ he⟩, hi.at fun o q => k it (by simp) o q, hne⟩
  item := by
    intro X hP hw hK hc i pins s σ H E I hf st hg
    subst hP hw hK
    obtain ⟨⟨old, he⟩, hit, hne⟩ := st
    obtain ⟨xs, x, hq, hx⟩ := hg
    obtain ⟨its, rv, p, hz⟩ := I.tuple hq
    obtain ⟨u, hu, ru⟩ := rv.get hx
    have hlt : i < its.toArray.size := by
      have := (List.getElem?_eq_some_iff.mp hu).1
      simpa using this
    have hel : e < s.heap.objs.size := Heap.lt_size he
    have hil : it < s.heap.objs.size := by obtain ⟨_, q, _⟩ := hit; exact Heap.lt_size q
    have hae : a ≠ e := fun z => by
      obtain ⟨o, ho, hc', _⟩ := p
      rw [z] at ho
      have := Option.some.inj (ho.symm.trans he)
      rw [this] at hc'
      have hc2 : Value.type "enumerate" = Value.type "tuple" := hc'
      exact absurd hc2 (by decide)
    have hai : a ≠ it := fun z => by
      obtain ⟨o, ho, hc', _⟩ := p
      obtain ⟨o2, ho2, hc2, _⟩ := hit
      rw [z] at ho
      have := Option.some.inj (ho.symm.trans ho2)
      rw [this, hc2] at hc'
      exact absurd hc' (by decide)
    refine wpAny_pyNext_enum_itemD (Draws.tuple (prog := X.prog) (w := X.w) (A := X.A.in1) (I.ok.hd hc) it a hai its.toArray) he ⟨hit, p⟩ hlt hne (by simp [hne, hae.symm]) fun y h' tk hy ho hit' hT hsz hk => ?_
    have ey : y = u := by
      have e1 : its.toArray[i]? = some u := by simpa using hu
      rw [e1] at hy
      exact (Option.some.inj hy).symm
    subst ey
    refine ⟨_, rfl, wpAny_letOwnedTupleGo_enum (s := { s with heap := h', toks := tk + 1 }) ho fun h'' he' sb => ?_⟩
    have hT2 : h''.get? s.heap.objs.size = some { cls := .type "tuple", data := .seq #[.int i tk, y] } := (sb.2 _ (Nat.ne_of_gt hel)).trans hT
    have new : ObjOk X.prog X.w (upd H s.heap.objs.size (.tup [.int (i : Nat), x])) h'' s.heap.objs.size (.tup [.int (i : Nat), x]) :=
      ⟨by show 2 ≤ sizeLine; decide, [.int i tk, y], .cons ⟨_, rfl⟩ (.cons ru .nil), ⟨_, hT2, rfl, _, rfl⟩⟩
    have I1 : Inv X pins σ (upd H s.heap.objs.size (.tup [.int (i : Nat), x])) { s with heap := h'', toks := tk + 1 } :=
      I.turnedNew (t' := tk + 1) (ch := [e, it]) (fun b ob hb q => (sb.2 b (fun z => hb (by simp [z]))).trans (hk b ob (fun z => hb (by simp [z])) (fun z => hb (by simp [z])) q)) hf (Nat.le_refl _) new
    refine ⟨.ref s.heap.objs.size, _, I1, rfl, ⟨_, x, rfl, I.hok.fresh (Nat.le_refl _), rfl, fun ys hy => by rw [I.tuple_inj hy hq]; exact hx⟩, ⟨⟨y, ?_⟩, hit'.1.at fun o q => (sb.2 it (Ne.symm hne)).trans q, hne⟩, fun b hb => ?_⟩
    · have e1 : ((i + 1 : Nat) : Int) = (i : Int) + 1 := by omega
      rw [e1]; exact he'
    · have hb' : b < s.heap.objs.size := by
        have e' : b = e ∨ b = it := by simpa using hb
        rcases e' with z | z
        · rw [z]; exact hel
        · rw [z]; exact hil
      rw [upd_ne (Nat.ne_of_lt hb')]
      exact (hf b hb).1
  done := by
    intro X hP hw hK hc i pins s σ H E I hf st hg
    subst hP hw hK
    obtain ⟨⟨old, he⟩, hit, hne⟩ := st
    obtain ⟨xs, hq, hx⟩ := hg
    obtain ⟨its, rv, p, hz⟩ := I.tuple hq
    obtain ⟨f0, f1, f2, f3, f4, f5⟩ := hf it (by simp)
    have hl := rv.length
    unfold pyNext
    have hT : s.TypeIs (.ref e) "enumerate" := ⟨_, he, rfl⟩
    refine wpAny_bind (wpAny_attempt (wpAny_callSpecial?_slot (name := Str.ofString "__next__") hT F.slot_enumerate_next
      (wpAny_call_entry F.slot_enumerate_next hT F.entry_enumerate_next ?_ (F.args_enumerate_next_1 _))))
    show wpAny _ _ (field (.ref e) 2 >>= _) _ _ _
    refine wpAny_bind (wpAny_field he rfl (x := .ref it) rfl ?_)
    refine wpAny_bind (wpAny_nextOf_tuple_end (I.ok.hd hc) hit p (by simp; omega) fun h' x he' hx' => ?_)
    obtain ⟨o, ho, hc'⟩ := hx'
    refine wpAny_bind (wpAny_isInstance (T := "StopIteration") (b := true) ⟨o, ho, hc'⟩ isSubtype_stop ?_)
    exact wpAny_pure ⟨rfl, I.turned (t' := s.toks) (fun b o hb q => he' b o hb q) f0 f1 f3 f4 f5⟩
  self := fun A i s Q E st h => let ⟨⟨_, he⟩, _⟩ := st; wpAny_pyIter_enum he h
theorem walk_enumT {K : PySem.W.Frag} {a : Addr} {xs : List V} : Walk (IteT K a) xs.length (fun H => SqT K H a xs) (YPair (fun i => some (.int (i : Nat))) (fun i => xs[i]?)) := by
  refine ⟨fun i _ hi q => ⟨xs, xs[i], q, by simp [hi]⟩, fun _ q => ⟨xs, q, Nat.le_refl _⟩, fun i H v H' _ q y => ?_⟩
  obtain ⟨T, x, h1, h2, h3, h4⟩ := y
  exact ⟨T, .int (i : Nat), x, h1, h2, h3, rfl, h4 xs q⟩
/-- over a list or a tuple, which stays as it is -/
def iEnumA (ta : TA) : TI := fun σ H R => ta σ H fun vs H1 => ∃ a xs, vs = [.ref a] ∧ (H1 a = some (.lst xs) ∨ H1 a = some (.tup xs)) ∧ ∀ J, Walk J xs.length (fun H' => H' a = H1 a) (YPair (fun i => some (.int (i : Nat))) (fun i => xs[i]?)) → R J H1
theorem pi_enumA {X : Cx} {e : Expr} {ta : TA} {p pos tpos : Pos} {elts : List Expr} {kk : Nat} (hg : Gl X "enumerate") (hm : X.mg "enumerate" = none) (ha : PA X [e] ta) (hs : starEach [e] X.env = [(false, eval e X.env)] := by rfl) :
    PI X (.Tuple elts kk tpos) (.Call (.Name "enumerate" p) [e] [] pos) (iEnumA ta) := by
  refine ⟨fun pins s σ H R I h => ?_⟩
  refine Call_ (ld_blt I hg hm boot_enumerate (PyProof.Rows.callWith_type1 (thn (ha.run pos pins s σ H _ I h) fun us s1 ⟨vs, H1, I1, r1, q1⟩ => ?_) hs rfl))
  obtain ⟨a, xs, ex, hw, q⟩ := q1
  subst ex
  cases r1 with
  | cons r rr =>
    cases rr
    cases r
    have fp : ∀ b, b = s1.heap.objs.size + 1 ∨ b = s1.heap.objs.size → FpOk X pins H1 b := fun b e' => by
      have hle : s1.heap.objs.size ≤ b := by
        rcases e' with z | z
        · rw [z]; exact Nat.le_add_right _ _
        · rw [z]; exact Nat.le_refl _
      exact I1.fpOk hle (I1.hok.fresh hle)
    rcases hw with hw | hw
    · have hq : SqL X.K H1 a xs := .of hw
      have q := q (Ite X.K a) (walk_enum.mono (fun H' e => .of (e.trans hw)) fun _ _ _ _ _ _ y => y)
      obtain ⟨its, rv, p', hz⟩ := I1.list hq
      refine call_enumerate_list p'.isList fun h' he hit hsz hk => wpAny_pyIter_enum he ?_
      have I2 : Inv X pins σ H1 { s1 with heap := h' } := I1.kept (t' := s1.toks) hk
      refine ⟨s1.heap.objs.size + 1, [s1.heap.objs.size + 1, s1.heap.objs.size], _, _, H1, rfl, I2, turn_enum a (s1.heap.objs.size + 1) s1.heap.objs.size, ⟨⟨.none, he⟩, hit, Nat.succ_ne_self _⟩, fun b hb => fp b (by simpa using hb), q⟩
    · have hq : SqT X.K H1 a xs := .of hw
      have q := q (IteT X.K a) (walk_enumT.mono (fun H' e => .of (e.trans hw)) fun _ _ _ _ _ _ y => y)
      obtain ⟨its, rv, p', hz⟩ := I1.tuple hq
      refine call_enumerate_tuple p' fun h' he hit hsz hk => wpAny_pyIter_enum he ?_
      have I2 : Inv X pins σ H1 { s1 with heap := h' } := I1.kept (t' := s1.toks) hk
      refine ⟨s1.heap.objs.size + 1, [s1.heap.objs.size + 1, s1.heap.objs.size], _, _, H1, rfl, I2, turn_enumT a (s1.heap.objs.size + 1) s1.heap.objs.size, ⟨⟨.none, he⟩, hit, Nat.succ_ne_self _⟩, fun b hb => fp b (by simpa using hb), q⟩
end Rg
namespace Rg
open PySem PySem.Spec PyProof.Rows L2
/-! ### tuples of the written part -/
def relAllS (vs : List V) (us : List Value) : Bool := He.relAll vs us && decide (us.length ≤ 1000)
theorem relAllS_ok {vs : List V} {us : Array Value} (h : relAllS vs us.toList = true) : Vals vs us.toList := He.relAll_ok (Bool.and_eq_true_iff.mp h).1
theorem relAllS_sz {vs : List V} {us : Array Value} (h : relAllS vs us.toList = true) : us.size ≤ sizeLine := by
  have := of_decide_eq_true (Bool.and_eq_true_iff.mp h).2
  rw [Array.length_toList] at this
  have : 1000 ≤ sizeLine := by decide
  omega
/-! ### own classes: x in o, o op u, for x in o -/
section
variable {X : Cx} {k : Nat} {f C : Addr} {fd : FuncData} {sp : Sp}
/-- x in o, by the class's own __contains__ -/
def rInOwn (C : Addr) (sp : Sp) (c : Bool → Bool) : R2 := fun x y H Q => ∃ a dx fs, y = .ref a ∧ H a = some (.ins C dx fs) ∧ sp [.ref a, x] H (fun v H1 => ∃ b, v = .bl b ∧ Q (.bl (c b)) H1) E0
theorem op_inOwn (hm : Meth X.K C "__contains__" f) (F : FnOk X.prog X.w X.K X.mg X.base CX0 k f fd ["self", "name"] sp) (hr : Room k X.A) (hb : Binds X.K fd ["self", "name"] []) : OpR X (compareOp .In) (rInOwn C sp fun b => b) := by
  intro pins s σ H x y v u Q I rx ry h
  obtain ⟨a, dx, fs, rfl, e, h⟩ := h
  obtain rfl : u = Value.ref a := ry
  obtain ⟨mA, O, _, _, _, _⟩ := ins_get I.hok e
  obtain ⟨od, at_, _⟩ := O.look
  obtain ⟨m, fr⟩ := I.fr
  refine PySem.W.in_K fr I.mod.kin at_ hm.at_ hm.fn ?_
  refine wpAny_mono (run_fn (us := [.ref a, v]) (vs := [.ref a, x]) F hr hb .nil pass0 I (.cons rfl (.cons rx .nil)) h) (fun r s' hq => ?_) fun _ _ z => z
  obtain ⟨z, H1, I1, rz, b, rfl, q⟩ := hq
  obtain rfl : r = Value.bool b := rz
  exact wpAny_truthy_bool ⟨.bl b, H1, I1, rfl, q⟩
theorem op_notInOwn (hm : Meth X.K C "__contains__" f) (F : FnOk X.prog X.w X.K X.mg X.base CX0 k f fd ["self", "name"] sp) (hr : Room k X.A) (hb : Binds X.K fd ["self", "name"] []) : OpR X (compareOp .NotIn) (rInOwn C sp fun b => !b) := by
  intro pins s σ H x y v u Q I rx ry h
  obtain ⟨a, dx, fs, rfl, e, h⟩ := h
  obtain rfl : u = Value.ref a := ry
  obtain ⟨mA, O, _, _, _, _⟩ := ins_get I.hok e
  obtain ⟨od, at_, _⟩ := O.look
  obtain ⟨m, fr⟩ := I.fr
  refine PySem.W.notIn_K fr I.mod.kin at_ hm.at_ hm.fn ?_
  refine wpAny_mono (run_fn (us := [.ref a, v]) (vs := [.ref a, x]) F hr hb .nil pass0 I (.cons rfl (.cons rx .nil)) h) (fun r s' hq => ?_) fun _ _ z => z
  obtain ⟨z, H1, I1, rz, b, rfl, q⟩ := hq
  obtain rfl : r = Value.bool b := rz
  exact wpAny_truthy_bool ⟨.bl (!b), H1, I1, rfl, q⟩
/-- o op u, both of the class C, by its own method -/
def rOpOwn (C : Addr) (sp : Sp) : R2 := fun x y H Q => ∃ a dx fs b dy gs, x = .ref a ∧ y = .ref b ∧ H a = some (.ins C dx fs) ∧ H b = some (.ins C dy gs) ∧ sp [.ref a, .ref b] H (fun v H1 => Q v H1) E0
theorem op_own {op : Operator} {ps : List Str} (hs : PySem.W.selfFirst X.K C = true) (hm : Meth X.K C (PySem.dunder op.info.2) f) (F : FnOk X.prog X.w X.K X.mg X.base CX0 k f fd ps sp) (hr : Room k X.A) (hb : Binds X.K fd ps []) : OpR X (binaryOp op) (rOpOwn C sp) := by
  intro pins s σ H x y v u Q I rx ry h
  obtain ⟨a, dx, fs, b, dy, gs, rfl, rfl, e, e', h⟩ := h
  obtain rfl : v = Value.ref a := rx
  obtain rfl : u = Value.ref b := ry
  obtain ⟨mA, O, _, _, _, _⟩ := ins_get I.hok e
  obtain ⟨od, at_, _⟩ := O.look
  obtain ⟨mB, O', _, _, _, _⟩ := ins_get I.hok e'
  obtain ⟨od', at', _⟩ := O'.look
  obtain ⟨m, fr⟩ := I.fr
  refine PySem.W.binop_K fr I.mod.kin at_ at'.type hs hm.at_ hm.fn ?_
  refine wpAny_mono (run_fn (us := [.ref a, .ref b]) (vs := [.ref a, .ref b]) F hr hb .nil pass0 I (.cons rfl (.cons rfl .nil)) h) (fun r s' hq => ?_) fun _ _ z => z
  obtain ⟨z, H1, I1, rz, q⟩ := hq
  cases z with
  | non => cases rz; exact ⟨.non, H1, I1, rfl, q⟩
  | bl b => cases rz; exact ⟨.bl b, H1, I1, rfl, q⟩
  | int i => obtain ⟨t, rfl⟩ := rz; exact ⟨.int i, H1, I1, ⟨t, rfl⟩, q⟩
  | str i => obtain ⟨t, rfl⟩ := rz; exact ⟨.str i, H1, I1, ⟨t, rfl⟩, q⟩
  | byt i => obtain ⟨t, rfl⟩ := rz; exact ⟨.byt i, H1, I1, ⟨t, rfl⟩, q⟩
  | flt i => obtain ⟨t, rfl⟩ := rz; exact ⟨.flt i, H1, I1, ⟨t, rfl⟩, q⟩
  | ref i => cases rz; exact ⟨.ref i, H1, I1, rfl, q⟩
  | ty i => cases rz; exact ⟨.ty i, H1, I1, rfl, q⟩
end
/-! ### iter(t), t a tuple; walks by an own __iter__ that hands it back -/
abbrev itT (l : Addr) : Obj := { cls := .type "tuple_iterator", data := .fields #[.ref l, .int 0 0] }
def ItTO (l it : Addr) : HO := .ext fun h => h.get? it = some (itT l)
theorem itTO_ok {P : Program} {w : World} {H : Hp} {h : Heap} {l it : Addr} (e : h.get? it = some (itT l)) : ObjOk P w H h it (ItTO l it) := ⟨e, ⟨_, e⟩, fun h1 h2 q k => k _ q⟩
theorem call_iter_tup {prog : Program} {w : World} {A : Around} {E : Value → Shared → Prop} {s : Shared} {l : Addr} {items : Array Value} {Q : Value → Shared → Prop} (hl : s.heap.IsTuple l items) (h : Q (.ref s.heap.objs.size) { s with heap := s.heap.push (itT l) }) : wpAny (model prog w) A (call (.builtin "iter") [.ref l]) Q E s := by
  refine Calls.call_function_entry (by decide +kernel) (by decide +kernel) PySem.W.kdk_entry_iter (PySem.W.kdk_args_iter _) ?_
  unfold Builtin.«iter»
  refine wpAny_bind (m := PySem.someArgs "iter" 1 2 _) (wpAny_of_eq (a := [Value.ref l]) (by first | rfl | kernel_rfl!) ?_)
  show wpAny _ _ (pyIter (.ref l) >>= _) _ _ _
  refine wpAny_bind (wpAny_pyIter_tuple hl ?_)
  exact wpAny_pure ⟨_, rfl, h⟩
def rIterT (K : PySem.W.Frag) (n : Nat) : List V → Hp → VK → Prop := fun xs H Q => ∃ (l : Addr) (zs : List V), xs = [.ref l] ∧ SqT K H l zs ∧ ∀ it, H it = none → n ≤ it → Q (.ref it) (upd H it (ItTO l it))
theorem call_iterT {X : Cx} : CallR X (.builtin "iter") (rIterT X.K X.s_0.heap.objs.size) := by
  intro pins s σ H xs us Q I r h
  obtain ⟨l, zs, rfl, hq, q⟩ := h
  obtain ⟨u, rfl, ru⟩ := vals1 r
  cases ru
  obtain ⟨its, rv, pl, hz⟩ := I.tuple hq
  refine call_iter_tup (show s.heap.IsTuple l its.toArray from pl) ?_
  exact ⟨.ref s.heap.objs.size, _, I.laid (t' := s.toks) (fun b u e => Heap.get?_push_of_some _ e) (Nat.le_refl _) (itTO_ok (Heap.get?_push_size _ rfl)), rfl, q _ (I.hok.fresh (Nat.le_refl _)) I.sz⟩
/-- a def whose promise knows how many objects there are at its entry -/
structure FnS (P : Program) (w : World) (K : PySem.W.Frag) (mg : Str → Option Value) (base : Heap) (k : Nat) (f : Addr) (fd : FuncData) (ps : List Str) (sp : Nat → Sp) : Prop where
  run : ∀ (A : Around) (outer : List Env) (s : Shared) (H : Hp) (args : Args) (us : List Value) (vs : List V) (Q : VK), Room k A → Env0 P w K mg base A outer s H → BindsTo s fd args (ps.zip us) → Vals vs us → sp s.heap.objs.size vs H Q E0 →
    codeAny (model P w) A (.call (.ref f) args) (CR CX0 outer P w H s Q E0) s
theorem _root_.L2.Fun.okS {P : Program} {w : World} {K : PySem.W.Frag} {mg : Str → Option Value} {base : Heap} {x qual : Str} {st : Stmt} {f : Addr} {fd : FuncData} {N ps : List Str} {k : Nat} {sp : Nat → Sp} (F : Fun K x qual st f fd) (S : FnScope N ps (defScope st)) (len : ∀ n vs H Q E, sp n vs H Q E → vs.length = ps.length)
    (hbody : ∀ (cdv : Value) (A : Around) (outer : List Env) (s : Shared) (H : Hp) (vs : List V) (Q : VK), Room k (A.deeper (envOfC qual (defScope st) s.heap.objs.size f cdv)) → sp s.heap.objs.size vs H Q E0 →
      ∃ t, PSs (cxOf CX0 P w K mg base N qual (defScope st) f cdv A outer s H E0) (defBody st) t ∧ t { nx := fun _ H' => Q .non H', rt := Q } (L2.start N vs) H) : FnS P w K mg base (k + 1) f fd ps sp := by
  obtain ⟨oc, od, kV, doc, pm, an, cdv, ct, osl, rfl, lk, hcd⟩ := F.ex
  exact ⟨fun A outer s H args us vs Q hr e0 hb r hsp => LamX.run_ofS lk hcd S hr e0 hb r (len _ _ _ _ _ hsp) fun hr' => hbody _ A outer s H vs Q hr' hsp⟩
/-- o walked: o's class at C has an own __iter__ that keeps sp and hands back a tuple's iterator -/
def iOwnT (K : PySem.W.Frag) (C : Addr) (sp : Nat → Sp) (te : TE) : TI := fun σ H R => te σ H fun x H1 => ∃ a dx fs, x = .ref a ∧ H1 a = some (.ins C dx fs) ∧
  ∀ n, sp n [.ref a] H1 (fun v H2 => ∃ it l xs, v = .ref it ∧ n ≤ it ∧ H2 it = some (ItTO l it) ∧ SqT K (ItX.dropH H2 it) l xs ∧ R (Itt K l) (ItX.dropH H2 it)) E0
theorem pi_ownT {X : Cx} {k : Nat} {f C : Addr} {fd : FuncData} {sp : Nat → Sp} {e tg : Expr} {te : TE} (hm : Meth X.K C "__iter__" f) (F : FnS X.prog X.w X.K X.mg X.base k f fd ["self"] sp) (hr : Room k X.A) (hb : Binds X.K fd ["self"] []) (he : PE X e te) : PI X tg e (iOwnT X.K C sp te) := by
  refine ⟨fun pins s σ H R I h => thn (he.run pins s σ H _ I h) fun v s1 ⟨x, H1, I1, r1, a, dx, fs, ex, ea, h⟩ => ?_⟩
  subst ex
  obtain rfl : v = Value.ref a := r1
  obtain ⟨mA, O, _, _, _, _⟩ := ins_get I1.hok ea
  obtain ⟨od, at_, _⟩ := O.look
  obtain ⟨m, fr⟩ := I1.fr
  refine PySem.W.owit_iter fr I1.mod.kin at_ hm.at_ hm.fn ?_
  refine wpAny_call (codeAny_mono (F.run X.A X.stack s1 H1 ⟨[.ref a], []⟩ [.ref a] [.ref a] _ hr I1.env0 (hb s1 [.ref a] I1.kIn rfl) (.cons rfl .nil) (h _)) fun r s2 hq => ?_)
  cases r with
  | error e => exact hq.elim
  | ok fl =>
    cases fl with
    | ret u =>
      obtain ⟨z, H2, os, bare, un, hok, rz, it, l, xs, rfl, young, hit, hl, hR⟩ := hq
      obtain rfl : u = Value.ref it := rz
      obtain ⟨hh, g, d, t, os'⟩ := s2
      obtain rfl : os' = s1.os := os
      have I2 : Inv X pins σ H2 ⟨hh, g, d, t, s1.os⟩ := I1.call (h' := hh) (g' := g) (d' := d) (t' := t) (ch := []) un hok bare (fun b z => absurd z (by simp))
      have I3 := ItX.inv_drop I2 hit
      have at3 : hh.get? it = some (itT l) := (I2.hok it _ hit).1
      unfold PySem.W.OwitIt
      have hst : hh.IsTupleIter it l 0 := ⟨_, at3, rfl, rfl⟩
      refine wpAny_specialOf (name := Str.ofString "__next__") (T := "tuple_iterator") (Heap.IsTupleIter.typeIs (s := ⟨hh, g, d, t, s1.os⟩) hst) PySem.F.slot_tuple_iterator_next.lookup ?_
      refine ⟨it, [it], _, Itt X.K l, _, rfl, I3, turn_tuple l it, hst, fun b hb => ?_, hR⟩
      have e : b = it := by simpa using hb
      subst e
      exact ItX.inv_fp I2 hit (Nat.le_trans I1.sz young)
    | next => exact False.elim hq
    | brk => exact False.elim hq
    | cont => exact False.elim hq
/-! ### a walk over a list or a tuple -/
def iSeq (K : PySem.W.Frag) (tl : TE) : TI := fun σ H R => tl σ H fun x H1 => ∃ a, x = .ref a ∧ (((∃ xs, SqL K H1 a xs) ∧ R (Itl K a) H1) ∨ ((∃ xs, SqT K H1 a xs) ∧ R (Itt K a) H1))
theorem pi_seq {X : Cx} {tg l : Expr} {tl : TE} (hl : PE X l tl) : PI X tg l (iSeq X.K tl) := by
  refine ⟨fun pins s σ H R I h => ?_⟩
  refine thn (hl.run pins s σ H _ I h) fun v s1 ⟨x, H1, I1, r1, q1⟩ => ?_
  obtain ⟨a, e, q⟩ := q1
  subst e
  cases r1
  rcases q with ⟨⟨xs, hq⟩, q⟩ | ⟨⟨xs, hq⟩, q⟩
  · obtain ⟨its, rv, p, hz⟩ := I1.list hq
    refine wpAny_pyIter_list p.isList ?_
    refine ⟨s1.heap.objs.size, [s1.heap.objs.size], _, _, H1, rfl, I1.kept (t' := s1.toks) fun b o e => Heap.get?_push_of_some _ e, turn_list a _, ⟨_, Heap.get?_push_size _ rfl, rfl, rfl⟩, fun b hb => ?_, q⟩
    have e : b = s1.heap.objs.size := by simpa using hb
    subst e
    exact I1.fpOk (Nat.le_refl _) (I1.hok.fresh (Nat.le_refl _))
  · obtain ⟨its, rv, p, hz⟩ := I1.tuple hq
    refine wpAny_pyIter_tuple (show s1.heap.IsTuple a its.toArray from p) ?_
    refine ⟨s1.heap.objs.size, [s1.heap.objs.size], _, _, H1, rfl, I1.kept (t' := s1.toks) fun b o e => Heap.get?_push_of_some _ e, turn_tuple a _, ⟨_, Heap.get?_push_size _ rfl, rfl, rfl⟩, fun b hb => ?_, q⟩
    have e : b = s1.heap.objs.size := by simpa using hb
    subst e
    exact I1.fpOk (Nat.le_refl _) (I1.hok.fresh (Nat.le_refl _))
/-! ### enumerate of a tuple that may be written -/
def iEnumT (K : PySem.W.Frag) (ta : TA) : TI := fun σ H R => ta σ H fun vs H1 => ∃ a xs, vs = [.ref a] ∧ SqT K H1 a xs ∧ R (IteT K a) H1
theorem pi_enumT {X : Cx} {e : Expr} {ta : TA} {p pos tpos : Pos} {elts : List Expr} {kk : Nat} (hg : Gl X "enumerate") (hm : X.mg "enumerate" = none) (ha : PA X [e] ta) (hs : starEach [e] X.env = [(false, eval e X.env)] := by rfl) :
    PI X (.Tuple elts kk tpos) (.Call (.Name "enumerate" p) [e] [] pos) (iEnumT X.K ta) := by
  refine ⟨fun pins s σ H R I h => ?_⟩
  refine Call_ (ld_blt I hg hm boot_enumerate (PyProof.Rows.callWith_type1 (thn (ha.run pos pins s σ H _ I h) fun us s1 ⟨vs, H1, I1, r1, q1⟩ => ?_) hs rfl))
  obtain ⟨a, xs, ex, hq, q⟩ := q1
  subst ex
  cases r1 with
  | cons r rr =>
    cases rr
    cases r
    have fp : ∀ b, b = s1.heap.objs.size + 1 ∨ b = s1.heap.objs.size → FpOk X pins H1 b := fun b e' => by
      have hle : s1.heap.objs.size ≤ b := by
        rcases e' with z | z
        · rw [z]; exact Nat.le_add_right _ _
        · rw [z]; exact Nat.le_refl _
      exact I1.fpOk hle (I1.hok.fresh hle)
    obtain ⟨its, rv, p', hz⟩ := I1.tuple hq
    refine call_enumerate_tuple p' fun h' he hit hsz hk => wpAny_pyIter_enum he ?_
    have I2 : Inv X pins σ H1 { s1 with heap := h' } := I1.kept (t' := s1.toks) hk
    refine ⟨s1.heap.objs.size + 1, [s1.heap.objs.size + 1, s1.heap.objs.size], _, _, H1, rfl, I2, turn_enumT a (s1.heap.objs.size + 1) s1.heap.objs.size, ⟨⟨.none, he⟩, hit, Nat.succ_ne_self _⟩, fun b hb => fp b (by simpa using hb), q⟩
/-! ### an object made, a static method called, where the body may raise -/
section
variable {X : Cx} {CX : CXT} {k : Nat} {f C g : Addr} {mc : Value} {fd : FuncData} {ps : List Str} {sp : Sp} {E : L2.St → XK} {x m : Str} {p pos apos : Pos} {e : Expr} {es : List Expr} {t : TA} {pl : Sem Bool}
theorem run_makeS {pins : List (Addr × Obj)} {σ : L2.St} {H : Hp} {s : Shared} {Q : VK} {us : List Value} {vs : List V} (M : Mk X.K C f) (F : FnOk X.prog X.w X.K X.mg X.base CX k f fd ps sp) (hr : Room (k + 1) X.A) (hb : Binds X.K fd ps []) (hx : PassesAt CX X σ (E σ)) (I : Inv X pins σ H s) (r : Vals vs us)
    (h : ∀ x dx, H x = none → H dx = none → dx ≠ x → sp (.ref x :: vs) (upd (upd H dx (.own x)) x (.ins C dx [])) (fun v H2 => v = .non ∧ Q (.ref x) H2) (E σ)) :
    wpAny (model X.prog X.w) X.A (call (.ref C) us) (EP X pins σ Q) X.xe s := by
  have hq := h (s.heap.objs.size + 1) s.heap.objs.size (I.hok.fresh (Nat.le_succ _)) (I.hok.fresh (Nat.le_refl _)) (Nat.ne_of_lt (Nat.lt_succ_self _))
  have I2 := Inv.made (C := C) I
  have r2 : Vals (V.ref (s.heap.objs.size + 1) :: vs) (Value.ref (s.heap.objs.size + 1) :: us) := .cons rfl r
  have hl : (Value.ref (s.heap.objs.size + 1) :: us).length = ps.length := by
    have e := r2.length
    rw [F.len _ _ _ _ hq] at e
    exact e.symm
  have b := hb _ (Value.ref (s.heap.objs.size + 1) :: us) I2.kIn (by rw [List.append_nil]; exact hl)
  rw [List.append_nil] at b
  refine wpAny_call (make_map (f := f) I.kIn M.makes M.init (beq_iff_eq.mp M.fn) (codeAny_mono (F.run _ X.stack _ _ ⟨Value.ref (s.heap.objs.size + 1) :: us, []⟩ (Value.ref (s.heap.objs.size + 1) :: us) _ _ (E σ) (hr.make C us [])
    (I2.env0.make C us []) b r2 hq) fun r s' hq' => ?_))
  cases r with
  | error e => exact hx pins _ _ e s' I2 hq'
  | ok fl =>
    cases fl with
    | ret u =>
      obtain ⟨v, H', I3, rv, ev, q3⟩ := I2.after hq'
      subst ev
      exact ⟨rv, ⟨V.ref (s.heap.objs.size + 1), H', I3, rfl, q3⟩⟩
    | next => exact False.elim hq'
    | brk => exact False.elim hq'
    | cont => exact False.elim hq'
def tMakeS (C : Addr) (sp : Sp) (E : L2.St → XK) (t : TA) : TE := fun σ H Q => t σ H fun vs H1 => ∀ x dx, H1 x = none → H1 dx = none → dx ≠ x → sp (.ref x :: vs) (upd (upd H1 dx (.own x)) x (.ins C dx [])) (fun v H2 => v = .non ∧ Q (.ref x) H2) (E σ)
theorem pe_makeS (M : Mk X.K C f) (F : FnOk X.prog X.w X.K X.mg X.base CX k f fd ps sp) (hr : Room (k + 1) X.A) (hg : Gl X x) (hm : X.mg x = some (.ref C)) (hb : Binds X.K fd ps []) (hx : ∀ σ, PassesAt CX X σ (E σ))
    (ha : PA X (e :: es) t) (hdb : (x == ("__debug__" : Str)) = false := by decide) (he : starEach (e :: es) X.env = (false, eval e X.env) :: starEach es X.env := by rfl) (hpl : (backTo pos (starEach es X.env)).any (·.1) = false := by rfl) :
    PE X (.Call (.Name x p) (e :: es) [] pos) (tMakeS C sp E t) := by
  refine ⟨fun pins s σ H Q I h => ?_⟩
  refine wpAny_Call_Name_kw (ld_glob I hg hm ?_ hdb)
  refine PySem.W.callWith_K (h₀ := X.base) I.ok.mod.kin M.kp (thn (ha.run pos pins s σ H _ I h) fun us s1 ⟨vs, H1, I1, r, q⟩ => ⟨I1.kIn, ?_⟩) he hpl
  exact run_makeS M F hr hb (hx σ) I1 r q
def tSMethS (sp : Sp) (E : L2.St → XK) (t : TA) : TE := fun σ H Q => t σ H fun vs H2 => sp vs H2 Q (E σ)
theorem pe_smethS (hmx : X.mg x = some (.ref C)) (r : ClX.CRead X.K C mc) (c : SMet X.K C mc m g) (F : FnOk X.prog X.w X.K X.mg X.base CX k g fd ps sp) (hr : Room k X.A) (hb : Binds X.K fd ps []) (hx : ∀ σ, PassesAt CX X σ (E σ)) (ha : PA X (e :: es) t) (hg : Gl X x := by rfl) (hdb : (x == ("__debug__" : Str)) = false := by decide)
    (hst : starEach (e :: es) X.env = (false, eval e X.env) :: starEach es X.env := by rfl) (hpl : (backTo pos (starEach es X.env)).any (·.1) = false := by rfl)
    (ht : eval (.Call (.Attribute (.Name x p) m apos) (e :: es) [] pos) X.env = (do
      let ov ← eval (.Name x p) X.env
      standAt apos.atName
      let (f, first) ← holding [ov] (getMethod ov m pl)
      callWith pos f first (backTo pos (starEach (e :: es) X.env)) (backToKw pos (keywordEach [] X.env))) := by rfl) :
    PE X (.Call (.Attribute (.Name x p) m apos) (e :: es) [] pos) (tSMethS sp E t) := by
  obtain ⟨q, at_, ⟨rest, hp⟩, hk⟩ := c.ex
  refine ⟨fun pins s σ H Q I h => ?_⟩
  refine PySem.W.methodCall_KW (pl := pl) (ld_glob I hg hmx ?_ hdb) ht
  refine PySem.W.method_cls I.kIn r.ga (PySem.W.cls_bind I.kIn r.rd at_ ?_)
  refine wpAny_call (PySem.W.sm_get (s := { s with toks := s.toks + 1 }) I.kIn hp (PySem.W.handed_on rfl ?_))
  refine PySem.W.callWith_K (f := .ref g) (first := []) (h₀ := X.base) I.ok.mod.kin hk (thn (ha.run pos pins _ σ H _ (I.tok _) h) fun us s1 ⟨vs, H1, I1, r1, q1⟩ => ⟨I1.kIn, ?_⟩) hst hpl
  exact run_fnS F hr hb (hx σ) I1 r1 q1
theorem pe_smeth0 (hmx : X.mg x = some (.ref C)) (r : ClX.CRead X.K C mc) (c : SMet X.K C mc m g) {E : XK} (F : FnOk X.prog X.w X.K X.mg X.base CX k g fd ps sp) (hr : Room k X.A) (hb : Binds X.K fd ps []) (hx : Passes CX X E) (hg : Gl X x := by rfl) (hdb : (x == ("__debug__" : Str)) = false := by decide)
    (ht : eval (.Call (.Attribute (.Name x p) m apos) [] [] pos) X.env = (do
      let ov ← eval (.Name x p) X.env
      standAt apos.atName
      let (f, first) ← holding [ov] (getMethod ov m pl)
      callWith pos f first (backTo pos (starEach [] X.env)) (backToKw pos (keywordEach [] X.env))) := by rfl) :
    PE X (.Call (.Attribute (.Name x p) m apos) [] [] pos) (fun σ H Q => sp [] H Q E) := by
  obtain ⟨q, at_, ⟨rest, hp⟩, hk⟩ := c.ex
  refine ⟨fun pins s σ H Q I h => ?_⟩
  refine PySem.W.methodCall_KW (pl := pl) (ld_glob I hg hmx ?_ hdb) ht
  refine PySem.W.method_cls I.kIn r.ga (PySem.W.cls_bind I.kIn r.rd at_ ?_)
  refine wpAny_call (PySem.W.sm_get (s := { s with toks := s.toks + 1 }) I.kIn hp (PySem.W.handed_on rfl ?_))
  exact PySem.W.callWith_K0 (first := []) (I.tok (s.toks + 1)).kIn hk (run_fn (us := []) (vs := []) F hr hb .nil hx (I.tok (s.toks + 1)) .nil h)
end
/-! ### isinstance(e, (c1, c2, ..)), e the exception that the suite holds -/
def rIsET (K : PySem.W.Frag) (D a : Addr) : List V → Hp → VK → Prop := fun xs H Q => ∃ (tp : Addr) (cs : List V) (us : List Value) (b : Bool), xs = [.ref a, .ref tp] ∧ H tp = some (.tup cs) ∧ Paired ClsV cs us ∧ PySem.W.kitAny K (.ref D) us = some b ∧ Q (.bl b) H
theorem call_isET {X : Cx} {a D : Addr} {oe : Obj} {pn : List (Addr × Obj)} (C : ExcC X.K D) (hz : Zc (.ref D) none oe) (hf : ∃ vs, oe.data = .fields vs) : CallR (X.suite a ((a, oe) :: pn)) (.builtin "isinstance") (rIsET X.K D a) := by
  intro pins s σ H xs us Q I r h
  obtain ⟨tp, cs, ws, b, rfl, hT, k, e, q⟩ := h
  cases r with
  | cons rx rr =>
    cases rr with
    | cons rt rr =>
      cases rr
      cases rx
      cases rt
      obtain ⟨hget, _⟩ := I.pin (a, oe) (List.mem_append.mpr (.inl List.mem_cons_self))
      obtain ⟨vs, hv⟩ := hf
      have J : PySem.W.InstAt s.heap a oe D none := by
        obtain ⟨oc, od, oda, osl⟩ := oe
        obtain ⟨h1, h2⟩ := hz
        dsimp only at h1 h2 hv
        subst h1 h2 hv
        exact ⟨hget, rfl, rfl, trivial⟩
      obtain ⟨_, its, rv, o, h1, h2, n, h3⟩ := (show ObjOk X.prog X.w H s.heap tp (.tup cs) from I.hok tp _ hT)
      have e3 := ClsV.all k rv
      subst e3
      obtain ⟨oc, od, dt, sl⟩ := o
      simp only at h2 h3
      subst h2 h3
      exact PySem.W.kia_tup (PySem.W.handS_kitx_exc C.hg C.hk C.hs C.hd C.ha C.hn C.ht C.hm) I.kIn J h1 e (fun z => nomatch z) fun tk => ⟨.bl b, H, I.kept (t' := tk) fun _ _ z => z, rfl, q⟩
end Rg
namespace Rg
open PySem PySem.Spec PyProof.Rows L2
theorem op_inK {X : Cx} {K : PySem.W.Frag} (hK : X.K = K := by rfl) : OpR X (compareOp .In) (rIn K false) := by
  subst hK
  exact op_in_seq
theorem pg_tupK {X : Cx} {K : PySem.W.Frag} {es : List Expr} {k n : Nat} {pos : Pos} {t : TGs} (hc : X.calm = true) (h : PGs X es t) (hn : (assignEach es X.env).length = n := by rfl) (hst : (assignEach es X.env).findIdx? (·.1) = none := by rfl) (hK : X.K = K := by rfl) : PG X (.Tuple es k pos) (gTup K n t) := by
  subst hK
  exact pg_tup hc h hn hst
def tTru (K : PySem.W.Frag) (ta : TE) : TT := fun σ H Q => ta σ H fun x H' => ∃ k, TruV K x H' k ∧ Q k H'
theorem pt_truthK {X : Cx} {K : PySem.W.Frag} {a : Expr} {ta : TE} (ha : PE X a ta) (he : ∀ whole, isTrue a X.env whole = (do let v ← whole; standAt a.pos; holding [v] (truthy v))) (hK : X.K = K := by rfl) : PT X a (tTru K ta) := by
  subst hK
  exact pt_truth ha he
theorem op_notInK {X : Cx} {K : PySem.W.Frag} (hK : X.K = K := by rfl) : OpR X (compareOp .NotIn) (rIn K true) := by
  subst hK
  exact op_notIn_seq
end Rg
namespace Rg
open PySem PySem.Spec PyProof.Rows L2
/-! ### {e for x in xs if ..}, e a whole number -/
/-- D the new set -/
def tScI (w : World) (wi : TI) (g : TG) (tt : TT) (te : TE) (vs : List Nat) : TE := fun σ H Q => wi σ H fun J H1 => ∀ D, H1 D = none → ∃ W : Nat → Nat → Hp → Prop, (∃ m, W 0 m (upd H1 D (SetO w D (fun _ => false) 0))) ∧ ∀ i m H, W i m H →
  (J.stop i H ∧ Q (.ref D) H) ∨ (J.go i H ∧ ∃ Nx : Hp → Prop, (∀ H', Nx H' → ∃ m', m' < m ∧ W (i + 1) m' H') ∧ ∀ x H', J.yld i H x H' → g x (wipe σ vs) H' fun σ2 H2 => wipe σ2 vs = wipe σ vs ∧ tt σ2 H2 fun b H3 =>
    if b = true then te σ2 H3 fun y H4 => ∃ (c : Int) (S : Int → Bool) (n : Nat), y = .int c ∧ H4 D = some (SetO w D S n) ∧ n + 1 < scanBound ∧ Nx (upd H4 D (SetO w D (fun j => S j || decide (j = c)) (if S c = true then n else n + 1))) else Nx H3)
theorem pe_scI {X : Cx} {elt tg iter : Expr} {ifs : List Expr} {scope : Scope} {own : List (PySem.Str × Nat)} {pos : Pos} {wi : TI} {g : TG} {tt : TT} {te : TE} (hc : X.calm = true) (hN : X.N.Nodup) (hi : PI X tg iter wi) (ok : BlkOk X.N X.env.scope scope own)
    (hg : ∀ (s : Shared) (H : Hp) (C : Addr) (cl : List (PySem.Str × Addr)) (fp : List Addr), PG (X.blk s H scope (compEnvC scope cl C X.env) fp) tg g) (ht : ∀ (s : Shared) (H : Hp) (C : Addr) (cl : List (PySem.Str × Addr)) (fp : List Addr), PTs (X.blk s H scope (compEnvC scope cl C X.env) fp) ifs tt)
    (he : ∀ (s : Shared) (H : Hp) (C : Addr) (cl : List (PySem.Str × Addr)) (fp : List Addr), PE (X.blk s H scope (compEnvC scope cl C X.env) fp) elt te) (hs : ∀ x, foldedSetIterable iter X.env x = pure x := by intro _; rfl) :
    PE X (.SetComp elt [⟨tg, iter, ifs, 0⟩] scope pos) (tScI X.w wi g tt te (own.map (·.2))) := by
  refine ⟨fun pins s σ H Q I h => ?_⟩
  rw [PpSet.eval_SetComp]
  have free : ∀ y ∈ scope.names, y.2 = .free → ∃ c, X.env.cells.lookup y.1 = some c := fun y hy e => (ok.free y hy e).elim (fun k => I.ok.has _ (.inl k)) fun k => I.ok.has _ (.inr k)
  refine wpAny_comprehension_free (use := none) rfl hs (closure_ok free) ok.kind (fun y hy e => by rw [ok.uniq y hy, e])
    (thn (hi.run pins s σ H _ I h) fun xv s1 hx => thn hx fun itv s2 h2 => ?_)
  obtain ⟨it, fp, tn, J, H2, rfl, I2, T, st2, f2, q⟩ := h2
  refine PpSet.newSet_ok (newEnv_comp ?_)
  have keep2 : ∀ (b : Addr) (o : Obj), s2.heap.get? b = some o → (s2.heap.push { cls := .type "set", dict := none, data := .set #[] 0 (.fresh 0 0 (!X.w.params.followText "set-order")) }).get? b = some o := fun b o e => Heap.get?_push_of_some _ e
  have ltF : ∀ b ∈ fp, b < s2.heap.objs.size := fun b hb => let ⟨o, e, _⟩ := T.obj _ _ st2 b hb; Heap.lt_size e
  obtain ⟨D, hD⟩ : ∃ D, D = s2.heap.objs.size := ⟨_, rfl⟩
  rw [← hD]
  have nD : H2 D = none := I2.hok.fresh (Nat.le_of_eq hD.symm)
  obtain ⟨W, ⟨m0, w0⟩, turn⟩ := q D nD
  obtain ⟨s3, e3⟩ : ∃ s3 : Shared, s3 = { s2 with heap := s2.heap.push { cls := .type "set", dict := none, data := .set #[] 0 (.fresh 0 0 (!X.w.params.followText "set-order")) } } := ⟨_, rfl⟩
  rw [← e3]
  have h3 : s3.heap = s2.heap.push { cls := .type "set", dict := none, data := .set #[] 0 (.fresh 0 0 (!X.w.params.followText "set-order")) } := by rw [e3]
  obtain ⟨H3, eH3⟩ : ∃ H3, H3 = upd H2 D (SetO X.w D (fun _ => false) 0) := ⟨_, rfl⟩
  rw [← eH3] at w0
  have I3 : Inv X pins σ H3 s3 := by
    rw [e3, eH3]
    refine I2.laid (t' := s2.toks) keep2 (Nat.le_of_eq hD.symm) ?_
    rw [hD]
    exact setO_new (setR_fresh X.w)
  have f3 : ∀ b ∈ fp, FpOk X pins H3 b ∧ b < s3.heap.objs.size := fun b hb => by
    have hlt := ltF b hb
    refine ⟨⟨?_, (f2 b hb).2⟩, by rw [h3, Heap.size_push]; exact Nat.lt_succ_of_lt hlt⟩
    rw [eH3, upd_ne (by rw [hD]; exact Nat.ne_of_lt hlt)]
    exact (f2 b hb).1
  have st3 : tn 0 s3.heap := T.keep _ _ _ st2 fun b _ o e => by rw [h3]; exact keep2 b o e
  have I4 := block_start I3 ok hN f3
  obtain ⟨cl, ecl⟩ : ∃ cl, cl = cellsFrom (s3.heap.objs.size + 1) scope.names (cloFrom X.env.cells scope.names []) := ⟨_, rfl⟩
  rw [← ecl] at I4 ⊢
  obtain ⟨ce, ece⟩ : ∃ ce, ce = compEnvC scope cl s3.heap.objs.size X.env := ⟨_, rfl⟩
  have pg := hg s3 H3 s3.heap.objs.size cl fp
  have pt := ht s3 H3 s3.heap.objs.size cl fp
  have pe := he s3 H3 s3.heap.objs.size cl fp
  rw [← ece] at I4 pg pt pe
  show codeAny _ _ (.compStart (.SetComp elt [⟨tg, iter, ifs, 0⟩] scope pos) 0 (.ref it) (.ref D) (compEnvC scope cl s3.heap.objs.size X.env)) _ { s3 with heap := pushCells (s3.heap.push { cls := .type "dict", data := .dict #[] }) scope.names }
  rw [← ece]
  have cL : ce.locals = s3.heap.objs.size := by rw [ece]; rfl
  generalize es4 : ({ s3 with heap := pushCells (s3.heap.push { cls := .type "dict", data := .dict #[] }) scope.names } : Shared) = s4 at I4 ⊢
  have st4 : tn 0 s4.heap := T.keep _ _ _ st3 fun b _ o e => by rw [← es4]; exact pushCells_keeps _ _ _ _ (Heap.get?_push_of_some _ e)
  have stat : ∀ {σ' : L2.St} {H' : Hp} {s' : Shared}, Inv (X.blk s3 H3 scope ce fp) [] σ' H' s' → (∀ b ∈ fp, H' b = none) → ∀ b ∈ fp, FpOk (X.blk s3 H3 scope ce fp) [] H' b := fun {σ' H' s'} I' hn b hb =>
    ⟨hn b hb, (I'.ok.exf b hb).1, I'.ok.exfs b hb, .inl hb, fun x c e => (I'.ok.exf b hb).2 x c e, fun p hp => absurd (show p ∈ ([] : List (Addr × Obj)) ++ [] from hp) (by simp)⟩
  have loop : codeAny (model X.prog X.w) X.A (.compLoop (.SetComp elt [⟨tg, iter, ifs, 0⟩] scope pos) 0 (.ref it) (.ref D) ce) (compPost (model X.prog X.w) X.A X.xe none (EP X pins σ Q) (.ref D) s3.heap.objs.size) s4 := by
    refine PpSet.compLoopS_any (fun n s' => ∃ i H', Inv (X.blk s3 H3 scope ce fp) [] (wipe σ (own.map (·.2))) H' s' ∧ tn i s'.heap ∧ (∀ b ∈ fp, H' b = none) ∧ W i n H') ?_ m0 ⟨0, H3, I4, st4, fun b hb => (f3 b hb).1.1, w0⟩
    rintro n s5 ⟨i, H5, I5, st5, n5, w5⟩
    rcases turn i n H5 w5 with ⟨stop, qq⟩ | ⟨go, Nx, hNx, step⟩
    · refine thnF (T.done (X.blk s3 H3 scope ce fp) rfl rfl rfl hc i [] s5 _ H5 (fun _ _ => False) I5 (stat I5 n5) st5 stop) fun r s6 ⟨hr, I6⟩ => ?_
      subst hr
      have I7 : Inv X pins σ H5 s6 := I3.call' (ch := fp) I6.os I6.base I6.hok I6.bare fun b hb => ⟨(f3 b hb).1.2.2.2.1, (f3 b hb).1.2.1, (f3 b hb).1.2.2.2.2.1, (f3 b hb).1.2.2.2.2.2⟩
      have nC : H5 s3.heap.objs.size = none := by rw [← cL]; exact I6.free
      obtain ⟨m, hn, _⟩ := I6.loc
      have hn : s6.heap.Ns ce.locals m := hn
      rw [cL] at hn
      refine ⟨m, hn, fun h'' sb => ?_⟩
      obtain ⟨a0, a1, a2, a3, a4, a5⟩ := I3.fpOk (Nat.le_refl _) nC
      exact ⟨.ref D, H5, I7.turned (t' := s6.toks) (fun b o hb e => (sb.2 b hb).trans e) a0 a1 a3 a4 a5, rfl, qq⟩
    · refine thnF (T.item (X.blk s3 H3 scope ce fp) rfl rfl rfl hc i [] s5 _ H5 (fun _ _ => False) I5 (stat I5 n5) st5 go) fun r s6 ⟨u, hr, h6⟩ => ?_
      subst hr
      refine thnF h6 fun _ s7 ⟨x, H7, I7, r7, y7, st7, n7⟩ => ?_
      have I7' := I7.pinned (stat I7 n7) (T.obj _ _ st7)
      refine thnF (pg.run _ s7 _ H7 x u _ I7' r7 (step x H7 y7)) fun _ s8 ⟨σ8, H8, I8, hw8, q8⟩ => ?_
      refine thnF (pt.run _ s8 σ8 H8 _ I8 q8) fun b s9 ⟨H9, I9, q9⟩ => ?_
      have fin : ∀ {s' : Shared} {H' : Hp}, Inv (X.blk s3 H3 scope ce fp) ([] ++ pinsAt fp s7.heap) σ8 H' s' → Nx H' → ∃ m, m < n ∧ ∃ i H', Inv (X.blk s3 H3 scope ce fp) [] (wipe σ (own.map (·.2))) H' s' ∧ tn i s'.heap ∧ (∀ b ∈ fp, H' b = none) ∧ W i m H' := fun {s' H'} I' nx => by
        obtain ⟨m', hm, w'⟩ := hNx H' nx
        have pin : ∀ b ∈ fp, ∀ o, s7.heap.get? b = some o → s'.heap.get? b = some o ∧ H' b = none := fun b hb o e =>
          let z := I'.pin (b, o) (List.mem_append_right _ (List.mem_append_right _ (mem_pinsAt hb e)))
          ⟨z.1, z.2.1⟩
        refine ⟨m', hm, i + 1, H', (I'.unpinned (pins := [])).weak (by rw [← hw8, wipe_length]) (fun j v e => by rw [← hw8] at e; exact (wipe_some e).1), T.keep _ _ _ st7 fun b hb o e => (pin b hb o e).1, fun b hb => ?_, w'⟩
        obtain ⟨o, e, _⟩ := T.obj _ _ st7 b hb
        exact (pin b hb o e).2
      cases b with
      | false =>
        simp only [Bool.false_eq_true, if_false] at q9 ⊢
        exact fin I9 q9
      | true =>
        simp only [if_true] at q9 ⊢
        refine thnF (pe.run _ s9 σ8 H9 _ I9 q9) fun z s10 ⟨yv, H10, I10, r10, c, S0, n0, ey, hD10, hz10, nx⟩ => ?_
        subst ey
        obtain ⟨tk, rfl⟩ := r10
        exact thnF (mt_sadd (X := X.blk s3 H3 scope ce fp) _ s10 σ8 H10 (.ref D) [.int c] (.ref D) [.int c tk] (fun _ H' => Nx H') I10 rfl (.cons ⟨tk, rfl⟩ .nil) ⟨D, c, S0, n0, rfl, rfl, hD10, hz10, nx⟩) fun _ s11 ⟨_, _, I11, _, nx'⟩ => fin I11 nx'
  exact PpSet.codeAny_compStart_set loop (T.self X.A 0 _ _ _ st4 loop)
end Rg
namespace Rg
open PySem PySem.Spec PyProof.Rows L2
/-! ### set(xs) of a list of whole numbers, as a set that sorted walks -/
section
variable {P : Program} {w : World} {A : Around} {E : Value → Shared → Prop} {s : Shared}
/-- the new, empty set -/
def nSet (w : World) : Obj := { cls := .type "set", dict := none, data := .set #[] 0 (.fresh 0 0 (!w.params.followText "set-order")) }
set_option maxRecDepth 100000 in
set_option maxHeartbeats 3200000 in
theorem call_set_listI {l : Addr} {items : Array Value} (ns : List Int) {Q : Value → Shared → Prop} (hh : A.handled = none) (hl : s.heap.IsList l items) (hit : IntsAre items.toList ns) (hb : ns.length + 1 < scanBound)
    (h : ∀ (h' : Heap) (tk c : Nat), SetR w h' s.heap.objs.size (fun j => decide (j ∈ ns)) c → c ≤ ns.length → (∀ b o, s.heap.get? b = some o → h'.get? b = some o) → Q (.ref s.heap.objs.size) { s with heap := h', toks := tk }) :
    wpAny (model P w) A (call (.type "set") [.ref l]) Q E s := by
  have hsz : items.size = ns.length := by have q := IntsAre.length hit; rw [Array.length_toList] at q; exact q
  obtain ⟨c, tl, hmro⟩ := F.called_set.mro
  have hmade := F.called_set.made
  have hsub := F.called_set.sub
  refine wpAny_call (codeAny_of_tree ?_)
  show wpAny _ _ (callAny (.type "set") _) _ _ _
  refine wpAny_pure ⟨Code.quiet_builtin _ (by decide +kernel), codeAny_builtin F.entry_type_call ?_⟩
  rw [Around.under_plain (weight_type_call_type "set" [.ref l] []) rfl]
  have h1 := F.called_set.notType
  have h2 := F.called_set.canCreate
  have hct := F.typeCall_set_1 (.ref l)
  repeat (any_goals (first | assumption | wp_step))
  refine codeAny_mono (code_set_led1 (.ref l) (E := E) (Q₁ := fun obj s₁ => obj = .ref s.heap.objs.size ∧ s₁ = { s with heap := s.heap.push (nSet w) }) ⟨rfl, rfl⟩) fun r s₁ hr => ?_
  match r, hr with
  | .error e, hr => exact hr
  | .ok (.ret obj), ⟨eo, es⟩ =>
    subst eo es
    have hS : (s.heap.push (nSet w)).get? s.heap.objs.size = some (nSet w) := Heap.get?_push_size _ rfl
    have hT : Shared.TypeIs { s with heap := s.heap.push (nSet w) } (.ref s.heap.objs.size) "set" := ⟨_, hS, rfl⟩
    have hli := F.called_set.init.lookup
    have hbi := F.called_set.init.bind (.ref s.heap.objs.size)
    repeat (any_goals (first | assumption | wp_step))
    refine codeAny_mono (codeAny_call_builtin (R := wants (fun r s₂ => r = .none ∧ ∃ h' tk c, s₂ = { s with heap := h', toks := tk } ∧ SetR w h' s.heap.objs.size (fun j => decide (j ∈ ns)) c ∧ c ≤ ns.length ∧
        (∀ b o, s.heap.get? b = some o → h'.get? b = some o)) E) F.called_set.init.plain F.entry_set_init (check_set_init_1 hT ?_)) fun r₂ s₂ hr₂ => ?_
    · obtain ⟨⟨ocls, odict, odata, oslots⟩, hol, hcl, nl, hdl⟩ := hl
      simp only at hcl hdl
      subst hcl; subst hdl
      have hol' : (s.heap.push (nSet w)).get? l = some { cls := .type "list", dict := odict, data := .seq items nl, slots := oslots } := Heap.get?_push_of_some _ hol
      have hsls := F.sub_list_set
      have hslf := F.sub_list_frozenset
      have hne : (Value.type "list" == Value.type "dict") = false := by decide
      have hl1 : (s.heap.push (nSet w)).IsList l items := ⟨_, hol', rfl, nl, rfl⟩
      unfold Builtin.«set.__init__» noKeywords Builtin.Frozenset.updateFrom
      generalize hPI : pyIter = PI
      wp_walk
      subst hPI
      refine wpAny_pyIter_list hl1 ?_
      refine wpAny_bind (wpAny_runValue ?_)
      have lS : l < s.heap.objs.size := Heap.lt_size hol
      have z1 : (s.heap.push (nSet w)).objs.size = s.heap.objs.size + 1 := Heap.size_push ..
      have nI : l ≠ (s.heap.push (nSet w)).objs.size := by rw [z1]; exact Nat.ne_of_lt (Nat.lt_succ_of_lt lS)
      have nS : s.heap.objs.size ∉ [(s.heap.push (nSet w)).objs.size, l] := by
        rw [z1]
        simp only [List.mem_cons, List.not_mem_nil, or_false, not_or]
        exact ⟨Nat.ne_of_lt (Nat.lt_succ_self _), Nat.ne_of_gt lS⟩
      have val : ∀ (i : Nat) (v : Value), items[i]? = some v → ∃ k t, ns[i]? = some k ∧ v = .int k t := fun i v hv => by
        have hi : i < ns.length := by rw [← hsz]; exact (Array.getElem?_eq_some_iff.mp hv).1
        obtain ⟨t, e⟩ := PyProof.Rows.IntsAre.int_at hit i v (by rw [Array.getElem?_toList]; exact hv)
        refine ⟨ns[i], t, List.getElem?_eq_getElem hi, ?_⟩
        rw [e, List.getD_eq_getElem?_getD, List.getElem?_eq_getElem hi] <;> rfl
      refine set_update_ints ((Walks.list (A := A.in1.in1.in1) (by simp [hh]) _ l nI items).toS) s.heap.objs.size nS ns hsz hb val (items.size - 0) 0 _ (by omega) (Nat.zero_le _)
        ⟨⟨_, Heap.get?_push_size _ rfl, rfl, rfl⟩, (hl1.push _)⟩ ⟨0, Nat.le_refl 0, setR_new_at (Heap.get?_push_of_some _ hS)⟩ fun s' c' hm hc' hS' => ?_
      obtain ⟨h', g2, d', tk', os'⟩ := s'
      have eg : g2 = s.gens := hm.gens
      have ed : d' = s.drawn := hm.drawn
      have eo : os' = s.os := hm.os
      subst eg; subst ed; subst eo
      rw [hsz] at hc'
      show wpAny _ _ _ _ _ _
      refine wpAny_pure ?_
      show wpAny _ _ (ret Value.none) _ _ _
      refine wpAny_pure ⟨rfl, h', tk', c', rfl, hS', hc', fun b o e => ?_⟩
      have b0 : b < s.heap.objs.size := Heap.lt_size e
      refine hm.heap b o ?_ (Heap.get?_push_of_some _ (Heap.get?_push_of_some _ e))
      simp only [List.mem_cons, List.not_mem_nil, or_false, not_or]
      exact ⟨Nat.ne_of_lt b0, by rw [z1]; exact Nat.ne_of_lt (Nat.lt_succ_of_lt b0)⟩
    · match r₂, hr₂ with
      | .error e, hr₂ => exact hr₂
      | .ok (.ret r), hr₂ =>
        obtain ⟨rfl, h', tk, c', rfl, hS', hc', hk'⟩ := hr₂
        repeat (any_goals (first | assumption | wp_step))
        exact h _ _ _ hS' hc' hk'
end
section
variable {X : Cx}
/-- set(xs) -/
def rSetLI (K : PySem.W.Frag) (w : World) : List V → Hp → VK → Prop := fun vs H Q => ∃ (a : Addr) (ns : List Int), vs = [V.ref a] ∧ SqL K H a (ns.map V.int) ∧ ns.length + 1 < scanBound ∧
  ∀ (p : Addr) (c : Nat), H p = none → c ≤ ns.length → Q (.ref p) (upd H p (SetO w p (fun j => decide (j ∈ ns)) c))
theorem call_setLI (hc : X.calm = true) : CallR X (.type "set") (rSetLI X.K X.w) := by
  intro pins s σ H vs us Q I r h
  obtain ⟨a, ns, rfl, hs, hb, q⟩ := h
  obtain ⟨its, rv, hl, _⟩ := I.list hs
  rw [Vals.ref1 r]
  refine call_set_listI (w := X.w) ns (I.ok.hd hc) hl.isList (ints_of_vals rv) hb fun h' tk c hR hle hk => ?_
  have fresh := I.hok.fresh (Nat.le_refl s.heap.objs.size)
  exact ⟨.ref s.heap.objs.size, upd H s.heap.objs.size (SetO X.w s.heap.objs.size (fun j => decide (j ∈ ns)) c), I.laid (t' := tk) hk (Nat.le_refl _) (setO_new hR), rfl, q _ c fresh hle⟩
end
end Rg
/-! ### all, any of a generator expression whose element calls one's own defs -/
namespace GxL
open PySem PySem.Spec PyProof.Rows L2
open Sem (wp)
/-- the state is the same but for the generators' table, what was drawn, the tokens -/
def Slept (s s' : Shared) : Prop := s'.os = s.os ∧ AllBare s'.gens ∧ s'.heap = s.heap
theorem Slept.trans {a b c : Shared} (x : Slept a b) (y : Slept b c) : Slept a c := ⟨y.1.trans x.1, y.2.1, y.2.2.trans x.2.2⟩
theorem bare_set {gs : Array GenState} {g : Nat} {x : GenState} (h : AllBare gs) (hx : x.bare = true) : AllBare (gs.setIfInBounds g x) := fun y hy => by
  obtain ⟨i, hi, rfl⟩ := Array.mem_iff_getElem.mp hy
  rw [Array.getElem_setIfInBounds (by simpa using hi)]
  split
  · exact hx
  · exact h _ (Array.getElem_mem _)
theorem Slept.set {s : Shared} {g : Nat} {x : GenState} (h : AllBare s.gens) (hx : x.bare = true) : Slept s (s.setGen g x) := ⟨rfl, bare_set h hx, rfl⟩
/-- the generator's frame, entered at s: its iterator's objects at fp -/
def genCx (X : Cx) (s : Shared) (H : Hp) (cenv : Env) (fp : List Addr) : Cx where
  prog := X.prog
  w := X.w
  K := X.K
  mg := X.mg
  base := X.base
  A := X.A.in1.in1.deeper cenv
  N := X.N
  s_0 := s
  H_0 := H
  env := cenv
  outer := X.stack
  stack := cenv :: X.stack
  ex := fp
  fn := fun _ => false
  calm := true
  pn := []
  xe := fun _ _ => False
/-- the generator's frame's environment over the def's -/
abbrev gEnv (X : Cx) (scope : Scope) (C : Addr) (code : Value) : Env := genEnv scope (cloFrom X.env.cells scope.names []) C code builtinsNs X.env
section
variable {X : Cx} {pins : List (Addr × Obj)} {σ : L2.St} {H H' : Hp} {s : Shared}
theorem slept_inv (I : Inv X pins σ H s) {s' : Shared} (h : Slept s s') : Inv X pins σ H s' := by
  refine I.call' (ch := []) h.1 (Un.kept fun b u e => by rw [h.2.2]; exact e) (by rw [h.2.2]; exact I.hok) h.2.1 fun b z => absurd z (by simp)
/-- a generator's scope -/
structure GSc (scope : Scope) : Prop where
  co : scope.isCoroutine = false
  cell : ∀ y ∈ scope.names, y.2 ≠ .cell
  dot : scope.names.lookup (".0" : Str) = some NameKind.local
def gscB (scope : Scope) : Bool := !scope.isCoroutine && (scope.names.all fun y => !decide (y.2 = .cell)) && decide (scope.names.lookup (".0" : Str) = some NameKind.local)
theorem gsc_by {scope : Scope} (h : gscB scope = true) : GSc scope := by
  unfold gscB at h
  simp only [Bool.and_eq_true, Bool.not_eq_true', decide_eq_true_eq, decide_eq_false_iff_not, List.all_eq_true] at h
  exact ⟨h.1.1, fun y hy => h.1.2 y hy, h.2⟩
theorem gen_start {scope : Scope} {own : List (Str × Nat)} {fp : List Addr} {code : Value} {m : Str → Option Value} {s5 : Shared} (I : Inv X pins σ H s) (ok : BlkOk X.N X.env.scope scope own) (S : GSc scope) (hN : X.N.Nodup) (hd : X.A.handled = none)
    (hfp : ∀ b ∈ fp, FpOk X pins H b ∧ b < s.heap.objs.size) (ho : s5.os = s.os) (hb : AllBare s5.gens) (hns : s5.heap.Ns s.heap.objs.size m) (kp : ∀ b o, s.heap.get? b = some o → s5.heap.get? b = some o) :
    Inv (genCx X s H (gEnv X scope s.heap.objs.size code) fp) [] (wipe σ (own.map (·.2))) H s5 := by
  have hfree : ∀ y ∈ scope.names, y.2 = .free → ∃ c, X.env.cells.lookup y.1 = some c := fun y hy e => by
    rcases ok.free y hy e with k | k
    · exact I.ok.has _ (.inl k)
    · exact I.ok.has _ (.inr k)
  have cm : ∀ {y c}, (cloFrom X.env.cells scope.names []).lookup y = some c → X.env.cells.lookup y = some c := fun {y c} e => by
    rcases cloFrom_mem (PySem.mem_of_lookup e) with hm | ⟨h1, h2⟩
    · cases hm
    · obtain ⟨c1, hc⟩ := hfree _ h1 rfl
      have hc : X.env.cells.lookup y = some c1 := hc
      have e2 : c = c1 := by
        rw [h2, hc] <;> rfl
      rw [e2]
      exact hc
  have look : ∀ {y}, scope.names.lookup y = some .free → ∃ c, (cloFrom X.env.cells scope.names []).lookup y = some c := fun {y} hl => by
    have hy : (y, NameKind.free) ∈ scope.names := PySem.mem_of_lookup hl
    exact mem_lookup (cloFrom_has (cells := X.env.cells) (acc := []) hy)
  have okB : (genCx X s H (gEnv X scope s.heap.objs.size code) fp).Ok := by
    refine ⟨I.ok.mod, ok.kind, I.ok.glob, rfl, Nat.le_refl _, fun y z c e1 e2 => I.ok.inj y z c (cm e1) (cm e2), fun y hy => ?_, fun y c z _ => ?_, fun _ => hd, Around.frames_deeper I.ok.frames, .inr ⟨rfl, rfl⟩, fun b hb => ⟨?_, fun y c e z => ?_⟩, I.bs, Nat.le_trans I.ok.bsz I.sz,
      fun b o e hb => ?_, fun b hb z => ?_, I.stack, I.stkFree⟩
    · have hy : scope.names.lookup y = some .cell ∨ scope.names.lookup y = some .free := hy
      rcases hy with hy | hy
      · exact absurd rfl (S.cell _ (PySem.mem_of_lookup hy))
      · exact look hy
    · have z : false = true := z
      cases z
    · exact Nat.ne_of_lt (hfp b hb).2
    · exact (hfp b hb).1.2.2.2.2.1 y c (cm e) z
    · rcases (hfp b hb).1.2.2.2.1 with z | z
      · exact I.ok.noex b o e z
      · exact absurd (Nat.lt_of_lt_of_le (Heap.lt_size e) (Nat.le_trans I.ok.bsz z)) (Nat.lt_irrefl _)
    · rcases List.mem_cons.mp (I.stkSub b z) with z | z
      · exact (hfp b hb).1.2.1 z
      · exact (hfp b hb).1.2.2.1 z
  refine ⟨okB, ho, hb, Un.kept kp, ⟨m, hns, fun i y av e1 e2 e3 => ?_⟩, fun y c e => ?_, I.hok.fresh (Nat.le_refl _), fun y c e => I.freeC y c (cm e), fun p hp => absurd (show p ∈ ([] : List (Addr × Obj)) ++ [] from hp) (by simp), I.hok.kept kp, by rw [wipe_length]; exact I.len⟩
  · obtain ⟨e2, hne⟩ := wipe_some e2
    have e3 : Vis scope y := e3
    have no : ∀ k, scope.names.lookup y = some k → ¬ (k = .local ∨ k = .cell) := fun k e hh => by
      rcases ok.own _ (PySem.mem_of_lookup e) hh with e' | e'
      · obtain ⟨p, hp, hpy⟩ := List.mem_map.mp e'
        have e3 := ok.ix p hp
        have : p.1 = y := hpy
        rw [this] at e3
        exact hne (List.mem_map.mpr ⟨p, hp, nodup_ix hN e3 e1⟩)
      · exact e' (List.mem_of_getElem? e1)
    rcases e3 with k | k | k
    · exact absurd (.inl rfl) (no _ k)
    · exact absurd (.inr rfl) (no _ k)
    · obtain ⟨m, hn, hl⟩ := I.loc
      have hvis : Vis X.env.scope y := (ok.free _ (PySem.mem_of_lookup k) rfl).elim (fun k => .inr (.inl k)) (fun k => .inr (.inr k))
      obtain ⟨w', r, q⟩ := hl i y av e1 e2 hvis
      obtain ⟨c2, h2⟩ := look k
      refine ⟨w', r, .inr ⟨.inr k, c2, h2, ?_⟩⟩
      have c1 := cm h2
      rcases q with ⟨k', _⟩ | ⟨_, c3, e', z⟩
      · have k' : X.env.scope.names.lookup y = some .local := k'
        rcases ok.free _ (PySem.mem_of_lookup k) rfl with k2 | k2 <;> rw [show X.env.scope.names.lookup y = _ from k2] at k' <;> cases k'
      · rw [c1] at e'
        cases e'
        exact z.keeps kp
  · obtain ⟨w', z⟩ := I.cell y c (cm e)
    exact ⟨w', z.keeps kp⟩
end
end GxL
namespace GxL
open PySem PySem.Spec PyProof.Rows L2
open Sem (wp)
theorem over_gen {A : Around} {elt tg iter : Expr} {ifs : List Expr} {scope : Scope} {pos : Pos} {it acc : Value} {env : Env} : A.over (.compLoop (.GeneratorExp elt [⟨tg, iter, ifs, 0⟩] scope pos) 0 it acc env) [] = A.deeper env := by
  first
    | rfl
    | (obtain ⟨hd, d, fr, gs, u⟩ := A; simp [Around.over, Around.deeper, marksOver, frameCount, unitsOf, envsOf, guardsOf, pushEnvs, pushGuards, Code.envs, Code.env?, Code.isFrame, Code.guards, Code.isGuard, Code.weight, Code.frames, Code.isCreation, Code.isCaller, Code.cUnits])
theorem over_gstart {A : Around} {elt tg iter : Expr} {ifs : List Expr} {scope : Scope} {pos : Pos} {it acc : Value} {env : Env} : A.over (.compStart (.GeneratorExp elt [⟨tg, iter, ifs, 0⟩] scope pos) 0 it acc env) [] = A.deeper env := by
  first
    | rfl
    | (obtain ⟨hd, d, fr, gs, u⟩ := A; simp [Around.over, Around.deeper, marksOver, frameCount, unitsOf, envsOf, guardsOf, pushEnvs, pushGuards, Code.envs, Code.env?, Code.isFrame, Code.guards, Code.isGuard, Code.weight, Code.frames, Code.isCreation, Code.isCaller, Code.cUnits])
/-- the whole turn's reading: c: all's true, any's false; W by the turn and a measure -/
def GTurn (c : Bool) (J : It) (g : TG) (tt : TT) (te : TE) (vs : List Nat) (σ : L2.St) (Q : VK) (W : Nat → Nat → Hp → Prop) : Prop :=
  ∀ i m H, W i m H → (J.stop i H ∧ Q (.bl c) H) ∨ (J.go i H ∧ ∃ Nx : Hp → Prop, (∀ H', Nx H' → ∃ m', m' < m ∧ W (i + 1) m' H') ∧ ∀ x H', J.yld i H x H' → g x (wipe σ vs) H' fun σ2 H2 => wipe σ2 vs = wipe σ vs ∧ tt σ2 H2 fun b H3 =>
    if b = true then te σ2 H3 fun y H4 => ∃ k, y = .bl k ∧ if k = c then Nx H4 else Q (.bl (!c)) H4 else Nx H3)
/-- the generator's end, its protocol -/
def gR (G : Cx) (pn : List (Addr × Obj)) (σ : L2.St) (Q : Hp → Prop) : GenEnd := fun _ _ r s₁ => r = .ok .next ∧ ∃ H', Inv G pn σ H' s₁ ∧ Q H'
def gY (G : Cx) (pn : List (Addr × Obj)) (σ : L2.St) (c : Bool) (Q : Hp → Prop) : Protocol := fun _ _ v s₁ kap => ∃ k H', v = .bool k ∧ Inv G pn σ H' s₁ ∧ if k = c then ∀ s'', Slept s₁ s'' → kap (.send .none) s'' else Q H'
section
variable {X : Cx}
theorem thnS {α : Type} {t : Sem α} {Q Q' : α → Shared → Prop} {M : Model} {A : Around} {E : Value → Shared → Prop} {s : Shared} (h : wpAny M A t Q (fun _ _ => False) s) (hQ : ∀ a s, Q a s → Q' a s) : wpAny M A t Q' E s := wpAny_mono h hQ fun _ _ z => False.elim z
theorem gen_seg {s3 : Shared} {H3 : Hp} {cenv : Env} {fp : List Addr} {it a : Addr} {ob : Obj} {tn : Nat → Heap → Prop} {J : It} {elt tg iter : Expr} {ifs : List Expr} {scope : Scope} {pos : Pos} {g : TG} {tt : TT} {te : TE} {vs : List Nat} {σ : L2.St} {c : Bool} {Q : VK} {W : Nat → Nat → Hp → Prop}
    (T : Turn X.prog X.w X.K tg J fp it tn) (hco : cenv.scope.isCoroutine = false) (ha : ∀ b ∈ fp, a ≠ b)
    (hg : PG (genCx X s3 H3 cenv fp) tg g) (ht : PTs (genCx X s3 H3 cenv fp) ifs tt) (he : PE (genCx X s3 H3 cenv fp) elt te) (turn : GTurn c J g tt te vs σ Q W) :
    ∀ (m n i : Nat) (s₀ s : Shared) (H : Hp), m < n → Inv (genCx X s3 H3 cenv fp) [(a, ob)] (wipe σ vs) H s → tn i s.heap → (∀ b ∈ fp, H b = none) → W i m H →
      Seg (model X.prog X.w) X.A.in1.in1 (gR (genCx X s3 H3 cenv fp) [(a, ob)] (wipe σ vs) (Q (.bl c))) (gY (genCx X s3 H3 cenv fp) [(a, ob)] (wipe σ vs) c (Q (.bl (!c)))) n s₀
        (.compLoop (.GeneratorExp elt [⟨tg, iter, ifs, 0⟩] scope pos) 0 (.ref it) .none cenv)
        ((model X.prog X.w).den (.compLoop (.GeneratorExp elt [⟨tg, iter, ifs, 0⟩] scope pos) 0 (.ref it) .none cenv)) [] s := by
  intro m
  induction m using Nat.strongRecOn with
  | ind m ih =>
  intro n i s₀ s H hmn I st nf w
  have stat : ∀ {σ' : L2.St} {H' : Hp} {s' : Shared}, Inv (genCx X s3 H3 cenv fp) [(a, ob)] σ' H' s' → (∀ b ∈ fp, H' b = none) → ∀ b ∈ fp, FpOk (genCx X s3 H3 cenv fp) [(a, ob)] H' b := fun {σ' H' s'} I' hn b hb =>
    ⟨hn b hb, (I'.ok.exf b hb).1, I'.ok.exfs b hb, .inl hb, fun x c e => (I'.ok.exf b hb).2 x c e, fun p hp => by
      have hp : p ∈ ([] : List (Addr × Obj)) ++ [(a, ob)] := hp
      simp at hp
      rw [hp]
      exact ha b hb⟩
  show Seg _ _ _ _ _ s₀ _ ((compTurn (.GeneratorExp elt [⟨tg, iter, ifs, 0⟩] scope pos) 0 (.ref it) .none cenv).onRaise (leaving cenv)) [] s
  rw [compTurn_gen, Sem.onRaise_eq_wrap]
  refine seg_bind_wrap (wpAny_standAt ?_)
  rcases turn i m H w with ⟨stop, qq⟩ | ⟨go, Nx, hNx, step⟩
  · have td := T.done (genCx X s3 H3 cenv fp) rfl rfl rfl rfl i [(a, ob)] s _ H (fun _ _ => False) I (stat I nf) st stop
    refine seg_bind_wrap ?_
    rw [over_gen]
    refine thnS td fun r s6 ⟨hr, I6⟩ => ?_
    subst hr
    exact seg_end (.ok .next) ⟨rfl, H, I6, qq⟩
  · have ti := T.item (genCx X s3 H3 cenv fp) rfl rfl rfl rfl i [(a, ob)] s _ H (fun _ _ => False) I (stat I nf) st go
    refine seg_bind_wrap ?_
    rw [over_gen]
    refine thnS ti fun r s6 ⟨u, hr, h6⟩ => ?_
    subst hr
    refine seg_bind_wrap ?_
    rw [over_gen]
    refine thnS h6 fun _ s7 ⟨x, H7, I7, r7, y7, st7, n7⟩ => ?_
    have I7' := I7.pinned (stat I7 n7) (T.obj _ _ st7)
    refine seg_bind_wrap ?_
    rw [over_gen]
    refine thnS (hg.run _ s7 _ H7 x u _ I7' r7 (step x H7 y7)) fun _ s8 ⟨σ8, H8, I8, hw8, q8⟩ => ?_
    refine seg_bind_wrap ?_
    rw [over_gen]
    refine thnS (ht.run _ s8 σ8 H8 _ I8 q8) fun b s9 ⟨H9, I9, q9⟩ => ?_
    -- the turn's end
    have fin : ∀ {s' : Shared} {H' : Hp}, Inv (genCx X s3 H3 cenv fp) ([(a, ob)] ++ pinsAt fp s7.heap) σ8 H' s' → Inv (genCx X s3 H3 cenv fp) [(a, ob)] (wipe σ vs) H' s' ∧ tn (i + 1) s'.heap ∧ ∀ b ∈ fp, H' b = none := fun {s' H'} I' => by
      have pin' : ∀ b ∈ fp, ∀ o, s7.heap.get? b = some o → s'.heap.get? b = some o ∧ H' b = none := fun b hb o e =>
        let z := I'.pin (b, o) (List.mem_append_right _ (List.mem_append_right _ (mem_pinsAt hb e)))
        ⟨z.1, z.2.1⟩
      have hl : (wipe σ vs).length = σ8.length := by rw [← hw8, wipe_length]
      refine ⟨(I'.unpinned (pins := [(a, ob)])).weak hl (fun j v e => ?_), T.keep _ _ _ st7 fun b hb o e => (pin' b hb o e).1, fun b hb => ?_⟩
      · rw [← hw8] at e
        exact (wipe_some e).1
      · obtain ⟨o, e, _⟩ := T.obj _ _ st7 b hb
        exact (pin' b hb o e).2
    cases b with
    | false =>
      simp only [Bool.false_eq_true, if_false] at q9 ⊢
      obtain ⟨m', hm, w'⟩ := hNx H9 q9
      obtain ⟨J1, J2, J3⟩ := fin I9
      exact seg_again rfl (ih m' hm n (i + 1) s₀ s9 H9 (by omega) J1 J2 J3 w')
    | true =>
      simp only [if_true] at q9 ⊢
      have hy : ∀ v, yieldOut cenv v = yieldValue v := fun v => by simp only [yieldOut, hco, Bool.false_eq_true, if_false]
      simp only [hy]
      rw [Sem.bind_eq_wrap', Sem.bind_eq_wrap', Sem.wrap_wrap, Sem.wrap_wrap]
      refine seg_wrap ?_
      rw [over_gen]
      refine thnS (he.run _ s9 σ8 H9 _ I9 q9) fun z s10 ⟨yv, H10, I10, r10, k, ek, q10⟩ => ?_
      subst ek
      obtain rfl : z = Value.bool k := r10
      obtain ⟨J1, J2, J3⟩ := fin I10
      obtain ⟨n', rfl⟩ : ∃ n', n = n' + 1 := by
        cases n with
        | succ n' => exact ⟨n', rfl⟩
        | zero => exact absurd hmn (Nat.not_lt_zero _)
      refine seg_at (seg_yield rfl rfl rfl ⟨k, H10, rfl, J1, ?_⟩)
      by_cases hk : k = c
      · rw [if_pos hk] at q10 ⊢
        intro s'' hs
        obtain ⟨m', hm, w'⟩ := hNx H10 q10
        exact seg_again rfl (ih m' hm n' (i + 1) s'' s'' H10 (by omega) (slept_inv J1 hs) (by rw [hs.2.2]; exact J2) J3 w')
      · rw [if_neg hk] at q10 ⊢
        exact q10
/-- the generator's start -/
theorem gen_seg0 {s3 : Shared} {H3 : Hp} {cenv : Env} {fp : List Addr} {it a : Addr} {ob : Obj} {tn : Nat → Heap → Prop} {J : It} {elt tg iter : Expr} {ifs : List Expr} {scope : Scope} {pos : Pos} {g : TG} {tt : TT} {te : TE} {vs : List Nat} {σ : L2.St} {c : Bool} {Q : VK} {W : Nat → Nat → Hp → Prop}
    (T : Turn X.prog X.w X.K tg J fp it tn) (hco : cenv.scope.isCoroutine = false) (ha : ∀ b ∈ fp, a ≠ b)
    (hg : PG (genCx X s3 H3 cenv fp) tg g) (ht : PTs (genCx X s3 H3 cenv fp) ifs tt) (he : PE (genCx X s3 H3 cenv fp) elt te) (turn : GTurn c J g tt te vs σ Q W)
    {m n : Nat} {s₀ s : Shared} {H : Hp} (hmn : m < n) (I : Inv (genCx X s3 H3 cenv fp) [(a, ob)] (wipe σ vs) H s) (st : tn 0 s.heap) (nf : ∀ b ∈ fp, H b = none) (w : W 0 m H) :
      Seg (model X.prog X.w) X.A.in1.in1 (gR (genCx X s3 H3 cenv fp) [(a, ob)] (wipe σ vs) (Q (.bl c))) (gY (genCx X s3 H3 cenv fp) [(a, ob)] (wipe σ vs) c (Q (.bl (!c)))) n s₀
        (.compStart (.GeneratorExp elt [⟨tg, iter, ifs, 0⟩] scope pos) 0 (.ref it) .none cenv)
        ((model X.prog X.w).den (.compStart (.GeneratorExp elt [⟨tg, iter, ifs, 0⟩] scope pos) 0 (.ref it) .none cenv)) [] s := by
  have loop := gen_seg (pos := pos) (iter := iter) (scope := scope) T hco ha hg ht he turn m n 0 s₀ s H hmn I st nf w
  show Seg _ _ _ _ _ s₀ _ ((compStart (.GeneratorExp elt [⟨tg, iter, ifs, 0⟩] scope pos) 0 (.ref it) .none cenv).onRaise (leaving cenv)) [] s
  unfold compStart
  rw [Sem.onRaise_eq_wrap]
  show Seg _ _ _ _ _ s₀ _ ((ask >>= _).wrap _ _ _ _) [] s
  refine seg_bind_wrap (wpAny_askSetting ?_)
  split
  · exact seg_again rfl loop
  · first
      | exact seg_bind_wrap (wpAny_rule (seg_bind_wrap (wpAny_standAt (seg_bind_wrap (T.self _ 0 s _ _ st (seg_again rfl loop))))))
      | (refine seg_bind_wrap (wpAny_rule ?_); show Seg _ _ _ _ _ s₀ _ ((standAt iter.pos >>= _).wrap _ _ _ _) [] s; exact seg_bind_wrap (wpAny_standAt (seg_bind_wrap (T.self _ 0 s _ _ st (seg_again rfl loop)))))
/-- the generator's object: its number gi -/
structure GOb (ob : Obj) (gi : Nat) : Prop where
  cls : ob.cls = .type "generator"
  data : ∃ nm qn : Value, ob.data = .fields #[.int gi 0, nm, qn]
  slots : ob.slots = #[]
theorem GOb.at {ob : Obj} {gi : Nat} (h : GOb ob gi) {hp : Heap} {a : Addr} (e : hp.get? a = some ob) : hp.IsGen a gi := by
  obtain ⟨nm, qn, hd⟩ := h.data
  exact ⟨ob, nm, qn, e, h.cls, hd, h.slots⟩
/-- the generator at a, ready to be walked: n bounds its turns -/
def GReady (X : Cx) (G : Cx) (a : Addr) (ob : Obj) (gi : Nat) (σ : L2.St) (c : Bool) (Qs Qb : Hp → Prop) (n : Nat) (s : Shared) : Prop :=
  s.heap.NoLimit ∧ AllBare s.gens ∧ s.heap.get? a = some ob ∧ ∃ gs, s.gens[gi]? = some gs ∧ ∀ s'', Slept s s'' → gs.Goes (model X.prog X.w) X.A.in1.in1 (gR G [(a, ob)] σ Qs) (gY G [(a, ob)] σ c Qb) n (.send .none) s''
/-- a turn of the consumer -/
theorem gen_next {G : Cx} {a : Addr} {ob : Obj} {gi : Nat} {σ : L2.St} {c : Bool} {Qs Qb : Hp → Prop} {n : Nat} {s : Shared} {E : Value → Shared → Prop} {Q' : Option Value → Shared → Prop} {k : Nat} (hr : Room k X.A)
    (hob : GOb ob gi) (R : GReady X G a ob gi σ c Qs Qb n s)
    (hend : ∀ s' H', Inv G [(a, ob)] σ H' s' → Qs H' → Q' none s')
    (hgo : ∀ n' s', n = n' + 1 → GReady X G a ob gi σ c Qs Qb n' s' → Q' (some (.bool c)) s')
    (hbr : ∀ s' H', Inv G [(a, ob)] σ H' s' → Qb H' → Q' (some (.bool (!c))) s') :
    wpAny (model X.prog X.w) X.A.in1 (pyNext (.ref a)) Q' E s := by
  obtain ⟨lim, bare, hG, gs, hgs, goes⟩ := R
  have hlt : gi < s.gens.size := (Array.getElem?_eq_some_iff.mp hgs).1
  refine GenW.wpAny_gsz (n := s.gens.size) (Nat.le_refl _) ?_
  refine wpAny_pyNext_genexpQ (A := X.A.in1) (P := fun _ _ s₁ => ∃ H', Inv G [(a, ob)] σ H' s₁ ∧ Qs H') hr.hd lim (by have := hr.dp; show X.A.depth < _; omega) (hob.at hG) hgs (goes _ (Slept.set bare rfl)) (fun v s₁ gs' hb hv => ?_) (fun s₁ hp h' hk => ?_)
  · intro hsz
    obtain ⟨kk, H', rfl, I', hk⟩ := hv
    by_cases e : kk = c
    · subst e
      rw [if_pos rfl] at hk
      have sl : Slept s₁ (s₁.setGen gi gs') := Slept.set I'.bare hb
      cases n with
      | zero => exact False.elim (hk s₁ ⟨rfl, I'.bare, rfl⟩)
      | succ n' =>
        have hlt' : gi < s₁.gens.size := by
          rw [GenW.setGen_size] at hsz
          exact Nat.lt_of_lt_of_le hlt hsz
        refine hgo n' _ rfl ⟨I'.nolimit, (slept_inv I' sl).bare, (I'.pin (a, ob) (List.mem_append_right _ (by simp))).1, gs', ?_, fun s'' hs => hk s'' (sl.trans hs)⟩
        simp [Shared.setGen, hlt']
    · rw [if_neg e] at hk
      have e2 : kk = !c := by cases kk <;> cases c <;> simp_all
      rw [e2]
      exact hbr _ H' (slept_inv I' (Slept.set I'.bare hb)) hk
  · intro _
    obtain ⟨H', I', q⟩ := hp
    have I2 := slept_inv I' (Slept.set (g := gi) (x := .finished) I'.bare rfl)
    exact hend _ H' (I2.kept (t' := (s₁.setGen gi .finished).toks) hk) q
/-- all's loop, any's loop -/
theorem all_loop {G : Cx} {a : Addr} {ob : Obj} {gi : Nat} {σ : L2.St} {Qs Qb : Hp → Prop} {k : Nat} {R : Result → Shared → Prop} (hr : Room k X.A) (hob : GOb ob gi)
    (hs : ∀ s' H', Inv G [(a, ob)] σ H' s' → Qs H' → R (.ok (.ret (.bool true))) s') (hb : ∀ s' H', Inv G [(a, ob)] σ H' s' → Qb H' → R (.ok (.ret (.bool false))) s') :
    ∀ (n : Nat) (s : Shared), GReady X G a ob gi σ true Qs Qb n s → codeAny (model X.prog X.w) X.A (.builtin "all.loop" ⟨[.ref a], []⟩) R s := by
  intro n
  induction n with
  | zero =>
    intro s g
    refine codeAny_builtin F.entry_all_loop ?_
    rw [Around.under_plainId F.plain_all_loop _]
    show wpAny _ X.A.in1 (pyNext (.ref a) >>= _) _ _ s
    refine wpAny_bind (gen_next hr hob g (fun s' H' I q => ?_) (fun n' s' e => by cases e) (fun s' H' I q => ?_))
    · exact wpAny_bind (wpAny_rule (wpAny_pure (hs s' H' I q)))
    · refine wpAny_bind (wpAny_holding (wpAny_truthy_bool ?_))
      refine wpAny_bind (wpAny_letGo ?_)
      simp only [Bool.not_true, Bool.false_eq_true, if_false]
      exact wpAny_bind (wpAny_rule (wpAny_pure (hb s' H' I q)))
  | succ n ih =>
    intro s g
    refine codeAny_builtin F.entry_all_loop ?_
    rw [Around.under_plainId F.plain_all_loop _]
    show wpAny _ X.A.in1 (pyNext (.ref a) >>= _) _ _ s
    refine wpAny_bind (gen_next hr hob g (fun s' H' I q => ?_) (fun n' s' e g' => ?_) (fun s' H' I q => ?_))
    · exact wpAny_bind (wpAny_rule (wpAny_pure (hs s' H' I q)))
    · cases e
      refine wpAny_bind (wpAny_holding (wpAny_truthy_bool ?_))
      refine wpAny_bind (wpAny_letGo ?_)
      simp only [if_true]
      exact wpAny_pure ⟨plainId_quiet F.plain_all_loop _, ih s' g'⟩
    · refine wpAny_bind (wpAny_holding (wpAny_truthy_bool ?_))
      refine wpAny_bind (wpAny_letGo ?_)
      simp only [Bool.not_true, Bool.false_eq_true, if_false]
      exact wpAny_bind (wpAny_rule (wpAny_pure (hb s' H' I q)))
theorem any_loop {G : Cx} {a : Addr} {ob : Obj} {gi : Nat} {σ : L2.St} {Qs Qb : Hp → Prop} {k : Nat} {R : Result → Shared → Prop} (hr : Room k X.A) (hob : GOb ob gi)
    (hs : ∀ s' H', Inv G [(a, ob)] σ H' s' → Qs H' → R (.ok (.ret (.bool false))) s') (hb : ∀ s' H', Inv G [(a, ob)] σ H' s' → Qb H' → R (.ok (.ret (.bool true))) s') :
    ∀ (n : Nat) (s : Shared), GReady X G a ob gi σ false Qs Qb n s → codeAny (model X.prog X.w) X.A (.builtin "any.loop" ⟨[.ref a], []⟩) R s := by
  intro n
  induction n with
  | zero =>
    intro s g
    refine codeAny_builtin F.entry_any_loop ?_
    rw [Around.under_plainId F.plain_any_loop _]
    show wpAny _ X.A.in1 (pyNext (.ref a) >>= _) _ _ s
    refine wpAny_bind (gen_next hr hob g (fun s' H' I q => ?_) (fun n' s' e => by cases e) (fun s' H' I q => ?_))
    · exact wpAny_bind (wpAny_rule (wpAny_pure (hs s' H' I q)))
    · refine wpAny_bind (wpAny_holding (wpAny_truthy_bool ?_))
      refine wpAny_bind (wpAny_letGo ?_)
      simp only [Bool.not_false, if_true]
      exact wpAny_bind (wpAny_rule (wpAny_pure (hb s' H' I q)))
  | succ n ih =>
    intro s g
    refine codeAny_builtin F.entry_any_loop ?_
    rw [Around.under_plainId F.plain_any_loop _]
    show wpAny _ X.A.in1 (pyNext (.ref a) >>= _) _ _ s
    refine wpAny_bind (gen_next hr hob g (fun s' H' I q => ?_) (fun n' s' e g' => ?_) (fun s' H' I q => ?_))
    · exact wpAny_bind (wpAny_rule (wpAny_pure (hs s' H' I q)))
    · cases e
      refine wpAny_bind (wpAny_holding (wpAny_truthy_bool ?_))
      refine wpAny_bind (wpAny_letGo ?_)
      simp only [Bool.false_eq_true, if_false]
      exact wpAny_pure ⟨plainId_quiet F.plain_any_loop _, ih s' g'⟩
    · refine wpAny_bind (wpAny_holding (wpAny_truthy_bool ?_))
      refine wpAny_bind (wpAny_letGo ?_)
      simp only [Bool.not_false, if_true]
      exact wpAny_bind (wpAny_rule (wpAny_pure (hb s' H' I q)))
end
end GxL
namespace GxL
open PySem PySem.Spec PyProof.Rows L2
open Sem (wp)
/-- all(..) (c: true), any(..) (c: false) of a generator expression; the def's table at P may have grown -/
def tGx (c : Bool) (P : Addr) (wi : TI) (g : TG) (tt : TT) (te : TE) (vs : List Nat) : TE := fun σ H Q => wi σ H fun J H1 => GxR.TabG H1 P ∧ ∀ H2, GxR.Tabbed P H1 H2 → ∃ W : Nat → Nat → Hp → Prop, (∃ m, W 0 m H2) ∧ GTurn c J g tt te vs σ Q W
section
variable {X : Cx}
theorem gen_made {cc P : Addr} {c : Bool} {elt tg iter : Expr} {ifs : List Expr} {scope : Scope} {own : List (Str × Nat)} {gpos : Pos} {wi : TI} {g : TG} {tt : TT} {te : TE} {k : Nat} {pins : List (Addr × Obj)} {s : Shared} {σ : L2.St} {H : Hp} {Q : VK} {Q' : Value → Shared → Prop}
    (hr : Room (k + 3) X.A) (TB : LamX.TabB X.base X.mg cc P) (hcode : X.env.code = .ref cc) (S : GSc scope) (ok : BlkOk X.N X.env.scope scope own) (hN : X.N.Nodup) (hi : PI X tg iter wi)
    (hg : ∀ (s : Shared) (H : Hp) (C : Addr) (code : Value) (fp : List Addr), PG (genCx X s H (gEnv X scope C code) fp) tg g) (ht : ∀ (s : Shared) (H : Hp) (C : Addr) (code : Value) (fp : List Addr), Room k (genCx X s H (gEnv X scope C code) fp).A → PTs (genCx X s H (gEnv X scope C code) fp) ifs tt)
    (he : ∀ (s : Shared) (H : Hp) (C : Addr) (code : Value) (fp : List Addr), Room k (genCx X s H (gEnv X scope C code) fp).A → PE (genCx X s H (gEnv X scope C code) fp) elt te) (hs : ∀ v, genFold iter X.env v = pure v)
    (I : Inv X pins σ H s) (h : tGx c P wi g tt te (own.map (·.2)) σ H Q)
    (hQ : ∀ (G : Cx) (a : Addr) (ob : Obj) (gi n : Nat) (s5 : Shared), GOb ob gi → GReady X G a ob gi (wipe σ (own.map (·.2))) c (Q (.bl c)) (Q (.bl (!c))) n s5 → (∀ s' H', Inv G [(a, ob)] (wipe σ (own.map (·.2))) H' s' → Inv X pins σ H' s') → Q' (.ref a) s5) :
    wpAny (model X.prog X.w) X.A (eval (.GeneratorExp elt [⟨tg, iter, ifs, 0⟩] scope gpos) X.env) Q' X.xe s := by
  have hfree : ∀ y ∈ scope.names, y.2 = .free → ∃ c, X.env.cells.lookup y.1 = some c := fun y hy e => by
    rcases ok.free y hy e with k | k
    · exact I.ok.has _ (.inl k)
    · exact I.ok.has _ (.inr k)
  refine wpAny_GeneratorExp_make S.co (closure_ok hfree) S.cell S.dot ok.kind (by have := hr.dp; omega) ?_ hs
  refine thn (hi.run pins s σ H _ I h) fun xv s1 h1 => thn h1 fun itv s2 h2 => ?_
  obtain ⟨it, fp, tn, J, H2, e, I2, T, st2, f2, ⟨ps, hP, hto⟩, q⟩ := h2
  subst e
  have hPs : s2.heap.get? P = some { cls := .none, data := .fields ps } := I2.hok P _ hP
  have cd : PySem.W.CodeHd s2.heap cc P := TB.code.keeps I2.bk
  have sz : ∀ b ∈ fp, b < s2.heap.objs.size := fun b hb => by
    obtain ⟨o, e, _⟩ := T.obj _ _ st2 b hb
    exact Heap.lt_size e
  have nfP : ∀ b ∈ fp, b ≠ P := fun b hb z => by
    have z1 := (f2 b hb).1
    rw [z, hP] at z1
    cases z1
  have cont : ∀ (code : Value) (h3 : Heap) (tk : Nat) (more : Array Value), Heap.ExtBut P s2.heap h3 → s2.heap.objs.size ≤ h3.objs.size → h3.get? P = some { cls := .none, data := .fields (ps ++ more) } → TriplesOk (ps ++ more).toList →
      wpAny (model X.prog X.w) X.A (builtinsFor X.env.globals X.env.builtins) (fun bi s₄ =>
        ∀ h', h'.Ns s₄.heap.objs.size (fun y => if y = ".0" then some (.ref it) else none) → Heap.SameBut s₄.heap.objs.size (s₄.heap.push { cls := .type "frame", data := .dict #[] }) h' →
          Q' (.ref h'.objs.size) { s₄ with
            gens := s₄.gens.push (.fresh (.compStart (.GeneratorExp elt [⟨tg, iter, ifs, 0⟩] scope gpos) 0 (.ref it) .none (genEnv scope (cloFrom X.env.cells scope.names []) s₄.heap.objs.size code bi X.env))),
            toks := s₄.toks + 1 + 1 + 1,
            heap := h'.push { cls := .type "generator", data := .fields #[.int s₄.gens.size 0, .str "<genexpr>" (s₄.toks + 1), .str (X.env.qual ++ "<genexpr>") (s₄.toks + 1 + 1)] } }) X.xe { s2 with heap := h3, toks := tk } := by
    intro code h3 tk more hx hsz hP3 ht3
    have I3 : Inv X pins σ (upd H2 P (.tbl (ps ++ more))) { s2 with heap := h3, gens := s2.gens, drawn := s2.drawn, toks := tk } := GxR.inv_tab I2 hP (fun b o hb e => hx b o hb e) hP3 I2.bare
    obtain ⟨bm, ob, e1, e2, e3, e4, e5, e6, e7, e8⟩ := TB.bm
    have keep3 : ∀ b u, b ≠ P → s2.heap.get? b = some u → h3.get? b = some u := fun b u hb e => hx b u hb e
    refine wpAny_builtinsFor (m := X.mg) (by rw [I2.ok.glob]; exact (I2.mod.glob.keeps I2.bk).extBut hx TB.gP) e1 e2 (keep3 _ _ e4 (I2.bk _ _ e5)) e6 e7 e8 ?_
    intro h' hns hsb
    obtain ⟨W, ⟨m0, w0⟩, turn⟩ := q (upd H2 P (.tbl (ps ++ more))) ⟨⟨ps ++ more, upd_same, ht3⟩, fun b hb => upd_ne hb⟩
    generalize hH3 : upd H2 P (.tbl (ps ++ more)) = H3 at I3 w0
    have n3 : ∀ b ∈ fp, H3 b = none := fun b hb => by rw [← hH3, upd_ne (nfP b hb)]; exact (f2 b hb).1
    generalize hs3 : ({ s2 with heap := h3, gens := s2.gens, drawn := s2.drawn, toks := tk } : Shared) = s3 at I3
    have es3 : ({ s2 with heap := h3, toks := tk } : Shared) = s3 := by rw [← hs3]
    have eh3 : h3 = s3.heap := by rw [← hs3]
    rw [show ({ s2 with heap := h3, toks := tk } : Shared).heap = s3.heap from by rw [es3]] at hns hsb
    have f3 : ∀ b ∈ fp, FpOk X pins H3 b ∧ b < s3.heap.objs.size := fun b hb => ⟨⟨n3 b hb, (f2 b hb).2⟩, by rw [← eh3]; exact Nat.lt_of_lt_of_le (sz b hb) hsz⟩
    have szh : h'.objs.size = s3.heap.objs.size + 1 := by rw [hsb.1, Heap.size_push]
    have kp' : ∀ b o, s3.heap.get? b = some o → h'.get? b = some o := fun b o e => hsb.extBut b o (Nat.ne_of_lt (Heap.lt_size e)) (Heap.get?_push_of_some _ e)
    generalize hob : ({ cls := .type "generator", data := .fields #[.int s3.gens.size 0, .str "<genexpr>" (s3.toks + 1), .str (X.env.qual ++ "<genexpr>") (s3.toks + 1 + 1)] } : Obj) = og
    have GO : GOb og s3.gens.size := by
      rw [← hob]
      exact ⟨rfl, ⟨_, _, rfl⟩, rfl⟩
    have kp5 : ∀ b o, s3.heap.get? b = some o → (h'.push og).get? b = some o := fun b o e => Heap.get?_push_of_some _ (kp' b o e)
    have ga : (h'.push og).get? h'.objs.size = some og := Heap.get?_push_size _ (by rw [← hob]; rfl)
    refine hQ (genCx X s3 H3 (gEnv X scope s3.heap.objs.size code) fp) h'.objs.size og s3.gens.size (m0 + 1) _ GO ?_ fun s' H' I' => ?_
    · generalize hs5 : ({ s3 with
            gens := s3.gens.push (.fresh (.compStart (.GeneratorExp elt [⟨tg, iter, ifs, 0⟩] scope gpos) 0 (.ref it) .none (genEnv scope (cloFrom X.env.cells scope.names []) s3.heap.objs.size code builtinsNs X.env))),
            toks := s3.toks + 1 + 1 + 1, heap := h'.push og } : Shared) = s5
      have eh5 : s5.heap = h'.push og := by rw [← hs5]
      have I5 : Inv (genCx X s3 H3 (gEnv X scope s3.heap.objs.size code) fp) [] (wipe σ (own.map (·.2))) H3 s5 :=
        gen_start I3 ok S hN hr.hd f3 (by rw [← hs5]) (by rw [← hs5]; exact I3.bare.push rfl) (by rw [eh5]; exact hns.push _) (by rw [eh5]; exact kp5)
      have I6 : Inv (genCx X s3 H3 (gEnv X scope s3.heap.objs.size code) fp) [(h'.objs.size, og)] (wipe σ (own.map (·.2))) H3 s5 := by
        refine I5.pins_of fun p hp => ?_
        have hp : p = (h'.objs.size, og) := by simpa using hp
        rw [hp]
        have hge : s3.heap.objs.size ≤ h'.objs.size := by omega
        refine ⟨by rw [eh5]; exact ga, I3.hok.fresh hge, ?_, fun z => ?_, fun v z => ?_⟩
        · show h'.objs.size ≠ s3.heap.objs.size
          omega
        · obtain ⟨_, o, ho, _⟩ := I5.ok.funs.mem z
          have ho : s3.heap.get? h'.objs.size = some o := ho
          exact absurd (Nat.lt_of_lt_of_le (Heap.lt_size ho) hge) (Nat.lt_irrefl _)
        · rw [← hob] at z
          cases z
      have st5 : tn 0 s5.heap := T.keep _ _ _ st2 fun b hb o e => by rw [eh5]; exact kp5 b o (by rw [← eh3]; exact keep3 b o (nfP b hb) e)
      have hgs : s5.gens[s3.gens.size]? = some (.fresh (.compStart (.GeneratorExp elt [⟨tg, iter, ifs, 0⟩] scope gpos) 0 (.ref it) .none (gEnv X scope s3.heap.objs.size code))) := by
        rw [← hs5]
        exact Array.getElem?_push_size ..
      refine ⟨I6.nolimit, I6.bare, by rw [eh5]; exact ga, _, hgs, fun s'' hsl => ⟨rfl, ?_⟩⟩
      have hab : ∀ b ∈ fp, h'.objs.size ≠ b := fun b hb z => by
        have h1 := (f3 b hb).2
        rw [← z] at h1
        have h1 : h'.objs.size < s3.heap.objs.size := h1
        omega
      exact gen_seg0 T S.co hab (hg _ _ _ _ _) (ht _ _ _ _ _ (hr.in1.in1.deeper _)) (he _ _ _ _ _ (hr.in1.in1.deeper _)) turn (Nat.lt_succ_self m0) (slept_inv I6 hsl) (by rw [hsl.2.2]; exact st5) n3 w0
    · exact I3.call' (ch := fp) I'.os I'.base I'.hok I'.bare fun b hb => ⟨(f3 b hb).1.2.2.2.1, (f3 b hb).1.2.1, (f3 b hb).1.2.2.2.2.1, (f3 b hb).1.2.2.2.2.2⟩
  refine ⟨I2.nolimit, ?_⟩
  cases hf : codeAmong gpos ps.toList with
  | none =>
    refine wpAny_genexprCodeX hcode (cd.code hPs hto) (cd.tab hPs) hf fun c' h' tk hx hge hlt hco' _ htab' _ => ?_
    obtain ⟨o1, vs, f1, tf, fl, tg, inF, tx, tt, op, _, _, _, _, _, _, _, _, _, htr, _⟩ := hco'
    exact cont _ h' tk _ hx (Nat.le_trans hge (Nat.le_of_lt hlt)) htab'.2 htr
  | some cv =>
    refine wpAny_genexprCode_hit hcode (cd.code hPs hto) hf ?_
    exact cont cv s2.heap s2.toks #[] (Heap.ExtBut.refl _ _) (Nat.le_refl _) (by simpa using hPs) (by simpa using hto)
/-- all(.. for .. in ..) -/
theorem pe_allG {cc P : Addr} {elt tg iter : Expr} {ifs : List Expr} {scope : Scope} {own : List (Str × Nat)} {p pos gpos : Pos} {wi : TI} {g : TG} {tt : TT} {te : TE} {k : Nat}
    (hr : Room (k + 3) X.A) (hgl : Gl X "all") (hm : X.mg "all" = none) (TB : LamX.TabB X.base X.mg cc P) (hcode : X.env.code = .ref cc) (S : GSc scope) (ok : BlkOk X.N X.env.scope scope own) (hN : X.N.Nodup) (hi : PI X tg iter wi)
    (hg : ∀ (s : Shared) (H : Hp) (C : Addr) (code : Value) (fp : List Addr), PG (genCx X s H (gEnv X scope C code) fp) tg g) (ht : ∀ (s : Shared) (H : Hp) (C : Addr) (code : Value) (fp : List Addr), Room k (genCx X s H (gEnv X scope C code) fp).A → PTs (genCx X s H (gEnv X scope C code) fp) ifs tt)
    (he : ∀ (s : Shared) (H : Hp) (C : Addr) (code : Value) (fp : List Addr), Room k (genCx X s H (gEnv X scope C code) fp).A → PE (genCx X s H (gEnv X scope C code) fp) elt te) (hb : bootBuiltins "all" = some (.builtin "all") := by rfl) (hs : ∀ v, genFold iter X.env v = pure v := by intro _; rfl)
    (hst : starEach [.GeneratorExp elt [⟨tg, iter, ifs, 0⟩] scope gpos] X.env = (false, eval (.GeneratorExp elt [⟨tg, iter, ifs, 0⟩] scope gpos) X.env) :: starEach [] X.env := by rfl) :
    PE X (.Call (.Name "all" p) [.GeneratorExp elt [⟨tg, iter, ifs, 0⟩] scope gpos] [] pos) (tGx true P wi g tt te (own.map (·.2))) := by
  refine ⟨fun pins s σ H Q I h => ?_⟩
  refine wpAny_Call_Name_kw (ld_blt I hgl hm hb ?_)
  refine PyProof.Rows.callWith_builtin1 ?_ hst (by rfl)
  rw [hst]
  show wpAny _ _ (spliced ((false, eval (.GeneratorExp elt [⟨tg, iter, ifs, 0⟩] scope gpos) X.env) :: backTo pos (starEach [] X.env))) _ _ s
  refine Calls.spliced_cons (gen_made hr TB hcode S ok hN hi hg ht he hs I h fun G a ob gi n s5 hob R back => ?_)
  refine Calls.spliced_nil ?_
  refine call_function_tree F.kind_all F.plain_all F.entry_all (F.args_all1 _) ?_
  unfold Builtin.«all»
  refine wpAny_bind (m := oneArg "all" _) (wpAny_pure ?_)
  refine wpAny_bind (wpAny_pyIter_gen (hob.at R.2.2.1) ?_)
  exact wpAny_pure ⟨plainId_quiet F.plain_all_loop _, all_loop hr hob (fun s' H' I' q => ⟨.bl true, H', back s' H' I', rfl, q⟩) (fun s' H' I' q => ⟨.bl false, H', back s' H' I', rfl, q⟩) n s5 R⟩
/-- any(.. for .. in ..) -/
theorem pe_anyG {cc P : Addr} {elt tg iter : Expr} {ifs : List Expr} {scope : Scope} {own : List (Str × Nat)} {p pos gpos : Pos} {wi : TI} {g : TG} {tt : TT} {te : TE} {k : Nat}
    (hr : Room (k + 3) X.A) (hgl : Gl X "any") (hm : X.mg "any" = none) (TB : LamX.TabB X.base X.mg cc P) (hcode : X.env.code = .ref cc) (S : GSc scope) (ok : BlkOk X.N X.env.scope scope own) (hN : X.N.Nodup) (hi : PI X tg iter wi)
    (hg : ∀ (s : Shared) (H : Hp) (C : Addr) (code : Value) (fp : List Addr), PG (genCx X s H (gEnv X scope C code) fp) tg g) (ht : ∀ (s : Shared) (H : Hp) (C : Addr) (code : Value) (fp : List Addr), Room k (genCx X s H (gEnv X scope C code) fp).A → PTs (genCx X s H (gEnv X scope C code) fp) ifs tt)
    (he : ∀ (s : Shared) (H : Hp) (C : Addr) (code : Value) (fp : List Addr), Room k (genCx X s H (gEnv X scope C code) fp).A → PE (genCx X s H (gEnv X scope C code) fp) elt te) (hs : ∀ v, genFold iter X.env v = pure v := by intro _; rfl)
    (hst : starEach [.GeneratorExp elt [⟨tg, iter, ifs, 0⟩] scope gpos] X.env = (false, eval (.GeneratorExp elt [⟨tg, iter, ifs, 0⟩] scope gpos) X.env) :: starEach [] X.env := by rfl) :
    PE X (.Call (.Name "any" p) [.GeneratorExp elt [⟨tg, iter, ifs, 0⟩] scope gpos] [] pos) (tGx false P wi g tt te (own.map (·.2))) := by
  refine ⟨fun pins s σ H Q I h => ?_⟩
  refine wpAny_Call_Name_kw (ld_blt I hgl hm boot_any ?_)
  refine PyProof.Rows.callWith_builtin1 ?_ hst (by rfl)
  rw [hst]
  show wpAny _ _ (spliced ((false, eval (.GeneratorExp elt [⟨tg, iter, ifs, 0⟩] scope gpos) X.env) :: backTo pos (starEach [] X.env))) _ _ s
  refine Calls.spliced_cons (gen_made hr TB hcode S ok hN hi hg ht he hs I h fun G a ob gi n s5 hob R back => ?_)
  refine Calls.spliced_nil ?_
  refine call_function_tree F.kind_any F.plain_any F.entry_any (F.args_any1 _) ?_
  unfold Builtin.«any»
  refine wpAny_bind (m := oneArg "any" _) (wpAny_pure ?_)
  refine wpAny_bind (wpAny_pyIter_gen (hob.at R.2.2.1) ?_)
  exact wpAny_pure ⟨plainId_quiet F.plain_any_loop _, any_loop hr hob (fun s' H' I' q => ⟨.bl false, H', back s' H' I', rfl, q⟩) (fun s' H' I' q => ⟨.bl true, H', back s' H' I', rfl, q⟩) n s5 R⟩
end
end GxL
namespace Rg
open PySem PySem.Spec PyProof.Rows L2
/-! ### tables of code objects: all the law's tables stand, all else is kept -/
def Tab (Ps : List Addr) (H : Hp) : Prop := ∀ p ∈ Ps, GxR.TabG H p
structure Tk (Ps : List Addr) (H H' : Hp) : Prop where
  tab : Tab Ps H'
  kp : Kp Ps H H'
section
variable {Ps : List Addr} {H H1 H2 : Hp} {a P : Addr} {o : HO}
theorem Tk.refl (t : Tab Ps H) : Tk Ps H H := ⟨t, .refl⟩
theorem Tk.trans (x : Tk Ps H H1) (y : Tk Ps H1 H2) : Tk Ps H H2 := ⟨y.tab, x.kp.trans y.kp⟩
theorem Tab.same (t : Tab Ps H) (s : Same H H1) : Tab Ps H1 := fun p hp => let ⟨ps, e, r⟩ := t p hp; ⟨ps, s _ _ e, r⟩
theorem Tk.of (t : Tab Ps H) (s : Same H H1) : Tk Ps H H1 := ⟨t.same s, .of s⟩
theorem Tk.same (x : Tk Ps H H1) (s : Same H1 H2) : Tk Ps H H2 := x.trans (.of x.tab s)
theorem Tab.new (t : Tab Ps H) (h : H a = none) : Tab Ps (upd H a o) := t.same (same_upd h)
theorem Tk.new (x : Tk Ps H H1) (h : H1 a = none) : Tk Ps H (upd H1 a o) := x.same (same_upd h)
theorem Tab.ne (t : Tab Ps H) (hp : P ∈ Ps) (h : H a = some o) (n : ∀ ps, o ≠ .tbl ps) : a ≠ P := fun z => by
  obtain ⟨ps, e, _⟩ := t P hp
  rw [z, e] at h
  exact n ps (Option.some.inj h).symm
theorem Tab.nin (t : Tab Ps H) (h : H a = some o) (n : ∀ ps, o ≠ .tbl ps) : a ∉ Ps := fun z => t.ne z h n rfl
theorem Tab.ninN (t : Tab Ps H) (h : H a = none) : a ∉ Ps := fun z => by
  obtain ⟨ps, e, _⟩ := t a z
  rw [h] at e
  cases e
/-- what is no table is kept -/
theorem Tk.at (x : Tk Ps H H1) (t : Tab Ps H) (h : H a = some o) (n : ∀ ps, o ≠ .tbl ps := by intro _ z; cases z) : H1 a = some o := x.kp a o h (t.nin h n)
theorem Tk.at' (x : Tk Ps H H1) (h : H a = some o) (n : a ∉ Ps) : H1 a = some o := x.kp a o h n
theorem Tk.free (x : Tk Ps H H1) (h : H1 a = none) : H a = none := x.kp.free (x.tab.ninN h) h
theorem Tab.upd (t : Tab Ps H) (h : H a = some o) (n : ∀ ps, o ≠ .tbl ps) {u : HO} : Tab Ps (upd H a u) := fun p hp => by
  obtain ⟨ps, e, r⟩ := t p hp
  exact ⟨ps, by rw [upd_ne (t.ne hp h n).symm]; exact e, r⟩
/-- one table has grown -/
theorem Tk.tabbed (t : Tab Ps H) (hp : P ∈ Ps) (h : GxR.Tabbed P H H1) : Tk Ps H H1 := by
  refine ⟨fun p q => ?_, fun x o e n => by rw [h.2 x fun z => n (z ▸ hp)]; exact e⟩
  by_cases z : p = P
  · rw [z]; exact h.1
  · obtain ⟨ps, e, r⟩ := t p q
    exact ⟨ps, by rw [h.2 p z]; exact e, r⟩
end
/-! ### all, any: the forms one uses -/
theorem gx_by {c : Bool} {J : It} {g : TG} {tt : TT} {te : TE} {vs : List Nat} {σ : L2.St} {Q : VK} {H2 : Hp} (n : Nat) (Pv : Nat → Hp → Prop) (h0 : Pv 0 H2) (hgo : ∀ i H, i < n → Pv i H → J.go i H) (hstop : ∀ H, Pv n H → J.stop n H)
    (hs : ∀ i x H H', i < n → Pv i H → J.yld i H x H' → g x (wipe σ vs) H' fun σ2 H2 => wipe σ2 vs = wipe σ vs ∧ tt σ2 H2 fun b H3 => if b = true then te σ2 H3 fun y H4 => ∃ k, y = .bl k ∧ if k = c then Pv (i + 1) H4 else Q (.bl (!c)) H4 else Pv (i + 1) H3)
    (hd : ∀ H, Pv n H → Q (.bl c) H) : ∃ W : Nat → Nat → Hp → Prop, (∃ m, W 0 m H2) ∧ GxL.GTurn c J g tt te vs σ Q W := by
  refine ⟨fun i m H => m = n - i ∧ i ≤ n ∧ Pv i H, ⟨n, by simp, Nat.zero_le _, h0⟩, ?_⟩
  rintro i m H ⟨rfl, hi, p⟩
  by_cases hlt : i < n
  · exact .inr ⟨hgo i H hlt p, Pv (i + 1), fun H' p' => ⟨n - (i + 1), by omega, rfl, hlt, p'⟩, fun x H' y => hs i x H H' hlt p y⟩
  · have e : i = n := by omega
    subst e
    exact .inl ⟨hstop H p, hd H p⟩
/-- over a list -/
theorem gx_list {K : PySem.W.Frag} {a : Addr} {xs : List V} {c : Bool} {g : TG} {tt : TT} {te : TE} {vs : List Nat} {σ : L2.St} {Q : VK} {H2 : Hp} (Pv : Nat → Hp → Prop) (h0 : Pv 0 H2) (hl : ∀ i H, i ≤ xs.length → Pv i H → SqL K H a xs)
    (hs : ∀ i x H, xs[i]? = some x → Pv i H → g x (wipe σ vs) H fun σ2 H2 => wipe σ2 vs = wipe σ vs ∧ tt σ2 H2 fun b H3 => if b = true then te σ2 H3 fun y H4 => ∃ k, y = .bl k ∧ if k = c then Pv (i + 1) H4 else Q (.bl (!c)) H4 else Pv (i + 1) H3)
    (hd : ∀ H, Pv xs.length H → Q (.bl c) H) : ∃ W : Nat → Nat → Hp → Prop, (∃ m, W 0 m H2) ∧ GxL.GTurn c (Itl K a) g tt te vs σ Q W := by
  refine gx_by xs.length Pv h0 (fun i H hi p => ⟨xs, xs[i], hl i H (Nat.le_of_lt hi) p, by simp [hi]⟩) (fun H p => ⟨xs, hl _ H (Nat.le_refl _) p, Nat.le_refl _⟩) (fun i x H H' hi p y => ?_) hd
  obtain ⟨e, y⟩ := y
  subst e
  exact hs i x _ (y xs (hl i _ (Nat.le_of_lt hi) p)) p
/-- over a tuple -/
theorem gx_tup {K : PySem.W.Frag} {a : Addr} {xs : List V} {c : Bool} {g : TG} {tt : TT} {te : TE} {vs : List Nat} {σ : L2.St} {Q : VK} {H2 : Hp} (Pv : Nat → Hp → Prop) (h0 : Pv 0 H2) (hl : ∀ i H, i ≤ xs.length → Pv i H → SqT K H a xs)
    (hs : ∀ i x H, xs[i]? = some x → Pv i H → g x (wipe σ vs) H fun σ2 H2 => wipe σ2 vs = wipe σ vs ∧ tt σ2 H2 fun b H3 => if b = true then te σ2 H3 fun y H4 => ∃ k, y = .bl k ∧ if k = c then Pv (i + 1) H4 else Q (.bl (!c)) H4 else Pv (i + 1) H3)
    (hd : ∀ H, Pv xs.length H → Q (.bl c) H) : ∃ W : Nat → Nat → Hp → Prop, (∃ m, W 0 m H2) ∧ GxL.GTurn c (Itt K a) g tt te vs σ Q W := by
  refine gx_by xs.length Pv h0 (fun i H hi p => ⟨xs, xs[i], hl i H (Nat.le_of_lt hi) p, by simp [hi]⟩) (fun H p => ⟨xs, hl _ H (Nat.le_refl _) p, Nat.le_refl _⟩) (fun i x H H' hi p y => ?_) hd
  obtain ⟨e, y⟩ := y
  subst e
  exact hs i x _ (y xs (hl i _ (Nat.le_of_lt hi) p)) p
/-- over the signs of a text -/
theorem gx_str {x : Str} {c : Bool} {g : TG} {tt : TT} {te : TE} {vs : List Nat} {σ : L2.St} {Q : VK} {H2 : Hp} (Pv : Nat → Hp → Prop) (h0 : Pv 0 H2)
    (hs : ∀ i s H, x.cps[i]? = some s → Pv i H → g (.str ⟨#[s]⟩) (wipe σ vs) H fun σ2 H2 => wipe σ2 vs = wipe σ vs ∧ tt σ2 H2 fun b H3 => if b = true then te σ2 H3 fun y H4 => ∃ k, y = .bl k ∧ if k = c then Pv (i + 1) H4 else Q (.bl (!c)) H4 else Pv (i + 1) H3)
    (hd : ∀ H, Pv x.cps.size H → Q (.bl c) H) : ∃ W : Nat → Nat → Hp → Prop, (∃ m, W 0 m H2) ∧ GxL.GTurn c (Its x) g tt te vs σ Q W := by
  refine gx_by x.cps.size Pv h0 (fun i H hi p => hi) (fun H p => Nat.le_refl _) (fun i v H H' hi p y => ?_) hd
  obtain ⟨rfl, s, e, rfl⟩ := y
  exact hs i s _ e p
/-- a test of every item by a Bool, nothing changed but the tables: all(f(x) for x in xs), any(..) -/
def allB (c : Bool) {α : Type} (f : α → Bool) (xs : List α) : Bool := if c = true then xs.all f else xs.any f
/-! ### a def whose code object is known -/
section
variable {P : Program} {w : World} {K : PySem.W.Frag} {mg : Str → Option Value} {base : Heap}
theorem fun_okC {x qual : Str} {st : Stmt} {f cc : Addr} {fd : FuncData} {N ps : List Str} {k : Nat} {sp : Sp} (F : Fun K x qual st f fd) (hc : fd.code = .ref cc) (S : FnScope N ps (defScope st)) (len : ∀ vs H Q E, sp vs H Q E → vs.length = ps.length)
    (hbody : ∀ (A : Around) (outer : List Env) (s : Shared) (H : Hp) (vs : List V) (Q : VK) (E : XK), Room k (A.deeper (envOfC qual (defScope st) s.heap.objs.size f (.ref cc))) → sp vs H Q E →
      ∃ t, PSs (cxOf CX0 P w K mg base N qual (defScope st) f (.ref cc) A outer s H E).nox (defBody st) t ∧ t { nx := fun _ H' => Q .non H', rt := Q } (start N vs) H) : FnOk P w K mg base CX0 (k + 1) f fd ps sp := by
  obtain ⟨oc, od, kV, doc, pm, an, cdv, ct, osl, rfl, lk, hcd⟩ := F.ex
  obtain rfl : cdv = .ref cc := hc
  refine fn_of lk hcd S len fun A outer s H vs Q E hr hsp => ?_
  obtain ⟨t, h, q⟩ := hbody A outer s H vs Q E hr hsp
  exact ⟨t, h.nox, q⟩
end
/-! ### the end: a top def's table is empty at the law's entry -/
def TabsOf (q : Program) (mg : Str → Option Value) (h : Heap) : Prop := ∀ d ∈ recsOf q, ∃ a o fd c P, mg d.name = some (.ref a) ∧ h.get? a = some o ∧ o.data = .func fd ∧ fd.code = .ref c ∧ h.IsCode c P #[] ∧ h.TableAt c P #[]
theorem tab_of {q : Program} {K : PySem.W.Frag} {mg : Str → Option Value} {h : Heap} {x : Str} {a c P : Addr} {oc : Value} {od : Option Addr} {osl : Array (Option Value)} {fd : FuncData} (T : TabsOf q mg h) (KX : K.In h) (hx : (recsOf q).any (fun d => d.name == x) = true)
    (hm : mg x = some (.ref a)) (lk : K.lookup a = some ⟨oc, od, .func fd, osl⟩) (hc : fd.code = .ref c) (hh : PySem.W.codeHdIn K c P = true) : h.get? P = some { cls := .none, data := .fields #[] } := by
  obtain ⟨d, hd, e⟩ := List.any_eq_true.mp hx
  have e : d.name = x := by simpa using e
  obtain ⟨a', o, fd', c', P', m1, m2, m3, m4, m5, m6⟩ := T d hd
  rw [e, hm] at m1
  cases m1
  rw [KX _ _ lk] at m2
  cases m2
  cases m3
  rw [hc] at m4
  cases m4
  obtain ⟨o1, vs, _, _, _, _, _, _, _, g1, g2, g3, g4, _⟩ := PySem.W.codeHd_of_K KX hh
  obtain ⟨⟨o2, vs2, f1, f2, f3, f4⟩, f5⟩ := m6
  rw [g1] at f1
  cases f1
  rw [g3] at f3
  cases f3
  rw [g4] at f4
  cases f4
  exact f5
theorem walk_ofG {l : PySem.W.OpenLaw} {n k : Nat} {q : Program} {loose : List Str} {XP : (Str → Option Value) → Heap → Prop} {YP : World → Heap → Prop} {d : DefRec} {K : Params → PySem.W.Frag} {CX : World → CXT} {x : Str}
    (hn : l.most = some n) (hn2 : n ≤ sizeLine) (hdf : d.params.defaults = []) (hr : Room k callerA) (hY : ∀ (w : World) (h : Heap), YP w h → (K w.params).In h)
    (F : ∀ (w : World) (mg : Str → Option Value) (fa : Addr) (h : Heap), TabsOf q mg h → YP w h → (K w.params).In h → h.Ns mainGlobals mg → mg d.name = some (.ref fa) → LamX.LawAtS l w (K w.params) (CX w) k n x mg fa h)
    (hCX : ∀ (w : World) (H : Hp) (s : Shared) (e : Value) (s' : Shared), CX w [] H s (fun _ _ _ => False) e s' → False) :
    PySem.W.WalkO q loose XP YP l.row.toRowW d [] (fun f vs => PySem.call f vs) := by
  refine Att.attach_callB hn hdf fun w s₀ s₁ mg mb fa o pm cd doc a vs ns G Y ho hd hcd hmg hobj hints hlen hbits hg => ?_
  have KX := hY w _ Y
  obtain ⟨fd, cs, sp, hT, nT, C, hb, hsp, hF⟩ := F w mg fa _ G.T.tab Y KX G.T.g hmg
  exact LamX.law_callTs KX G.T.g G.T.b G.T.builtins G.T.nolimit hg hT nT C G.T.bmain hobj hints (Nat.le_trans hlen hn2) hr hF hb (fun H hH hS => hsp H a ns hlen hbits hH hS) fun H e s' => hCX w H s₁ e s'
end Rg
namespace Rg
open PySem PySem.Spec PyProof.Rows L2
/-! ### x is True, x is not False: bools told by value -/
theorem op_isV {X : Cx} : OpR X (compareOp .Is) (fun x y H Q => ∃ a c, x = .bl a ∧ y = .bl c ∧ Q (.bl (decide (a = c))) H) := by
  intro pins s σ H x y v u Q I rx ry h
  obtain ⟨a, c, rfl, rfl, q⟩ := h
  cases rx
  cases ry
  by_cases e : a = c
  · subst e
    rw [decide_eq_true rfl] at q
    exact wpAny_is_self rfl ⟨.bl true, H, I, rfl, q⟩
  · rw [decide_eq_false e] at q
    exact wpAny_is_other rfl (fun z => e (by injection z)) ⟨.bl false, H, I, rfl, q⟩
theorem op_notV {X : Cx} : OpR X (compareOp .IsNot) (fun x y H Q => ∃ a c, x = .bl a ∧ y = .bl c ∧ Q (.bl (!decide (a = c))) H) := by
  intro pins s σ H x y v u Q I rx ry h
  obtain ⟨a, c, rfl, rfl, q⟩ := h
  cases rx
  cases ry
  by_cases e : a = c
  · subst e
    rw [decide_eq_true rfl] at q
    exact wpAny_isNot_self rfl ⟨.bl false, H, I, rfl, q⟩
  · rw [decide_eq_false e] at q
    exact wpAny_isNot_other rfl (fun z => e (by injection z)) ⟨.bl true, H, I, rfl, q⟩
theorem take_snoc {α : Type} {l : List α} {i : Nat} {c : α} (h : l[i]? = some c) : l.take (i + 1) = l.take i ++ [c] := by
  rw [List.take_succ, h]
  rfl
theorem atN {α : Type} {xs : List α} {z : Int} {j : Nat} {v : α} (e : z = (j : Int)) (h : xs[j]? = some v) : atI xs z = some v := by
  subst e
  exact atI_nat h
theorem S_at {l : List Nat} {i c : Nat} (h : (SX.S l).cps[i]? = some c) : l[i]? = some c := by simpa using h
/-! ### a loop over the signs of a text -/
theorem for_str {x : Str} {g : TG} {tb : TS} {D : Ends} {σ : L2.St} {H : Hp} (Pv : Nat → L2.St → Hp → Prop) (h0 : Pv 0 σ H)
    (hs : ∀ i s σ H, x.cps[i]? = some s → Pv i σ H → g (.str ⟨#[s]⟩) σ H fun σ2 H2 => tb { D with nx := Pv (i + 1), ct := Pv (i + 1), bk := D.nx } σ2 H2) (hd : ∀ σ H, Pv x.cps.size σ H → D.nx σ H) :
    ∃ W : Nat → Nat → L2.St → Hp → Prop, (∃ m, W 0 m σ H) ∧ ∀ i m σ H, W i m σ H →
      ((Its x).stop i H ∧ D.nx σ H) ∨ ((Its x).go i H ∧ ∃ N : L2.St → Hp → Prop, (∀ σ' H', N σ' H' → ∃ m', m' < m ∧ W (i + 1) m' σ' H') ∧ ∀ v H', (Its x).yld i H v H' → g v σ H' fun σ2 H2 => tb { D with nx := N, ct := N, bk := D.nx } σ2 H2) := by
  refine ⟨fun i m σ H => m = x.cps.size - i ∧ i ≤ x.cps.size ∧ Pv i σ H, ⟨x.cps.size, by simp, Nat.zero_le _, h0⟩, ?_⟩
  rintro i m σ H ⟨rfl, hi, p⟩
  by_cases hlt : i < x.cps.size
  · refine .inr ⟨hlt, Pv (i + 1), fun σ' H' p' => ⟨x.cps.size - (i + 1), by omega, rfl, hlt, p'⟩, fun v H' y => ?_⟩
    obtain ⟨rfl, s, e, rfl⟩ := y
    exact hs i s σ _ e p
  · have e : i = x.cps.size := by omega
    subst e
    exact .inl ⟨Nat.le_refl _, hd σ H p⟩
end Rg
namespace Rg
open PySem PySem.Spec PyProof.Rows L2
/-! ### t[lo:hi], the whole of t: t itself -/
section
variable {prog : Program} {w : World} {A : Around} {E : Value → Shared → Prop} {s : Shared}
theorem getItem_tuple_all {t sl : Addr} {items : Array Value} {vl vu : Value} {lo hi : Option Int} {Q : Value → Shared → Prop} (ht : IsTup s.heap t items) (hs : s.heap.IsSliceOf sl vl vu .none) (pl : IsPart vl lo) (pu : IsPart vu hi)
    (hw : HT.sIx items.size 0 lo = 0 ∧ HT.sIx items.size items.size hi = items.size) (h : Q (.ref t) s) : wpAny (model prog w) A (getItem (.ref t) (.ref sl)) Q E s := by
  obtain ⟨os, hos, hcs, hds⟩ := id hs
  have hTs : s.TypeIs (.ref sl) "slice" := ⟨os, hos, hcs⟩
  unfold getItem
  try with_reducible refine wpAny_holding ?_
  first | refine wpAny_bind (wpAny_pure ?_) | skip
  refine wpAny_bind (wpAny_sequenceKey ht.typeIs (by decide) ?_)
  refine wpAny_bind (wpAny_callSpecial?_slot (name := Str.ofString "__getitem__") ht.typeIs PyProof.Rows.slot_tuple_getitem
    (wpAny_call_entry PyProof.Rows.slot_tuple_getitem ht.typeIs entry_tuple_getitem ?_ (args_tuple_getitem _ _)))
  show wpAny _ _ (Builtin.Tuple.tupleItemsOf (.ref t) >>= _) _ _ s
  refine wpAny_bind (tupleItemsOf_ ht ?_)
  refine wpAny_bind (wpAny_typeOf hTs ?_)
  rw [if_pos (by decide)]
  refine wpAny_bind (HT.sliceApplied_gen hs pl pu ?_)
  have hyes : (((HT.sIx items.size 0 lo : Nat) : Int) == 0 && (1 : Int) == 1 && (HT.sIx items.size items.size hi - HT.sIx items.size 0 lo) == items.size) = true := by
    rw [hw.1, hw.2]
    simp
  show wpAny _ _ (if (((HT.sIx items.size 0 lo : Nat) : Int) == 0 && (1 : Int) == 1 && (HT.sIx items.size items.size hi - HT.sIx items.size 0 lo) == items.size) = true then _ else _) _ _ s
  rw [if_pos hyes]
  refine wpAny_bind (m := Builtin.Tuple.tupleIsExact _) ?_
  unfold Builtin.Tuple.tupleIsExact
  refine wpAny_bind (wpAny_typeOf ht.typeIs (wpAny_pure ?_))
  show wpAny _ _ (if ((Value.type "tuple" == Value.type "tuple") = true) then _ else _) _ _ s
  rw [if_pos (by decide)]
  refine wpAny_bind (wpAny_rule (wpAny_pure ?_))
  exact ⟨_, rfl, wpAny_pure h⟩
end
/-- the whole of a tuple, by values -/
def rSlTA (K : PySem.W.Frag) : V → Option Int → Option Int → Hp → VK → Prop := fun x lo hi H Q => ∃ a xs, x = .ref a ∧ SqT K H a xs ∧ HT.sIx xs.length 0 lo = 0 ∧ HT.sIx xs.length xs.length hi = xs.length ∧ Q (.ref a) H
theorem sl_tupA {X : Cx} : SlR X (rSlTA X.K) := by
  intro pins s σ H x v vl vu lo hi sl Q I rx hs pl pu h
  obtain ⟨a, xs, rfl, hx, h1, h2, q⟩ := h
  cases rx
  obtain ⟨its, r, ht, hz⟩ := I.tuple hx
  have hlen : its.toArray.size = xs.length := by rw [List.size_toArray]; exact r.length.symm
  refine ⟨"tuple", _, PyProof.Rows.slot_tuple_getitem.lookup, ht.typeIs, ?_⟩
  exact getItem_tuple_all ht hs pl pu (by rw [hlen]; exact ⟨h1, h2⟩) ⟨.ref a, H, I, rfl, q⟩
theorem ixN_at {n : Nat} {z : Int} {i : Nat} (e : z = i) (h : i < n) : ixN n z = some i := by
  subst e
  exact Evl.ixN_nat h
theorem pe_ixTK {X : Cx} {K : PySem.W.Frag} {a b : Expr} {pos : Pos} {ta tb : TE} (ha : PE X a ta) (hb : PE X b tb) (hs : PlainIx b) (hK : X.K = K := by rfl) : PE X (.Subscript a b pos) (tOp (rIxT K) ta tb) := by
  subst hK
  exact pe_ix ix_tup ha hb hs
theorem op_repTK {X : Cx} {K : PySem.W.Frag} (hK : X.K = K := by rfl) : OpR X (binaryOp .Mult) (rRepT K) := by
  subst hK
  exact op_repT
/-! ### what is kept -/
section
variable {K : PySem.W.Frag} {Ps : List Addr} {H H1 : Hp} {a : Addr} {xs : List V}
theorem sameT (e : Same H H1) (h : SqT K H a xs) : SqT K H1 a xs := by
  rcases h with (h | ⟨o, h⟩) | h
  · exact .inl (.inl (e _ _ h))
  · exact .inl (.inr ⟨o, e _ _ h⟩)
  · exact .inr h
theorem Tk.seqT (k : Tk Ps H H1) (t : Tab Ps H) (h : SqT K H a xs) : SqT K H1 a xs := by
  rcases h with (h | ⟨o, h⟩) | h
  · exact .inl (.inl (k.at t h))
  · exact .inl (.inr ⟨o, k.at t h⟩)
  · exact .inr h
theorem Tk.seqL (k : Tk Ps H H1) (t : Tab Ps H) (h : SqL K H a xs) : SqL K H1 a xs := by
  rcases h with (h | ⟨o, h⟩) | h
  · exact .inl (.inl (k.at t h))
  · exact .inl (.inr ⟨o, k.at t h⟩)
  · exact .inr h
/-- what was new is written again -/
theorem Tk.put {o u : HO} (k : Tk Ps H H1) (h : H a = none) (e : H1 a = some o) (n : ∀ ps, o ≠ .tbl ps := by intro _ z; cases z) : Tk Ps H (upd H1 a u) := ⟨k.tab.upd e n, fun b v eb nb => by
  rw [upd_ne (ne_of_none eb h)]
  exact k.kp b v eb nb⟩
theorem tyT (h : SqT K H a xs) : TyX K H (.ref a) (.type "tuple") := by
  rcases h with (h | ⟨o, h⟩) | ⟨o, its, n, e, c, _⟩
  · exact .base (.tup h)
  · exact .fTuple h
  · exact .kTuple e c
end
/-! ### all, any over zip -/
theorem gx_zipL {K : PySem.W.Frag} {a b : Addr} {xs ys : List V} {c : Bool} {g : TG} {tt : TT} {te : TE} {vs : List Nat} {σ : L2.St} {Q : VK} {H2 : Hp} (hl : ys.length ≤ xs.length) (Pv : Nat → Hp → Prop) (h0 : Pv 0 H2) (hq : ∀ i H, Pv i H → SqL K H a xs ∧ SqL K H b ys)
    (hs : ∀ i x y T H, xs[i]? = some x → ys[i]? = some y → Pv i H → H T = none → g (.ref T) (wipe σ vs) (upd H T (.tup [x, y])) fun σ2 H2 => wipe σ2 vs = wipe σ vs ∧ tt σ2 H2 fun b H3 => if b = true then te σ2 H3 fun y H4 => ∃ k, y = .bl k ∧ if k = c then Pv (i + 1) H4 else Q (.bl (!c)) H4 else Pv (i + 1) H3)
    (hd : ∀ H, Pv ys.length H → Q (.bl c) H) : ∃ W : Nat → Nat → Hp → Prop, (∃ m, W 0 m H2) ∧ GxL.GTurn c (Itz K a b) g tt te vs σ Q W := by
  refine gx_by ys.length Pv h0 (fun i H hi p => ?_) (fun H p => ⟨xs, ys, (hq _ H p).1, (hq _ H p).2, .inr (Nat.le_refl _)⟩) (fun i x H H' hi p y => ?_) hd
  · exact ⟨xs, ys, xs[i], ys[i], (hq i H p).1, (hq i H p).2, List.getElem?_eq_getElem (by omega), List.getElem?_eq_getElem hi⟩
  · obtain ⟨T, x', y', rfl, hT, rfl, f1, f2⟩ := y
    exact hs i x' y' T H (f1 xs (hq i H p).1) (f2 ys (hq i H p).2) p hT
theorem gx_zipT {K : PySem.W.Frag} {a b : Addr} {xs ys : List V} {c : Bool} {g : TG} {tt : TT} {te : TE} {vs : List Nat} {σ : L2.St} {Q : VK} {H2 : Hp} (hl : ys.length ≤ xs.length) (Pv : Nat → Hp → Prop) (h0 : Pv 0 H2) (hq : ∀ i H, Pv i H → SqT K H a xs ∧ SqT K H b ys)
    (hs : ∀ i x y T H, xs[i]? = some x → ys[i]? = some y → Pv i H → H T = none → g (.ref T) (wipe σ vs) (upd H T (.tup [x, y])) fun σ2 H2 => wipe σ2 vs = wipe σ vs ∧ tt σ2 H2 fun b H3 => if b = true then te σ2 H3 fun y H4 => ∃ k, y = .bl k ∧ if k = c then Pv (i + 1) H4 else Q (.bl (!c)) H4 else Pv (i + 1) H3)
    (hd : ∀ H, Pv ys.length H → Q (.bl c) H) : ∃ W : Nat → Nat → Hp → Prop, (∃ m, W 0 m H2) ∧ GxL.GTurn c (RZ.ItzT K a b) g tt te vs σ Q W := by
  refine gx_by ys.length Pv h0 (fun i H hi p => ?_) (fun H p => ⟨xs, ys, (hq _ H p).1, (hq _ H p).2, .inr (Nat.le_refl _)⟩) (fun i x H H' hi p y => ?_) hd
  · exact ⟨xs, ys, xs[i], ys[i], (hq i H p).1, (hq i H p).2, List.getElem?_eq_getElem (by omega), List.getElem?_eq_getElem hi⟩
  · obtain ⟨T, x', y', rfl, hT, rfl, f1, f2⟩ := y
    exact hs i x' y' T H (f1 xs (hq i H p).1) (f2 ys (hq i H p).2) p hT
end Rg
namespace K47
open PySem PySem.Spec PyProof.Rows L2 Rg
def top (i : Nat) : Stmt := PySem.Challenge.pw_lotsandties_k47_slots_that_are_read.main.body.getD i (.Pass ⟨0, 0, 0, 0⟩)
abbrev s_is_number : Stmt := top 27
abbrev s_is_cell : Stmt := top 28
abbrev s_is_block : Stmt := top 29
abbrev s_is_cell_row : Stmt := top 30
abbrev s_is_ascending : Stmt := top 31
abbrev s_is_pair : Stmt := top 36
abbrev s_are_pairs : Stmt := top 37
abbrev s_are_revokes : Stmt := top 38
abbrev s_is_record : Stmt := top 39
abbrev s_fits_plan : Stmt := top 40
abbrev s_found_marks : Stmt := top 42
abbrev s_live_copies : Stmt := top 43
abbrev s_cells_found : Stmt := top 44
abbrev s_cells_after : Stmt := top 45
abbrev s_slots_read : Stmt := top 46
abbrev s_is_place : Stmt := top 49
abbrev s_is_content : Stmt := top 50
abbrev s_Lfeed : Stmt := top 53
abbrev s_Lpick : Stmt := top 54
abbrev s_Lsame : Stmt := top 55
abbrev s_Lslot : Stmt := top 56
abbrev s_Lmark : Stmt := top 57
abbrev s_Lput : Stmt := top 58
abbrev s_Lcopies : Stmt := top 59
abbrev s_Ldisk : Stmt := top 60
abbrev s_Lmarks : Stmt := top 61
abbrev s_Llive : Stmt := top 62
abbrev s_Lslots : Stmt := top 63
abbrev s_Lcells : Stmt := top 64
abbrev s_Lall_cells : Stmt := top 65
abbrev s_Lother_slots : Stmt := top 66
abbrev s_Ltold_slots : Stmt := top 67
abbrev s_law : Stmt := top 68
abbrev s_Plan___init__ : Stmt := inClass (top 23) 6
abbrev s_Disk___init__ : Stmt := inClass (top 51) 0
abbrev s_Disk_issue : Stmt := inClass (top 51) 3
abbrev s_Disk_busy : Stmt := inClass (top 51) 4
abbrev s_Disk_sure : Stmt := inClass (top 51) 6
abbrev s_Disk_barrier : Stmt := inClass (top 51) 7
abbrev s_Disk_move_head : Stmt := inClass (top 51) 8
abbrev s_Disk__put : Stmt := inClass (top 51) 12
theorem sc_is_number : FnScope ["value", "least", "most"] ["value", "least", "most"] (defScope s_is_number) := ⟨rfl, rfl, rfl, by decide +kernel, rfl, by decide +kernel, by decide +kernel⟩
theorem sc_is_cell : FnScope ["value"] ["value"] (defScope s_is_cell) := ⟨rfl, rfl, rfl, by decide +kernel, rfl, by decide +kernel, by decide +kernel⟩
theorem sc_is_block : FnScope ["value"] ["value"] (defScope s_is_block) := ⟨rfl, rfl, rfl, by decide +kernel, rfl, by decide +kernel, by decide +kernel⟩
theorem sc_is_cell_row : FnScope ["value", "cell"] ["value"] (defScope s_is_cell_row) := ⟨rfl, rfl, rfl, by decide +kernel, rfl, by decide +kernel, by decide +kernel⟩
theorem sc_is_ascending : FnScope ["numbers", "low", "high"] ["numbers"] (defScope s_is_ascending) := ⟨rfl, rfl, rfl, by decide +kernel, rfl, by decide +kernel, by decide +kernel⟩
theorem sc_is_pair : FnScope ["value"] ["value"] (defScope s_is_pair) := ⟨rfl, rfl, rfl, by decide +kernel, rfl, by decide +kernel, by decide +kernel⟩
theorem sc_are_pairs : FnScope ["value", "pair"] ["value"] (defScope s_are_pairs) := ⟨rfl, rfl, rfl, by decide +kernel, rfl, by decide +kernel, by decide +kernel⟩
theorem sc_are_revokes : FnScope ["value", "block"] ["value"] (defScope s_are_revokes) := ⟨rfl, rfl, rfl, by decide +kernel, rfl, by decide +kernel, by decide +kernel⟩
theorem sc_is_record : FnScope ["record"] ["record"] (defScope s_is_record) := ⟨rfl, rfl, rfl, by decide +kernel, rfl, by decide +kernel, by decide +kernel⟩
theorem sc_fits_plan : FnScope ["record", "plan", "block", "slot"] ["record", "plan"] (defScope s_fits_plan) := ⟨rfl, rfl, rfl, by decide +kernel, rfl, by decide +kernel, by decide +kernel⟩
theorem sc_found_marks : FnScope ["disk", "slots", "slot", "record", "marks", "lot"] ["disk"] (defScope s_found_marks) := ⟨rfl, rfl, rfl, by decide +kernel, rfl, by decide +kernel, by decide +kernel⟩
theorem sc_live_copies : FnScope ["marks", "lapse", "live", "_", "mark", "lot", "pairs", "revokes", "x", "slot"] ["marks", "lapse"] (defScope s_live_copies) := ⟨rfl, rfl, rfl, by decide +kernel, rfl, by decide +kernel, by decide +kernel⟩
theorem sc_cells_found : FnScope ["disk", "x", "live", "lot", "slot", "record"] ["disk", "x", "live"] (defScope s_cells_found) := ⟨rfl, rfl, rfl, by decide +kernel, rfl, by decide +kernel, by decide +kernel⟩
theorem sc_cells_after : FnScope ["disk", "marks", "x", "lapse"] ["disk", "marks", "x", "lapse"] (defScope s_cells_after) := ⟨rfl, rfl, rfl, by decide +kernel, rfl, by decide +kernel, by decide +kernel⟩
theorem sc_slots_read : FnScope ["disk", "lapse", "marks", "live", "slots", "slot", "_"] ["disk", "lapse"] (defScope s_slots_read) := ⟨rfl, rfl, rfl, by decide +kernel, rfl, by decide +kernel, by decide +kernel⟩
theorem sc_is_place : FnScope ["plan", "place"] ["plan", "place"] (defScope s_is_place) := ⟨rfl, rfl, rfl, by decide +kernel, rfl, by decide +kernel, by decide +kernel⟩
theorem sc_is_content : FnScope ["plan", "place", "what"] ["plan", "place", "what"] (defScope s_is_content) := ⟨rfl, rfl, rfl, by decide +kernel, rfl, by decide +kernel, by decide +kernel⟩
theorem sc_Lfeed : FnScope ["_law_script", "_law_feed_here", "_law_cell", "_law_rest", "_law_k"] ["_law_script"] (defScope s_Lfeed) := ⟨rfl, rfl, rfl, by decide +kernel, rfl, by decide +kernel, by decide +kernel⟩
theorem sc_Lpick : FnScope ["_law_feed_here", "_law_limit"] ["_law_feed_here", "_law_limit"] (defScope s_Lpick) := ⟨rfl, rfl, rfl, by decide +kernel, rfl, by decide +kernel, by decide +kernel⟩
theorem sc_Lsame : FnScope ["_law_actual", "_law_due", "_law_k"] ["_law_actual", "_law_due"] (defScope s_Lsame) := ⟨rfl, rfl, rfl, by decide +kernel, rfl, by decide +kernel, by decide +kernel⟩
theorem sc_Lslot : FnScope ["_law_feed_here", "_law_k", "_law_choice"] ["_law_feed_here", "_law_k"] (defScope s_Lslot) := ⟨rfl, rfl, rfl, by decide +kernel, rfl, by decide +kernel, by decide +kernel⟩
theorem sc_Lmark : FnScope ["_law_feed_here", "_law_lot", "_law_pairs", "_law_k", "_law_block", "_law_pair", "_law_revokes"] ["_law_feed_here", "_law_lot"] (defScope s_Lmark) := ⟨rfl, rfl, rfl, by decide +kernel, rfl, by decide +kernel, by decide +kernel⟩
theorem sc_Lput : FnScope ["_law_disk_here", "_law_log", "_law_slot_here", "_law_record", "_law_write"] ["_law_disk_here", "_law_log", "_law_slot_here", "_law_record"] (defScope s_Lput) := ⟨rfl, rfl, rfl, by decide +kernel, rfl, by decide +kernel, by decide +kernel⟩
theorem sc_Lcopies : FnScope ["_law_feed_here", "_law_disk_here", "_law_log", "_law_marks_here", "_law_mark_here", "_law_pair", "_law_choice", "_law_lot", "_law_block"] ["_law_feed_here", "_law_disk_here", "_law_log", "_law_marks_here"] (defScope s_Lcopies) := ⟨rfl, rfl, rfl, by decide +kernel, rfl, by decide +kernel, by decide +kernel⟩
theorem sc_Ldisk : FnScope ["_law_feed_here", "_law_head", "_law_log", "_law_home", "_law_disk_here", "_law_x", "_law_many", "_law_lots", "_law_k", "_law_marks_here", "_law_lot", "_law_used", "_law_slot_here", "_law_place"] ["_law_feed_here", "_law_head", "_law_log", "_law_home"] (defScope s_Ldisk) := ⟨rfl, rfl, rfl, by decide +kernel, rfl, by decide +kernel, by decide +kernel⟩
theorem sc_Lmarks : FnScope ["_law_log", "_law_head", "_law_marks_here", "_law_k", "_law_found", "_law_slot_here"] ["_law_log", "_law_head"] (defScope s_Lmarks) := ⟨rfl, rfl, rfl, by decide +kernel, rfl, by decide +kernel, by decide +kernel⟩
theorem sc_Llive : FnScope ["_law_marks_here", "_law_x", "_law_lapse", "_law_live_here", "_law_at", "_law_mark_here", "_law_struck", "_law_later", "_law_pair"] ["_law_marks_here", "_law_x", "_law_lapse"] (defScope s_Llive) := ⟨rfl, rfl, rfl, by decide +kernel, rfl, by decide +kernel, by decide +kernel⟩
theorem sc_Lslots : FnScope ["_law_marks_here", "_law_lapse", "_law_slots_here", "_law_mark_here", "_law_x", "_law_live_here"] ["_law_marks_here", "_law_lapse"] (defScope s_Lslots) := ⟨rfl, rfl, rfl, by decide +kernel, rfl, by decide +kernel, by decide +kernel⟩
theorem sc_Lcells : FnScope ["_law_log", "_law_marks_here", "_law_home", "_law_x", "_law_lapse", "_law_live_here", "_law_lot", "_law_slot_here"] ["_law_log", "_law_marks_here", "_law_home", "_law_x", "_law_lapse"] (defScope s_Lcells) := ⟨rfl, rfl, rfl, by decide +kernel, rfl, by decide +kernel, by decide +kernel⟩
theorem sc_Lall_cells : FnScope ["_law_disk_here", "_law_lapse", "_law_found", "_law_x"] ["_law_disk_here", "_law_lapse"] (defScope s_Lall_cells) := ⟨rfl, rfl, rfl, by decide +kernel, rfl, by decide +kernel, by decide +kernel⟩
theorem sc_Lother_slots : FnScope ["_law_disk_here", "_law_log", "_law_head", "_law_home", "_law_lapse", "_law_marks_here", "_law_told", "_law_due", "_law_x", "_law_named", "_law_mark_here", "_law_pair", "_law_slot_here", "_law_lot", "_law_block"] ["_law_disk_here", "_law_log", "_law_head", "_law_home", "_law_lapse"] (defScope s_Lother_slots) := ⟨rfl, rfl, rfl, by decide +kernel, rfl, by decide +kernel, by decide +kernel⟩
theorem sc_Ltold_slots : FnScope ["_law_disk_here", "_law_log", "_law_head", "_law_lapse", "_law_marks_here", "_law_used", "_law_mark_here", "_law_x", "_law_live_here", "_law_lot", "_law_slot_here", "_law_before", "_law_cells_here", "_law_write"] ["_law_disk_here", "_law_log", "_law_head", "_law_lapse"] (defScope s_Ltold_slots) := ⟨rfl, rfl, rfl, by decide +kernel, rfl, by decide +kernel, by decide +kernel⟩
theorem sc_law : FnScope ["_law_script", "_law_feed_here", "_law_head", "_law_lapse", "_law_home", "_law_x", "_law_log", "_law_slot_here", "_law_disk_here", "_law_marks_here", "_law_way", "_law_handed", "_law_due"] ["_law_script"] (defScope s_law) := ⟨rfl, rfl, rfl, by decide +kernel, rfl, by decide +kernel, by decide +kernel⟩
theorem sc_Plan___init__ : FnScope ["self", "blocks", "nodes", "slots"] ["self", "blocks", "nodes", "slots"] (defScope s_Plan___init__) := ⟨rfl, rfl, rfl, by decide +kernel, rfl, by decide +kernel, by decide +kernel⟩
theorem sc_Disk___init__ : FnScope ["self", "plan", "_"] ["self", "plan"] (defScope s_Disk___init__) := ⟨rfl, rfl, rfl, by decide +kernel, rfl, by decide +kernel, by decide +kernel⟩
theorem sc_Disk_issue : FnScope ["self", "place", "what"] ["self", "place", "what"] (defScope s_Disk_issue) := ⟨rfl, rfl, rfl, by decide +kernel, rfl, by decide +kernel, by decide +kernel⟩
theorem sc_Disk_busy : FnScope ["self", "place", "taken", "_"] ["self", "place"] (defScope s_Disk_busy) := ⟨rfl, rfl, rfl, by decide +kernel, rfl, by decide +kernel, by decide +kernel⟩
theorem sc_Disk_sure : FnScope ["self", "number", "place", "what"] ["self", "number"] (defScope s_Disk_sure) := ⟨rfl, rfl, rfl, by decide +kernel, rfl, by decide +kernel, by decide +kernel⟩
theorem sc_Disk_barrier : FnScope ["self", "number"] ["self"] (defScope s_Disk_barrier) := ⟨rfl, rfl, rfl, by decide +kernel, rfl, by decide +kernel, by decide +kernel⟩
theorem sc_Disk_move_head : FnScope ["self", "p"] ["self", "p"] (defScope s_Disk_move_head) := ⟨rfl, rfl, rfl, by decide +kernel, rfl, by decide +kernel, by decide +kernel⟩
theorem sc_Disk__put : FnScope ["self", "place", "what", "kind", "at"] ["self", "place", "what"] (defScope s_Disk__put) := ⟨rfl, rfl, rfl, by decide +kernel, rfl, by decide +kernel, by decide +kernel⟩

structure Tx (K : PySem.W.Frag) (mg : Str → Option Value) where
  f_is_number : Addr
  fd_is_number : FuncData
  F_is_number : Fun K "is_number" "is_number" s_is_number f_is_number fd_is_number
  mg_is_number : mg "is_number" = some (.ref f_is_number)
  f_is_cell : Addr
  fd_is_cell : FuncData
  F_is_cell : Fun K "is_cell" "is_cell" s_is_cell f_is_cell fd_is_cell
  mg_is_cell : mg "is_cell" = some (.ref f_is_cell)
  f_is_block : Addr
  fd_is_block : FuncData
  F_is_block : Fun K "is_block" "is_block" s_is_block f_is_block fd_is_block
  mg_is_block : mg "is_block" = some (.ref f_is_block)
  f_is_cell_row : Addr
  fd_is_cell_row : FuncData
  F_is_cell_row : Fun K "is_cell_row" "is_cell_row" s_is_cell_row f_is_cell_row fd_is_cell_row
  mg_is_cell_row : mg "is_cell_row" = some (.ref f_is_cell_row)
  cc_is_cell_row : Addr
  P_is_cell_row : Addr
  code_is_cell_row : fd_is_cell_row.code = .ref cc_is_cell_row
  ch_is_cell_row : PySem.W.codeHdIn K cc_is_cell_row P_is_cell_row = true
  cn_is_cell_row : K.lookup P_is_cell_row = none
  f_is_ascending : Addr
  fd_is_ascending : FuncData
  F_is_ascending : Fun K "is_ascending" "is_ascending" s_is_ascending f_is_ascending fd_is_ascending
  mg_is_ascending : mg "is_ascending" = some (.ref f_is_ascending)
  cc_is_ascending : Addr
  P_is_ascending : Addr
  code_is_ascending : fd_is_ascending.code = .ref cc_is_ascending
  ch_is_ascending : PySem.W.codeHdIn K cc_is_ascending P_is_ascending = true
  cn_is_ascending : K.lookup P_is_ascending = none
  f_is_pair : Addr
  fd_is_pair : FuncData
  F_is_pair : Fun K "_is_pair" "_is_pair" s_is_pair f_is_pair fd_is_pair
  mg_is_pair : mg "_is_pair" = some (.ref f_is_pair)
  f_are_pairs : Addr
  fd_are_pairs : FuncData
  F_are_pairs : Fun K "_are_pairs" "_are_pairs" s_are_pairs f_are_pairs fd_are_pairs
  mg_are_pairs : mg "_are_pairs" = some (.ref f_are_pairs)
  cc_are_pairs : Addr
  P_are_pairs : Addr
  code_are_pairs : fd_are_pairs.code = .ref cc_are_pairs
  ch_are_pairs : PySem.W.codeHdIn K cc_are_pairs P_are_pairs = true
  cn_are_pairs : K.lookup P_are_pairs = none
  f_are_revokes : Addr
  fd_are_revokes : FuncData
  F_are_revokes : Fun K "_are_revokes" "_are_revokes" s_are_revokes f_are_revokes fd_are_revokes
  mg_are_revokes : mg "_are_revokes" = some (.ref f_are_revokes)
  cc_are_revokes : Addr
  P_are_revokes : Addr
  code_are_revokes : fd_are_revokes.code = .ref cc_are_revokes
  ch_are_revokes : PySem.W.codeHdIn K cc_are_revokes P_are_revokes = true
  cn_are_revokes : K.lookup P_are_revokes = none
  f_is_record : Addr
  fd_is_record : FuncData
  F_is_record : Fun K "is_record" "is_record" s_is_record f_is_record fd_is_record
  mg_is_record : mg "is_record" = some (.ref f_is_record)
  f_fits_plan : Addr
  fd_fits_plan : FuncData
  F_fits_plan : Fun K "fits_plan" "fits_plan" s_fits_plan f_fits_plan fd_fits_plan
  mg_fits_plan : mg "fits_plan" = some (.ref f_fits_plan)
  cc_fits_plan : Addr
  P_fits_plan : Addr
  code_fits_plan : fd_fits_plan.code = .ref cc_fits_plan
  ch_fits_plan : PySem.W.codeHdIn K cc_fits_plan P_fits_plan = true
  cn_fits_plan : K.lookup P_fits_plan = none
  f_found_marks : Addr
  fd_found_marks : FuncData
  F_found_marks : Fun K "found_marks" "found_marks" s_found_marks f_found_marks fd_found_marks
  mg_found_marks : mg "found_marks" = some (.ref f_found_marks)
  f_live_copies : Addr
  fd_live_copies : FuncData
  F_live_copies : Fun K "live_copies" "live_copies" s_live_copies f_live_copies fd_live_copies
  mg_live_copies : mg "live_copies" = some (.ref f_live_copies)
  f_cells_found : Addr
  fd_cells_found : FuncData
  F_cells_found : Fun K "cells_found" "cells_found" s_cells_found f_cells_found fd_cells_found
  mg_cells_found : mg "cells_found" = some (.ref f_cells_found)
  f_cells_after : Addr
  fd_cells_after : FuncData
  F_cells_after : Fun K "cells_after" "cells_after" s_cells_after f_cells_after fd_cells_after
  mg_cells_after : mg "cells_after" = some (.ref f_cells_after)
  f_slots_read : Addr
  fd_slots_read : FuncData
  F_slots_read : Fun K "slots_read" "slots_read" s_slots_read f_slots_read fd_slots_read
  mg_slots_read : mg "slots_read" = some (.ref f_slots_read)
  f_is_place : Addr
  fd_is_place : FuncData
  F_is_place : Fun K "_is_place" "_is_place" s_is_place f_is_place fd_is_place
  mg_is_place : mg "_is_place" = some (.ref f_is_place)
  f_is_content : Addr
  fd_is_content : FuncData
  F_is_content : Fun K "_is_content" "_is_content" s_is_content f_is_content fd_is_content
  mg_is_content : mg "_is_content" = some (.ref f_is_content)
  f_Lfeed : Addr
  fd_Lfeed : FuncData
  F_Lfeed : Fun K "_law_feed" "_law_feed" s_Lfeed f_Lfeed fd_Lfeed
  mg_Lfeed : mg "_law_feed" = some (.ref f_Lfeed)
  f_Lpick : Addr
  fd_Lpick : FuncData
  F_Lpick : Fun K "_law_pick" "_law_pick" s_Lpick f_Lpick fd_Lpick
  mg_Lpick : mg "_law_pick" = some (.ref f_Lpick)
  f_Lsame : Addr
  fd_Lsame : FuncData
  F_Lsame : Fun K "_law_same" "_law_same" s_Lsame f_Lsame fd_Lsame
  mg_Lsame : mg "_law_same" = some (.ref f_Lsame)
  f_Lslot : Addr
  fd_Lslot : FuncData
  F_Lslot : Fun K "_law_slot" "_law_slot" s_Lslot f_Lslot fd_Lslot
  mg_Lslot : mg "_law_slot" = some (.ref f_Lslot)
  f_Lmark : Addr
  fd_Lmark : FuncData
  F_Lmark : Fun K "_law_mark" "_law_mark" s_Lmark f_Lmark fd_Lmark
  mg_Lmark : mg "_law_mark" = some (.ref f_Lmark)
  f_Lput : Addr
  fd_Lput : FuncData
  F_Lput : Fun K "_law_put" "_law_put" s_Lput f_Lput fd_Lput
  mg_Lput : mg "_law_put" = some (.ref f_Lput)
  f_Lcopies : Addr
  fd_Lcopies : FuncData
  F_Lcopies : Fun K "_law_copies" "_law_copies" s_Lcopies f_Lcopies fd_Lcopies
  mg_Lcopies : mg "_law_copies" = some (.ref f_Lcopies)
  f_Ldisk : Addr
  fd_Ldisk : FuncData
  F_Ldisk : Fun K "_law_disk" "_law_disk" s_Ldisk f_Ldisk fd_Ldisk
  mg_Ldisk : mg "_law_disk" = some (.ref f_Ldisk)
  f_Lmarks : Addr
  fd_Lmarks : FuncData
  F_Lmarks : Fun K "_law_marks" "_law_marks" s_Lmarks f_Lmarks fd_Lmarks
  mg_Lmarks : mg "_law_marks" = some (.ref f_Lmarks)
  f_Llive : Addr
  fd_Llive : FuncData
  F_Llive : Fun K "_law_live" "_law_live" s_Llive f_Llive fd_Llive
  mg_Llive : mg "_law_live" = some (.ref f_Llive)
  f_Lslots : Addr
  fd_Lslots : FuncData
  F_Lslots : Fun K "_law_slots" "_law_slots" s_Lslots f_Lslots fd_Lslots
  mg_Lslots : mg "_law_slots" = some (.ref f_Lslots)
  f_Lcells : Addr
  fd_Lcells : FuncData
  F_Lcells : Fun K "_law_cells" "_law_cells" s_Lcells f_Lcells fd_Lcells
  mg_Lcells : mg "_law_cells" = some (.ref f_Lcells)
  f_Lall_cells : Addr
  fd_Lall_cells : FuncData
  F_Lall_cells : Fun K "_law_all_cells" "_law_all_cells" s_Lall_cells f_Lall_cells fd_Lall_cells
  mg_Lall_cells : mg "_law_all_cells" = some (.ref f_Lall_cells)
  f_Lother_slots : Addr
  fd_Lother_slots : FuncData
  F_Lother_slots : Fun K "_law_other_slots" "_law_other_slots" s_Lother_slots f_Lother_slots fd_Lother_slots
  mg_Lother_slots : mg "_law_other_slots" = some (.ref f_Lother_slots)
  f_Ltold_slots : Addr
  fd_Ltold_slots : FuncData
  F_Ltold_slots : Fun K "_law_told_slots" "_law_told_slots" s_Ltold_slots f_Ltold_slots fd_Ltold_slots
  mg_Ltold_slots : mg "_law_told_slots" = some (.ref f_Ltold_slots)
  f_law : Addr
  fd_law : FuncData
  F_law : Fun K "law" "law" s_law f_law fd_law
  mg_law : mg "law" = some (.ref f_law)
  f_Plan___init__ : Addr
  fd_Plan___init__ : FuncData
  F_Plan___init__ : Fun K "__init__" "Plan.__init__" s_Plan___init__ f_Plan___init__ fd_Plan___init__
  f_Disk___init__ : Addr
  fd_Disk___init__ : FuncData
  F_Disk___init__ : Fun K "__init__" "Disk.__init__" s_Disk___init__ f_Disk___init__ fd_Disk___init__
  f_Disk_issue : Addr
  fd_Disk_issue : FuncData
  F_Disk_issue : Fun K "issue" "Disk.issue" s_Disk_issue f_Disk_issue fd_Disk_issue
  f_Disk_busy : Addr
  fd_Disk_busy : FuncData
  F_Disk_busy : Fun K "busy" "Disk.busy" s_Disk_busy f_Disk_busy fd_Disk_busy
  cc_Disk_busy : Addr
  P_Disk_busy : Addr
  code_Disk_busy : fd_Disk_busy.code = .ref cc_Disk_busy
  ch_Disk_busy : PySem.W.codeHdIn K cc_Disk_busy P_Disk_busy = true
  cn_Disk_busy : K.lookup P_Disk_busy = none
  f_Disk_sure : Addr
  fd_Disk_sure : FuncData
  F_Disk_sure : Fun K "sure" "Disk.sure" s_Disk_sure f_Disk_sure fd_Disk_sure
  f_Disk_barrier : Addr
  fd_Disk_barrier : FuncData
  F_Disk_barrier : Fun K "barrier" "Disk.barrier" s_Disk_barrier f_Disk_barrier fd_Disk_barrier
  f_Disk_move_head : Addr
  fd_Disk_move_head : FuncData
  F_Disk_move_head : Fun K "move_head" "Disk.move_head" s_Disk_move_head f_Disk_move_head fd_Disk_move_head
  f_Disk__put : Addr
  fd_Disk__put : FuncData
  F_Disk__put : Fun K "_put" "Disk._put" s_Disk__put f_Disk__put fd_Disk__put
  C_Plan : Addr
  mg_Plan : mg "Plan" = some (.ref C_Plan)
  cl_Plan : Cls K C_Plan
  na_Plan_blocks : NoAttr K C_Plan "blocks"
  na_Plan_nodes : NoAttr K C_Plan "nodes"
  na_Plan_slots : NoAttr K C_Plan "slots"
  na_Plan_maps : NoAttr K C_Plan "maps"
  na_Plan_first_node : NoAttr K C_Plan "first_node"
  na_Plan_first_data : NoAttr K C_Plan "first_data"
  mk_Plan : Mk K C_Plan f_Plan___init__
  mc_Plan : Value
  cr_Plan : ClX.CRead K C_Plan mc_Plan
  cv_Plan_WIDTH : ∃ u, ClX.CVal K C_Plan mc_Plan "WIDTH" (.int 8) u
  con_Plan_WIDTH : ∃ u, Con K C_Plan "WIDTH" (.int 8) u
  C_Disk : Addr
  mg_Disk : mg "Disk" = some (.ref C_Disk)
  cl_Disk : Cls K C_Disk
  na_Disk_plan : NoAttr K C_Disk "plan"
  na_Disk_home : NoAttr K C_Disk "home"
  na_Disk_log : NoAttr K C_Disk "log"
  na_Disk_head : NoAttr K C_Disk "head"
  na_Disk_last : NoAttr K C_Disk "last"
  na_Disk__pending : NoAttr K C_Disk "_pending"
  mk_Disk : Mk K C_Disk f_Disk___init__
  m_Disk_issue : Meth K C_Disk "issue" f_Disk_issue
  m_Disk_busy : Meth K C_Disk "busy" f_Disk_busy
  m_Disk_sure : Meth K C_Disk "sure" f_Disk_sure
  m_Disk_barrier : Meth K C_Disk "barrier" f_Disk_barrier
  m_Disk_move_head : Meth K C_Disk "move_head" f_Disk_move_head
  m_Disk__put : Meth K C_Disk "_put" f_Disk__put
  c_LEAST_BLOCKS : ∃ t, mg "LEAST_BLOCKS" = some (.int 8 t)
  c_MOST_BLOCKS : ∃ t, mg "MOST_BLOCKS" = some (.int 64 t)
  c_LEAST_NODES : ∃ t, mg "LEAST_NODES" = some (.int 2 t)
  c_MOST_NODES : ∃ t, mg "MOST_NODES" = some (.int 16 t)
  c_MOST_SLOTS : ∃ t, mg "MOST_SLOTS" = some (.int 200 t)
  c_LEAST_DATA : ∃ t, mg "LEAST_DATA" = some (.int 2 t)
  c_FIRST_MAP : ∃ t, mg "FIRST_MAP" = some (.int 2 t)
  c_CELL_MOST : ∃ t, mg "CELL_MOST" = some (.int 999999999 t)
  c_BLOCK_MOST : ∃ t, mg "BLOCK_MOST" = some (.int 63 t)
  c_MOST_LOT : ∃ t, mg "MOST_LOT" = some (.int 999999 t)
  c_MOST_SLOT : ∃ t, mg "MOST_SLOT" = some (.int 199 t)
  c_MOST_HEAD : ∃ t, mg "MOST_HEAD" = some (.int 999999 t)
  c_NO_SLOT : ∃ t, mg "NO_SLOT" = some (.int (-1) t)
  b_abs : mg "abs" = none
  b_all : mg "all" = none
  b_any : mg "any" = none
  b_bool : mg "bool" = none
  b_enumerate : mg "enumerate" = none
  b_int : mg "int" = none
  b_isinstance : mg "isinstance" = none
  b_len : mg "len" = none
  b_list : mg "list" = none
  b_max : mg "max" = none
  b_range : mg "range" = none
  b_sorted : mg "sorted" = none
  b_str : mg "str" = none
  b_tuple : mg "tuple" = none
  b_zip : mg "zip" = none
/-- the defs that make generators: their tables -/
structure TBs {K : PySem.W.Frag} {mg : Str → Option Value} (T : Tx K mg) (base : Heap) : Prop where
  t_is_cell_row : LamX.TabB base mg T.cc_is_cell_row T.P_is_cell_row
  t_is_ascending : LamX.TabB base mg T.cc_is_ascending T.P_is_ascending
  t_are_pairs : LamX.TabB base mg T.cc_are_pairs T.P_are_pairs
  t_are_revokes : LamX.TabB base mg T.cc_are_revokes T.P_are_revokes
  t_fits_plan : LamX.TabB base mg T.cc_fits_plan T.P_fits_plan
  t_Disk_busy : LamX.TabB base mg T.cc_Disk_busy T.P_Disk_busy
def Tx.Ps {K : PySem.W.Frag} {mg : Str → Option Value} (T : Tx K mg) : List Addr := [T.P_is_cell_row, T.P_is_ascending, T.P_are_pairs, T.P_are_revokes, T.P_fits_plan, T.P_Disk_busy]
theorem Tx.in_is_cell_row {K : PySem.W.Frag} {mg : Str → Option Value} (T : Tx K mg) : T.P_is_cell_row ∈ T.Ps := by simp [Tx.Ps]
theorem Tx.in_is_ascending {K : PySem.W.Frag} {mg : Str → Option Value} (T : Tx K mg) : T.P_is_ascending ∈ T.Ps := by simp [Tx.Ps]
theorem Tx.in_are_pairs {K : PySem.W.Frag} {mg : Str → Option Value} (T : Tx K mg) : T.P_are_pairs ∈ T.Ps := by simp [Tx.Ps]
theorem Tx.in_are_revokes {K : PySem.W.Frag} {mg : Str → Option Value} (T : Tx K mg) : T.P_are_revokes ∈ T.Ps := by simp [Tx.Ps]
theorem Tx.in_fits_plan {K : PySem.W.Frag} {mg : Str → Option Value} (T : Tx K mg) : T.P_fits_plan ∈ T.Ps := by simp [Tx.Ps]
theorem Tx.in_Disk_busy {K : PySem.W.Frag} {mg : Str → Option Value} (T : Tx K mg) : T.P_Disk_busy ∈ T.Ps := by simp [Tx.Ps]

section
variable {P : Program} {w : World} {K : PySem.W.Frag} {mg : Str → Option Value} {base : Heap}
theorem b_is_number (T : Tx K mg) : Binds K T.fd_is_number ["value", "least", "most"] [] := T.F_is_number.binds (ps := ["value", "least", "most"]) fun _ _ _ _ _ _ us hl => match us, hl with | [_, _, _], _ => rfl
theorem b_is_cell (T : Tx K mg) : Binds K T.fd_is_cell ["value"] [] := T.F_is_cell.binds (ps := ["value"]) fun _ _ _ _ _ _ us hl => match us, hl with | [_], _ => rfl
theorem b_is_block (T : Tx K mg) : Binds K T.fd_is_block ["value"] [] := T.F_is_block.binds (ps := ["value"]) fun _ _ _ _ _ _ us hl => match us, hl with | [_], _ => rfl
theorem b_is_cell_row (T : Tx K mg) : Binds K T.fd_is_cell_row ["value"] [] := T.F_is_cell_row.binds (ps := ["value"]) fun _ _ _ _ _ _ us hl => match us, hl with | [_], _ => rfl
theorem b_is_ascending (T : Tx K mg) : Binds K T.fd_is_ascending ["numbers"] [] := T.F_is_ascending.binds (ps := ["numbers"]) fun _ _ _ _ _ _ us hl => match us, hl with | [_], _ => rfl
theorem b_is_pair (T : Tx K mg) : Binds K T.fd_is_pair ["value"] [] := T.F_is_pair.binds (ps := ["value"]) fun _ _ _ _ _ _ us hl => match us, hl with | [_], _ => rfl
theorem b_are_pairs (T : Tx K mg) : Binds K T.fd_are_pairs ["value"] [] := T.F_are_pairs.binds (ps := ["value"]) fun _ _ _ _ _ _ us hl => match us, hl with | [_], _ => rfl
theorem b_are_revokes (T : Tx K mg) : Binds K T.fd_are_revokes ["value"] [] := T.F_are_revokes.binds (ps := ["value"]) fun _ _ _ _ _ _ us hl => match us, hl with | [_], _ => rfl
theorem b_is_record (T : Tx K mg) : Binds K T.fd_is_record ["record"] [] := T.F_is_record.binds (ps := ["record"]) fun _ _ _ _ _ _ us hl => match us, hl with | [_], _ => rfl
theorem b_fits_plan (T : Tx K mg) : Binds K T.fd_fits_plan ["record", "plan"] [] := T.F_fits_plan.binds (ps := ["record", "plan"]) fun _ _ _ _ _ _ us hl => match us, hl with | [_, _], _ => rfl
theorem b_found_marks (T : Tx K mg) : Binds K T.fd_found_marks ["disk"] [] := T.F_found_marks.binds (ps := ["disk"]) fun _ _ _ _ _ _ us hl => match us, hl with | [_], _ => rfl
theorem b_cells_found (T : Tx K mg) : Binds K T.fd_cells_found ["disk", "x", "live"] [] := T.F_cells_found.binds (ps := ["disk", "x", "live"]) fun _ _ _ _ _ _ us hl => match us, hl with | [_, _, _], _ => rfl
theorem b_is_place (T : Tx K mg) : Binds K T.fd_is_place ["plan", "place"] [] := T.F_is_place.binds (ps := ["plan", "place"]) fun _ _ _ _ _ _ us hl => match us, hl with | [_, _], _ => rfl
theorem b_is_content (T : Tx K mg) : Binds K T.fd_is_content ["plan", "place", "what"] [] := T.F_is_content.binds (ps := ["plan", "place", "what"]) fun _ _ _ _ _ _ us hl => match us, hl with | [_, _, _], _ => rfl
theorem b_Lfeed (T : Tx K mg) : Binds K T.fd_Lfeed ["_law_script"] [] := T.F_Lfeed.binds (ps := ["_law_script"]) fun _ _ _ _ _ _ us hl => match us, hl with | [_], _ => rfl
theorem b_Lpick (T : Tx K mg) : Binds K T.fd_Lpick ["_law_feed_here", "_law_limit"] [] := T.F_Lpick.binds (ps := ["_law_feed_here", "_law_limit"]) fun _ _ _ _ _ _ us hl => match us, hl with | [_, _], _ => rfl
theorem b_Lsame (T : Tx K mg) : Binds K T.fd_Lsame ["_law_actual", "_law_due"] [] := T.F_Lsame.binds (ps := ["_law_actual", "_law_due"]) fun _ _ _ _ _ _ us hl => match us, hl with | [_, _], _ => rfl
theorem b_Lslot (T : Tx K mg) : Binds K T.fd_Lslot ["_law_feed_here", "_law_k"] [] := T.F_Lslot.binds (ps := ["_law_feed_here", "_law_k"]) fun _ _ _ _ _ _ us hl => match us, hl with | [_, _], _ => rfl
theorem b_Lmark (T : Tx K mg) : Binds K T.fd_Lmark ["_law_feed_here", "_law_lot"] [] := T.F_Lmark.binds (ps := ["_law_feed_here", "_law_lot"]) fun _ _ _ _ _ _ us hl => match us, hl with | [_, _], _ => rfl
theorem b_Lput (T : Tx K mg) : Binds K T.fd_Lput ["_law_disk_here", "_law_log", "_law_slot_here", "_law_record"] [] := T.F_Lput.binds (ps := ["_law_disk_here", "_law_log", "_law_slot_here", "_law_record"]) fun _ _ _ _ _ _ us hl => match us, hl with | [_, _, _, _], _ => rfl
theorem b_Lcopies (T : Tx K mg) : Binds K T.fd_Lcopies ["_law_feed_here", "_law_disk_here", "_law_log", "_law_marks_here"] [] := T.F_Lcopies.binds (ps := ["_law_feed_here", "_law_disk_here", "_law_log", "_law_marks_here"]) fun _ _ _ _ _ _ us hl => match us, hl with | [_, _, _, _], _ => rfl
theorem b_Ldisk (T : Tx K mg) : Binds K T.fd_Ldisk ["_law_feed_here", "_law_head", "_law_log", "_law_home"] [] := T.F_Ldisk.binds (ps := ["_law_feed_here", "_law_head", "_law_log", "_law_home"]) fun _ _ _ _ _ _ us hl => match us, hl with | [_, _, _, _], _ => rfl
theorem b_Lmarks (T : Tx K mg) : Binds K T.fd_Lmarks ["_law_log", "_law_head"] [] := T.F_Lmarks.binds (ps := ["_law_log", "_law_head"]) fun _ _ _ _ _ _ us hl => match us, hl with | [_, _], _ => rfl
theorem b_Llive (T : Tx K mg) : Binds K T.fd_Llive ["_law_marks_here", "_law_x", "_law_lapse"] [] := T.F_Llive.binds (ps := ["_law_marks_here", "_law_x", "_law_lapse"]) fun _ _ _ _ _ _ us hl => match us, hl with | [_, _, _], _ => rfl
theorem b_Lslots (T : Tx K mg) : Binds K T.fd_Lslots ["_law_marks_here", "_law_lapse"] [] := T.F_Lslots.binds (ps := ["_law_marks_here", "_law_lapse"]) fun _ _ _ _ _ _ us hl => match us, hl with | [_, _], _ => rfl
theorem b_Lcells (T : Tx K mg) : Binds K T.fd_Lcells ["_law_log", "_law_marks_here", "_law_home", "_law_x", "_law_lapse"] [] := T.F_Lcells.binds (ps := ["_law_log", "_law_marks_here", "_law_home", "_law_x", "_law_lapse"]) fun _ _ _ _ _ _ us hl => match us, hl with | [_, _, _, _, _], _ => rfl
theorem b_Lall_cells (T : Tx K mg) : Binds K T.fd_Lall_cells ["_law_disk_here", "_law_lapse"] [] := T.F_Lall_cells.binds (ps := ["_law_disk_here", "_law_lapse"]) fun _ _ _ _ _ _ us hl => match us, hl with | [_, _], _ => rfl
theorem b_Lother_slots (T : Tx K mg) : Binds K T.fd_Lother_slots ["_law_disk_here", "_law_log", "_law_head", "_law_home", "_law_lapse"] [] := T.F_Lother_slots.binds (ps := ["_law_disk_here", "_law_log", "_law_head", "_law_home", "_law_lapse"]) fun _ _ _ _ _ _ us hl => match us, hl with | [_, _, _, _, _], _ => rfl
theorem b_Ltold_slots (T : Tx K mg) : Binds K T.fd_Ltold_slots ["_law_disk_here", "_law_log", "_law_head", "_law_lapse"] [] := T.F_Ltold_slots.binds (ps := ["_law_disk_here", "_law_log", "_law_head", "_law_lapse"]) fun _ _ _ _ _ _ us hl => match us, hl with | [_, _, _, _], _ => rfl
theorem b_law (T : Tx K mg) : Binds K T.fd_law ["_law_script"] [] := T.F_law.binds (ps := ["_law_script"]) fun _ _ _ _ _ _ us hl => match us, hl with | [_], _ => rfl
theorem b_Disk___init__ (T : Tx K mg) : Binds K T.fd_Disk___init__ ["self", "plan"] [] := T.F_Disk___init__.binds (ps := ["self", "plan"]) fun _ _ _ _ _ _ us hl => match us, hl with | [_, _], _ => rfl
theorem b_Disk_issue (T : Tx K mg) : Binds K T.fd_Disk_issue ["self", "place", "what"] [] := T.F_Disk_issue.binds (ps := ["self", "place", "what"]) fun _ _ _ _ _ _ us hl => match us, hl with | [_, _, _], _ => rfl
theorem b_Disk_busy (T : Tx K mg) : Binds K T.fd_Disk_busy ["self", "place"] [] := T.F_Disk_busy.binds (ps := ["self", "place"]) fun _ _ _ _ _ _ us hl => match us, hl with | [_, _], _ => rfl
theorem b_Disk_sure (T : Tx K mg) : Binds K T.fd_Disk_sure ["self", "number"] [] := T.F_Disk_sure.binds (ps := ["self", "number"]) fun _ _ _ _ _ _ us hl => match us, hl with | [_, _], _ => rfl
theorem b_Disk_barrier (T : Tx K mg) : Binds K T.fd_Disk_barrier ["self"] [] := T.F_Disk_barrier.binds (ps := ["self"]) fun _ _ _ _ _ _ us hl => match us, hl with | [_], _ => rfl
theorem b_Disk_move_head (T : Tx K mg) : Binds K T.fd_Disk_move_head ["self", "p"] [] := T.F_Disk_move_head.binds (ps := ["self", "p"]) fun _ _ _ _ _ _ us hl => match us, hl with | [_, _], _ => rfl
theorem b_Disk__put (T : Tx K mg) : Binds K T.fd_Disk__put ["self", "place", "what"] [] := T.F_Disk__put.binds (ps := ["self", "place", "what"]) fun _ _ _ _ _ _ us hl => match us, hl with | [_, _, _], _ => rfl
end
end K47
namespace K47
open PySem PySem.Spec PyProof.Rows L2 Rg
section
variable {P : Program} {w : World} {K : PySem.W.Frag} {mg : Str → Option Value} {base : Heap}
/-! ### _law_pick -/
def sp_Lpick : Sp := fun vs H Q _ => ∃ (p : Addr) (fs : List Int) (lim : Int), vs = [.ref p, .int lim] ∧ H p = some (.lst (fs.map V.int)) ∧ 0 < lim ∧
  ∀ (r : Int) (fs' : List Int), 0 ≤ r → r < lim → fs'.length ≤ fs.length → Q (.int r) (upd H p (.lst (fs'.map V.int)))
theorem ok_Lpick (T : Tx K mg) : FnOk P w K mg base CX0 1 T.f_Lpick T.fd_Lpick ["_law_feed_here", "_law_limit"] sp_Lpick := by
  refine T.F_Lpick.ok sc_Lpick (fun vs H Q E h => ?_) (fun cdv A outer s H vs Q E hr h => ?_)
  · obtain ⟨p, fs, lim, rfl, _⟩ := h
    rfl
  · obtain ⟨p, fs, lim, rfl, hp, hl, k⟩ := h
    refine ⟨_, (pss_cons (ps_if (pt_cmpR op_eq (pe_callB call_len_seq rfl T.b_len (by decide +kernel) (pa_cons (pv 0) pa_nil)) pe_int (nomark _))
        (pss_one (ps_ret pe_int))
        pss_nil)
      (pss_one (ps_ret (pe_op op_mod (pe_callTy call_int1 rfl T.b_int (by decide +kernel) (pa_cons (pe_bm PySem.F.plainAttrs_list PySem.F.slot_list_pop PySem.F.type_list_pop mt_popAt (pv 0) (pa_cons pe_int pa_nil)) pa_nil)) (pv 1))))), ?_⟩
    refine ⟨_, rfl, p, fs.map V.int, rfl, .inl (.inl (.inl hp)), rfl, _, rfl, ite2 (fun e => ?_) (fun e => ?_)⟩
    · have := k 0 fs (Int.le_refl _) hl (Nat.le_refl _)
      rw [upd_id hp] at this
      exact this
    · cases fs with
      | nil => exact absurd (decide_eq_true rfl) e
      | cons x r =>
        refine ⟨.ref p, rfl, .inl ⟨rfl, _, .inl (.inl hp)⟩, p, _, 0, 0, .int x, rfl, rfl, hp, by decide, by decide, ?_, rfl, .inl ⟨x, rfl, ?_⟩⟩
        · rw [List.length_map]; simp [seqIndex?]
        · refine ⟨.int lim, rfl, _, _, rfl, rfl, hl, ?_⟩
          exact k _ r (Int.emod_nonneg _ (by omega)) (Int.emod_lt_of_pos _ hl) (by simp)

/-! ### _law_feed -/
def sp_Lfeed (K : PySem.W.Frag) : Sp := fun vs H Q _ => ∃ (a : Addr) (ns : List Int), vs = [.ref a] ∧ SqL K H a (ns.map V.int) ∧ ns.length ≤ 63 ∧
  ∀ (H' : Hp) (p : Addr) (fs : List Int), Same H H' → H p = none → H' p = some (.lst (fs.map V.int)) → fs.length ≤ 5000 → Q (.ref p) H'
theorem ok_Lfeed (T : Tx K mg) : FnOk P w K mg base CX0 1 T.f_Lfeed T.fd_Lfeed ["_law_script"] (sp_Lfeed K) := by
  refine T.F_Lfeed.ok sc_Lfeed (fun vs H Q E h => ?_) (fun cdv A outer s H vs Q E hr h => ?_)
  · obtain ⟨_, _, rfl, _⟩ := h; rfl
  · obtain ⟨a, ns, rfl, hS, hlen, k⟩ := h
    refine ⟨_, (pss_cons (ps_set (i := 1) sc_Lfeed.nd rfl (.inl rfl) (pe_lst pa_nil))
      (pss_cons (ps_for PassesOwn.never rfl (pi_list (pv 0)) (pg_name (i := 2) sc_Lfeed.nd rfl (.inl rfl))
        (pss_cons (ps_set (i := 3) sc_Lfeed.nd rfl (.inl rfl) (pe_callB call_abs rfl T.b_abs (by decide +kernel) (pa_cons (pv 2) pa_nil)))
        (Evl.pss_cut (ps_if (pt_cmpR op_lt (pv 3) (pe_op op_pow pe_int pe_int) (nomark _))
          (pss_cons (ps_set (i := 3) sc_Lfeed.nd rfl (.inl rfl) (pe_op op_mod (pe_callTy call_int1 rfl T.b_int (by decide +kernel) (pa_cons (pe_op op_add (pe_op op_mul (pv 3) pe_int) pe_int) pa_nil)) pe_int))
          (pss_cons (ps_expr (pe_bm PySem.F.plainAttrs_list PySem.F.slot_list_append PySem.F.type_list_append mt_append (pv 1) (pa_cons (pe_op op_mod (pe_callTy call_int1 rfl T.b_int (by decide +kernel) (pa_cons (pe_op op_add (pe_op op_mul (pv 3) pe_int) pe_int) pa_nil)) pe_int) pa_nil)))
          (pss_one (ps_set (i := 3) sc_Lfeed.nd rfl (.inl rfl) pe_int))))
          pss_nil)
        (pss_one (ps_for PassesOwn.never rfl (pi_range1 rfl T.b_range (pa_cons pe_int pa_nil)) (pg_name (i := 4) sc_Lfeed.nd rfl (.inl rfl))
          (pss_one (ps_if (pt_cmpR op_gt (pv 3) pe_int (nomark _))
            (pss_cons (ps_expr (pe_bm PySem.F.plainAttrs_list PySem.F.slot_list_append PySem.F.type_list_append mt_append (pv 1) (pa_cons (pe_op op_mod (pe_callTy call_int1 rfl T.b_int (by decide +kernel) (pa_cons (pv 3) pa_nil)) pe_int) pa_nil)))
            (pss_one (ps_set (i := 3) sc_Lfeed.nd rfl (.inl rfl) (pe_op op_fdiv (pv 3) pe_int))))
            pss_nil)))))))
      (pss_one (ps_ret (pv 1))))), ?_⟩
    refine ⟨Nat.zero_le _, fun p np => ?_⟩
    have s0 : Same H (upd H p (.lst [])) := same_upd np
    have npa : ∀ H2, SqL K H2 a (ns.map V.int) → True := fun _ _ => trivial
    refine ⟨_, rfl, a, rfl, ⟨_, s0.seq hS⟩, for_list (K := K) (a := a) (xs := ns.map V.int) (fun i σ H2 => ∃ (fs : List Int) (v2 v3 v4 : Option V), σ = [some (.ref a), some (.ref p), v2, v3, v4] ∧ H2 = upd H p (.lst (fs.map V.int)) ∧ fs.length ≤ 61 * i)
      ⟨[], none, none, none, rfl, rfl, Nat.zero_le _⟩ (fun i σ H2 _ ⟨_, _, _, _, _, e, _⟩ => by rw [e]; exact (same_upd np).seq hS) ?_ ?_⟩
    · rintro i y σ H2 hi ⟨fs, v2, v3, v4, rfl, rfl, hl⟩
      have hil : i < 63 := by
        have := (List.getElem?_eq_some_iff.mp hi).1
        rw [List.length_map] at this
        omega
      obtain ⟨z, rfl⟩ : ∃ z, y = V.int z := by
        rw [List.getElem?_map] at hi
        cases e : ns[i]? with
        | none => rw [e] at hi; cases hi
        | some z => rw [e] at hi; exact ⟨z, (Option.some.inj hi).symm⟩
      refine ⟨_, rfl, z, rfl, ?_⟩
      refine ⟨fun σ' H' => ∃ (fs : List Int) (R : Int) (v4 : Option V), σ' = [some (.ref a), some (.ref p), some (.int z), some (.int R), v4] ∧ H' = upd H p (.lst (fs.map V.int)) ∧ 0 ≤ R ∧ fs.length ≤ 61 * i + 1, ?_, ?_⟩
      · have hz : 0 ≤ (if z < 0 then -z else z) := by split <;> omega
        refine ⟨_, rfl, _, _, rfl, rfl, ⟨by decide, by decide, by decide⟩, _, _, rfl, rfl, _, rfl, ite2 (fun e => ?_) (fun e => ?_)⟩
        · have e1 : (if z < 0 then -z else z) < 10 ^ 18 := of_decide_eq_true e
          refine ⟨_, rfl, _, _, rfl, rfl, .inl ⟨by omega, by omega⟩, _, _, rfl, rfl, .inl ⟨_, rfl, _, _, rfl, rfl, (by show (0 : Int) < _; decide), ?_⟩⟩
          refine ⟨.ref p, rfl, .inl ⟨rfl, _, .inl (.inl upd_same)⟩, _, rfl, _, _, rfl, rfl, .inr ⟨by decide, by decide⟩, _, _, rfl, rfl, .inl ⟨_, rfl, _, _, rfl, rfl, (by show (0 : Int) < _; decide), p, _, _, rfl, rfl, upd_same, ?_, ?_⟩⟩
          · rw [List.length_map]; exact Nat.lt_of_lt_of_le (Nat.lt_succ_of_le hl) (by unfold sizeLine; omega)
          · exact ⟨fs ++ [_], 0, v4, rfl, upd_app, Int.le_refl _, by rw [List.length_append]; simp; omega⟩
        · exact ⟨fs, _, v4, rfl, rfl, hz, by omega⟩
      · rintro σ' H' ⟨fs, R, v4, rfl, rfl, hR, hl⟩
        refine ⟨60, rfl, by decide, by decide, for_range (lo := 0) (n := 60) (fun j σ' H' => ∃ (fs : List Int) (R : Int) (v4 : Option V), σ' = [some (.ref a), some (.ref p), some (.int z), some (.int R), v4] ∧ H' = upd H p (.lst (fs.map V.int)) ∧ 0 ≤ R ∧ fs.length ≤ 61 * i + 1 + j)
          ⟨fs, R, v4, rfl, rfl, hR, hl⟩ ?_ ?_⟩
        · rintro j σ' H' hj ⟨fs, R, v4, rfl, rfl, hR, hl⟩
          refine ⟨_, rfl, _, _, rfl, rfl, _, rfl, ite2 (fun e => ?_) (fun e => ?_)⟩
          · refine ⟨.ref p, rfl, .inl ⟨rfl, _, .inl (.inl upd_same)⟩, _, rfl, .inl ⟨_, rfl, _, _, rfl, rfl, (by show (0 : Int) < _; decide), p, _, _, rfl, rfl, upd_same, ?_, ?_⟩⟩
            · rw [List.length_map]; exact Nat.lt_of_lt_of_le (Nat.lt_succ_of_le hl) (by unfold sizeLine; omega)
            · refine ⟨_, rfl, _, _, rfl, rfl, ⟨by decide, by decide⟩, fs ++ [_], _, _, rfl, upd_app, Int.ediv_nonneg hR (by decide), by rw [List.length_append]; simp; omega⟩
          · exact ⟨fs, R, _, rfl, rfl, hR, by omega⟩
        · rintro σ' H' ⟨fs, R, v4, rfl, rfl, hR, hl⟩
          exact ⟨fs, _, _, _, rfl, rfl, by omega⟩
    · rintro σ H2 ⟨fs, v2, v3, v4, rfl, rfl, hl⟩
      rw [List.length_map] at hl
      exact ⟨_, rfl, k _ p fs (same_upd np) np upd_same (by omega)⟩
end
end K47
namespace K47
open PySem PySem.Spec PyProof.Rows L2 Rg
section
variable {P : Program} {w : World} {K : PySem.W.Frag} {mg : Str → Option Value} {base : Heap}
/-! ### plans -/
def planF (b n s : Int) : List (Str × V) := [("blocks", .int b), ("nodes", .int n), ("slots", .int s), ("maps", .int ((b + 8 - 1) / 8)), ("first_node", .int (2 + (b + 8 - 1) / 8)), ("first_data", .int (2 + (b + 8 - 1) / 8 + n))]
structure PlanAt (C : Addr) (H : Hp) (p : Addr) (b n s : Int) : Prop where
  ob : ∃ dx, H p = some (.ins C dx (planF b n s))
  b1 : 8 ≤ b
  b2 : b ≤ 64
  n1 : 2 ≤ n
  n2 : n ≤ 16
  s1 : b < s
  s2 : s ≤ 200
  d : 2 ≤ b - (2 + (b + 8 - 1) / 8 + n)
theorem PlanAt.same {C : Addr} {H H' : Hp} {p : Addr} {b n s : Int} (e : Same H H') (h : PlanAt C H p b n s) : PlanAt C H' p b n s :=
  let ⟨dx, z⟩ := h.ob
  ⟨⟨dx, e _ _ z⟩, h.b1, h.b2, h.n1, h.n2, h.s1, h.s2, h.d⟩
theorem PlanAt.of {C : Addr} {H H' : Hp} {p : Addr} {b n s : Int} (h : PlanAt C H p b n s) (e : ∀ o, H p = some o → H' p = some o) : PlanAt C H' p b n s :=
  let ⟨dx, z⟩ := h.ob
  ⟨⟨dx, e _ z⟩, h.b1, h.b2, h.n1, h.n2, h.s1, h.s2, h.d⟩
def sp_Plan_init (C : Addr) : Sp := fun vs H Q _ => ∃ (p dx : Addr) (b n s : Int), vs = [.ref p, .int b, .int n, .int s] ∧ H p = some (.ins C dx []) ∧ 8 ≤ b ∧ b ≤ 64 ∧ 2 ≤ n ∧ n ≤ 16 ∧ b < s ∧ s ≤ 200 ∧ 2 ≤ b - (2 + (b + 8 - 1) / 8 + n) ∧
  Q .non (upd H p (.ins C dx (planF b n s)))
theorem ok_Plan_init (T : Tx K mg) : FnOk P w K mg base CX0 1 T.f_Plan___init__ T.fd_Plan___init__ ["self", "blocks", "nodes", "slots"] (sp_Plan_init T.C_Plan) := by
  refine T.F_Plan___init__.ok sc_Plan___init__ (fun vs H Q E h => ?_) (fun cdv A outer s H vs Q E hr h => ?_)
  · obtain ⟨_, _, _, _, _, rfl, _⟩ := h; rfl
  · obtain ⟨p, dx, b, n, sl, rfl, hp, h1, h2, h3, h4, h5, h6, h7, k⟩ := h
    refine ⟨_, (pss_cons (ps_if (pt_not (pt_chain op_le op_le (pe_gc T.c_LEAST_BLOCKS) (pv 1) (pe_gc T.c_MOST_BLOCKS)))
        (pss_one ps_never)
        pss_nil)
      (pss_cons (ps_if (pt_not (pt_chain op_le op_le (pe_gc T.c_LEAST_NODES) (pv 2) (pe_gc T.c_MOST_NODES)))
        (pss_one ps_never)
        pss_nil)
      (pss_cons (ps_if (pt_not (pt_chain op_lt op_le (pv 1) (pv 3) (pe_gc T.c_MOST_SLOTS)))
        (pss_one ps_never)
        pss_nil)
      (pss_cons (ps_fld (pv 0) (pv 1) rfl)
      (pss_cons (ps_fld (pv 0) (pv 2) rfl)
      (pss_cons (ps_fld (pv 0) (pv 3) rfl)
      (pss_cons (ps_fld (pv 0) (pe_op op_fdiv (pe_op op_sub (pe_op op_add (pv 1) (pe_con (pv 0) rfl)) pe_int) (pe_con (pv 0) rfl)) rfl)
      (pss_cons (ps_fld (pv 0) (pe_op op_add (pe_gc T.c_FIRST_MAP) (pe_fld (pv 0) rfl)) rfl)
      (pss_cons (ps_fld (pv 0) (pe_op op_add (pe_fld (pv 0) rfl) (pv 2)) rfl)
      (pss_one (ps_if (pt_cmpR op_lt (pe_op op_sub (pv 1) (pe_fld (pv 0) rfl)) (pe_gc T.c_LEAST_DATA) (nomark _))
        (pss_one ps_never)
        pss_nil))))))))))), ?_⟩
    obtain ⟨uW, cW⟩ := T.con_Plan_WIDTH
    refine ⟨_, rfl, _, _, rfl, rfl, _, rfl, ?_⟩
    rw [decide_eq_true h1]
    refine iteT ⟨_, _, rfl, rfl, _, rfl, ?_⟩
    rw [decide_eq_true h2]
    refine iteF ⟨_, rfl, _, _, rfl, rfl, _, rfl, ?_⟩
    rw [decide_eq_true h3]
    refine iteT ⟨_, _, rfl, rfl, _, rfl, ?_⟩
    rw [decide_eq_true h4]
    refine iteF ⟨_, rfl, _, rfl, _, _, rfl, rfl, _, rfl, ?_⟩
    rw [decide_eq_true h5]
    refine iteT ⟨_, _, rfl, rfl, _, rfl, ?_⟩
    rw [decide_eq_true h6]
    refine iteF ⟨_, rfl, _, rfl, p, _, dx, _, rfl, hp, T.cl_Plan, T.na_Plan_blocks, (by show 0 < 1000; decide), ?_⟩
    refine ⟨_, rfl, _, rfl, p, _, dx, _, rfl, upd_same, T.cl_Plan, T.na_Plan_nodes, (by show 1 < 1000; decide), ?_⟩
    refine ⟨_, rfl, _, rfl, p, _, dx, _, rfl, upd_same, T.cl_Plan, T.na_Plan_slots, (by show 2 < 1000; decide), ?_⟩
    refine ⟨_, rfl, _, rfl, p, _, dx, _, _, _, rfl, upd_same, T.cl_Plan, cW, rfl, _, _, rfl, rfl, _, _, rfl, rfl, _, rfl, p, _, dx, _, _, _, rfl, upd_same, T.cl_Plan, cW, rfl, _, _, rfl, rfl, ⟨by decide, by decide⟩, ?_⟩
    refine ⟨_, rfl, p, _, dx, _, rfl, upd_same, T.cl_Plan, T.na_Plan_maps, (by show 3 < 1000; decide), ?_⟩
    refine ⟨_, rfl, p, _, dx, _, _, rfl, upd_same, T.cl_Plan, T.na_Plan_maps, rfl, _, _, rfl, rfl, _, rfl, p, _, dx, _, rfl, upd_same, T.cl_Plan, T.na_Plan_first_node, (by show 4 < 1000; decide), ?_⟩
    refine ⟨_, rfl, p, _, dx, _, _, rfl, upd_same, T.cl_Plan, T.na_Plan_first_node, rfl, _, rfl, _, _, rfl, rfl, _, rfl, p, _, dx, _, rfl, upd_same, T.cl_Plan, T.na_Plan_first_data, (by show 5 < 1000; decide), ?_⟩
    refine ⟨_, rfl, _, rfl, p, _, dx, _, _, rfl, upd_same, T.cl_Plan, T.na_Plan_first_data, rfl, _, _, rfl, rfl, _, _, rfl, rfl, _, rfl, ?_⟩
    rw [decide_eq_false (by omega)]
    refine iteF ?_
    rw [upd_upd, upd_upd, upd_upd, upd_upd, upd_upd]
    exact k
/-- the call Plan(b, nodes=n, slots=s) -/
theorem kb_Plan (T : Tx K mg) : KBn K T.fd_Plan___init__ ["self", "blocks", "nodes", "slots"] 2 ["nodes", "slots"] (fun us ws => us ++ ws) (fun us ws => us ++ ws) := by
  obtain ⟨oc, od, kV, doc, pm, an, cdv, ct, osl, e, lk, hcd⟩ := T.F_Plan___init__.ex
  refine ⟨fun s us ws _ l1 l2 => ?_, fun r1 r2 => r1.append r2⟩
  rw [e]
  match us, ws, l1, l2 with
  | [_, _], [_, _], _, _ => exact .of_eq rfl
end
end K47
namespace K47
open PySem PySem.Spec PyProof.Rows L2 Rg
/-! ### records -/
inductive Rec where
  | copy (lot x : Int) (c : List Int)
  | mark (lot : Int) (ps : List (Int × Int)) (rs : List Int)
def Rec.lot : Rec → Int
  | .copy l _ _ => l
  | .mark l _ _ => l
/-- eight cells -/
structure Cells (c : List Int) : Prop where
  len : c.length = 8
  ok : ∀ i ∈ c, 0 ≤ i ∧ i ≤ 999999999
def Asc (l : List Int) : Prop := ∀ i x y, l[i]? = some x → l[i + 1]? = some y → x < y
/-- a record that fits a plan of b blocks and s slots -/
def Fit (b s : Int) : Rec → Prop
  | .copy l x c => 1 ≤ l ∧ l ≤ 999999 ∧ 0 ≤ x ∧ x ≤ 63 ∧ x < b ∧ Cells c
  | .mark l ps rs => 1 ≤ l ∧ l ≤ 999999 ∧ ps.length ≤ 64 ∧ rs.length ≤ 64 ∧ (∀ p ∈ ps, 0 ≤ p.1 ∧ p.1 ≤ 63 ∧ p.1 < b ∧ -1 ≤ p.2 ∧ p.2 ≤ 199 ∧ p.2 < s) ∧ Asc (ps.map (·.1)) ∧ (∀ r ∈ rs, 0 ≤ r ∧ r ≤ 63 ∧ r < b) ∧ Asc rs
/-- pairs stand at pp -/
def PairsAt (K : PySem.W.Frag) (H : Hp) (pp : Addr) (ps : List (Int × Int)) : Prop :=
  ∃ qs : List Addr, SqT K H pp (qs.map V.ref) ∧ qs.length = ps.length ∧ ∀ (i : Nat) (q : Addr) (p : Int × Int), qs[i]? = some q → ps[i]? = some p → SqT K H q [.int p.1, .int p.2]
def RecAt (K : PySem.W.Frag) (H : Hp) (a : Addr) : Rec → Prop
  | .copy l x c => ∃ pc, SqT K H a [.str "copy", .int l, .int x, .ref pc] ∧ SqT K H pc (c.map V.int)
  | .mark l ps rs => ∃ pp pr, SqT K H a [.str "mark", .int l, .ref pp, .ref pr] ∧ PairsAt K H pp ps ∧ SqT K H pr (rs.map V.int)
section
variable {K : PySem.W.Frag} {Ps : List Addr} {H H1 : Hp} {a : Addr} {r : Rec}
theorem PairsAt.by {pp : Addr} {ps : List (Int × Int)} (h : PairsAt K H pp ps) (f : ∀ b xs, SqT K H b xs → SqT K H1 b xs) : PairsAt K H1 pp ps := by
  obtain ⟨qs, h1, h2, h3⟩ := h
  exact ⟨qs, f _ _ h1, h2, fun i q p e1 e2 => f _ _ (h3 i q p e1 e2)⟩
theorem RecAt.by (h : RecAt K H a r) (f : ∀ b xs, SqT K H b xs → SqT K H1 b xs) : RecAt K H1 a r := by
  cases r with
  | copy l x c => obtain ⟨pc, h1, h2⟩ := h; exact ⟨pc, f _ _ h1, f _ _ h2⟩
  | mark l ps rs => obtain ⟨pp, pr, h1, h2, h3⟩ := h; exact ⟨pp, pr, f _ _ h1, h2.by f, f _ _ h3⟩
theorem RecAt.same (h : RecAt K H a r) (e : Same H H1) : RecAt K H1 a r := h.by fun _ _ => sameT e
theorem RecAt.tk (h : RecAt K H a r) (t : Tab Ps H) (k : Tk Ps H H1) : RecAt K H1 a r := h.by fun _ _ => k.seqT t
theorem PairsAt.tk {pp : Addr} {ps : List (Int × Int)} (h : PairsAt K H pp ps) (t : Tab Ps H) (k : Tk Ps H H1) : PairsAt K H1 pp ps := h.by fun _ _ => k.seqT t
end
section
variable {P : Program} {w : World} {K : PySem.W.Frag} {mg : Str → Option Value} {base : Heap}
def sp_is_number : Sp := fun vs H Q _ => ∃ i lo hi : Int, vs = [.int i, .int lo, .int hi] ∧ Q (.bl (decide (lo ≤ i ∧ i ≤ hi))) H
theorem ok_is_number (T : Tx K mg) : FnOk P w K mg base CX0 1 T.f_is_number T.fd_is_number ["value", "least", "most"] sp_is_number := by
  refine T.F_is_number.ok sc_is_number (fun vs H Q E h => ?_) (fun cdv A outer s H vs Q E hr h => ?_)
  · obtain ⟨_, _, _, rfl, _⟩ := h; rfl
  · obtain ⟨i, lo, hi, rfl, k⟩ := h
    refine ⟨_, (pss_one (ps_ret (pe_and (pe_callB call_isi rfl T.b_isinstance (by decide +kernel) (pa_cons (pv 0) (pa_cons (pe_bltn (v := .ty "int") rfl T.b_int (by decide +kernel) rfl) pa_nil))) (pe_and (pe_not (pe_callB call_isi rfl T.b_isinstance (by decide +kernel) (pa_cons (pv 0) (pa_cons (pe_bltn (v := .ty "bool") rfl T.b_bool (by decide +kernel) rfl) pa_nil)))) (pe_one (pe_chain op_le op_le (pv 1) (pv 0) (pv 2))))))), ?_⟩
    refine ⟨_, rfl, _, _, _, _, true, rfl, .ty _, .base (.int _), kit_ty (by decide +kernel), _, rfl, iteT ⟨_, rfl, _, _, _, _, false, rfl, .ty _, .base (.int _), kit_ty (by decide +kernel), _, rfl, _, rfl, iteT ⟨_, rfl, _, rfl, _, _, rfl, rfl, _, rfl, ite2 (fun h1 => ?_) fun h1 => ?_⟩⟩⟩
    · have h1 := of_decide_eq_true h1
      refine ⟨_, rfl, _, _, rfl, rfl, ?_⟩
      rw [show decide (lo ≤ i ∧ i ≤ hi) = decide (i ≤ hi) by simp [h1]] at k
      exact k
    · have h1 : ¬ lo ≤ i := fun z => h1 (decide_eq_true z)
      rw [show decide (lo ≤ i ∧ i ≤ hi) = false by simp [h1]] at k
      exact k
def sp_is_in (lo hi : Int) : Sp := fun vs H Q _ => ∃ i : Int, vs = [.int i] ∧ Q (.bl (decide (lo ≤ i ∧ i ≤ hi))) H
theorem ok_is_cell (T : Tx K mg) : FnOk P w K mg base CX0 2 T.f_is_cell T.fd_is_cell ["value"] (sp_is_in 0 999999999) := by
  refine T.F_is_cell.ok sc_is_cell (fun vs H Q E h => ?_) (fun cdv A outer s H vs Q E hr h => ?_)
  · obtain ⟨_, rfl, _⟩ := h; rfl
  · obtain ⟨i, rfl, k⟩ := h
    refine ⟨_, (pss_one (ps_ret (pe_call (ok_is_number T) hr rfl T.mg_is_number T.F_is_number.kp (b_is_number T) .nil pass0 (pa_cons (pv 0) (pa_cons pe_int (pa_cons (pe_gc T.c_CELL_MOST) pa_nil)))))), ?_⟩
    exact ⟨_, rfl, i, 0, 999999999, rfl, k⟩
theorem ok_is_block (T : Tx K mg) : FnOk P w K mg base CX0 2 T.f_is_block T.fd_is_block ["value"] (sp_is_in 0 63) := by
  refine T.F_is_block.ok sc_is_block (fun vs H Q E h => ?_) (fun cdv A outer s H vs Q E hr h => ?_)
  · obtain ⟨_, rfl, _⟩ := h; rfl
  · obtain ⟨i, rfl, k⟩ := h
    refine ⟨_, (pss_one (ps_ret (pe_call (ok_is_number T) hr rfl T.mg_is_number T.F_is_number.kp (b_is_number T) .nil pass0 (pa_cons (pv 0) (pa_cons pe_int (pa_cons (pe_gc T.c_BLOCK_MOST) pa_nil)))))), ?_⟩
    exact ⟨_, rfl, i, 0, 63, rfl, k⟩
def sp_is_cell_row (K : PySem.W.Frag) (Ps : List Addr) : Sp := fun vs H Q _ => ∃ (a : Addr) (c : List Int), vs = [.ref a] ∧ SqT K H a (c.map V.int) ∧ Cells c ∧ Tab Ps H ∧ ∀ H', Tk Ps H H' → Q (.bl true) H'
theorem ok_is_cell_row (T : Tx K mg) (B : TBs T base) : FnOk P w K mg base CX0 6 T.f_is_cell_row T.fd_is_cell_row ["value"] (sp_is_cell_row K T.Ps) := by
  refine fun_okC T.F_is_cell_row T.code_is_cell_row sc_is_cell_row (fun vs H Q E h => ?_) (fun A outer s H vs Q E hr h => ?_)
  · obtain ⟨_, _, rfl, _⟩ := h; rfl
  · obtain ⟨a, c, rfl, hS, hc, ht, k⟩ := h
    refine ⟨_, (pss_one (ps_ret (pe_and (pe_callB call_isiT rfl T.b_isinstance (by decide +kernel) (pa_cons (pv 0) (pa_cons (pe_tup (pa_cons (pe_bltn (v := .ty "list") rfl T.b_list (by decide +kernel) rfl) (pa_cons (pe_bltn (v := .ty "tuple") rfl T.b_tuple (by decide +kernel) rfl) pa_nil))) pa_nil))) (pe_and (pe_cmpR op_eq (pe_callB call_len_seq rfl T.b_len (by decide +kernel) (pa_cons (pv 0) pa_nil)) (pe_cv T.mg_Plan T.cr_Plan T.cv_Plan_WIDTH) (nomark _)) (pe_one (GxL.pe_allG (k := 2) (own := [("cell", 1)]) (g := gName 1) (tt := tYes) hr rfl T.b_all B.t_is_cell_row rfl (GxL.gsc_by (by decide +kernel)) (blkOk_by (N := ["value", "cell"]) (sc := defScope s_is_cell_row) (by decide +kernel)) sc_is_cell_row.nd (pi_tup (pv 0)) (fun _ _ _ _ _ => pg_name (i := 1) sc_is_cell_row.nd rfl (Or.inl rfl)) (fun _ _ _ _ _ _ => pts_nil) (fun _ _ _ _ _ hr2 => pe_call (ok_is_cell T) hr2 rfl T.mg_is_cell T.F_is_cell.kp (b_is_cell T) .nil pass0 (pa_cons (pv 1) pa_nil)))))))), ?_⟩
    refine ⟨_, rfl, (by show 2 ≤ sizeLine; decide), fun t nt => ?_⟩
    have st := same_upd (o := .tup [.ty "list", .ty "tuple"]) nt
    have e0 := upd_same (H := H) (a := t) (o := .tup [.ty "list", .ty "tuple"])
    have t0 := Tk.of ht st
    generalize upd H t (.tup [.ty "list", .ty "tuple"]) = H1 at st e0 t0 ⊢
    have hS1 := sameT st hS
    refine ⟨_, t, _, _, _, true, rfl, e0, .cons (.ty _) (.cons (.ty _) .nil), tyT hS1, kitAny_cons (b := false) (kit_ty (by decide +kernel)) (fun _ => kitAny_cons (b := true) (kit_ty (by decide +kernel)) (fun z => by cases z) (fun _ => rfl)) (fun z => by cases z), _, rfl, iteT ?_⟩
    refine ⟨_, rfl, a, _, rfl, .inr hS1, rfl, _, rfl, ?_⟩
    rw [List.length_map, hc.len, dec_iv, decide_eq_true (by decide)]
    refine iteT ⟨_, rfl, a, rfl, ⟨_, hS1⟩, t0.tab _ T.in_is_cell_row, fun H2 hT => gx_tup (K := K) (a := a) (xs := c.map V.int) (fun i H3 => Tk T.Ps H1 H3) (Tk.tabbed t0.tab T.in_is_cell_row hT) (fun i H3 _ kk => kk.seqT t0.tab hS1) (fun i y H3 hi kk => ?_) fun H3 kk => k H3 (t0.trans kk)⟩
    rw [List.getElem?_map] at hi
    obtain ⟨x, hx, rfl⟩ := Option.map_eq_some_iff.mp hi
    have hb := hc.ok x (List.mem_of_getElem? hx)
    refine ⟨rfl, yes_ ⟨_, rfl, x, rfl, _, rfl, ?_⟩⟩
    rw [decide_eq_true (show 0 ≤ x ∧ x ≤ 999999999 from hb), if_pos rfl]
    exact kk
end
end K47
namespace K47
open PySem PySem.Spec PyProof.Rows L2 Rg
theorem cut1 (xs : List V) : cutV xs (some (1 : Int)) none = xs.drop 1 := by
  unfold cutV
  rw [HT.sIx_none]
  have e : HT.sIx xs.length 0 (some (1 : Int)) = min 1 xs.length := HT.sIx_nat _ _ 1
  rw [e]
  rcases xs with _ | ⟨x, r⟩
  · rfl
  · show ((x :: r).drop (min 1 (r.length + 1))).take (r.length + 1 - min 1 (r.length + 1)) = r
    rw [Nat.min_eq_left (by omega)]
    show r.take (r.length + 1 - 1) = r
    rw [Nat.add_sub_cancel, List.take_length]
section
variable {P : Program} {w : World} {K : PySem.W.Frag} {mg : Str → Option Value} {base : Heap}
def sp_is_ascending (K : PySem.W.Frag) (Ps : List Addr) : Sp := fun vs H Q _ => ∃ (a : Addr) (l : List Int), vs = [.ref a] ∧ (SqL K H a (l.map V.int) ∨ SqT K H a (l.map V.int)) ∧ Asc l ∧ Tab Ps H ∧ ∀ H', Tk Ps H H' → Q (.bl true) H'
theorem ok_is_ascending (T : Tx K mg) (B : TBs T base) : FnOk P w K mg base CX0 4 T.f_is_ascending T.fd_is_ascending ["numbers"] (sp_is_ascending K T.Ps) := by
  refine fun_okC T.F_is_ascending T.code_is_ascending sc_is_ascending (fun vs H Q E h => ?_) (fun A outer s H vs Q E hr h => ?_)
  · obtain ⟨_, _, rfl, _⟩ := h; rfl
  · obtain ⟨a, l, rfl, hS, hc, ht, k⟩ := h
    refine ⟨_, (pss_one (ps_ret (GxL.pe_allG (k := 0) (own := [("low", 1), ("high", 2)]) (g := _) (tt := tYes) hr rfl T.b_all B.t_is_ascending rfl (GxL.gsc_by (by decide +kernel)) (blkOk_by (N := ["numbers", "low", "high"]) (sc := defScope s_is_ascending) (by decide +kernel)) sc_is_ascending.nd (RZ.pi_zipA rfl T.b_zip (pa_cons (pv 0) (pa_cons (pe_slice (SlR.or sl_list (SlR.or sl_tup sl_tupA)) (pv 0) (po_some pe_int) po_none) pa_nil)))
      (fun _ _ _ _ _ => pg_tupK (K := K) (n := 2) rfl (pgs_cons (pg_name (i := 1) sc_is_ascending.nd rfl (.inl rfl)) (pgs_cons (pg_name (i := 2) sc_is_ascending.nd rfl (.inl rfl)) pgs_nil))) (fun _ _ _ _ _ _ => pts_nil) (fun _ _ _ _ _ _ => pe_cmpR op_lt (pv 1) (pv 2) (nomark _))))), ?_⟩
    -- a turn
    have turn : ∀ (H1 H3 : Hp) (i : Nat) (x y : V) (q : Addr), Tk T.Ps H1 H3 → (l.map V.int)[i]? = some x → ((l.map V.int).drop 1)[i]? = some y → H3 q = none →
        ∃ u v : Int, x = .int u ∧ y = .int v ∧ u < v ∧ Tk T.Ps H1 (upd H3 q (.tup [x, y])) := fun H1 H3 i x y q kk hx hy hq => by
      rw [List.getElem?_map] at hx
      rw [List.getElem?_drop, List.getElem?_map, Nat.add_comm] at hy
      obtain ⟨u, hu, rfl⟩ := Option.map_eq_some_iff.mp hx
      obtain ⟨v, hv, rfl⟩ := Option.map_eq_some_iff.mp hy
      exact ⟨u, v, rfl, rfl, hc i u v hu hv, kk.new hq⟩
    rcases hS with hS | hS
    · refine ⟨_, rfl, _, rfl, _, rfl, .inl ⟨a, _, rfl, hS, fun p np => ?_⟩⟩
      rw [cut1]
      have st := same_upd (o := .lst ((l.map V.int).drop 1)) np
      have e0 := upd_same (H := H) (a := p) (o := .lst ((l.map V.int).drop 1))
      have t0 := Tk.of ht st
      generalize upd H p (.lst ((l.map V.int).drop 1)) = H1 at st e0 t0 ⊢
      have hS1 := st.seq hS
      refine ⟨a, p, _, _, rfl, .inl ⟨hS1, .of e0, t0.tab _ T.in_is_ascending, fun H2 hT => gx_zipL (K := K) (a := a) (b := p) (xs := l.map V.int) (ys := (l.map V.int).drop 1) (by rw [List.length_drop]; omega) (fun i H3 => Tk T.Ps H1 H3) (Tk.tabbed t0.tab T.in_is_ascending hT)
        (fun i H3 kk => ⟨kk.seqL t0.tab hS1, kk.seqL t0.tab (.of e0)⟩) (fun i x y q H3 hx hy kk hq => ?_) fun H3 kk => k H3 (t0.trans kk)⟩⟩
      obtain ⟨u, v, rfl, rfl, hlt, k2⟩ := turn H1 H3 i x y q kk hx hy hq
      refine ⟨q, _, rfl, .of upd_same, rfl, _, _, rfl, _, _, rfl, rfl, rfl, yes_ ⟨_, rfl, _, rfl, _, _, rfl, rfl, _, rfl, ?_⟩⟩
      rw [decide_eq_true hlt, if_pos rfl]
      exact k2
    · have walk : ∀ (p : Addr) (H1 : Hp), Tk T.Ps H H1 → SqT K H1 a (l.map V.int) → SqT K H1 p ((l.map V.int).drop 1) → ∀ σ : L2.St, σ = [some (.ref a), none, none] →
          GxR.TabG H1 T.P_is_ascending ∧ ∀ H2, GxR.Tabbed T.P_is_ascending H1 H2 → ∃ W : Nat → Nat → Hp → Prop, (∃ m, W 0 m H2) ∧ GxL.GTurn true (RZ.ItzT K a p) (gTup K 2 (gCons (gName 1) (gCons (gName 2) gNil))) tYes (tOp (rI0 fun i j => .bl (decide (i < j))) (tVar 1) (tVar 2)) [1, 2] σ Q W := by
        intro p H1 t0 hS1 e0 σ hσ
        subst hσ
        refine ⟨t0.tab _ T.in_is_ascending, fun H2 hT => gx_zipT (K := K) (a := a) (b := p) (xs := l.map V.int) (ys := (l.map V.int).drop 1) (by rw [List.length_drop]; omega) (fun i H3 => Tk T.Ps H1 H3) (Tk.tabbed t0.tab T.in_is_ascending hT)
          (fun i H3 kk => ⟨kk.seqT t0.tab hS1, kk.seqT t0.tab e0⟩) (fun i x y q H3 hx hy kk hq => ?_) fun H3 kk => k H3 (t0.trans kk)⟩
        obtain ⟨u, v, rfl, rfl, hlt, k2⟩ := turn H1 H3 i x y q kk hx hy hq
        refine ⟨q, _, rfl, .of upd_same, rfl, _, _, rfl, _, _, rfl, rfl, rfl, yes_ ⟨_, rfl, _, rfl, _, _, rfl, rfl, _, rfl, ?_⟩⟩
        rw [decide_eq_true hlt, if_pos rfl]
        exact k2
      by_cases hl : l = []
      · subst hl
        refine ⟨_, rfl, _, rfl, _, rfl, .inr (.inr ⟨a, _, rfl, hS, rfl, rfl, ?_⟩)⟩
        exact ⟨a, a, _, _, rfl, .inr ⟨hS, hS, walk a H (.refl ht) hS hS _ rfl⟩⟩
      · refine ⟨_, rfl, _, rfl, _, rfl, .inr (.inl ⟨a, _, rfl, hS, fun z => ?_, fun p np => ?_⟩)⟩
        · have e : HT.sIx (l.map V.int).length 0 (some (1 : Int)) = min 1 (l.map V.int).length := HT.sIx_nat _ _ 1
          have z1 := z.1
          rw [e, List.length_map] at z1
          have : l.length ≠ 0 := fun q => hl (List.length_eq_zero_iff.mp q)
          omega
        · rw [cut1]
          have st := same_upd (o := .tup ((l.map V.int).drop 1)) np
          have e0 := upd_same (H := H) (a := p) (o := .tup ((l.map V.int).drop 1))
          have t0 := Tk.of ht st
          generalize upd H p (.tup ((l.map V.int).drop 1)) = H1 at st e0 t0 ⊢
          exact ⟨a, p, _, _, rfl, .inr ⟨sameT st hS, .of e0, walk p H1 t0 (sameT st hS) (.of e0) _ rfl⟩⟩
end
end K47
namespace K47
open PySem PySem.Spec PyProof.Rows L2 Rg
structure PrOk (p : Int × Int) : Prop where
  b : 0 ≤ p.1 ∧ p.1 ≤ 63
  s : -1 ≤ p.2 ∧ p.2 ≤ 199
section
variable {P : Program} {w : World} {K : PySem.W.Frag} {mg : Str → Option Value} {base : Heap}
def sp_is_pair (K : PySem.W.Frag) : Sp := fun vs H Q _ => ∃ (a : Addr) (p : Int × Int), vs = [.ref a] ∧ SqT K H a [.int p.1, .int p.2] ∧ PrOk p ∧ Q (.bl true) H
theorem ok_is_pair (T : Tx K mg) : FnOk P w K mg base CX0 3 T.f_is_pair T.fd_is_pair ["value"] (sp_is_pair K) := by
  refine T.F_is_pair.ok sc_is_pair (fun vs H Q E h => ?_) (fun cdv A outer s H vs Q E hr h => ?_)
  · obtain ⟨_, _, rfl, _⟩ := h; rfl
  · obtain ⟨a, p, rfl, hS, hp, k⟩ := h
    have hr1 := hr.mono (show 1 ≤ 2 by decide)
    refine ⟨_, (pss_cons (ps_if (PW.pt (pw_or (pt_not (pt_val (pe_callB call_isi rfl T.b_isinstance (by decide +kernel) (pa_cons (pv 0) (pa_cons (pe_bltn (v := .ty "tuple") rfl T.b_tuple (by decide +kernel) rfl) pa_nil))))) (pw_or1 (pt_cmpR op_ne (pe_callB call_len_seq rfl T.b_len (by decide +kernel) (pa_cons (pv 0) pa_nil)) pe_int (nomark _)))))
        (pss_one (ps_ret pe_bl))
        pss_nil)
      (pss_one (ps_ret (pe_and (pe_call (ok_is_block T) hr rfl T.mg_is_block T.F_is_block.kp (b_is_block T) .nil pass0 (pa_cons (pe_ix ix_tup (pv 0) pe_int (fun _ _ => rfl)) pa_nil)) (pe_one (pe_call (ok_is_number T) hr1 rfl T.mg_is_number T.F_is_number.kp (b_is_number T) .nil pass0 (pa_cons (pe_ix ix_tup (pv 0) pe_int (fun _ _ => rfl)) (pa_cons (pe_gc T.c_NO_SLOT) (pa_cons (pe_gc T.c_MOST_SLOT) pa_nil))))))))), ?_⟩
    refine ⟨_, rfl, _, _, _, _, true, rfl, .ty _, tyT hS, kit_ty (by decide +kernel), _, rfl, iteF ⟨_, rfl, a, _, rfl, .inr hS, rfl, _, rfl, iteF ?_⟩⟩
    refine ⟨_, rfl, a, _, 0, .int p.1, rfl, rfl, hS, rfl, p.1, rfl, _, rfl, ?_⟩
    rw [decide_eq_true hp.b]
    refine iteT ⟨_, rfl, a, _, 1, .int p.2, rfl, rfl, hS, rfl, p.2, -1, 199, rfl, ?_⟩
    rw [decide_eq_true hp.s]
    exact k
def sp_are_pairs (K : PySem.W.Frag) (Ps : List Addr) : Sp := fun vs H Q _ => ∃ (a : Addr) (ps : List (Int × Int)), vs = [.ref a] ∧ PairsAt K H a ps ∧ ps.length ≤ 64 ∧ (∀ p ∈ ps, PrOk p) ∧ Asc (ps.map (·.1)) ∧ Tab Ps H ∧ ∀ H', Tk Ps H H' → Q (.bl true) H'
theorem ok_are_pairs (T : Tx K mg) (B : TBs T base) : FnOk P w K mg base CX0 7 T.f_are_pairs T.fd_are_pairs ["value"] (sp_are_pairs K T.Ps) := by
  refine fun_okC T.F_are_pairs T.code_are_pairs sc_are_pairs (fun vs H Q E h => ?_) (fun A outer s H vs Q E hr h => ?_)
  · obtain ⟨_, _, rfl, _⟩ := h; rfl
  · obtain ⟨a, ps, rfl, hS, hz, hp, hc, ht, k⟩ := h
    have hr4 := hr.mono (show 4 ≤ 6 by decide)
    refine ⟨_, (pss_cons (ps_if (PW.pt (pw_or (pt_not (pt_val (pe_callB call_isi rfl T.b_isinstance (by decide +kernel) (pa_cons (pv 0) (pa_cons (pe_bltn (v := .ty "tuple") rfl T.b_tuple (by decide +kernel) rfl) pa_nil))))) (pw_or1 (pt_not (pt_val (GxL.pe_allG (k := 3) (own := [("pair", 1)]) (g := gName 1) (tt := tYes) hr rfl T.b_all B.t_are_pairs rfl (GxL.gsc_by (by decide +kernel)) (blkOk_by (N := ["value", "pair"]) (sc := defScope s_are_pairs) (by decide +kernel)) sc_are_pairs.nd (pi_tup (pv 0)) (fun _ _ _ _ _ => pg_name (i := 1) sc_are_pairs.nd rfl (Or.inl rfl)) (fun _ _ _ _ _ _ => pts_nil) (fun _ _ _ _ _ hr2 => pe_call (ok_is_pair T) hr2 rfl T.mg_is_pair T.F_is_pair.kp (b_is_pair T) .nil pass0 (pa_cons (pv 1) pa_nil))))))))
        (pss_one (ps_ret pe_bl))
        pss_nil)
      (pss_one (ps_ret (pe_call (ok_is_ascending T B) hr4 rfl T.mg_is_ascending T.F_is_ascending.kp (b_is_ascending T) .nil pass0 (pa_cons (pe_lc rfl (own := [("pair", 1)]) (g := gName 1) (tt := tYes) sc_are_pairs.nd (pi_tup (pv 0)) (blkOk_by (N := ["value", "pair"]) (sc := defScope s_are_pairs) (by decide +kernel)) (fun _ _ _ _ _ => pg_name (i := 1) sc_are_pairs.nd rfl (Or.inl rfl)) (fun _ _ _ _ _ => pts_nil) (fun _ _ _ _ _ => (pe_ixTK (K := K) (pv 1) pe_int (fun _ _ => rfl)))) pa_nil))))), ?_⟩
    obtain ⟨qs, h1, h2, h3⟩ := hS
    have at_ : ∀ (i : Nat) (y : V), (qs.map V.ref)[i]? = some y → ∃ q p, y = .ref q ∧ qs[i]? = some q ∧ ps[i]? = some p := fun i y hi => by
      rw [List.getElem?_map] at hi
      obtain ⟨q, hq, rfl⟩ := Option.map_eq_some_iff.mp hi
      have hlt := (List.getElem?_eq_some_iff.mp hq).1
      exact ⟨q, ps[i], rfl, hq, List.getElem?_eq_getElem (by omega)⟩
    refine ⟨_, rfl, _, _, _, _, true, rfl, .ty _, tyT h1, kit_ty (by decide +kernel), _, rfl, iteF ?_⟩
    refine ⟨_, rfl, a, rfl, ⟨_, h1⟩, ht _ T.in_are_pairs, fun H2 hT => gx_tup (K := K) (a := a) (xs := qs.map V.ref) (fun i H3 => Tk T.Ps H H3) (Tk.tabbed ht T.in_are_pairs hT) (fun i H3 _ kk => kk.seqT ht h1) (fun i y H3 hi kk => ?_) fun H3 kk => ?_⟩
    · obtain ⟨q, p, rfl, e1, e2⟩ := at_ i y hi
      refine ⟨rfl, yes_ ⟨_, rfl, q, p, rfl, kk.seqT ht (h3 i q p e1 e2), hp p (List.mem_of_getElem? e2), _, rfl, ?_⟩⟩
      rw [if_pos rfl]
      exact kk
    · refine ⟨_, rfl, iteF ?_⟩
      have h1' := kk.seqT ht h1
      refine ⟨_, rfl, a, rfl, ⟨_, h1'⟩, fun D hD => ?_⟩
      refine lc_tup (K := K) (a := a) (xs := qs.map V.ref) (fun i H4 => Tk T.Ps H3 H4 ∧ H4 D = some (.lst (((ps.map (·.1)).take i).map V.int))) ⟨(Tk.refl kk.tab).new hD, upd_same⟩ (fun i H4 _ ⟨k4, _⟩ => k4.seqT kk.tab h1') ?_ ?_
      · rintro i y H4 hi ⟨k4, eD⟩
        obtain ⟨q, p, rfl, e1, e2⟩ := at_ i y hi
        refine ⟨rfl, yes_ ⟨_, rfl, q, _, 0, .int p.1, rfl, rfl, k4.seqT kk.tab (kk.seqT ht (h3 i q p e1 e2)), rfl, ?_⟩⟩
        refine ⟨_, eD, ?_, k4.put hD eD, ?_⟩
        · rw [List.length_map, List.length_take, List.length_map]
          exact Nat.lt_of_le_of_lt (show min i ps.length ≤ 64 by omega) (by decide)
        · rw [upd_same, take_snoc (c := p.1) (by rw [List.getElem?_map, e2]; rfl), List.map_append]
          rfl
      · rintro H4 ⟨k4, eD⟩
        rw [List.take_of_length_le (by simp [h2])] at eD
        exact ⟨D, _, rfl, .inl (.of eD), hc, k4.tab, fun H5 k5 => k H5 (kk.trans (k4.trans k5))⟩
def sp_are_revokes (K : PySem.W.Frag) (Ps : List Addr) : Sp := fun vs H Q _ => ∃ (a : Addr) (rs : List Int), vs = [.ref a] ∧ SqT K H a (rs.map V.int) ∧ (∀ r ∈ rs, 0 ≤ r ∧ r ≤ 63) ∧ Asc rs ∧ Tab Ps H ∧ ∀ H', Tk Ps H H' → Q (.bl true) H'
theorem ok_are_revokes (T : Tx K mg) (B : TBs T base) : FnOk P w K mg base CX0 6 T.f_are_revokes T.fd_are_revokes ["value"] (sp_are_revokes K T.Ps) := by
  refine fun_okC T.F_are_revokes T.code_are_revokes sc_are_revokes (fun vs H Q E h => ?_) (fun A outer s H vs Q E hr h => ?_)
  · obtain ⟨_, _, rfl, _⟩ := h; rfl
  · obtain ⟨a, rs, rfl, hS, hp, hc, ht, k⟩ := h
    have hr4 := hr.mono (show 4 ≤ 5 by decide)
    refine ⟨_, (pss_one (ps_ret (pe_and (pe_callB call_isi rfl T.b_isinstance (by decide +kernel) (pa_cons (pv 0) (pa_cons (pe_bltn (v := .ty "tuple") rfl T.b_tuple (by decide +kernel) rfl) pa_nil))) (pe_and (GxL.pe_allG (k := 2) (own := [("block", 1)]) (g := gName 1) (tt := tYes) hr rfl T.b_all B.t_are_revokes rfl (GxL.gsc_by (by decide +kernel)) (blkOk_by (N := ["value", "block"]) (sc := defScope s_are_revokes) (by decide +kernel)) sc_are_revokes.nd (pi_tup (pv 0)) (fun _ _ _ _ _ => pg_name (i := 1) sc_are_revokes.nd rfl (Or.inl rfl)) (fun _ _ _ _ _ _ => pts_nil) (fun _ _ _ _ _ hr2 => pe_call (ok_is_block T) hr2 rfl T.mg_is_block T.F_is_block.kp (b_is_block T) .nil pass0 (pa_cons (pv 1) pa_nil))) (pe_one (pe_call (ok_is_ascending T B) hr4 rfl T.mg_is_ascending T.F_is_ascending.kp (b_is_ascending T) .nil pass0 (pa_cons (pv 0) pa_nil))))))), ?_⟩
    refine ⟨_, rfl, _, _, _, _, true, rfl, .ty _, tyT hS, kit_ty (by decide +kernel), _, rfl, iteT ?_⟩
    refine ⟨_, rfl, a, rfl, ⟨_, hS⟩, ht _ T.in_are_revokes, fun H2 hT => gx_tup (K := K) (a := a) (xs := rs.map V.int) (fun i H3 => Tk T.Ps H H3) (Tk.tabbed ht T.in_are_revokes hT) (fun i H3 _ kk => kk.seqT ht hS) (fun i y H3 hi kk => ?_) fun H3 kk => ⟨_, rfl, iteT ⟨_, rfl, a, rs, rfl, .inr (kk.seqT ht hS), hc, kk.tab, fun H4 k4 => k H4 (kk.trans k4)⟩⟩⟩
    rw [List.getElem?_map] at hi
    obtain ⟨x, hx, rfl⟩ := Option.map_eq_some_iff.mp hi
    refine ⟨rfl, yes_ ⟨_, rfl, x, rfl, _, rfl, ?_⟩⟩
    rw [decide_eq_true (show 0 ≤ x ∧ x ≤ 63 from hp x (List.mem_of_getElem? hx)), if_pos rfl]
    exact kk
def sp_is_record (K : PySem.W.Frag) (Ps : List Addr) (b s : Int) : Sp := fun vs H Q _ => ∃ (a : Addr) (r : Rec), vs = [.ref a] ∧ RecAt K H a r ∧ Fit b s r ∧ Tab Ps H ∧ ∀ H', Tk Ps H H' → Q (.bl true) H'
theorem ok_is_record (T : Tx K mg) (B : TBs T base) (b sl : Int) : FnOk P w K mg base CX0 8 T.f_is_record T.fd_is_record ["record"] (sp_is_record K T.Ps b sl) := by
  refine T.F_is_record.ok sc_is_record (fun vs H Q E h => ?_) (fun cdv A outer s H vs Q E hr h => ?_)
  · obtain ⟨_, _, rfl, _⟩ := h; rfl
  · obtain ⟨a, r, rfl, hR, hf, ht, k⟩ := h
    have hr1 := hr.mono (show 1 ≤ 7 by decide)
    have hr2 := hr.mono (show 2 ≤ 7 by decide)
    have hr6 := hr.mono (show 6 ≤ 7 by decide)
    refine ⟨_, (pss_cons (ps_if (PW.pt (pw_or (pt_not (pt_val (pe_callB call_isi rfl T.b_isinstance (by decide +kernel) (pa_cons (pv 0) (pa_cons (pe_bltn (v := .ty "tuple") rfl T.b_tuple (by decide +kernel) rfl) pa_nil))))) (pw_or (pt_cmpR op_ne (pe_callB call_len_seq rfl T.b_len (by decide +kernel) (pa_cons (pv 0) pa_nil)) pe_int (nomark _)) (pw_or1 (pt_not (pt_val (pe_call (ok_is_number T) hr1 rfl T.mg_is_number T.F_is_number.kp (b_is_number T) .nil pass0 (pa_cons (pe_ix ix_tup (pv 0) pe_int (fun _ _ => rfl)) (pa_cons pe_int (pa_cons (pe_gc T.c_MOST_LOT) pa_nil))))))))))
        (pss_one (ps_ret pe_bl))
        pss_nil)
      (pss_cons (ps_if (pt_cmpR op_eq (pe_ix ix_tup (pv 0) pe_int (fun _ _ => rfl)) pe_str (nomark _))
        (pss_one (ps_ret (pe_and (pe_call (ok_is_block T) hr2 rfl T.mg_is_block T.F_is_block.kp (b_is_block T) .nil pass0 (pa_cons (pe_ix ix_tup (pv 0) pe_int (fun _ _ => rfl)) pa_nil)) (pe_and (pe_callB call_isi rfl T.b_isinstance (by decide +kernel) (pa_cons (pe_ix ix_tup (pv 0) pe_int (fun _ _ => rfl)) (pa_cons (pe_bltn (v := .ty "tuple") rfl T.b_tuple (by decide +kernel) rfl) pa_nil))) (pe_one (pe_call (ok_is_cell_row T B) hr6 rfl T.mg_is_cell_row T.F_is_cell_row.kp (b_is_cell_row T) .nil pass0 (pa_cons (pe_ix ix_tup (pv 0) pe_int (fun _ _ => rfl)) pa_nil)))))))
        pss_nil)
      (pss_one (ps_ret (pe_and (pe_cmpR op_eq (pe_ix ix_tup (pv 0) pe_int (fun _ _ => rfl)) pe_str (nomark _)) (pe_and (pe_call (ok_are_pairs T B) hr rfl T.mg_are_pairs T.F_are_pairs.kp (b_are_pairs T) .nil pass0 (pa_cons (pe_ix ix_tup (pv 0) pe_int (fun _ _ => rfl)) pa_nil)) (pe_one (pe_call (ok_are_revokes T B) hr6 rfl T.mg_are_revokes T.F_are_revokes.kp (b_are_revokes T) .nil pass0 (pa_cons (pe_ix ix_tup (pv 0) pe_int (fun _ _ => rfl)) pa_nil))))))))), ?_⟩
    cases r with
    | copy lot x c =>
      obtain ⟨pc, h1, h2⟩ := hR
      obtain ⟨f1, f2, f3, f4, f5, f6⟩ := hf
      refine ⟨_, rfl, _, _, _, _, true, rfl, .ty _, tyT h1, kit_ty (by decide +kernel), _, rfl, iteF ⟨_, rfl, a, _, rfl, .inr h1, rfl, _, rfl, iteF ?_⟩⟩
      refine ⟨_, rfl, a, _, 1, .int lot, rfl, rfl, h1, rfl, lot, 1, 999999, rfl, _, rfl, ?_⟩
      rw [decide_eq_true (show 1 ≤ lot ∧ lot ≤ 999999 from ⟨f1, f2⟩)]
      refine iteF ⟨_, rfl, a, _, 0, .str "copy", rfl, rfl, h1, rfl, rfl, _, rfl, iteT ?_⟩
      refine ⟨_, rfl, a, _, 2, .int x, rfl, rfl, h1, rfl, x, rfl, _, rfl, ?_⟩
      rw [decide_eq_true (show 0 ≤ x ∧ x ≤ 63 from ⟨f3, f4⟩)]
      refine iteT ⟨_, rfl, a, _, 3, .ref pc, rfl, rfl, h1, rfl, _, _, _, _, true, rfl, .ty _, tyT h2, kit_ty (by decide +kernel), _, rfl, iteT ?_⟩
      exact ⟨_, rfl, a, _, 3, .ref pc, rfl, rfl, h1, rfl, pc, c, rfl, h2, f6, ht, k⟩
    | mark lot ps rs =>
      obtain ⟨pp, pr, h1, h2, h3⟩ := hR
      obtain ⟨f1, f2, f3, f4, f5, f6, f7, f8⟩ := hf
      refine ⟨_, rfl, _, _, _, _, true, rfl, .ty _, tyT h1, kit_ty (by decide +kernel), _, rfl, iteF ⟨_, rfl, a, _, rfl, .inr h1, rfl, _, rfl, iteF ?_⟩⟩
      refine ⟨_, rfl, a, _, 1, .int lot, rfl, rfl, h1, rfl, lot, 1, 999999, rfl, _, rfl, ?_⟩
      rw [decide_eq_true (show 1 ≤ lot ∧ lot ≤ 999999 from ⟨f1, f2⟩)]
      refine iteF ⟨_, rfl, a, _, 0, .str "mark", rfl, rfl, h1, rfl, rfl, _, rfl, iteF ?_⟩
      refine ⟨_, rfl, a, _, 0, .str "mark", rfl, rfl, h1, rfl, rfl, _, rfl, iteT ?_⟩
      refine ⟨_, rfl, a, _, 2, .ref pp, rfl, rfl, h1, rfl, pp, ps, rfl, h2, f3, fun p hp => ⟨⟨(f5 p hp).1, (f5 p hp).2.1⟩, (f5 p hp).2.2.2.1, (f5 p hp).2.2.2.2.1⟩, f6, ht, fun H1 k1 => ⟨_, rfl, iteT ?_⟩⟩
      exact ⟨_, rfl, a, _, 3, .ref pr, rfl, rfl, k1.seqT ht h1, rfl, pr, rs, rfl, k1.seqT ht h3, fun r hr => ⟨(f7 r hr).1, (f7 r hr).2.1⟩, f8, k1.tab, fun H2 k2 => k H2 (k1.trans k2)⟩
end
end K47
namespace K47
open PySem PySem.Spec PyProof.Rows L2 Rg
theorem PlanAt.tk {C : Addr} {Ps : List Addr} {H H' : Hp} {p : Addr} {b n s : Int} (h : PlanAt C H p b n s) (t : Tab Ps H) (k : Tk Ps H H') : PlanAt C H' p b n s :=
  let ⟨dx, z⟩ := h.ob
  h.of fun o e => by rw [z] at e; cases e; exact k.at t z
/-- a place of a disk, by its tuple -/
inductive Plc where
  | home (at_ : Int) | log (at_ : Int)
def PlcAt (K : PySem.W.Frag) (H : Hp) (a : Addr) : Plc → Prop
  | .home i => SqT K H a [.str "home", .int i]
  | .log i => SqT K H a [.str "log", .int i]
def Rng (b s : Int) : Plc → Prop
  | .home i => 0 ≤ i ∧ i ≤ b - 1
  | .log i => 0 ≤ i ∧ i ≤ s - 1
/-- what may stand at a place -/
def WhatAt (K : PySem.W.Frag) (H : Hp) (a : Addr) (b s : Int) : Plc → Prop
  | .home i => 0 ≤ i ∧ i ≤ b - 1 ∧ ∃ c, SqT K H a (c.map V.int) ∧ Cells c
  | .log i => 0 ≤ i ∧ i ≤ s - 1 ∧ ∃ r, RecAt K H a r ∧ Fit b s r
section
variable {K : PySem.W.Frag} {Ps : List Addr} {H H1 : Hp} {a : Addr} {q : Plc} {b s : Int}
theorem PlcAt.by (h : PlcAt K H a q) (f : ∀ b xs, SqT K H b xs → SqT K H1 b xs) : PlcAt K H1 a q := by
  cases q with
  | home i => exact f _ _ h
  | log i => exact f _ _ h
theorem WhatAt.by (h : WhatAt K H a b s q) (f : ∀ b xs, SqT K H b xs → SqT K H1 b xs) : WhatAt K H1 a b s q := by
  cases q with
  | home i => obtain ⟨h1, h2, c, h3, h4⟩ := h; exact ⟨h1, h2, c, f _ _ h3, h4⟩
  | log i => obtain ⟨h1, h2, r, h3, h4⟩ := h; exact ⟨h1, h2, r, h3.by f, h4⟩
theorem WhatAt.rng (h : WhatAt K H a b s q) : Rng b s q := by
  cases q with
  | home i => exact ⟨h.1, h.2.1⟩
  | log i => exact ⟨h.1, h.2.1⟩
theorem WhatAt.tup (h : WhatAt K H a b s q) : ∃ xs, SqT K H a xs := by
  cases q with
  | home i => obtain ⟨h1, h2, c, h3, h4⟩ := h; exact ⟨_, h3⟩
  | log i =>
    obtain ⟨h1, h2, r, h3, h4⟩ := h
    cases r with
    | copy l x c => obtain ⟨pc, e, _⟩ := h3; exact ⟨_, e⟩
    | mark l ps rs => obtain ⟨pp, pr, e, _⟩ := h3; exact ⟨_, e⟩
theorem PlcAt.tup (h : PlcAt K H a q) : ∃ xs, SqT K H a xs := by
  cases q with
  | home i => exact ⟨_, h⟩
  | log i => exact ⟨_, h⟩
end
section
variable {P : Program} {w : World} {K : PySem.W.Frag} {mg : Str → Option Value} {base : Heap}
def sp_fits_plan (K : PySem.W.Frag) (CP : Addr) (Ps : List Addr) : Sp := fun vs H Q _ => ∃ (a p : Addr) (b n s : Int) (r : Rec), vs = [.ref a, .ref p] ∧ RecAt K H a r ∧ Fit b s r ∧ PlanAt CP H p b n s ∧ Tab Ps H ∧ ∀ H', Tk Ps H H' → Q (.bl true) H'
theorem ok_fits_plan (T : Tx K mg) (B : TBs T base) : FnOk P w K mg base CX0 4 T.f_fits_plan T.fd_fits_plan ["record", "plan"] (sp_fits_plan K T.C_Plan T.Ps) := by
  refine fun_okC T.F_fits_plan T.code_fits_plan sc_fits_plan (fun vs H Q E h => ?_) (fun A outer s H vs Q E hr h => ?_)
  · obtain ⟨_, _, _, _, _, _, rfl, _⟩ := h; rfl
  · obtain ⟨a, p, b, n, sl, r, rfl, hR, hf, hP, ht, k⟩ := h
    refine ⟨_, (pss_cons (ps_if (pt_cmpR op_eq (pe_ix ix_tup (pv 0) pe_int (fun _ _ => rfl)) pe_str (nomark _))
        (pss_one (ps_ret (pe_cmpR op_lt (pe_ix ix_tup (pv 0) pe_int (fun _ _ => rfl)) (pe_fld (pv 1) rfl) (nomark _))))
        pss_nil)
      (pss_cons (ps_if (pt_not (pt_val (GxL.pe_allG (k := 0) (own := [("block", 2), ("slot", 3)]) (g := _) (tt := tYes) hr rfl T.b_all B.t_fits_plan rfl (GxL.gsc_by (by decide +kernel)) (blkOk_by (N := ["record", "plan", "block", "slot"]) (sc := defScope s_fits_plan) (by decide +kernel)) sc_fits_plan.nd (pi_tup (pe_ix ix_tup (pv 0) pe_int (fun _ _ => rfl)))
          (fun _ _ _ _ _ => pg_tupK (K := K) (n := 2) rfl (pgs_cons (pg_name (i := 2) sc_fits_plan.nd rfl (.inl rfl)) (pgs_cons (pg_name (i := 3) sc_fits_plan.nd rfl (.inl rfl)) pgs_nil))) (fun _ _ _ _ _ _ => pts_nil) (fun _ _ _ _ _ _ => pe_and (pe_cmpR op_lt (pv 2) (pe_fldK (K := K) (pv 1) rfl) (nomark _)) (pe_one (pe_cmpR op_lt (pv 3) (pe_fldK (K := K) (pv 1) rfl) (nomark _)))))))
        (pss_one (ps_ret pe_bl))
        pss_nil)
      (pss_one (ps_ret (GxL.pe_allG (k := 0) (own := [("block", 2)]) (g := gName 2) (tt := tYes) hr rfl T.b_all B.t_fits_plan rfl (GxL.gsc_by (by decide +kernel)) (blkOk_by (N := ["record", "plan", "block", "slot"]) (sc := defScope s_fits_plan) (by decide +kernel)) sc_fits_plan.nd (pi_tup (pe_ix ix_tup (pv 0) pe_int (fun _ _ => rfl)))
          (fun _ _ _ _ _ => pg_name (i := 2) sc_fits_plan.nd rfl (Or.inl rfl)) (fun _ _ _ _ _ _ => pts_nil) (fun _ _ _ _ _ _ => pe_cmpR op_lt (pv 2) (pe_fldK (K := K) (pv 1) rfl) (nomark _))))))), ?_⟩
    obtain ⟨dx, hpo⟩ := hP.ob
    cases r with
    | copy lot x c =>
      obtain ⟨pc, h1, h2⟩ := hR
      obtain ⟨f1, f2, f3, f4, f5, f6⟩ := hf
      refine ⟨_, rfl, a, _, 0, .str "copy", rfl, rfl, h1, rfl, rfl, _, rfl, iteT ?_⟩
      refine ⟨_, rfl, a, _, 2, .int x, rfl, rfl, h1, rfl, _, rfl, p, _, _, _, _, rfl, hpo, T.cl_Plan, T.na_Plan_blocks, rfl, _, _, rfl, rfl, ?_⟩
      show Q (.bl (decide (x < b))) H
      rw [decide_eq_true f5]
      exact k H (.refl ht)
    | mark lot ps rs =>
      obtain ⟨pp, pr, h1, ⟨qs, g1, g2, g3⟩, h3⟩ := hR
      obtain ⟨f1, f2, f3, f4, f5, f6, f7, f8⟩ := hf
      refine ⟨_, rfl, a, _, 0, .str "mark", rfl, rfl, h1, rfl, rfl, _, rfl, iteF ?_⟩
      refine ⟨_, rfl, a, _, 2, .ref pp, rfl, rfl, h1, rfl, pp, rfl, ⟨_, g1⟩, ht _ T.in_fits_plan, fun H2 hT => gx_tup (K := K) (a := pp) (xs := qs.map V.ref) (fun i H3 => Tk T.Ps H H3) (Tk.tabbed ht T.in_fits_plan hT) (fun i H3 _ kk => kk.seqT ht g1) (fun i y H3 hi kk => ?_) fun H3 kk => ⟨_, rfl, iteF ?_⟩⟩
      · rw [List.getElem?_map] at hi
        obtain ⟨q, hq, rfl⟩ := Option.map_eq_some_iff.mp hi
        have hlt := (List.getElem?_eq_some_iff.mp hq).1
        have e2 : ps[i]? = some ps[i] := List.getElem?_eq_getElem (by omega)
        have hb := f5 _ (List.mem_of_getElem? e2)
        refine ⟨q, _, rfl, kk.seqT ht (g3 i q _ hq e2), rfl, _, _, rfl, _, _, rfl, rfl, rfl, yes_ ?_⟩
        refine ⟨_, rfl, _, rfl, p, _, _, _, _, rfl, kk.at ht hpo, T.cl_Plan, T.na_Plan_blocks, rfl, _, _, rfl, rfl, _, rfl, ?_⟩
        rw [decide_eq_true hb.2.2.1]
        refine iteT ⟨_, rfl, _, rfl, p, _, _, _, _, rfl, kk.at ht hpo, T.cl_Plan, T.na_Plan_slots, rfl, _, _, rfl, rfl, _, rfl, ?_⟩
        rw [decide_eq_true hb.2.2.2.2.2, if_pos rfl]
        exact kk
      · refine ⟨_, rfl, a, _, 3, .ref pr, rfl, rfl, kk.seqT ht h1, rfl, pr, rfl, ⟨_, kk.seqT ht h3⟩, kk.tab _ T.in_fits_plan, fun H4 hT => gx_tup (K := K) (a := pr) (xs := rs.map V.int) (fun i H5 => Tk T.Ps H H5) (kk.trans (Tk.tabbed kk.tab T.in_fits_plan hT)) (fun i H3 _ kk => kk.seqT ht h3) (fun i y H3 hi kk => ?_) fun H3 kk => k H3 kk⟩
        rw [List.getElem?_map] at hi
        obtain ⟨x, hx, rfl⟩ := Option.map_eq_some_iff.mp hi
        refine ⟨rfl, yes_ ⟨_, rfl, _, rfl, p, _, _, _, _, rfl, kk.at ht hpo, T.cl_Plan, T.na_Plan_blocks, rfl, _, _, rfl, rfl, _, rfl, ?_⟩⟩
        rw [decide_eq_true (f7 x (List.mem_of_getElem? hx)).2.2, if_pos rfl]
        exact kk
def sp_is_place (K : PySem.W.Frag) (CP : Addr) : Sp := fun vs H Q _ => ∃ (p a : Addr) (b n s : Int) (q : Plc), vs = [.ref p, .ref a] ∧ PlcAt K H a q ∧ Rng b s q ∧ PlanAt CP H p b n s ∧ Q (.bl true) H
theorem ok_is_place (T : Tx K mg) : FnOk P w K mg base CX0 2 T.f_is_place T.fd_is_place ["plan", "place"] (sp_is_place K T.C_Plan) := by
  refine T.F_is_place.ok sc_is_place (fun vs H Q E h => ?_) (fun cdv A outer s H vs Q E hr h => ?_)
  · obtain ⟨_, _, _, _, _, _, rfl, _⟩ := h; rfl
  · obtain ⟨p, a, b, n, sl, q, rfl, hq, hb, hP, k⟩ := h
    refine ⟨_, (pss_cons (ps_if (PW.pt (pw_or (pt_not (pt_val (pe_callB call_isi rfl T.b_isinstance (by decide +kernel) (pa_cons (pv 1) (pa_cons (pe_bltn (v := .ty "tuple") rfl T.b_tuple (by decide +kernel) rfl) pa_nil))))) (pw_or1 (pt_cmpR op_ne (pe_callB call_len_seq rfl T.b_len (by decide +kernel) (pa_cons (pv 1) pa_nil)) pe_int (nomark _)))))
        (pss_one (ps_ret pe_bl))
        pss_nil)
      (pss_cons (ps_if (pt_cmpR op_eq (pe_ix ix_tup (pv 1) pe_int (fun _ _ => rfl)) pe_str (nomark _))
        (pss_one (ps_ret (pe_call (ok_is_number T) hr rfl T.mg_is_number T.F_is_number.kp (b_is_number T) .nil pass0 (pa_cons (pe_ix ix_tup (pv 1) pe_int (fun _ _ => rfl)) (pa_cons pe_int (pa_cons (pe_op op_sub (pe_fld (pv 0) rfl) pe_int) pa_nil))))))
        pss_nil)
      (pss_one (ps_ret (pe_and (pe_cmpR op_eq (pe_ix ix_tup (pv 1) pe_int (fun _ _ => rfl)) pe_str (nomark _)) (pe_one (pe_call (ok_is_number T) hr rfl T.mg_is_number T.F_is_number.kp (b_is_number T) .nil pass0 (pa_cons (pe_ix ix_tup (pv 1) pe_int (fun _ _ => rfl)) (pa_cons pe_int (pa_cons (pe_op op_sub (pe_fld (pv 0) rfl) pe_int) pa_nil)))))))))), ?_⟩
    obtain ⟨dx, hpo⟩ := hP.ob
    cases q with
    | home i =>
      have hq : SqT K H a [.str "home", .int i] := hq
      refine ⟨_, rfl, _, _, _, _, true, rfl, .ty _, tyT hq, kit_ty (by decide +kernel), _, rfl, iteF ⟨_, rfl, a, _, rfl, .inr hq, rfl, _, rfl, iteF ?_⟩⟩
      refine ⟨_, rfl, a, _, 0, .str "home", rfl, rfl, hq, rfl, rfl, _, rfl, iteT ?_⟩
      refine ⟨_, rfl, a, _, 1, .int i, rfl, rfl, hq, rfl, _, rfl, p, _, _, _, _, rfl, hpo, T.cl_Plan, T.na_Plan_blocks, rfl, _, _, rfl, rfl, i, 0, _, rfl, ?_⟩
      rw [decide_eq_true (show 0 ≤ i ∧ i ≤ b - 1 from hb)]
      exact k
    | log i =>
      have hq : SqT K H a [.str "log", .int i] := hq
      refine ⟨_, rfl, _, _, _, _, true, rfl, .ty _, tyT hq, kit_ty (by decide +kernel), _, rfl, iteF ⟨_, rfl, a, _, rfl, .inr hq, rfl, _, rfl, iteF ?_⟩⟩
      refine ⟨_, rfl, a, _, 0, .str "log", rfl, rfl, hq, rfl, rfl, _, rfl, iteF ?_⟩
      refine ⟨_, rfl, a, _, 0, .str "log", rfl, rfl, hq, rfl, rfl, _, rfl, iteT ?_⟩
      refine ⟨_, rfl, a, _, 1, .int i, rfl, rfl, hq, rfl, _, rfl, p, _, _, _, _, rfl, hpo, T.cl_Plan, T.na_Plan_slots, rfl, _, _, rfl, rfl, i, 0, _, rfl, ?_⟩
      rw [decide_eq_true (show 0 ≤ i ∧ i ≤ sl - 1 from hb)]
      exact k
def sp_is_content (K : PySem.W.Frag) (CP : Addr) (Ps : List Addr) : Sp := fun vs H Q _ => ∃ (p a u : Addr) (b n s : Int) (q : Plc), vs = [.ref p, .ref a, .ref u] ∧ PlcAt K H a q ∧ WhatAt K H u b s q ∧ PlanAt CP H p b n s ∧ Tab Ps H ∧ ∀ H', Tk Ps H H' → Q (.bl true) H'
theorem ok_is_content (T : Tx K mg) (B : TBs T base) : FnOk P w K mg base CX0 9 T.f_is_content T.fd_is_content ["plan", "place", "what"] (sp_is_content K T.C_Plan T.Ps) := by
  refine T.F_is_content.ok sc_is_content (fun vs H Q E h => ?_) (fun cdv A outer s H vs Q E hr h => ?_)
  · obtain ⟨_, _, _, _, _, _, _, rfl, _⟩ := h; rfl
  · obtain ⟨p, a, u, b, n, sl, q, rfl, hq, hw, hP, ht, k⟩ := h
    have hr6 := hr.mono (show 6 ≤ 8 by decide)
    have hr4 := hr.mono (show 4 ≤ 8 by decide)
    refine ⟨_, (pss_cons (ps_if (pt_cmpR op_eq (pe_ix ix_tup (pv 1) pe_int (fun _ _ => rfl)) pe_str (nomark _))
        (pss_one (ps_ret (pe_call (ok_is_cell_row T B) hr6 rfl T.mg_is_cell_row T.F_is_cell_row.kp (b_is_cell_row T) .nil pass0 (pa_cons (pv 2) pa_nil))))
        pss_nil)
      (pss_one (ps_ret (pe_and (pe_call (ok_is_record T B b sl) hr rfl T.mg_is_record T.F_is_record.kp (b_is_record T) .nil pass0 (pa_cons (pv 2) pa_nil)) (pe_one (pe_call (ok_fits_plan T B) hr4 rfl T.mg_fits_plan T.F_fits_plan.kp (b_fits_plan T) .nil pass0 (pa_cons (pv 2) (pa_cons (pv 0) pa_nil)))))))), ?_⟩
    cases q with
    | home i =>
      have hq : SqT K H a [.str "home", .int i] := hq
      obtain ⟨h1, h2, c, h3, h4⟩ := hw
      refine ⟨_, rfl, a, _, 0, .str "home", rfl, rfl, hq, rfl, rfl, _, rfl, iteT ?_⟩
      exact ⟨_, rfl, u, c, rfl, h3, h4, ht, k⟩
    | log i =>
      have hq : SqT K H a [.str "log", .int i] := hq
      obtain ⟨h1, h2, r, h3, h4⟩ := hw
      refine ⟨_, rfl, a, _, 0, .str "log", rfl, rfl, hq, rfl, rfl, _, rfl, iteF ?_⟩
      refine ⟨_, rfl, u, r, rfl, h3, h4, ht, fun H1 k1 => ⟨_, rfl, iteT ?_⟩⟩
      exact ⟨_, rfl, _, rfl, u, p, b, n, sl, r, rfl, h3.tk ht k1, h4, hP.tk ht k1, k1.tab, fun H2 k2 => k H2 (k1.trans k2)⟩
end
end K47
namespace K47
open PySem PySem.Spec PyProof.Rows L2 Rg
/-! ### disks -/
structure DA where
  p : Addr
  ho : Addr
  lg : Addr
  pd : Addr
def dskF (A : DA) (hd la : Int) : List (Str × V) := [("plan", .ref A.p), ("home", .ref A.ho), ("log", .ref A.lg), ("head", .int hd), ("last", .int la), ("_pending", .ref A.pd)]
structure DAt (CD CP : Addr) (H : Hp) (d : Addr) (A : DA) (b n s hd la : Int) (hs gs : List V) (kv : List (Key × V)) : Prop where
  ob : ∃ dx, H d = some (.ins CD dx (dskF A hd la))
  pl : PlanAt CP H A.p b n s
  ho : H A.ho = some (.lst hs)
  lg : H A.lg = some (.lst gs)
  pd : H A.pd = some (.dK kv)
  pne : A.p ≠ d
  hne : A.ho ≠ A.lg
  hl : (hs.length : Int) = b
  gl : (gs.length : Int) = s
section
variable {CD CP : Addr} {Ps : List Addr} {H H' : Hp} {d : Addr} {A : DA} {b n s hd la : Int} {hs gs : List V} {kv : List (Key × V)}
theorem DAt.by (h : DAt CD CP H d A b n s hd la hs gs kv) (f : ∀ a o, H a = some o → (∀ ps, o ≠ .tbl ps) → H' a = some o) : DAt CD CP H' d A b n s hd la hs gs kv :=
  let ⟨dx, z⟩ := h.ob
  let ⟨px, y⟩ := h.pl.ob
  ⟨⟨dx, f _ _ z (by intro _ z; cases z)⟩, h.pl.of fun o e => by rw [y] at e; cases e; exact f _ _ y (by intro _ z; cases z), f _ _ h.ho (by intro _ z; cases z), f _ _ h.lg (by intro _ z; cases z), f _ _ h.pd (by intro _ z; cases z), h.pne, h.hne, h.hl, h.gl⟩
theorem DAt.tk (h : DAt CD CP H d A b n s hd la hs gs kv) (t : Tab Ps H) (k : Tk Ps H H') : DAt CD CP H' d A b n s hd la hs gs kv := h.by fun _ _ e q => k.at t e q
theorem DAt.same (h : DAt CD CP H d A b n s hd la hs gs kv) (e : Same H H') : DAt CD CP H' d A b n s hd la hs gs kv := h.by fun _ _ z _ => e _ _ z
/-- the numbers are written -/
theorem DAt.num (h : DAt CD CP H d A b n s hd la hs gs kv) {dx : Addr} (hd' la' : Int) : DAt CD CP (upd H d (.ins CD dx (dskF A hd' la'))) d A b n s hd' la' hs gs kv := by
  obtain ⟨dz, z⟩ := h.ob
  obtain ⟨px, y⟩ := h.pl.ob
  have n1 : A.ho ≠ d := ne_of h.ho z (by intro q; cases q)
  have n2 : A.lg ≠ d := ne_of h.lg z (by intro q; cases q)
  have n3 : A.pd ≠ d := ne_of h.pd z (by intro q; cases q)
  exact ⟨⟨dx, upd_same⟩, h.pl.of fun o e => by rw [upd_ne h.pne]; exact e, by rw [upd_ne n1]; exact h.ho, by rw [upd_ne n2]; exact h.lg, by rw [upd_ne n3]; exact h.pd, h.pne, h.hne, h.hl, h.gl⟩
theorem DAt.pend (h : DAt CD CP H d A b n s hd la hs gs kv) (kv' : List (Key × V)) : DAt CD CP (upd H A.pd (.dK kv')) d A b n s hd la hs gs kv' := by
  obtain ⟨dz, z⟩ := h.ob
  obtain ⟨px, y⟩ := h.pl.ob
  have n1 : d ≠ A.pd := ne_of z h.pd (by intro q; cases q)
  have n2 : A.p ≠ A.pd := ne_of y h.pd (by intro q; cases q)
  have n3 : A.ho ≠ A.pd := ne_of h.ho h.pd (by intro q; cases q)
  have n4 : A.lg ≠ A.pd := ne_of h.lg h.pd (by intro q; cases q)
  exact ⟨⟨dz, by rw [upd_ne n1]; exact z⟩, h.pl.of fun o e => by rw [upd_ne n2]; exact e, by rw [upd_ne n3]; exact h.ho, by rw [upd_ne n4]; exact h.lg, upd_same, h.pne, h.hne, h.hl, h.gl⟩
theorem DAt.setL (h : DAt CD CP H d A b n s hd la hs gs kv) (i : Nat) (v : V) : DAt CD CP (upd H A.lg (.lst (gs.set i v))) d A b n s hd la hs (gs.set i v) kv := by
  obtain ⟨dz, z⟩ := h.ob
  obtain ⟨px, y⟩ := h.pl.ob
  have n1 : d ≠ A.lg := ne_of z h.lg (by intro q; cases q)
  have n2 : A.p ≠ A.lg := ne_of y h.lg (by intro q; cases q)
  have n4 : A.pd ≠ A.lg := ne_of h.pd h.lg (by intro q; cases q)
  exact ⟨⟨dz, by rw [upd_ne n1]; exact z⟩, h.pl.of fun o e => by rw [upd_ne n2]; exact e, by rw [upd_ne h.hne]; exact h.ho, upd_same, by rw [upd_ne n4]; exact h.pd, h.pne, h.hne, h.hl, by rw [List.length_set]; exact h.gl⟩
theorem DAt.setH (h : DAt CD CP H d A b n s hd la hs gs kv) (i : Nat) (v : V) : DAt CD CP (upd H A.ho (.lst (hs.set i v))) d A b n s hd la (hs.set i v) gs kv := by
  obtain ⟨dz, z⟩ := h.ob
  obtain ⟨px, y⟩ := h.pl.ob
  have n1 : d ≠ A.ho := ne_of z h.ho (by intro q; cases q)
  have n2 : A.p ≠ A.ho := ne_of y h.ho (by intro q; cases q)
  have n4 : A.pd ≠ A.ho := ne_of h.pd h.ho (by intro q; cases q)
  exact ⟨⟨dz, by rw [upd_ne n1]; exact z⟩, h.pl.of fun o e => by rw [upd_ne n2]; exact e, upd_same, by rw [upd_ne h.hne.symm]; exact h.lg, by rw [upd_ne n4]; exact h.pd, h.pne, h.hne, by rw [List.length_set]; exact h.hl, h.gl⟩
end
section
variable {P : Program} {w : World} {K : PySem.W.Frag} {mg : Str → Option Value} {base : Heap}
/-- nothing pends: no place is busy -/
def sp_busy (CD CP : Addr) (Ps : List Addr) : Sp := fun vs H Q _ => ∃ (d : Addr) (v : V) (A : DA) (b n s hd la : Int) (hs gs : List V), vs = [.ref d, v] ∧ DAt CD CP H d A b n s hd la hs gs [] ∧ Tab Ps H ∧ ∀ H', Tk Ps H H' → Q (.bl false) H'
theorem ok_busy (T : Tx K mg) (B : TBs T base) : FnOk P w K mg base CX0 4 T.f_Disk_busy T.fd_Disk_busy ["self", "place"] (sp_busy T.C_Disk T.C_Plan T.Ps) := by
  refine fun_okC T.F_Disk_busy T.code_Disk_busy sc_Disk_busy (fun vs H Q E h => ?_) (fun A outer s H vs Q E hr h => ?_)
  · obtain ⟨_, _, _, _, _, _, _, _, _, _, rfl, _⟩ := h; rfl
  · obtain ⟨d, v, A, b, n, sl, hd, la, hs, gs, rfl, D, ht, k⟩ := h
    refine ⟨_, (pss_one (ps_ret (pe_lock (GxL.pe_anyG (k := 0) (own := [("taken", 2), ("_", 3)]) (g := _) (tt := tYes) hr rfl T.b_any B.t_Disk_busy rfl (GxL.gsc_by (by decide +kernel)) (blkOk_by (N := ["self", "place", "taken", "_"]) (sc := defScope s_Disk_busy) (by decide +kernel)) sc_Disk_busy.nd (pi_values (pe_fld (pv 0) rfl))
      (fun _ _ _ _ _ => pg_tupK (K := K) (n := 2) rfl (pgs_cons (pg_name (i := 2) sc_Disk_busy.nd rfl (.inl rfl)) (pgs_cons (pg_name (i := 3) sc_Disk_busy.nd rfl (.inl rfl)) pgs_nil))) (fun _ _ _ _ _ _ => pts_nil) (fun _ _ _ _ _ _ => pe_cmpR op_eq (pv 1) (pv 2) (nomark _)))))), ?_⟩
    obtain ⟨dx, ho⟩ := D.ob
    have n1 : d ≠ A.pd := ne_of ho D.pd (by intro q; cases q)
    refine ⟨A.pd, _, D.pd, trivial, fun od => ?_⟩
    have t1 : Tab T.Ps (upd H A.pd (.frz od (.dK []))) := ht.upd D.pd (by intro _ q; cases q)
    refine ⟨_, rfl, d, _, _, _, _, rfl, by rw [upd_ne n1]; exact ho, T.cl_Disk, T.na_Disk__pending, rfl, A.pd, od, [], rfl, upd_same, t1 _ T.in_Disk_busy, fun H2 hT => ?_⟩
    have np : A.pd ≠ T.P_Disk_busy := ht.ne T.in_Disk_busy D.pd (by intro _ q; cases q)
    have e2 : H2 A.pd = some (.frz od (.dK [])) := by rw [hT.2 _ np]; exact upd_same
    refine gx_by 0 (fun _ H3 => H3 = H2) rfl (fun i H3 hi _ => absurd hi (Nat.not_lt_zero _)) (fun H3 e => ?_) (fun i _ _ _ hi => absurd hi (Nat.not_lt_zero _)) (fun H3 e => ?_)
    · subst e
      exact ⟨e2, Nat.le_refl _⟩
    · subst e
      refine ⟨e2, k _ ⟨?_, fun x o hx nx => ?_⟩⟩
      · exact (Tk.tabbed t1 T.in_Disk_busy hT).tab.upd e2 (by intro _ q; cases q)
      · by_cases z : x = A.pd
        · rw [z, upd_same, ← D.pd, ← z]
          exact hx
        · rw [upd_ne z, hT.2 x fun q => nx (q ▸ T.in_Disk_busy), upd_ne z]
          exact hx
def sp_move_head (CD CP : Addr) : Sp := fun vs H Q _ => ∃ (d : Addr) (m : Int) (A : DA) (b n s hd la : Int) (hs gs : List V) (kv : List (Key × V)) (dx : Addr), vs = [.ref d, .int m] ∧ H d = some (.ins CD dx (dskF A hd la)) ∧ DAt CD CP H d A b n s hd la hs gs kv ∧ 0 ≤ m ∧ m ≤ 999999 ∧ Q .non (upd H d (.ins CD dx (dskF A m la)))
theorem ok_move_head (T : Tx K mg) : FnOk P w K mg base CX0 2 T.f_Disk_move_head T.fd_Disk_move_head ["self", "p"] (sp_move_head T.C_Disk T.C_Plan) := by
  refine T.F_Disk_move_head.ok sc_Disk_move_head (fun vs H Q E h => ?_) (fun cdv A outer s H vs Q E hr h => ?_)
  · obtain ⟨_, _, _, _, _, _, _, _, _, _, _, _, rfl, _⟩ := h; rfl
  · obtain ⟨d, m, A, b, n, sl, hd, la, hs, gs, kv, dx, rfl, ho, D, h0, h1, k⟩ := h
    refine ⟨_, (pss_cons (ps_if (pt_not (pt_val (pe_call (ok_is_number T) hr rfl T.mg_is_number T.F_is_number.kp (b_is_number T) .nil pass0 (pa_cons (pv 1) (pa_cons pe_int (pa_cons (pe_gc T.c_MOST_HEAD) pa_nil))))))
        (pss_one ps_never)
        pss_nil)
      (pss_one (ps_fld (pv 0) (pv 1) rfl))), ?_⟩
    refine ⟨_, rfl, m, 0, 999999, rfl, _, rfl, ?_⟩
    rw [decide_eq_true (show 0 ≤ m ∧ m ≤ 999999 from ⟨h0, h1⟩)]
    exact iteF ⟨_, rfl, _, rfl, d, _, _, _, rfl, ho, T.cl_Disk, T.na_Disk_head, by show 6 < 1000; decide, k⟩
/-- a place takes what is put there -/
def sp_put (CD CP : Addr) (K : PySem.W.Frag) : Sp := fun vs H Q _ => ∃ (d a : Addr) (v : V) (A : DA) (b n s hd la : Int) (hs gs : List V) (kv : List (Key × V)) (q : Plc), vs = [.ref d, .ref a, v] ∧ DAt CD CP H d A b n s hd la hs gs kv ∧ PlcAt K H a q ∧ match q with
  | .home i => 0 ≤ i ∧ i ≤ b - 1 ∧ Q .non (upd H A.ho (.lst (hs.set i.toNat v)))
  | .log i => 0 ≤ i ∧ i ≤ s - 1 ∧ Q .non (upd H A.lg (.lst (gs.set i.toNat v)))
theorem ok_put (T : Tx K mg) : FnOk P w K mg base CX0 1 T.f_Disk__put T.fd_Disk__put ["self", "place", "what"] (sp_put T.C_Disk T.C_Plan K) := by
  refine T.F_Disk__put.ok sc_Disk__put (fun vs H Q E h => ?_) (fun cdv A outer s H vs Q E hr h => ?_)
  · obtain ⟨_, _, _, _, _, _, _, _, _, _, _, _, _, rfl, _⟩ := h; rfl
  · obtain ⟨d, a, v, A, b, n, sl, hd, la, hs, gs, kv, q, rfl, D, hq, k⟩ := h
    refine ⟨_, (pss_cons (ps_asg (pv 1) (pg_tup rfl (pgs_cons (pg_name (i := 3) sc_Disk__put.nd rfl (.inl rfl)) (pgs_cons (pg_name (i := 4) sc_Disk__put.nd rfl (.inl rfl)) pgs_nil))))
      (pss_one (ps_if (pt_cmpR op_eq (pv 3) pe_str (nomark _))
        (pss_one (ps_asg (pv 2) (pg_sub (pe_fld (pv 0) rfl) (pv 4) set_list)))
        (pss_one (ps_asg (pv 2) (pg_sub (pe_fld (pv 0) rfl) (pv 4) set_list)))))), ?_⟩
    obtain ⟨dx, ho⟩ := D.ob
    cases q with
    | home i =>
      have hq : SqT K H a [.str "home", .int i] := hq
      obtain ⟨h0, h1, k⟩ := k
      have := D.hl
      refine ⟨_, rfl, a, _, rfl, hq, rfl, _, _, rfl, _, _, rfl, rfl, _, rfl, rfl, _, rfl, iteT ?_⟩
      exact ⟨_, rfl, _, rfl, d, _, _, _, _, rfl, ho, T.cl_Disk, T.na_Disk_home, rfl, _, rfl, A.ho, hs, i, i.toNat, rfl, rfl, D.ho, ixN_at (by omega) (by omega), k⟩
    | log i =>
      have hq : SqT K H a [.str "log", .int i] := hq
      obtain ⟨h0, h1, k⟩ := k
      have := D.gl
      refine ⟨_, rfl, a, _, rfl, hq, rfl, _, _, rfl, _, _, rfl, rfl, _, rfl, rfl, _, rfl, iteF ?_⟩
      exact ⟨_, rfl, _, rfl, d, _, _, _, _, rfl, ho, T.cl_Disk, T.na_Disk_log, rfl, _, rfl, A.lg, gs, i, i.toNat, rfl, rfl, D.lg, ixN_at (by omega) (by omega), k⟩
end
end K47
namespace K47
open PySem PySem.Spec PyProof.Rows L2 Rg
section
variable {P : Program} {w : World} {K : PySem.W.Frag} {mg : Str → Option Value} {base : Heap}
/-- nothing pends; a good write is taken -/
def sp_issue (CD CP : Addr) (K : PySem.W.Frag) (Ps : List Addr) : Sp := fun vs H Q _ => ∃ (d a u : Addr) (A : DA) (b n s hd la : Int) (hs gs : List V) (q : Plc), vs = [.ref d, .ref a, .ref u] ∧ DAt CD CP H d A b n s hd la hs gs [] ∧ PlcAt K H a q ∧ WhatAt K H u b s q ∧ Tab Ps H ∧
  ∀ (H' : Hp) (t : Addr), Tab Ps H' → Kp (d :: A.pd :: Ps) H H' → DAt CD CP H' d A b n s hd (la + 1) hs gs [(Sum.inl (la + 1), .ref t)] → H' t = some (.tup [.ref a, .ref u]) → Q (.int (la + 1)) H'
theorem ok_issue (T : Tx K mg) (B : TBs T base) : FnOk P w K mg base CX0 10 T.f_Disk_issue T.fd_Disk_issue ["self", "place", "what"] (sp_issue T.C_Disk T.C_Plan K T.Ps) := by
  refine T.F_Disk_issue.ok sc_Disk_issue (fun vs H Q E h => ?_) (fun cdv A outer s H vs Q E hr h => ?_)
  · obtain ⟨_, _, _, _, _, _, _, _, _, _, _, _, rfl, _⟩ := h; rfl
  · obtain ⟨d, a, u, A, b, n, sl, hd, la, hs, gs, q, rfl, D, hq, hw, ht, k⟩ := h
    have hr2 := hr.mono (show 2 ≤ 9 by decide)
    have hr4 := hr.mono (show 4 ≤ 9 by decide)
    refine ⟨_, (pss_cons (ps_if (PW.pt (pw_or (pt_not (pt_val (pe_call (ok_is_place T) hr2 rfl T.mg_is_place T.F_is_place.kp (b_is_place T) .nil pass0 (pa_cons (pe_fld (pv 0) rfl) (pa_cons (pv 1) pa_nil))))) (pw_or1 (pt_not (pt_val (pe_call (ok_is_content T B) hr rfl T.mg_is_content T.F_is_content.kp (b_is_content T) .nil pass0 (pa_cons (pe_fld (pv 0) rfl) (pa_cons (pv 1) (pa_cons (pv 2) pa_nil)))))))))
        (pss_one ps_never)
        pss_nil)
      (pss_cons (ps_if (pt_val (pe_meth (pv 0) T.cl_Disk T.m_Disk_busy (ok_busy T B) hr4 (b_Disk_busy T) .nil pass0 (pa_cons (pv 1) pa_nil)))
        (pss_one ps_never)
        pss_nil)
      (pss_cons (ps_fldaug (pv 0) pe_int in_add)
      (pss_cons (ps_dput (hu_of hr) (pe_fld (pv 0) rfl) (pe_fld (pv 0) rfl) (pe_tup (pa_cons (pv 1) (pa_cons (pe_tupleOf rfl T.b_tuple (pv 2)) pa_nil))) rfl)
      (pss_one (ps_ret (pe_fld (pv 0) rfl))))))), ?_⟩
    obtain ⟨dx, ho⟩ := D.ob
    refine ⟨_, rfl, d, _, _, _, _, rfl, ho, T.cl_Disk, T.na_Disk_plan, rfl, _, rfl, A.p, a, b, n, sl, q, rfl, hq, hw.rng, D.pl, _, rfl, iteF ?_⟩
    refine ⟨_, rfl, d, _, _, _, _, rfl, ho, T.cl_Disk, T.na_Disk_plan, rfl, _, rfl, _, rfl, A.p, a, u, b, n, sl, q, rfl, hq, hw, D.pl, ht, fun H1 k1 => ⟨_, rfl, iteF ?_⟩⟩
    have D1 := D.tk ht k1
    refine ⟨_, rfl, d, _, _, rfl, k1.at ht ho, rfl, _, rfl, d, _, A, b, n, sl, hd, la, hs, gs, rfl, D1, k1.tab, fun H2 k2 => ⟨_, rfl, iteF ?_⟩⟩
    have D2 := D1.tk k1.tab k2
    have k12 := k1.trans k2
    have ho2 := k12.at ht ho
    have hw2 := hw.by (H1 := H2) fun _ _ => k12.seqT ht
    obtain ⟨xs, hT⟩ := hw2.tup
    refine ⟨_, rfl, d, _, _, _, _, rfl, ho2, T.cl_Disk, T.na_Disk_last, rfl, la, 1, rfl, rfl, _, _, ho2, by show 6 < 1000; decide, ?_⟩
    have D3 : DAt T.C_Disk T.C_Plan (upd H2 d (.ins T.C_Disk dx (dskF A hd (la + 1)))) d A b n sl hd (la + 1) hs gs [] := D2.num hd (la + 1)
    have T3 : Tab T.Ps (upd H2 d (.ins T.C_Disk dx (dskF A hd (la + 1)))) := k12.tab.upd ho2 (by intro _ z; cases z)
    have K3 : Kp (d :: A.pd :: T.Ps) H (upd H2 d (.ins T.C_Disk dx (dskF A hd (la + 1)))) := fun x o hx nx => by
      rw [upd_ne fun z => nx (by simp [z])]
      exact k12.kp x o hx fun z => nx (by simp [z])
    have hT3 : SqT K (upd H2 d (.ins T.C_Disk dx (dskF A hd (la + 1)))) u xs := by
      rcases hT with (e | ⟨o, e⟩) | e
      · exact .inl (.inl (by rw [upd_ne (ne_of e ho2 (by intro z; cases z))]; exact e))
      · exact .inl (.inr ⟨o, by rw [upd_ne (ne_of e ho2 (by intro z; cases z))]; exact e⟩)
      · exact .inr e
    have o3 := upd_same (H := H2) (a := d) (o := .ins T.C_Disk dx (dskF A hd (la + 1)))
    show tSeq _ _ _ _ (upd H2 d (.ins T.C_Disk dx (dskF A hd (la + 1))))
    generalize upd H2 d (.ins T.C_Disk dx (dskF A hd (la + 1))) = H3 at D3 T3 K3 hT3 o3 ⊢
    refine ⟨_, rfl, _, rfl, .inr ⟨u, xs, rfl, hT3, ?_⟩⟩
    refine ⟨by show 2 ≤ sizeLine; decide, fun t nt => ?_⟩
    have D4 := D3.same (same_upd (o := .tup [.ref a, .ref u]) nt)
    have T4 := T3.new (o := .tup [.ref a, .ref u]) nt
    have o4 : upd H3 t (.tup [.ref a, .ref u]) d = _ := (upd_ne (ne_of_none o3 nt)).trans o3
    have t4 := upd_same (H := H3) (a := t) (o := .tup [.ref a, .ref u])
    have K4 : Kp (d :: A.pd :: T.Ps) H (upd H3 t (.tup [.ref a, .ref u])) := K3.new nt
    generalize upd H3 t (.tup [.ref a, .ref u]) = H4 at D4 T4 o4 t4 K4 ⊢
    refine ⟨_, rfl, d, _, _, _, _, rfl, o4, T.cl_Disk, T.na_Disk__pending, rfl, _, rfl, d, _, _, _, _, rfl, o4, T.cl_Disk, T.na_Disk_last, rfl, A.pd, _, rfl, DPut.k (k := Sum.inl (la + 1)) D4.pd (by decide), ?_⟩
    have D5 := D4.pend [(Sum.inl (la + 1), .ref t)]
    have nd : d ≠ A.pd := ne_of o4 D4.pd (by intro z; cases z)
    refine ⟨_, rfl, d, _, _, _, _, rfl, by rw [upd_ne nd]; exact o4, T.cl_Disk, T.na_Disk_last, rfl, ?_⟩
    refine k _ t (T4.upd D4.pd (by intro _ z; cases z)) (K4.own (by simp)) D5 ?_
    rw [upd_ne (ne_of t4 D4.pd (by intro z; cases z))]
    exact t4
end
end K47
namespace K47
open PySem PySem.Spec PyProof.Rows L2 Rg
def putH (q : Plc) (v : V) (hs : List V) : List V := match q with
  | .home i => hs.set i.toNat v
  | .log _ => hs
def putG (q : Plc) (v : V) (gs : List V) : List V := match q with
  | .home _ => gs
  | .log i => gs.set i.toNat v
def zer8 : List V := [.int 0, .int 0, .int 0, .int 0, .int 0, .int 0, .int 0, .int 0]
section
variable {P : Program} {w : World} {K : PySem.W.Frag} {mg : Str → Option Value} {base : Heap}
def sp_sure (CD CP : Addr) (K : PySem.W.Frag) (Ps : List Addr) : Sp := fun vs H Q _ => ∃ (d a u t : Addr) (m : Int) (A : DA) (b n s hd la : Int) (hs gs : List V) (q : Plc), vs = [.ref d, .int m] ∧ DAt CD CP H d A b n s hd la hs gs [(Sum.inl m, .ref t)] ∧ H t = some (.tup [.ref a, .ref u]) ∧ PlcAt K H a q ∧ Rng b s q ∧ Tab Ps H ∧
  ∀ H' : Hp, Tab Ps H' → Kp [A.pd, A.ho, A.lg] H H' → DAt CD CP H' d A b n s hd la (putH q (.ref u) hs) (putG q (.ref u) gs) [] → Q .non H'
theorem ok_sure (T : Tx K mg) : FnOk P w K mg base CX0 2 T.f_Disk_sure T.fd_Disk_sure ["self", "number"] (sp_sure T.C_Disk T.C_Plan K T.Ps) := by
  refine T.F_Disk_sure.ok sc_Disk_sure (fun vs H Q E h => ?_) (fun cdv A outer s H vs Q E hr h => ?_)
  · obtain ⟨_, _, _, _, _, _, _, _, _, _, _, _, _, _, rfl, _⟩ := h; rfl
  · obtain ⟨d, a, u, t, m, A, b, n, sl, hd, la, hs, gs, q, rfl, D, et, hq, rg, ht, k⟩ := h
    refine ⟨_, (pss_cons (ps_if (pt_cmp (pc_dnotin (hu_of hr) (pv 1) (pe_fld (pv 0) rfl)) rfl)
        (pss_one ps_never)
        pss_nil)
      (pss_cons (ps_asg (pe_dpop1 (pe_fld (pv 0) rfl) (pv 1) ⟨rfl, rfl, rfl, rfl⟩) (pg_tup rfl (pgs_cons (pg_name (i := 2) sc_Disk_sure.nd rfl (.inl rfl)) (pgs_cons (pg_name (i := 3) sc_Disk_sure.nd rfl (.inl rfl)) pgs_nil))))
      (pss_one (ps_expr (pe_meth (pv 0) T.cl_Disk T.m_Disk__put (ok_put T) hr (b_Disk__put T) .nil pass0 (pa_cons (pv 2) (pa_cons (pv 3) pa_nil))))))), ?_⟩
    obtain ⟨dx, ho⟩ := D.ob
    have ev : valV [((Sum.inl m : Key), V.ref t)] (Sum.inl m) = some (.ref t) := valV_pos rfl
    have ed : dropK [((Sum.inl m : Key), V.ref t)] (Sum.inl m) = [] := by simp [dropK]
    refine ⟨_, rfl, _, rfl, d, _, _, _, _, rfl, ho, T.cl_Disk, T.na_Disk__pending, rfl, A.pd, some (.ref t), rfl, ?_, _, rfl, iteF ?_⟩
    · rw [← ev]
      exact DGet.k (k := Sum.inl m) D.pd
    refine ⟨_, rfl, d, _, _, _, _, rfl, ho, T.cl_Disk, T.na_Disk__pending, rfl, A.pd, rfl, .inl ⟨_, .inl D.pd⟩, _, rfl, _, Sum.inl m, .ref t, D.pd, rfl, ev, ?_⟩
    rw [ed]
    have D1 := D.pend []
    have nd : d ≠ A.pd := ne_of ho D.pd (by intro z; cases z)
    have nt : t ≠ A.pd := ne_of et D.pd (by intro z; cases z)
    have hq1 : PlcAt K (upd H A.pd (.dK [])) a q := hq.by fun c xs h => by
      rcases h with (e | ⟨o, e⟩) | e
      · exact .inl (.inl (by rw [upd_ne (ne_of e D.pd (by intro z; cases z))]; exact e))
      · exact .inl (.inr ⟨o, by rw [upd_ne (ne_of e D.pd (by intro z; cases z))]; exact e⟩)
      · exact .inr e
    refine ⟨t, _, rfl, .of (by rw [upd_ne nt]; exact et), rfl, _, _, rfl, _, _, rfl, rfl, _, rfl, d, _, _, rfl, by rw [upd_ne nd]; exact ho, rfl, _, rfl, _, rfl, d, a, _, A, b, n, sl, hd, la, hs, gs, [], q, rfl, D1, hq1, ?_⟩
    have T1 : Tab T.Ps (upd H A.pd (.dK [])) := ht.upd D.pd (by intro _ z; cases z)
    cases q with
    | home i =>
      exact ⟨rg.1, rg.2, k _ (T1.upd D1.ho (by intro _ z; cases z)) ((Kp.refl.own (by simp)).own (by simp)) (D1.setH i.toNat (.ref u))⟩
    | log i =>
      exact ⟨rg.1, rg.2, k _ (T1.upd D1.lg (by intro _ z; cases z)) ((Kp.refl.own (by simp)).own (by simp)) (D1.setL i.toNat (.ref u))⟩
def sp_Disk_init (CD CP : Addr) : Sp := fun vs H Q _ => ∃ (d dx p : Addr) (b n s : Int), vs = [.ref d, .ref p] ∧ H d = some (.ins CD dx []) ∧ PlanAt CP H p b n s ∧ p ≠ d ∧
  ∀ (H' : Hp) (A : DA) (ts : List Addr), A.p = p → Kp [d] H H' → H A.ho = none → H A.lg = none → H A.pd = none → DAt CD CP H' d A b n s 0 0 (ts.map V.ref) (List.replicate s.toNat .non) [] → (∀ t ∈ ts, H' t = some (.tup zer8)) → Q .non H'
theorem ok_Disk_init (T : Tx K mg) : FnOk P w K mg base CX0 1 T.f_Disk___init__ T.fd_Disk___init__ ["self", "plan"] (sp_Disk_init T.C_Disk T.C_Plan) := by
  refine T.F_Disk___init__.ok sc_Disk___init__ (fun vs H Q E h => ?_) (fun cdv A outer s H vs Q E hr h => ?_)
  · obtain ⟨_, _, _, _, _, _, rfl, _⟩ := h; rfl
  · obtain ⟨d, dx, p, b, n, sl, rfl, ho, hP, npd, k⟩ := h
    refine ⟨_, (pss_cons (ps_fld (pv 0) (pv 1) rfl)
      (pss_cons (ps_fld (pv 0) (pe_lc rfl (own := [("_", 2)]) (g := gName 2) (tt := tYes) sc_Disk___init__.nd (pi_range1 rfl T.b_range (pa_cons (pe_fld (pv 1) rfl) pa_nil)) (blkOk_by (N := ["self", "plan", "_"]) (sc := defScope s_Disk___init__) (by decide +kernel)) (fun _ _ _ _ _ => pg_name (i := 2) sc_Disk___init__.nd rfl (Or.inl rfl)) (fun _ _ _ _ _ => pts_nil) (fun _ _ _ _ _ => (pe_op (op_repTK (K := K)) (pe_tup (pa_cons pe_int pa_nil)) (pe_cv T.mg_Plan T.cr_Plan T.cv_Plan_WIDTH)))) rfl)
      (pss_cons (ps_fld (pv 0) (pe_lc rfl (own := [("_", 2)]) (g := gName 2) (tt := tYes) sc_Disk___init__.nd (pi_range1 rfl T.b_range (pa_cons (pe_fld (pv 1) rfl) pa_nil)) (blkOk_by (N := ["self", "plan", "_"]) (sc := defScope s_Disk___init__) (by decide +kernel)) (fun _ _ _ _ _ => pg_name (i := 2) sc_Disk___init__.nd rfl (Or.inl rfl)) (fun _ _ _ _ _ => pts_nil) (fun _ _ _ _ _ => pe_non)) rfl)
      (pss_cons (ps_fld (pv 0) pe_int rfl)
      (pss_cons (ps_fld (pv 0) pe_int rfl)
      (pss_one (ps_fld (pv 0) pe_dnewK rfl))))))), ?_⟩
    obtain ⟨px, hpo⟩ := hP.ob
    have hb0 : 8 ≤ b := hP.b1
    have hb1 : b ≤ 64 := hP.b2
    have hs0 : b < sl := hP.s1
    have hs1 : sl ≤ 200 := hP.s2
    refine ⟨_, rfl, _, rfl, d, _, _, _, rfl, ho, T.cl_Disk, T.na_Disk_plan, by show 0 < 1000; decide, ?_⟩
    have o1 := upd_same (H := H) (a := d) (o := .ins T.C_Disk dx [("plan", .ref p)])
    have p1 : upd H d (.ins T.C_Disk dx [("plan", .ref p)]) p = _ := (upd_ne npd).trans hpo
    have k1 : Kp [d] H (upd H d (.ins T.C_Disk dx [("plan", .ref p)])) := Kp.refl.own1
    show tSeq _ _ _ _ (upd H d (.ins T.C_Disk dx [("plan", .ref p)]))
    generalize upd H d (.ins T.C_Disk dx [("plan", .ref p)]) = H1 at o1 p1 k1 ⊢
    -- the home places
    refine ⟨_, rfl, p, _, _, _, _, rfl, p1, T.cl_Plan, T.na_Plan_blocks, rfl, b, rfl, by omega, by omega, fun D nD => ?_⟩
    refine lc_range (lo := 0) (n := b.toNat) (fun i H2 => ∃ ts : List Addr, ts.length = i ∧ H2 D = some (.lst (ts.map V.ref)) ∧ (∀ t ∈ ts, H2 t = some (.tup zer8)) ∧ Same H1 H2) ⟨[], rfl, upd_same, by simp, same_upd nD⟩ ?_ ?_
    · rintro i H2 hi ⟨ts, h1, h2, h3, S2⟩
      refine ⟨rfl, yes_ ⟨by show 1 ≤ sizeLine; decide, fun t0 nt0 => ⟨t0, 8, _, rfl, rfl, .of upd_same, by simp, by decide, by decide, by decide, fun t nt => ?_⟩⟩⟩
      have e0 : (List.replicate (8 : Int).toNat [V.int 0]).flatten = zer8 := by decide
      rw [e0]
      have nDt0 : D ≠ t0 := ne_of_none h2 nt0
      have eD : upd (upd H2 t0 (.tup [.int 0])) t (.tup zer8) D = some (.lst (ts.map V.ref)) := by
        rw [upd_ne (ne_of_none (by rw [upd_ne nDt0]; exact h2) nt), upd_ne nDt0]
        exact h2
      refine ⟨_, eD, ?_, ts ++ [t], by simp [h1], ?_, fun x hx => ?_, fun x o hx => ?_⟩
      · rw [List.length_map, h1]
        exact Nat.lt_of_lt_of_le (show i < 64 by omega) (by decide)
      · rw [upd_same, List.map_append]
        rfl
      · have key : ∀ y, (upd (upd H2 t0 (.tup [.int 0])) t (.tup zer8)) y = some (.tup zer8) → upd (upd (upd H2 t0 (.tup [.int 0])) t (.tup zer8)) D (.lst (ts.map V.ref ++ [.ref t])) y = some (.tup zer8) := fun y ey => by
          rw [upd_ne fun z => by rw [z, eD] at ey; cases ey]
          exact ey
        rcases List.mem_append.mp hx with z | z
        · refine key x ?_
          have ex := h3 x z
          have n1 : x ≠ t0 := ne_of_none ex nt0
          rw [upd_ne (ne_of_none (by rw [upd_ne n1]; exact ex) nt), upd_ne n1]
          exact ex
        · have : x = t := by simpa using z
          exact key x (by rw [this]; exact upd_same)
      · have hx2 := S2 x o hx
        have n1 : x ≠ t0 := ne_of_none hx2 nt0
        rw [upd_ne (ne_of_none hx nD), upd_ne (ne_of_none (by rw [upd_ne n1]; exact hx2) nt), upd_ne n1]
        exact hx2
    rintro H2 ⟨ts, l2, e2, z2, S2⟩
    have o2 := S2 _ _ o1
    have p2 := S2 _ _ p1
    have nDd : D ≠ d := ne_of e2 o2 (by intro z; cases z)
    have zd : ∀ t ∈ ts, t ≠ d := fun t ht => ne_of (z2 t ht) o2 (by intro z; cases z)
    refine ⟨_, rfl, d, _, _, _, rfl, o2, T.cl_Disk, T.na_Disk_home, by show 1 < 1000; decide, ?_⟩
    have o3 := upd_same (H := H2) (a := d) (o := .ins T.C_Disk dx [("plan", .ref p), ("home", .ref D)])
    have p3 : upd H2 d (.ins T.C_Disk dx [("plan", .ref p), ("home", .ref D)]) p = _ := (upd_ne npd).trans p2
    have e3 : upd H2 d (.ins T.C_Disk dx [("plan", .ref p), ("home", .ref D)]) D = _ := (upd_ne nDd).trans e2
    have z3 : ∀ t ∈ ts, upd H2 d (.ins T.C_Disk dx [("plan", .ref p), ("home", .ref D)]) t = some (.tup zer8) := fun t ht => (upd_ne (zd t ht)).trans (z2 t ht)
    have k3 : Kp [d] H (upd H2 d (.ins T.C_Disk dx [("plan", .ref p), ("home", .ref D)])) := (k1.same S2).own1
    show tSeq _ _ _ _ (upd H2 d (.ins T.C_Disk dx [("plan", .ref p), ("home", .ref D)]))
    generalize upd H2 d (.ins T.C_Disk dx [("plan", .ref p), ("home", .ref D)]) = H3 at o3 p3 e3 z3 k3 ⊢
    -- the log
    refine ⟨_, rfl, p, _, _, _, _, rfl, p3, T.cl_Plan, T.na_Plan_slots, rfl, sl, rfl, by omega, by omega, fun G nG => ?_⟩
    refine lc_range (lo := 0) (n := sl.toNat) (fun i H4 => H4 = upd H3 G (.lst (List.replicate i .non))) rfl ?_ ?_
    · rintro i H4 hi rfl
      refine ⟨rfl, yes_ ⟨_, upd_same, ?_, ?_⟩⟩
      · rw [List.length_replicate]
        exact Nat.lt_of_lt_of_le (show i < 200 by omega) (by decide)
      · rw [upd_upd, List.replicate_succ']
    rintro H4 e4
    have S4 : Same H3 H4 := by rw [e4]; exact same_upd nG
    have g4 : H4 G = some (.lst (List.replicate sl.toNat .non)) := by rw [e4]; exact upd_same
    have o4 := S4 _ _ o3
    have p4 := S4 _ _ p3
    have d4 := S4 _ _ e3
    have nGd : G ≠ d := ne_of g4 o4 (by intro z; cases z)
    have nDG : D ≠ G := ne_of_none e3 nG
    refine ⟨_, rfl, d, _, _, _, rfl, o4, T.cl_Disk, T.na_Disk_log, by show 2 < 1000; decide, ?_⟩
    refine ⟨_, rfl, d, _, _, _, rfl, upd_same, T.cl_Disk, T.na_Disk_head, by show 3 < 1000; decide, ?_⟩
    refine ⟨_, rfl, d, _, _, _, rfl, upd_same, T.cl_Disk, T.na_Disk_last, by show 4 < 1000; decide, fun pd npd2 => ?_⟩
    rw [upd_upd, upd_upd] at npd2 ⊢
    have nPd : pd ≠ d := fun z => by rw [z, upd_same] at npd2; cases npd2
    have npd3 : H4 pd = none := by rw [upd_ne nPd] at npd2; exact npd2
    refine ⟨_, rfl, d, _, _, _, rfl, by rw [upd_ne nPd.symm]; exact upd_same, T.cl_Disk, T.na_Disk__pending, by show 5 < 1000; decide, ?_⟩
    rw [upd_comm nPd.symm, upd_upd]
    refine k _ ⟨p, D, G, pd⟩ ts rfl ?_ (k1.free (by simpa using nDd) nD) (k3.free (by simpa using nGd) nG) ((k3.same S4).free (by simpa using nPd) npd3) ⟨⟨dx, upd_same⟩, hP.of fun o e => ?_, ?_, ?_, ?_, npd, nDG, ?_, ?_⟩ fun t ht => ?_
    · exact (((k3.same S4).new npd3).own1 (p := d))
    · rw [hpo] at e
      cases e
      rw [upd_ne npd, upd_ne (ne_of_none p4 npd3)]
      exact p4
    · show upd _ d _ D = _
      rw [upd_ne nDd, upd_ne (ne_of_none d4 npd3)]
      exact d4
    · show upd _ d _ G = _
      rw [upd_ne nGd, upd_ne (ne_of_none g4 npd3)]
      exact g4
    · show upd _ d _ pd = _
      rw [upd_ne nPd, upd_same]
    · rw [List.length_map, l2]
      omega
    · rw [List.length_replicate]
      omega
    · have := S4 _ _ (z3 t ht)
      rw [upd_ne (zd t ht), upd_ne (ne_of_none this npd3)]
      exact this
end
end K47
namespace K47
open PySem PySem.Spec PyProof.Rows L2 Rg
/-! ### the log as a list of records with their places -/
abbrev LogL : Type := List (Option (Addr × Rec))
def gV : Option (Addr × Rec) → V
  | none => .non
  | some (a, _) => .ref a
/-- its records stand, fit, and their lots are at most M -/
def LogAt (K : PySem.W.Frag) (H : Hp) (b s M : Int) (lg : LogL) : Prop := ∀ (i : Nat) (a : Addr) (r : Rec), lg[i]? = some (some (a, r)) → RecAt K H a r ∧ Fit b s r ∧ r.lot ≤ M
theorem LogAt.same {K : PySem.W.Frag} {H H' : Hp} {b s M : Int} {lg : LogL} (h : LogAt K H b s M lg) (e : Same H H') : LogAt K H' b s M lg := fun i a r q => ⟨(h i a r q).1.same e, (h i a r q).2⟩
theorem LogAt.tk {K : PySem.W.Frag} {Ps : List Addr} {H H' : Hp} {b s M : Int} {lg : LogL} (h : LogAt K H b s M lg) (t : Tab Ps H) (k : Tk Ps H H') : LogAt K H' b s M lg := fun i a r q => ⟨(h i a r q).1.tk t k, (h i a r q).2⟩
def isMk (L : Int) : Option (Addr × Rec) → Bool
  | some (_, .mark l _ _) => decide (l = L)
  | _ => false
/-- the first slot that holds a mark of lot L -/
def fm (lg : LogL) (L : Int) : Option Nat := lg.findIdx? (isMk L)
theorem fm_some {lg : LogL} {L : Int} {j : Nat} (h : fm lg L = some j) : ∃ a ps rs, lg[j]? = some (some (a, .mark L ps rs)) := by
  unfold fm at h
  rw [List.findIdx?_eq_some_iff_getElem] at h
  obtain ⟨hj, hp, _⟩ := h
  rw [List.getElem?_eq_getElem hj]
  cases e : lg[j] with
  | none => rw [e] at hp; cases hp
  | some q =>
    obtain ⟨a, r⟩ := q
    rw [e] at hp
    cases r with
    | copy l x c => cases hp
    | mark l ps rs =>
      have : l = L := of_decide_eq_true hp
      subst this
      exact ⟨a, ps, rs, rfl⟩
theorem fm_snoc (lg : LogL) (x : Option (Addr × Rec)) (L : Int) : fm (lg ++ [x]) L = match fm lg L with
    | some j => some j
    | none => if isMk L x = true then some lg.length else none := by
  unfold fm
  rw [List.findIdx?_append]
  cases e : List.findIdx? (isMk L) lg with
  | some j => rfl
  | none =>
    show (List.findIdx? (isMk L) [x]).map (· + lg.length) = _
    by_cases h : isMk L x = true
    · rw [if_pos h, List.findIdx?_cons, if_pos h]
      simp
    · rw [if_neg h, List.findIdx?_cons, if_neg h]
      rfl
/-- the marks from lot L on: their slots and records -/
inductive Due (lg : LogL) : Int → List (Nat × Addr) → Prop
  | nil {L : Int} : fm lg L = none → Due lg L []
  | cons {L : Int} {j : Nat} {a : Addr} {r : Rec} {ds : List (Nat × Addr)} : fm lg L = some j → lg[j]? = some (some (a, r)) → Due lg (L + 1) ds → Due lg L ((j, a) :: ds)
theorem due_ex {K : PySem.W.Frag} {H : Hp} {b s M : Int} {lg : LogL} (hl : LogAt K H b s M lg) : ∀ (n : Nat) (L : Int), M + 1 - L ≤ (n : Int) → ∃ ds, Due lg L ds ∧ ds.length ≤ n
  | 0, L, h => ⟨[], .nil (by
      cases e : fm lg L with
      | none => rfl
      | some j =>
        obtain ⟨a, ps, rs, q⟩ := fm_some e
        have := (hl j a _ q).2.2
        have : L ≤ M := this
        omega), Nat.le_refl _⟩
  | n + 1, L, h => by
    cases e : fm lg L with
    | none => exact ⟨[], .nil e, Nat.zero_le _⟩
    | some j =>
      obtain ⟨a, ps, rs, q⟩ := fm_some e
      obtain ⟨ds, h1, h2⟩ := due_ex hl n (L + 1) (by omega)
      exact ⟨(j, a) :: ds, .cons e q h1, by simp only [List.length_cons]; omega⟩
theorem Due.drop {lg : LogL} {L : Int} {ds : List (Nat × Addr)} (h : Due lg L ds) : ∀ k : Nat, k ≤ ds.length → Due lg (L + k) (ds.drop k) := by
  intro k
  induction k with
  | zero => intro _; simpa using h
  | succ k ih =>
    intro hk
    have q := ih (by omega)
    obtain ⟨⟨j, a⟩, e⟩ : ∃ d, ds.drop k = d :: ds.drop (k + 1) := ⟨ds[k]'(by omega), List.drop_eq_getElem_cons (by omega)⟩
    rw [e] at q
    cases q with
    | cons h1 h2 h3 =>
      rw [show L + ((k + 1 : Nat) : Int) = L + (k : Int) + 1 by omega]
      exact h3
/-- tuples of slots and records stand at ts -/
def MksAt (H : Hp) (ts : List Addr) (ds : List (Nat × Addr)) : Prop := ts.length = ds.length ∧ ∀ (i : Nat) (t : Addr) (p : Nat × Addr), ts[i]? = some t → ds[i]? = some p → H t = some (.tup [.int (p.1 : Int), .ref p.2])
theorem MksAt.same {H H' : Hp} {ts : List Addr} {ds : List (Nat × Addr)} (h : MksAt H ts ds) (e : Same H H') : MksAt H' ts ds := ⟨h.1, fun i t p a b => e _ _ (h.2 i t p a b)⟩
theorem MksAt.snoc {H : Hp} {ts : List Addr} {ds : List (Nat × Addr)} {t : Addr} {p : Nat × Addr} (h : MksAt H ts ds) (e : H t = some (.tup [.int (p.1 : Int), .ref p.2])) : MksAt H (ts ++ [t]) (ds ++ [p]) := by
  refine ⟨by simp [h.1], fun i u q a b => ?_⟩
  by_cases hi : i < ts.length
  · rw [List.getElem?_append_left hi] at a
    rw [List.getElem?_append_left (by rw [← h.1]; exact hi)] at b
    exact h.2 i u q a b
  · have h0 : ts.length ≤ i := Nat.le_of_not_lt hi
    rw [List.getElem?_append_right h0] at a
    rw [List.getElem?_append_right (by rw [← h.1]; exact h0), ← h.1] at b
    cases hk : i - ts.length with
    | zero =>
      rw [hk] at a b
      cases a
      cases b
      exact e
    | succ m =>
      rw [hk] at a
      simp at a
end K47
namespace K47
open PySem PySem.Spec PyProof.Rows L2 Rg
section
variable {P : Program} {w : World} {K : PySem.W.Frag} {mg : Str → Option Value} {base : Heap}
def sp_found_marks (CD CP : Addr) (K : PySem.W.Frag) : Sp := fun vs H Q _ => ∃ (d : Addr) (A : DA) (b n s hd la M : Int) (hs : List V) (lg : LogL) (kv : List (Key × V)) (ds : List (Nat × Addr)), vs = [.ref d] ∧ DAt CD CP H d A b n s hd la hs (lg.map gV) kv ∧ LogAt K H b s M lg ∧ Due lg (hd + 1) ds ∧ ds.length ≤ 1000 ∧ s ≤ 1000 ∧ 0 ≤ hd ∧ hd ≤ 999999 ∧
  ∀ (H' : Hp) (q : Addr) (ts : List Addr), Same H H' → H q = none → H' q = some (.lst (ts.map V.ref)) → MksAt H' ts ds → Q (.ref q) H'
theorem ok_found_marks (T : Tx K mg) : FnOk P w K mg base CX0 1 T.f_found_marks T.fd_found_marks ["disk"] (sp_found_marks T.C_Disk T.C_Plan K) := by
  refine T.F_found_marks.ok sc_found_marks (fun vs H Q E h => ?_) (fun cdv A outer s H vs Q E hr h => ?_)
  · obtain ⟨_, _, _, _, _, _, _, _, _, _, _, _, rfl, _⟩ := h; rfl
  · obtain ⟨d, A, b, n, sl, hd, la, M, hs, lg, kv0, ds, rfl, D, hL, hD, hdl, hsl, hd0, hd1, k⟩ := h
    refine ⟨_, (pss_cons (ps_set (i := 1) sc_found_marks.nd rfl (.inl rfl) pe_dnewK)
      (pss_cons (ps_for PassesOwn.never rfl (pi_enumA rfl T.b_enumerate (pa_cons (pe_fld (pv 0) rfl) pa_nil)) (pg_tup rfl (pgs_cons (pg_name (i := 2) sc_found_marks.nd rfl (.inl rfl)) (pgs_cons (pg_name (i := 3) sc_found_marks.nd rfl (.inl rfl)) pgs_nil)))
        (pss_one (ps_if (PW.pt (pw_and (pt_cmpR op_notN (pv 3) pe_non (nomark _)) (pw_and (pt_cmpR op_eq (pe_ix ix_tup (pv 3) pe_int (fun _ _ => rfl)) pe_str (nomark _)) (pw_and1 (pt_cmp (pc_dnotin (hu_of hr) (pe_ix ix_tup (pv 3) pe_int (fun _ _ => rfl)) (pv 1)) rfl)))))
          (pss_one (ps_dput (hu_of hr) (pv 1) (pe_ix ix_tup (pv 3) pe_int (fun _ _ => rfl)) (pv 2) rfl))
          pss_nil)))
      (pss_cons (ps_set (i := 4) sc_found_marks.nd rfl (.inl rfl) (pe_lst pa_nil))
      (pss_cons (ps_set (i := 5) sc_found_marks.nd rfl (.inl rfl) (pe_op op_add (pe_fld (pv 0) rfl) pe_int))
      (pss_cons (ps_while PassesOwn.never (pt_cmp (pc_din (hu_of hr) (pv 5) (pv 1)) rfl)
        (pss_cons (ps_expr (pe_bm PySem.F.plainAttrs_list PySem.F.slot_list_append PySem.F.type_list_append mt_append (pv 4) (pa_cons (pe_tup (pa_cons (pe_dget (hu_of hr) (pv 1) (pv 5) (fun _ _ => rfl)) (pa_cons (pe_ix ix_list (pe_fld (pv 0) rfl) (pe_dget (hu_of hr) (pv 1) (pv 5) (fun _ _ => rfl)) (fun _ _ => rfl)) pa_nil))) pa_nil)))
        (pss_one (ps_aug (i := 5) sc_found_marks.nd rfl (.inl rfl) pe_int ip_add))))
      (pss_one (ps_ret (pv 4)))))))), ?_⟩
    obtain ⟨dx, ho⟩ := D.ob
    have lgl : (lg.length : Int) = sl := by have := D.gl; rw [List.length_map] at this; exact this
    intro p np
    have st0 := same_upd (o := .dK []) np
    have e0 := upd_same (H := H) (a := p) (o := .dK [])
    refine ⟨_, rfl, d, _, _, _, _, rfl, st0 _ _ ho, T.cl_Disk, T.na_Disk_log, rfl, A.lg, lg.map gV, rfl, .inl (st0 _ _ D.lg), fun J hJ => ?_⟩
    rw [List.length_map] at hJ
    refine for_it hJ (fun i σ H2 => ∃ (v2 v3 : Option V) (kv : List (Key × V)), σ = [some (.ref d), some (.ref p), v2, v3, none, none] ∧ Same H H2 ∧ H2 p = some (.dK kv) ∧ kv.length ≤ i ∧ ∀ L : Int, valV kv (Sum.inl L) = (fm (lg.take i) L).map fun j => V.int (j : Int))
      ⟨none, none, [], rfl, st0, e0, Nat.le_refl _, fun L => rfl⟩ (fun i σ H2 _ ⟨_, _, _, _, S2, _⟩ => (S2 _ _ D.lg).trans (st0 _ _ D.lg).symm) ?_ ?_
    · rintro i x σ H2 H2' hi ⟨v2, v3, kv, rfl, S2, ep, hkl, hkv⟩ ⟨t, x1, x2, rfl, nt, rfl, e1, e2⟩
      cases e1
      have hlt : i < lg.length := hi
      have hx : lg[i]? = some lg[i] := List.getElem?_eq_getElem hlt
      have e2 : gV lg[i] = x2 := by
        have e2 : (lg.map gV)[i]? = some x2 := e2
        rw [List.getElem?_map, hx] at e2
        exact Option.some.inj e2
      subst e2
      have st2 := same_upd (o := .tup [.int (i : Int), gV lg[i]]) nt
      have S3 : Same H (upd H2 t (.tup [.int (i : Int), gV lg[i]])) := S2.trans st2
      have ep3 := st2 _ _ ep
      have et3 := upd_same (H := H2) (a := t) (o := .tup [.int (i : Int), gV lg[i]])
      generalize upd H2 t (.tup [.int (i : Int), gV lg[i]]) = H3 at S3 ep3 et3 ⊢
      have tk : lg.take (i + 1) = lg.take i ++ [lg[i]] := take_snoc hx
      have tl : (lg.take i).length = i := by rw [List.length_take]; omega
      -- where no mark comes in
      have skip : (∀ L : Int, isMk L lg[i] = true → ∃ j, fm (lg.take i) L = some j) → ∀ L : Int, valV kv (Sum.inl L) = (fm (lg.take (i + 1)) L).map fun j => V.int (j : Int) := fun h L => by
        rw [hkv L, tk, fm_snoc]
        cases q : fm (lg.take i) L with
        | some j => rfl
        | none =>
          by_cases z : isMk L lg[i] = true
          · obtain ⟨j, hj⟩ := h L z
            rw [hj] at q
            cases q
          · simp [z]
      refine ⟨t, _, rfl, .of et3, rfl, _, _, rfl, _, _, rfl, rfl, ?_⟩
      cases q : lg[i] with
      | none =>
        refine ⟨_, rfl, rfl, _, rfl, iteF ⟨_, _, kv, rfl, S3, ep3, by omega, skip fun L z => ?_⟩⟩
        rw [q] at z
        cases z
      | some ar =>
        obtain ⟨ra, r⟩ := ar
        have hr1 := hL i ra r (by rw [hx, q])
        have hR := hr1.1.same S3
        refine ⟨_, rfl, rfl, _, rfl, iteT ?_⟩
        cases r with
        | copy lot x c =>
          obtain ⟨pc, h1, h2⟩ := hR
          refine ⟨_, rfl, ra, _, 0, .str "copy", rfl, rfl, h1, rfl, rfl, _, rfl, iteF ⟨_, _, kv, rfl, S3, ep3, by omega, skip fun L z => ?_⟩⟩
          rw [q] at z
          cases z
        | mark lot ps rs =>
          obtain ⟨pp, pr, h1, h2, h3⟩ := hR
          refine ⟨_, rfl, ra, _, 0, .str "mark", rfl, rfl, h1, rfl, rfl, _, rfl, iteT ?_⟩
          refine ⟨_, rfl, ra, _, 1, .int lot, rfl, rfl, h1, rfl, _, rfl, p, _, rfl, DGet.k (k := Sum.inl lot) ep3, _, rfl, ?_⟩
          rw [hkv lot]
          cases f : fm (lg.take i) lot with
          | some j =>
            refine iteF ⟨_, _, kv, rfl, S3, ep3, by omega, skip fun L z => ?_⟩
            rw [q] at z
            have : lot = L := of_decide_eq_true z
            subst this
            exact ⟨j, f⟩
          | none =>
            refine iteT ⟨_, rfl, _, rfl, _, rfl, ra, _, 1, .int lot, rfl, rfl, h1, rfl, p, _, rfl, DPut.k (k := Sum.inl lot) ep3 ?_, _, _, putK kv (Sum.inl lot) (.int (i : Int)), rfl, ?_, upd_same, ?_, fun L => ?_⟩
            · exact Nat.lt_of_le_of_lt (show kv.length ≤ 1000 by omega) (by decide)
            · exact fun y o hy => by
                rw [upd_ne (ne_of_none hy np)]
                exact S3 y o hy
            · have := length_putK kv (Sum.inl lot) (.int (i : Int))
              omega
            · rw [valV_put, hkv L, tk, fm_snoc, q]
              by_cases z : L = lot
              · subst z
                rw [if_pos rfl, f]
                simp [isMk, tl]
              · rw [if_neg fun y => z (Sum.inl.inj y)]
                have : isMk L (some (ra, .mark lot ps rs)) = false := decide_eq_false fun y => z y.symm
                cases g : fm (lg.take i) L with
                | some j => rfl
                | none => simp [this]
    rintro σ H2 ⟨v2, v3, kv, rfl, S2, ep, hkl, hkv⟩
    rw [List.take_length] at hkv
    refine ⟨Nat.zero_le _, fun m nm => ?_⟩
    have nmH : H m = none := by
      cases q : H m with
      | none => rfl
      | some o => rw [S2 _ _ q] at nm; cases nm
    have s3 := same_upd (o := .lst []) nm
    refine ⟨_, rfl, d, _, _, _, _, rfl, s3 _ _ (S2 _ _ ho), T.cl_Disk, T.na_Disk_head, rfl, _, _, rfl, rfl, ?_⟩
    refine ⟨fun mm σ H4 => ∃ (k : Nat) (ts : List Addr), mm = ds.length - k ∧ k ≤ ds.length ∧ σ = [some (.ref d), some (.ref p), v2, v3, some (.ref m), some (.int (hd + 1 + (k : Int)))] ∧ Same H H4 ∧ H4 p = some (.dK kv) ∧ H4 m = some (.lst (ts.map V.ref)) ∧ MksAt H4 ts (ds.take k),
      ⟨ds.length, 0, [], rfl, Nat.zero_le _, ?_, S2.trans s3, s3 _ _ ep, upd_same, rfl, fun i t p a _ => by simp at a⟩, ?_⟩
    · show [_, _, _, _, _, some (V.int (hd + 1))] = _
      rw [show hd + 1 + ((0 : Nat) : Int) = hd + 1 by omega]
    rintro mm σ H4 ⟨kk, ts, rfl, hk, rfl, S4, e4, em, hM⟩
    have hdr := hD.drop kk hk
    refine ⟨_, rfl, _, rfl, p, _, rfl, DGet.k (k := Sum.inl (hd + 1 + (kk : Int))) e4, _, rfl, ?_⟩
    have hv := hkv (hd + 1 + (kk : Int))
    cases f : fm lg (hd + 1 + (kk : Int)) with
    | none =>
      rw [f] at hv
      rw [hv]
      have e : kk = ds.length := by
        cases hdr' : ds.drop kk with
        | nil =>
          have := congrArg List.length hdr'
          rw [List.length_drop, List.length_nil] at this
          omega
        | cons c r =>
          rw [hdr'] at hdr
          cases hdr with
          | cons g _ _ =>
            rw [f] at g
            cases g
      rw [e, List.take_length] at hM
      exact iteF ⟨_, rfl, k H4 m ts S4 nmH em hM⟩
    | some j =>
      rw [f] at hv
      rw [hv]
      cases hdr' : ds.drop kk with
      | nil =>
        rw [hdr'] at hdr
        cases hdr with
        | nil g =>
          rw [f] at g
          cases g
      | cons c r =>
        rw [hdr'] at hdr
        have hlt : kk < ds.length := by
          have := congrArg List.length hdr'
          rw [List.length_drop, List.length_cons] at this
          omega
        cases hdr with
        | @cons _ j' ra rr _ g1 g2 g3 =>
          rw [f] at g1
          cases g1
          have hc : ds[kk]? = some (j, ra) := by
            have := congrArg List.head? hdr'
            rw [List.head?_drop] at this
            exact this
          have hj : j < lg.length := (List.getElem?_eq_some_iff.mp g2).1
          have hg : (lg.map gV)[j]? = some (.ref ra) := by
            rw [List.getElem?_map, g2]
            rfl
          have gd : DGet H4 p (.int (hd + 1 + (kk : Int))) (some (.int (j : Int))) := by
            have := DGet.k (k := Sum.inl (hd + 1 + (kk : Int))) e4
            rw [hv] at this
            exact this
          refine iteT ⟨fun σ' H' => ∃ (ts : List Addr), σ' = [some (.ref d), some (.ref p), v2, v3, some (.ref m), some (.int (hd + 1 + ((kk + 1 : Nat) : Int)))] ∧ Same H H' ∧ H' p = some (.dK kv) ∧ H' m = some (.lst (ts.map V.ref)) ∧ MksAt H' ts (ds.take (kk + 1)), fun σ' H' ⟨ts, h1, h2, h3, h4, h5⟩ => ⟨ds.length - (kk + 1), by omega, kk + 1, ts, rfl, hlt, h1, h2, h3, h4, h5⟩, ?_⟩
          refine ⟨_, rfl, .inl ⟨rfl, _, .inl (.inl em)⟩, _, rfl, _, rfl, p, _, rfl, gd, ?_⟩
          refine ⟨_, rfl, d, _, _, _, _, rfl, S4 _ _ ho, T.cl_Disk, T.na_Disk_log, rfl, _, rfl, _, rfl, p, _, rfl, gd, A.lg, _, _, _, rfl, rfl, .of (S4 _ _ D.lg), atN (j := j) rfl hg, ?_⟩
          refine ⟨by show 2 ≤ sizeLine; decide, fun t nt => ?_⟩
          have s5 := same_upd (o := .tup [.int (j : Int), .ref ra]) nt
          have et := upd_same (H := H4) (a := t) (o := .tup [.int (j : Int), .ref ra])
          generalize upd H4 t (.tup [.int (j : Int), .ref ra]) = H5 at s5 et ⊢
          have em5 := s5 _ _ em
          refine ⟨m, _, _, rfl, rfl, em5, ?_, ?_⟩
          · rw [List.length_map, hM.1, List.length_take]
            exact Nat.lt_of_le_of_lt (show min kk ds.length ≤ 1000 by omega) (by decide)
          refine ⟨_, rfl, _, _, rfl, rfl, ts ++ [t], ?_, fun y o hy => ?_, ?_, ?_, ?_⟩
          · show [_, _, _, _, _, some (V.int (hd + 1 + (kk : Int) + 1))] = _
            rw [show hd + 1 + ((kk + 1 : Nat) : Int) = hd + 1 + (kk : Int) + 1 by omega]
          · rw [upd_ne (ne_of_none hy nmH)]
            exact s5 _ _ (S4 y o hy)
          · rw [upd_ne (ne_of (s5 _ _ e4) em5 (by intro z; cases z))]
            exact s5 _ _ e4
          · rw [upd_same, List.map_append]
            rfl
          · have h5 : MksAt H5 (ts ++ [t]) (ds.take kk ++ [(j, ra)]) := (hM.same s5).snoc et
            rw [take_snoc hc]
            refine ⟨h5.1, fun i u q a b => ?_⟩
            have := h5.2 i u q a b
            rw [upd_ne (ne_of this em5 (by intro z; cases z))]
            exact this
end
end K47
namespace K47
open PySem PySem.Spec PyProof.Rows L2 Rg
/-! ### records compared -/
def dIt (c : List Int) : PyData := .tuple (c.map PyData.int)
def dPr (p : Int × Int) : PyData := .tuple [.int p.1, .int p.2]
def dR : Rec → PyData
  | .copy l x c => .tuple [.str "copy", .int l, .int x, dIt c]
  | .mark l ps rs => .tuple [.str "mark", .int l, .tuple (ps.map dPr), dIt rs]
theorem r_canI : ∀ ns : List Int, PyData.canLayAll0 (ns.map PyData.int) = true
  | [] => rfl
  | n :: ns => by
    show (PyData.canLay0 (.int n) && PyData.canLayAll0 (ns.map PyData.int)) = true
    rw [r_canI ns]
    rfl
theorem r_depI : ∀ ns : List Int, PyData.depthAll (ns.map PyData.int) = 0
  | [] => rfl
  | n :: ns => by
    show max (PyData.depth (.int n)) (PyData.depthAll (ns.map PyData.int)) = 0
    rw [r_depI ns]
    rfl
theorem r_canP : ∀ ps : List (Int × Int), PyData.canLayAll0 (ps.map dPr) = true
  | [] => rfl
  | p :: ps => by
    show (PyData.canLay0 (dPr p) && PyData.canLayAll0 (ps.map dPr)) = true
    rw [r_canP ps]
    rfl
theorem r_depP : ∀ ps : List (Int × Int), PyData.depthAll (ps.map dPr) ≤ 1
  | [] => Nat.zero_le _
  | p :: ps => by
    show max (PyData.depth (dPr p)) (PyData.depthAll (ps.map dPr)) ≤ 1
    have := r_depP ps
    have : PyData.depth (dPr p) = 1 := rfl
    omega
theorem canR (r : Rec) : PyData.canLay0 (dR r) = true := by
  cases r with
  | copy l x c =>
    show (PyData.canLay0 (.str "copy") && (PyData.canLay0 (.int l) && (PyData.canLay0 (.int x) && (PyData.canLayAll0 (c.map PyData.int) && true)))) = true
    rw [r_canI, show PyData.canLay0 (.str "copy") = true by decide +kernel]
    rfl
  | mark l ps rs =>
    show (PyData.canLay0 (.str "mark") && (PyData.canLay0 (.int l) && (PyData.canLayAll0 (ps.map dPr) && (PyData.canLayAll0 (rs.map PyData.int) && true)))) = true
    rw [r_canI, r_canP, show PyData.canLay0 (.str "mark") = true by decide +kernel]
    rfl
theorem depR (r : Rec) : PyData.depth (dR r) ≤ 3 := by
  cases r with
  | copy l x c =>
    show max (PyData.depth (.str "copy")) (max (PyData.depth (.int l)) (max (PyData.depth (.int x)) (max (PyData.depthAll (c.map PyData.int) + 1) 0))) + 1 ≤ 3
    rw [r_depI]
    show max 0 (max 0 (max 0 (max 1 0))) + 1 ≤ 3
    decide
  | mark l ps rs =>
    show max (PyData.depth (.str "mark")) (max (PyData.depth (.int l)) (max (PyData.depthAll (ps.map dPr) + 1) (max (PyData.depthAll (rs.map PyData.int) + 1) 0))) + 1 ≤ 3
    rw [r_depI]
    have := r_depP ps
    show max 0 (max 0 (max (PyData.depthAll (ps.map dPr) + 1) (max 1 0))) + 1 ≤ 3
    omega
theorem shR (r : Rec) : SeqAt.shaped (dR r) = true := by
  unfold SeqAt.shaped
  rw [canR r, Bool.true_and]
  exact decide_eq_true (Nat.le_trans (depR r) (by decide))
theorem eqR (r : Rec) : PyData.eqv (dR r) (dR r) = true := SeqAt.eqv_refl _ (canR r)
section
variable {K : PySem.W.Frag} {H : Hp}
theorem r_dpAllI : ∀ ns : List Int, DpAll K H (ns.map V.int) (ns.map PyData.int)
  | [] => .nil
  | n :: ns => .cons (.int n) (r_dpAllI ns)
theorem r_dpAllP : ∀ (qs : List Addr) (ps : List (Int × Int)), qs.length = ps.length → (∀ (i : Nat) (q : Addr) (p : Int × Int), qs[i]? = some q → ps[i]? = some p → SqT K H q [.int p.1, .int p.2]) → DpAll K H (qs.map V.ref) (ps.map dPr)
  | [], [], _, _ => .nil
  | q :: qs, p :: ps, hl, h => .cons (.tup (h 0 q p rfl rfl) (.cons (.int _) (.cons (.int _) .nil))) (r_dpAllP qs ps (by simpa using hl) fun i q p a b => h (i + 1) q p (by simpa using a) (by simpa using b))
  | [], _ :: _, hl, _ => by simp at hl
  | _ :: _, [], hl, _ => by simp at hl
theorem dpR {a : Addr} {r : Rec} (h : RecAt K H a r) : Dp K H (.ref a) (dR r) := by
  cases r with
  | copy l x c =>
    obtain ⟨pc, h1, h2⟩ := h
    exact .tup h1 (.cons (.str _) (.cons (.int _) (.cons (.int _) (.cons (.tup h2 (r_dpAllI c)) .nil))))
  | mark l ps rs =>
    obtain ⟨pp, pr, h1, ⟨qs, g1, g2, g3⟩, h3⟩ := h
    exact .tup h1 (.cons (.str _) (.cons (.int _) (.cons (.tup g1 (r_dpAllP qs ps g2 g3)) (.cons (.tup h3 (r_dpAllI rs)) .nil))))
end
/-! ### a log compared with itself -/
def dO : Option (Addr × Rec) → PyData
  | none => .none
  | some (_, r) => dR r
theorem canO (x : Option (Addr × Rec)) : PyData.canLay0 (dO x) = true := by
  cases x with
  | none => rfl
  | some p => exact canR p.2
theorem depO (x : Option (Addr × Rec)) : PyData.depth (dO x) ≤ 3 := by
  cases x with
  | none => exact Nat.zero_le _
  | some p => exact depR p.2
theorem canL : ∀ lg : LogL, PyData.canLayAll0 (lg.map dO) = true
  | [] => rfl
  | x :: lg => by
    show (PyData.canLay0 (dO x) && PyData.canLayAll0 (lg.map dO)) = true
    rw [canO, canL lg]
    rfl
theorem depL : ∀ lg : LogL, PyData.depthAll (lg.map dO) ≤ 3
  | [] => Nat.zero_le _
  | x :: lg => by
    show max (PyData.depth (dO x)) (PyData.depthAll (lg.map dO)) ≤ 3
    have := depO x
    have := depL lg
    omega
theorem shL (lg : LogL) : SeqAt.shaped (.list (lg.map dO)) = true := by
  unfold SeqAt.shaped
  rw [Bool.and_eq_true]
  refine ⟨canL lg, decide_eq_true ?_⟩
  show PyData.depthAll (lg.map dO) + 1 ≤ 64
  have := depL lg
  omega
theorem eqL (lg : LogL) : PyData.eqv (.list (lg.map dO)) (.list (lg.map dO)) = true := SeqAt.eqv_refl _ (canL lg)
theorem dpAllL {K : PySem.W.Frag} {H : Hp} : ∀ lg : LogL, (∀ x ∈ lg, ∀ a r, x = some (a, r) → RecAt K H a r) → DpAll K H (lg.map gV) (lg.map dO)
  | [], _ => .nil
  | x :: lg, h => by
    refine .cons ?_ (dpAllL lg fun y hy => h y (List.mem_cons_of_mem _ hy))
    cases x with
    | none => exact .non
    | some p => exact dpR (h _ List.mem_cons_self p.1 p.2 rfl)
theorem LogAt.dp {K : PySem.W.Frag} {H : Hp} {b s M : Int} {lg : LogL} {q : Addr} (h : LogAt K H b s M lg) (e : SqL K H q (lg.map gV)) : Dp K H (.ref q) (.list (lg.map dO)) := by
  refine .lst e (dpAllL lg fun x hx a r ex => ?_)
  obtain ⟨i, hi⟩ := List.getElem?_of_mem hx
  exact (h i a r (by rw [hi, ex])).1
end K47
namespace K47
open PySem PySem.Spec PyProof.Rows L2 Rg
/-! ### a disk, a feed and a log of one's own -/
section
variable {K : PySem.W.Frag} {CD CP : Addr} {Ps : List Addr} {H H' : Hp} {p d lq : Addr} {A : DA} {b n s hd la M : Int} {hs gs : List V} {lg : LogL} {kv : List (Key × V)}
def Isnt (H : Hp) (a : Addr) : Prop := ∃ o, H a = some o ∧ (∀ xs, o ≠ .tup xs) ∧ ∀ x u, o ≠ .frz x u
theorem seqT_kp {S : List Addr} (k : Kp S H H') (z : ∀ a ∈ S, Isnt H a) {a : Addr} {xs : List V} (h : SqT K H a xs) : SqT K H' a xs := by
  rcases h with (h | ⟨o, h⟩) | h
  · exact .inl (.inl (k _ _ h fun q => let ⟨o, e, n1, _⟩ := z a q; n1 xs (Option.some.inj (e.symm.trans h))))
  · exact .inl (.inr ⟨o, k _ _ h fun q => let ⟨u, e, _, n2⟩ := z a q; n2 _ _ (Option.some.inj (e.symm.trans h))⟩)
  · exact .inr h
theorem LogAt.kp {S : List Addr} (k : Kp S H H') (z : ∀ a ∈ S, Isnt H a) (h : LogAt K H b s M lg) : LogAt K H' b s M lg := fun i a r q => ⟨(h i a r q).1.by fun _ _ => seqT_kp k z, (h i a r q).2⟩
theorem LogAt.mono {M' : Int} (h : LogAt K H b s M lg) (le : M ≤ M') : LogAt K H b s M' lg := fun i a r q => ⟨(h i a r q).1, (h i a r q).2.1, Int.le_trans (h i a r q).2.2 le⟩
theorem LogAt.set (h : LogAt K H b s M lg) {a : Addr} {r : Rec} (e : RecAt K H a r) (f : Fit b s r) (m : r.lot ≤ M) (i : Nat) : LogAt K H b s M (lg.set i (some (a, r))) := fun j a' r' q => by
  rw [List.getElem?_set] at q
  by_cases z : i = j
  · rw [if_pos z] at q
    by_cases y : i < lg.length
    · rw [if_pos y] at q
      cases q
      exact ⟨e, f, m⟩
    · rw [if_neg y] at q
      cases q
  · rw [if_neg z] at q
    exact h j a' r' q
theorem DAt.keep (h : DAt CD CP H d A b n s hd la hs gs kv) (f : ∀ a ∈ [d, A.p, A.ho, A.lg, A.pd], ∀ o, H a = some o → H' a = some o) : DAt CD CP H' d A b n s hd la hs gs kv :=
  ⟨let ⟨dx, e⟩ := h.ob; ⟨dx, f _ (by simp) _ e⟩, h.pl.of (f _ (by simp)), f _ (by simp) _ h.ho, f _ (by simp) _ h.lg, f _ (by simp) _ h.pd, h.pne, h.hne, h.hl, h.gl⟩
structure Dk (K : PySem.W.Frag) (CD CP : Addr) (Ps : List Addr) (H : Hp) (p d lq : Addr) (A : DA) (b n s hd la M : Int) (hs : List V) (lg : LogL) (kv : List (Key × V)) : Prop where
  D : DAt CD CP H d A b n s hd la hs (lg.map gV) kv
  f : ∃ fs : List Int, H p = some (.lst (fs.map V.int))
  l : H lq = some (.lst (lg.map gV))
  L : LogAt K H b s M lg
  t : Tab Ps H
  n1 : p ≠ lq
  n2 : p ≠ A.ho
  n3 : p ≠ A.lg
  n4 : lq ≠ A.ho
  n5 : lq ≠ A.lg
theorem Dk.same (x : Dk K CD CP Ps H p d lq A b n s hd la M hs lg kv) (e : Same H H') : Dk K CD CP Ps H' p d lq A b n s hd la M hs lg kv :=
  ⟨x.D.same e, let ⟨fs, q⟩ := x.f; ⟨fs, e _ _ q⟩, e _ _ x.l, x.L.same e, x.t.same e, x.n1, x.n2, x.n3, x.n4, x.n5⟩
theorem Dk.mono (x : Dk K CD CP Ps H p d lq A b n s hd la M hs lg kv) {M' : Int} (le : M ≤ M') : Dk K CD CP Ps H p d lq A b n s hd la M' hs lg kv :=
  ⟨x.D, x.f, x.l, x.L.mono le, x.t, x.n1, x.n2, x.n3, x.n4, x.n5⟩
theorem isnt_lst {a : Addr} {xs : List V} (h : H a = some (.lst xs)) : Isnt H a := ⟨_, h, (by intro _ z; cases z), by intro _ _ z; cases z⟩
theorem isnt_ins {a C dx : Addr} {fs : List (Str × V)} (h : H a = some (.ins C dx fs)) : Isnt H a := ⟨_, h, (by intro _ z; cases z), by intro _ _ z; cases z⟩
theorem isnt_dK {a : Addr} (h : H a = some (.dK kv)) : Isnt H a := ⟨_, h, (by intro _ z; cases z), by intro _ _ z; cases z⟩
theorem isnt_tab (t : Tab Ps H) {a : Addr} (h : a ∈ Ps) : Isnt H a := let ⟨_, e, _⟩ := t a h; ⟨_, e, (by intro _ z; cases z), by intro _ _ z; cases z⟩
/-- the feed has gone on -/
theorem Dk.feed (x : Dk K CD CP Ps H p d lq A b n s hd la M hs lg kv) (k : Kp [p] H H') {fs : List Int} (e : H' p = some (.lst (fs.map V.int))) : Dk K CD CP Ps H' p d lq A b n s hd la M hs lg kv := by
  obtain ⟨fs0, e0⟩ := x.f
  obtain ⟨dx, ho⟩ := x.D.ob
  obtain ⟨px, hp⟩ := x.D.pl.ob
  have g : ∀ {a : Addr} {o : HO}, H a = some o → a ≠ p → H' a = some o := fun q z => k.at1 q z
  refine ⟨x.D.keep fun a ha o q => g q ?_, ⟨fs, e⟩, g x.l x.n1.symm, x.L.kp k (by simp only [List.mem_singleton]; rintro a rfl; exact isnt_lst e0), fun P hP => ?_, x.n1, x.n2, x.n3, x.n4, x.n5⟩
  · simp only [List.mem_cons, List.not_mem_nil, or_false] at ha
    rcases ha with rfl | rfl | rfl | rfl | rfl
    · exact ne_of ho e0 (by intro z; cases z)
    · exact ne_of hp e0 (by intro z; cases z)
    · exact x.n2.symm
    · exact x.n3.symm
    · exact ne_of x.D.pd e0 (by intro z; cases z)
  · obtain ⟨ps, e1, e2⟩ := x.t P hP
    exact ⟨ps, g e1 (ne_of e1 e0 (by intro z; cases z)), e2⟩
theorem Dk.pick (x : Dk K CD CP Ps H p d lq A b n s hd la M hs lg kv) (fs : List Int) : Dk K CD CP Ps (upd H p (.lst (fs.map V.int))) p d lq A b n s hd la M hs lg kv :=
  x.feed (Kp.refl.own1) (fs := fs) upd_same
/-- a write is pending -/
theorem Dk.issued (x : Dk K CD CP Ps H p d lq A b n s hd la M hs lg kv) {la' : Int} {kv' : List (Key × V)} (t : Tab Ps H') (k : Kp (d :: A.pd :: Ps) H H') (e : DAt CD CP H' d A b n s hd la' hs (lg.map gV) kv') : Dk K CD CP Ps H' p d lq A b n s hd la' M hs lg kv' := by
  obtain ⟨fs0, e0⟩ := x.f
  obtain ⟨dx, ho⟩ := x.D.ob
  have ni : ∀ {a : Addr} {xs : List V}, H a = some (.lst xs) → a ∉ d :: A.pd :: Ps := fun {a xs} h z => by
    rcases List.mem_cons.mp z with z | z
    · rw [z, ho] at h; cases h
    rcases List.mem_cons.mp z with z | z
    · rw [z, x.D.pd] at h; cases h
    · exact x.t.nin h (by intro _ z; cases z) z
  refine ⟨e, ⟨fs0, k _ _ e0 (ni e0)⟩, k _ _ x.l (ni x.l), x.L.kp k fun a h => ?_, t, x.n1, x.n2, x.n3, x.n4, x.n5⟩
  rcases List.mem_cons.mp h with z | z
  · rw [z]; exact isnt_ins ho
  rcases List.mem_cons.mp z with z | z
  · rw [z]; exact isnt_dK x.D.pd
  · exact isnt_tab x.t z
theorem Dk.isn (x : Dk K CD CP Ps H p d lq A b n s hd la M hs lg kv) : ∀ a ∈ d :: A.pd :: Ps, Isnt H a := fun a h => by
  obtain ⟨dx, ho⟩ := x.D.ob
  rcases List.mem_cons.mp h with z | z
  · rw [z]; exact isnt_ins ho
  rcases List.mem_cons.mp z with z | z
  · rw [z]; exact isnt_dK x.D.pd
  · exact isnt_tab x.t z
/-- a record is sure, and stands in the log of one's own too -/
theorem Dk.logged (x : Dk K CD CP Ps H p d lq A b n s hd la M hs lg kv) {kv' : List (Key × V)} {i : Nat} {u : Addr} {r : Rec} (t : Tab Ps H') (k : Kp [A.pd, A.ho, A.lg] H H') (e : DAt CD CP H' d A b n s hd la hs ((lg.map gV).set i (.ref u)) kv') (hr : RecAt K H u r) (hf : Fit b s r) (hm : r.lot ≤ M) :
    H' lq = some (.lst (lg.map gV)) ∧ Dk K CD CP Ps (upd H' lq (.lst ((lg.map gV).set i (.ref u)))) p d lq A b n s hd la M hs (lg.set i (some (u, r))) kv' := by
  obtain ⟨fs0, e0⟩ := x.f
  have hpd := x.D.pd
  have ni : ∀ {a : Addr} {xs : List V}, H a = some (.lst xs) → a ≠ A.ho → a ≠ A.lg → a ∉ [A.pd, A.ho, A.lg] := fun {a xs} h z1 z2 z => by
    simp only [List.mem_cons, List.not_mem_nil, or_false] at z
    rcases z with z | z | z
    · rw [z, hpd] at h; cases h
    · exact z1 z
    · exact z2 z
  have isn : ∀ a ∈ [A.pd, A.ho, A.lg], Isnt H a := fun a z => by
    simp only [List.mem_cons, List.not_mem_nil, or_false] at z
    rcases z with rfl | rfl | rfl
    · exact isnt_dK hpd
    · exact isnt_lst x.D.ho
    · exact isnt_lst x.D.lg
  have hl' := k _ _ x.l (ni x.l x.n4 x.n5)
  have hp' := k _ _ e0 (ni e0 x.n2 x.n3)
  have gs : (lg.set i (some (u, r))).map gV = (lg.map gV).set i (.ref u) := by rw [List.map_set]; rfl
  have k2 : Kp [lq] H' (upd H' lq (.lst ((lg.map gV).set i (.ref u)))) := Kp.refl.own1
  have L' : LogAt K H' b s M (lg.set i (some (u, r))) := (x.L.kp k isn).set (hr.by fun _ _ => seqT_kp k isn) hf hm i
  obtain ⟨dx, ho⟩ := e.ob
  obtain ⟨px, hp⟩ := e.pl.ob
  refine ⟨hl', ⟨?_, ⟨fs0, ?_⟩, ?_, L'.kp k2 (by simp only [List.mem_singleton]; rintro a rfl; exact isnt_lst hl'), t.upd hl' (by intro _ z; cases z), x.n1, x.n2, x.n3, x.n4, x.n5⟩⟩
  · rw [gs]
    refine e.keep fun a ha o q => k2.at1 q ?_
    simp only [List.mem_cons, List.not_mem_nil, or_false] at ha
    rcases ha with rfl | rfl | rfl | rfl | rfl
    · exact ne_of ho hl' (by intro z; cases z)
    · exact ne_of hp hl' (by intro z; cases z)
    · exact x.n4.symm
    · exact x.n5.symm
    · exact ne_of e.pd hl' (by intro z; cases z)
  · rw [upd_ne x.n1]; exact hp'
  · rw [upd_same, gs]
/-- the head has moved -/
theorem Dk.head (x : Dk K CD CP Ps H p d lq A b n s hd la M hs lg kv) {dx : Addr} (ho : H d = some (.ins CD dx (dskF A hd la))) (hd' : Int) : Dk K CD CP Ps (upd H d (.ins CD dx (dskF A hd' la))) p d lq A b n s hd' la M hs lg kv := by
  obtain ⟨fs0, e0⟩ := x.f
  have k : Kp [d] H (upd H d (.ins CD dx (dskF A hd' la))) := Kp.refl.own1
  exact ⟨x.D.num hd' la, ⟨fs0, k.at1 e0 (ne_of e0 ho (by intro z; cases z))⟩, k.at1 x.l (ne_of x.l ho (by intro z; cases z)), x.L.kp k (by simp only [List.mem_singleton]; rintro a rfl; exact isnt_ins ho), x.t.upd ho (by intro _ z; cases z), x.n1, x.n2, x.n3, x.n4, x.n5⟩
/-! ### slots that are free -/
def nFree (lg : LogL) : Nat := lg.countP Option.isNone
theorem nFree_set : ∀ (lg : LogL) (i : Nat) (x : Option (Addr × Rec)), nFree lg ≤ nFree (lg.set i x) + 1
  | [], _, _ => by simp [nFree]
  | y :: l, 0, x => by simp only [nFree, List.set_cons_zero, List.countP_cons]; split <;> split <;> omega
  | y :: l, i + 1, x => by
    have := nFree_set l i x
    simp only [nFree, List.set_cons_succ, List.countP_cons] at this ⊢
    omega
theorem free_ex (h : 0 < nFree lg) : ∃ j : Nat, lg[j]? = some none := by
  obtain ⟨x, hx, hn⟩ := List.countP_pos_iff.mp h
  obtain ⟨j, hj⟩ := List.getElem?_of_mem hx
  cases x with
  | none => exact ⟨j, hj⟩
  | some _ => cases hn
def isFree (lg : LogL) (j : Nat) : Bool := match lg[j]? with
  | some none => true
  | _ => false
theorem isFree_iff {j : Nat} : isFree lg j = true ↔ lg[j]? = some none := by
  unfold isFree
  cases lg[j]? with
  | none => simp
  | some o => cases o <;> simp
def frees (lg : LogL) (i : Nat) : List Nat := (List.range i).filter (isFree lg)
theorem frees_succ (i : Nat) : frees lg (i + 1) = if isFree lg i = true then frees lg i ++ [i] else frees lg i := by
  unfold frees
  rw [List.range_succ, List.filter_append]
  by_cases h : isFree lg i = true
  · rw [if_pos h, List.filter_cons, if_pos h]; rfl
  · rw [if_neg h, List.filter_cons, if_neg h]; simp
theorem frees_len (i : Nat) : (frees lg i).length ≤ i := Nat.le_trans (List.length_filter_le _ _) (by simp)
theorem frees_ok {i j : Nat} (h : j ∈ frees lg i) : j < i ∧ lg[j]? = some none := by
  have := List.mem_filter.mp h
  exact ⟨List.mem_range.mp this.1, isFree_iff.mp this.2⟩
/-! ### a mark of the first lot that is missing -/
theorem fm_of {L : Int} {k : Nat} {x : Option (Addr × Rec)} (h : lg[k]? = some x) (e : isMk L x = true) : fm lg L ≠ none := fun z => by
  unfold fm at z
  rw [List.findIdx?_eq_none_iff] at z
  have := z x (List.mem_of_getElem? h)
  rw [this] at e
  cases e
theorem due_pos {hd : Int} {ds ds' : List (Nat × Addr)} {i : Nat} {u : Addr} {ps : List (Int × Int)} {rs : List Int} (h : Due lg (hd + 1) ds) (hi : lg[i]? = some none) (h' : Due (lg.set i (some (u, .mark (hd + ds.length + 1) ps rs))) (hd + 1) ds') : 1 ≤ ds'.length := by
  have il : i < lg.length := (List.getElem?_eq_some_iff.mp hi).1
  cases h' with
  | cons _ _ _ => simp
  | nil z =>
    exfalso
    cases h with
    | nil y =>
      refine fm_of (k := i) (x := some (u, .mark (hd + (0 : Nat) + 1) ps rs)) ?_ ?_ z
      · rw [List.getElem?_set, if_pos rfl, if_pos il]; rfl
      · show decide _ = true
        rw [decide_eq_true]
        omega
    | @cons _ j _ _ _ y g _ =>
      obtain ⟨a', ps', rs', q⟩ := fm_some y
      refine fm_of (k := j) (x := some (a', .mark (hd + 1) ps' rs')) ?_ (decide_eq_true rfl) z
      · rw [List.getElem?_set, if_neg (fun w => by rw [w, q] at hi; cases hi)]
        exact q
end
end K47
namespace K47
open PySem PySem.Spec PyProof.Rows L2 Rg
/-! ### live copies, as the program tells them (marks in order) and as a law tells them (block by block) -/
/-- a mark: its lot, its pairs, its revokes -/
abbrev Mk3 : Type := Int × List (Int × Int) × List Int
abbrev LiveF : Type := Int → Option (Int × Int)
def setF (f : LiveF) (x : Int) (v : Option (Int × Int)) : LiveF := fun y => if y = x then v else f y
def strikeF : List Int → LiveF → LiveF
  | [], f => f
  | r :: rs, f => strikeF rs (setF f r none)
def addF (g : Bool) (lot : Int) (rs : List Int) : List (Int × Int) → LiveF → LiveF
  | [], f => f
  | (x, s) :: ps, f => addF g lot rs ps (if g = true ∨ x ∉ rs then setF f x (some (lot, s)) else f)
def liveF (g : Bool) : List Mk3 → LiveF → LiveF
  | [], f => f
  | m :: ms, f => liveF g ms (addF g m.1 m.2.2 m.2.1 (strikeF m.2.2 f))
/-- the last pair of block x -/
def dueP (x lot : Int) (st : Bool) : List (Int × Int) → Option (Int × Int) → Option (Int × Int)
  | [], acc => acc
  | p :: ps, acc => dueP x lot st ps (if p.1 = x ∧ st = false then some (lot, p.2) else acc)
/-- struck by the mark itself (where rules are not gentle) or by a later one -/
def strk (x : Int) (g : Bool) (rs : List Int) (t : List Mk3) : Bool := (decide (x ∈ rs) && !g) || t.any fun m => decide (x ∈ m.2.2)
def dueF (x : Int) (g : Bool) : List Mk3 → Option (Int × Int) → Option (Int × Int)
  | [], acc => acc
  | m :: t, acc => dueF x g t (dueP x m.1 (strk x g m.2.2 t) m.2.1 acc)
theorem strikeF_eq (x : Int) : ∀ (rs : List Int) (f : LiveF), strikeF rs f x = if x ∈ rs then none else f x
  | [], f => by simp [strikeF]
  | r :: rs, f => by
    rw [strikeF, strikeF_eq x rs]
    by_cases h : x ∈ rs
    · rw [if_pos h, if_pos (List.mem_cons_of_mem _ h)]
    · rw [if_neg h]
      by_cases e : x = r
      · rw [if_pos (by rw [e]; exact List.mem_cons_self)]
        show (if x = r then none else f x) = none
        rw [if_pos e]
      · rw [if_neg (by intro z; rcases List.mem_cons.mp z with z | z; exact e z; exact h z)]
        show (if x = r then none else f x) = f x
        rw [if_neg e]
theorem addF_eq (g : Bool) (lot : Int) (rs : List Int) (x : Int) : ∀ (ps : List (Int × Int)) (f : LiveF), addF g lot rs ps f x = dueP x lot (decide (x ∈ rs) && !g) ps (f x)
  | [], f => rfl
  | (y, s) :: ps, f => by
    rw [addF, addF_eq g lot rs x ps, dueP]
    congr 1
    by_cases e : y = x
    · subst e
      by_cases h : g = true ∨ y ∉ rs
      · rw [if_pos h, if_pos ⟨rfl, by rcases h with h | h <;> simp [h]⟩]
        show (if y = y then _ else _) = _
        rw [if_pos rfl]
      · rw [if_neg h, if_neg]
        rintro ⟨_, z⟩
        apply h
        by_cases q : y ∈ rs
        · left; simpa [q] using z
        · exact .inr q
    · have hr : (if (y, s).1 = x ∧ (decide (x ∈ rs) && !g) = false then some (lot, (y, s).2) else f x) = f x := if_neg fun z => e z.1
      rw [hr]
      by_cases h : g = true ∨ y ∉ rs
      · rw [if_pos h]
        show (if x = y then _ else _) = _
        rw [if_neg fun z => e z.symm]
      · rw [if_neg h]
theorem dueP_st (x lot : Int) : ∀ (ps : List (Int × Int)) (acc : Option (Int × Int)), dueP x lot true ps acc = acc
  | [], _ => rfl
  | p :: ps, acc => by rw [dueP, if_neg (fun z => by cases z.2), dueP_st x lot ps]
theorem due_live (x : Int) (g : Bool) : ∀ (t : List Mk3) (f : LiveF) (acc : Option (Int × Int)), ((t.any fun m => decide (x ∈ m.2.2)) = true → acc = none) → ((t.any fun m => decide (x ∈ m.2.2)) = false → acc = f x) → dueF x g t acc = liveF g t f x
  | [], f, acc, _, h => h rfl
  | m :: t, f, acc, h1, h2 => by
    rw [dueF, liveF]
    cases hl : t.any fun m => decide (x ∈ m.2.2) with
    | true =>
      have a : acc = none := h1 (by rw [List.any_cons, hl, Bool.or_true])
      have s : strk x g m.2.2 t = true := by unfold strk; rw [hl, Bool.or_true]
      rw [s, dueP_st, a]
      exact due_live x g t _ none (fun _ => rfl) (fun z => by rw [hl] at z; cases z)
    | false =>
      have s : strk x g m.2.2 t = (decide (x ∈ m.2.2) && !g) := by unfold strk; rw [hl, Bool.or_false]
      refine due_live x g t _ _ (fun z => by rw [hl] at z; cases z) fun _ => ?_
      rw [addF_eq, strikeF_eq, s]
      by_cases q : x ∈ m.2.2
      · rw [if_pos q, h1 (by rw [List.any_cons]; simp [q])]
      · rw [if_neg q, h2 (by rw [List.any_cons, hl]; simp [q])]
/-- the two are one -/
theorem due_is_live (x : Int) (g : Bool) (ms : List Mk3) : dueF x g ms none = liveF g ms (fun _ => none) x := due_live x g ms _ none (fun _ => rfl) fun _ => rfl
end K47
namespace K47
open PySem PySem.Spec PyProof.Rows L2 Rg
theorem strikeF_app : ∀ (a b : List Int) (f : LiveF), strikeF (a ++ b) f = strikeF b (strikeF a f)
  | [], _, _ => rfl
  | _ :: a, b, f => strikeF_app a b _
theorem addF_app (g : Bool) (lot : Int) (rs : List Int) : ∀ (a b : List (Int × Int)) (f : LiveF), addF g lot rs (a ++ b) f = addF g lot rs b (addF g lot rs a f)
  | [], _, _ => rfl
  | (_, _) :: a, b, f => addF_app g lot rs a b _
theorem liveF_app (g : Bool) : ∀ (a b : List Mk3) (f : LiveF), liveF g (a ++ b) f = liveF g b (liveF g a f)
  | [], _, _ => rfl
  | _ :: a, b, f => liveF_app g a b _
theorem valV_drop {κ : Type} [DecidableEq κ] : ∀ (kvs : List (κ × V)) (k j : κ), valV (dropK kvs k) j = if j = k then none else valV kvs j
  | [], k, j => by simp [dropK, valV]
  | p :: r, k, j => by
    have ih := valV_drop r k j
    unfold dropK at ih ⊢
    by_cases e : p.1 = k
    · rw [List.filter_cons, if_neg (by simp [e]), ih]
      by_cases q : j = k
      · rw [if_pos q, if_pos q]
      · rw [if_neg q, if_neg q, valV_neg (by rw [e]; exact fun z => q z.symm)]
    · rw [List.filter_cons, if_pos (by simp [e])]
      by_cases q : p.1 = j
      · rw [valV_pos q, valV_pos q, if_neg (by rw [← q]; exact e)]
      · rw [valV_neg q, valV_neg q, ih]
theorem inV_int (x : Int) (l : List Int) : inV (.int x) (l.map V.int) = decide (x ∈ l) := by
  induction l with
  | nil => simp [inV]
  | cons y l ih =>
    have : inV (.int x) ((y :: l).map V.int) = (eqV (.int y) (.int x) || inV (.int x) (l.map V.int)) := rfl
    rw [this, ih]
    simp only [eqV]
    by_cases e : y = x
    · subst e; simp
    · have e' : x ≠ y := fun z => e z.symm
      simp [e, e']
theorem putK_len1 {κ : Type} [DecidableEq κ] (c : List (κ × V)) (k : κ) (x : V) : (putK c k x).length ≤ c.length + 1 := by
  unfold putK
  split
  · rw [List.length_map]; exact Nat.le_succ _
  · simp
/-- whole-number keys, no key twice -/
structure Kys (kv : List (Key × V)) : Prop where
  nd : (kv.map (·.1)).Nodup
  i : ∀ e ∈ kv, ∃ x : Int, e.1 = Sum.inl x
theorem Kys.nil : Kys [] := ⟨List.nodup_nil, by simp⟩
theorem Kys.drop {kv : List (Key × V)} (h : Kys kv) (k : Key) : Kys (dropK kv k) := ⟨h.nd.sublist (List.Sublist.map _ List.filter_sublist), fun e he => h.i e (List.mem_filter.mp he).1⟩
theorem Kys.put {kv : List (Key × V)} (h : Kys kv) (x : Int) (v : V) : Kys (putK kv (Sum.inl x) v) := by
  unfold putK
  split
  · rename_i hc
    have e : (kv.map fun p => if p.1 = (Sum.inl x : Key) then (p.1, v) else p).map (·.1) = kv.map (·.1) := by
      rw [List.map_map]
      refine List.map_congr_left fun p _ => ?_
      show (if p.1 = (Sum.inl x : Key) then (p.1, v) else p).1 = p.1
      split <;> rfl
    refine ⟨by rw [e]; exact h.nd, fun p hp => ?_⟩
    have : p.1 ∈ (kv.map fun p => if p.1 = (Sum.inl x : Key) then (p.1, v) else p).map (·.1) := List.mem_map.mpr ⟨p, hp, rfl⟩
    rw [e] at this
    obtain ⟨q, hq, eq⟩ := List.mem_map.mp this
    rw [← eq]
    exact h.i q hq
  · rename_i hc
    refine ⟨?_, fun p hp => ?_⟩
    · rw [List.map_append, List.nodup_append]
      refine ⟨h.nd, by simp, fun a ha b hb z => hc ?_⟩
      obtain ⟨q, hq, eq⟩ := List.mem_map.mp ha
      have : b = Sum.inl x := by simpa using hb
      exact List.any_eq_true.mpr ⟨q, hq, decide_eq_true (by rw [eq, z, this])⟩
    · rcases List.mem_append.mp hp with z | z
      · exact h.i p z
      · rw [List.mem_singleton.mp z]
        exact ⟨x, rfl⟩
theorem valV_mem {kv : List (Key × V)} (h : (kv.map (·.1)).Nodup) : ∀ {p : Key × V}, p ∈ kv → valV kv p.1 = some p.2 := by
  induction kv with
  | nil => intro p hp; cases hp
  | cons a kv ih =>
    intro p hp
    rw [List.map_cons, List.nodup_cons] at h
    rcases List.mem_cons.mp hp with rfl | hp
    · exact valV_pos rfl
    · exact (valV_neg fun z => h.1 (by rw [z]; exact List.mem_map.mpr ⟨p, hp, rfl⟩)).trans (ih h.2 hp)
theorem mem_valV {kv : List (Key × V)} {k : Key} {v : V} (h : valV kv k = some v) : (k, v) ∈ kv := by
  induction kv with
  | nil => cases h
  | cons a kv ih =>
    by_cases e : a.1 = k
    · rw [valV_pos e] at h
      have : a = (k, v) := by rw [← e, ← Option.some.inj h]
      rw [this]
      exact List.mem_cons_self
    · rw [valV_neg e] at h
      exact List.mem_cons_of_mem _ (ih h)
/-- the dict of live copies holds F -/
def LvAt (H : Hp) (kv : List (Key × V)) (F : LiveF) : Prop := Kys kv ∧ ∀ x : Int, match F x with
  | none => valV kv (Sum.inl x) = none
  | some p => ∃ t, valV kv (Sum.inl x) = some (.ref t) ∧ H t = some (.tup [.int p.1, .int p.2])
theorem LvAt.by {H H' : Hp} {kv : List (Key × V)} {F : LiveF} (h : LvAt H kv F) (f : ∀ t xs, H t = some (.tup xs) → H' t = some (.tup xs)) : LvAt H' kv F := ⟨h.1, fun x => by
  have := h.2 x
  cases e : F x with
  | none => rw [e] at this; exact this
  | some p => rw [e] at this; obtain ⟨t, a, b⟩ := this; exact ⟨t, a, f _ _ b⟩⟩
theorem LvAt.drop {H : Hp} {kv : List (Key × V)} {F : LiveF} (h : LvAt H kv F) (r : Int) : LvAt H (dropK kv (Sum.inl r)) (setF F r none) := ⟨h.1.drop _, fun x => by
  rw [valV_drop]
  show match (if x = r then none else F x) with | none => _ | some p => _
  by_cases e : x = r
  · rw [if_pos e, if_pos (by rw [e])]
  · rw [if_neg e, if_neg (by intro z; exact e (Sum.inl.inj z))]
    exact h.2 x⟩
theorem LvAt.dropN {H : Hp} {kv : List (Key × V)} {F : LiveF} (h : LvAt H kv F) {r : Int} (n : valV kv (Sum.inl r) = none) : LvAt H kv (setF F r none) := ⟨h.1, fun x => by
  show match (if x = r then none else F x) with | none => _ | some p => _
  by_cases e : x = r
  · rw [if_pos e, e]; exact n
  · rw [if_neg e]; exact h.2 x⟩
theorem LvAt.put {H : Hp} {kv : List (Key × V)} {F : LiveF} (h : LvAt H kv F) (r : Int) {t : Addr} {p : Int × Int} (e : H t = some (.tup [.int p.1, .int p.2])) : LvAt H (putK kv (Sum.inl r) (.ref t)) (setF F r (some p)) := ⟨h.1.put _ _, fun x => by
  rw [valV_put]
  show match (if x = r then some p else F x) with | none => _ | some p => _
  by_cases q : x = r
  · rw [if_pos q, if_pos (by rw [q])]
    exact ⟨t, rfl, e⟩
  · rw [if_neg q, if_neg (by intro z; exact q (Sum.inl.inj z))]
    exact h.2 x⟩
/-- the entries of the dict are those of F -/
theorem LvAt.ent {H : Hp} {kv : List (Key × V)} {F : LiveF} (h : LvAt H kv F) {e : Key × V} (he : e ∈ kv) : ∃ (x : Int) (p : Int × Int) (t : Addr), F x = some p ∧ e.2 = .ref t ∧ H t = some (.tup [.int p.1, .int p.2]) := by
  obtain ⟨x, ex⟩ := h.1.i e he
  have hv := valV_mem h.1.nd he
  rw [ex] at hv
  have := h.2 x
  cases q : F x with
  | none => rw [q] at this; rw [hv] at this; cases this
  | some p =>
    rw [q] at this
    obtain ⟨t, a, b⟩ := this
    rw [hv] at a
    exact ⟨x, p, t, q, Option.some.inj a, b⟩
theorem LvAt.mem {H : Hp} {kv : List (Key × V)} {F : LiveF} (h : LvAt H kv F) {x : Int} {p : Int × Int} (hx : F x = some p) : ∃ t, ((Sum.inl x : Key), V.ref t) ∈ kv ∧ H t = some (.tup [.int p.1, .int p.2]) := by
  have := h.2 x
  rw [hx] at this
  obtain ⟨t, a, b⟩ := this
  exact ⟨t, mem_valV a, b⟩
end K47
namespace K47
open PySem PySem.Spec PyProof.Rows L2 Rg
/-- a mark's tuple -/
def MarkAt (K : PySem.W.Frag) (H : Hp) (a : Addr) (m : Mk3) : Prop := RecAt K H a (.mark m.1 m.2.1 m.2.2)
/-- a list of pairs of a slot and a mark -/
def MarksAt (K : PySem.W.Frag) (H : Hp) (ma : Addr) (ms : List Mk3) : Prop := ∃ mas : List Addr, H ma = some (.lst (mas.map V.ref)) ∧ mas.length = ms.length ∧ ∀ (i : Nat) (a : Addr) (m : Mk3), mas[i]? = some a → ms[i]? = some m → ∃ (z : Int) (r : Addr), SqT K H a [.int z, .ref r] ∧ MarkAt K H r m
theorem MarksAt.same {K : PySem.W.Frag} {H H' : Hp} {ma : Addr} {ms : List Mk3} (h : MarksAt K H ma ms) (S : Same H H') : MarksAt K H' ma ms := by
  obtain ⟨mas, h1, h2, h3⟩ := h
  exact ⟨mas, S _ _ h1, h2, fun i a m e1 e2 => let ⟨z, r, q1, q2⟩ := h3 i a m e1 e2; ⟨z, r, sameT S q1, q2.same S⟩⟩
section
variable {P : Program} {w : World} {K : PySem.W.Frag} {mg : Str → Option Value} {base : Heap}
def sp_live_copies (K : PySem.W.Frag) : Sp := fun vs H Q _ => ∃ (ma : Addr) (g : Bool) (ms : List Mk3), vs = [.ref ma, .bl g] ∧ MarksAt K H ma ms ∧ ms.length ≤ 100 ∧ (∀ m ∈ ms, m.2.1.length ≤ 5) ∧
  ∀ (H' : Hp) (d : Addr) (kv : List (Key × V)), Same H H' → H d = none → H' d = some (.dK kv) → LvAt H' kv (liveF g ms fun _ => none) → kv.length ≤ 5 * ms.length → Q (.ref d) H'
theorem ok_live_copies (T : Tx K mg) : FnOk P w K mg base CX0 1 T.f_live_copies T.fd_live_copies ["marks", "lapse"] (sp_live_copies K) := by
  refine T.F_live_copies.ok sc_live_copies (fun vs H Q E h => ?_) (fun cdv A outer s H vs Q E hr h => ?_)
  · obtain ⟨_, _, _, rfl, _⟩ := h; rfl
  · obtain ⟨ma, g, ms, rfl, hM, hz, hp, k⟩ := h
    refine ⟨_, (pss_cons (ps_set (i := 2) sc_live_copies.nd rfl (.inl rfl) pe_dnewK)
      (pss_cons (ps_for PassesOwn.never rfl (pi_list (pv 0)) (pg_tup rfl (pgs_cons (pg_name (i := 3) sc_live_copies.nd rfl (.inl rfl)) (pgs_cons (pg_name (i := 4) sc_live_copies.nd rfl (.inl rfl)) pgs_nil)))
        (pss_cons (ps_asg (pe_slice sl_tup (pv 4) (po_some pe_int) po_none) (pg_tup rfl (pgs_cons (pg_name (i := 5) sc_live_copies.nd rfl (.inl rfl)) (pgs_cons (pg_name (i := 6) sc_live_copies.nd rfl (.inl rfl)) (pgs_cons (pg_name (i := 7) sc_live_copies.nd rfl (.inl rfl)) pgs_nil)))))
        (pss_cons (ps_for PassesOwn.never rfl (pi_tup (pv 7)) (pg_name (i := 8) sc_live_copies.nd rfl (.inl rfl))
          (pss_one (ps_expr (pe_dpop2 (pv 2) (pv 8) pe_non ⟨rfl, rfl, rfl, rfl⟩))))
        (pss_one (ps_for PassesOwn.never rfl (pi_tup (pv 6)) (pg_tup rfl (pgs_cons (pg_name (i := 8) sc_live_copies.nd rfl (.inl rfl)) (pgs_cons (pg_name (i := 9) sc_live_copies.nd rfl (.inl rfl)) pgs_nil)))
          (pss_one (ps_if (PW.pt (pw_or (pt_val (pv 1)) (pw_or1 (pt_cmpR op_notIn_seq (pv 8) (pv 7) rfl))))
            (pss_one (ps_dput (hu_of hr) (pv 2) (pv 8) (pe_tup (pa_cons (pv 5) (pa_cons (pv 9) pa_nil))) rfl))
            pss_nil)))))))
      (pss_one (ps_ret (pv 2))))), ?_⟩
    refine fun d nd => ?_
    have s0 := same_upd (o := .dK []) nd
    obtain ⟨mas, eM, lM, gM⟩ := hM
    have nma : ma ≠ d := ne_of_none eM nd
    refine ⟨_, rfl, ma, rfl, ⟨_, .of (s0 _ _ eM)⟩, for_list (K := K) (a := ma) (xs := mas.map V.ref) (fun i σ H2 => ∃ (kv : List (Key × V)) (v3 v4 v5 v6 v7 v8 v9 : Option V), σ = [some (.ref ma), some (.bl g), some (.ref d), v3, v4, v5, v6, v7, v8, v9] ∧ Same H H2 ∧ H2 d = some (.dK kv) ∧ LvAt H2 kv (liveF g (ms.take i) fun _ => none) ∧ kv.length ≤ 5 * i)
      ⟨[], none, none, none, none, none, none, none, rfl, s0, upd_same, ⟨Kys.nil, fun x => rfl⟩, Nat.zero_le _⟩ (fun i σ H2 _ ⟨_, _, _, _, _, _, _, _, _, S, _⟩ => .of (S _ _ eM)) ?_ ?_⟩
    · rintro i y σ H2 hi ⟨kv, v3, v4, v5, v6, v7, v8, v9, rfl, S2, ed, hL, hk⟩
      have him : i < mas.length := by
        have := (List.getElem?_eq_some_iff.mp hi).1
        rw [List.length_map] at this
        exact this
      have hims : i < ms.length := by omega
      rw [List.getElem?_map, List.getElem?_eq_getElem him] at hi
      have hi : V.ref mas[i] = y := Option.some.inj hi
      subst hi
      obtain ⟨z, r, q1, q2⟩ := gM i mas[i] ms[i] (List.getElem?_eq_getElem him) (List.getElem?_eq_getElem hims)
      obtain ⟨pp, pr, w1, ⟨qs, w2, w3, w4⟩, w5⟩ := q2
      refine ⟨mas[i], _, rfl, sameT S2 q1, rfl, _, _, rfl, _, _, rfl, rfl, ?_⟩
      refine ⟨_, rfl, _, rfl, r, _, rfl, sameT S2 w1, fun z => absurd z.1 (by show HT.sIx 4 0 (some 1) ≠ 0; decide), fun q nq => ?_⟩
      have c := same_upd (o := .tup (cutV [.str "mark", .int ms[i].1, .ref pp, .ref pr] (some 1) none)) nq
      have eq : upd H2 q (.tup (cutV [.str "mark", .int ms[i].1, .ref pp, .ref pr] (some 1) none)) q = some (.tup [.int ms[i].1, .ref pp, .ref pr]) := by rw [upd_same, cut1]; rfl
      have ed3 := c _ _ ed
      have S3 := S2.trans c
      have hL3 := hL.by fun _ _ z => c _ _ z
      generalize upd H2 q (.tup (cutV [.str "mark", .int ms[i].1, .ref pp, .ref pr] (some 1) none)) = H3 at c eq ed3 S3 hL3 ⊢
      refine ⟨q, _, rfl, .of eq, rfl, _, _, rfl, _, _, rfl, _, _, rfl, rfl, ?_⟩
      refine ⟨_, rfl, pr, rfl, ⟨_, sameT S3 w5⟩, for_tup (K := K) (a := pr) (xs := ms[i].2.2.map V.int) (fun j σ H4 => ∃ (kv : List (Key × V)) (v8 : Option V), σ = [some (.ref ma), some (.bl g), some (.ref d), some (.int z), some (.ref r), some (.int ms[i].1), some (.ref pp), some (.ref pr), v8, v9] ∧ Same H H4 ∧ H4 d = some (.dK kv) ∧ LvAt H4 kv (strikeF (ms[i].2.2.take j) (liveF g (ms.take i) fun _ => none)) ∧ kv.length ≤ 5 * i)
        ⟨kv, v8, rfl, S3, ed3, hL3, hk⟩ (fun j σ H4 _ ⟨_, _, _, S, _⟩ => sameT S w5) ?_ ?_⟩
      · rintro j y σ H4 hj ⟨kv, v8, rfl, S4, e4, L4, k4⟩
        rw [List.getElem?_map] at hj
        obtain ⟨x, hx, rfl⟩ := Option.map_eq_some_iff.mp hj
        have es : strikeF (ms[i].2.2.take (j + 1)) (liveF g (ms.take i) fun _ => none) = setF (strikeF (ms[i].2.2.take j) (liveF g (ms.take i) fun _ => none)) x none := by rw [List.take_succ, hx, strikeF_app]; rfl
        refine ⟨_, rfl, d, rfl, .inl ⟨_, .inl e4⟩, _, rfl, kv, Sum.inl x, e4, rfl, fun v hv => ?_, fun hn => ?_⟩
        · refine ⟨dropK kv (Sum.inl x), _, rfl, fun u o e => by rw [upd_ne (ne_of_none e nd)]; exact S4 _ _ e, upd_same, ?_, Nat.le_trans (dropK_le _ _) k4⟩
          rw [es]
          exact (L4.drop x).by fun t xs e => by rw [upd_ne (ne_of e e4 (by intro z; cases z))]; exact e
        · exact ⟨kv, _, rfl, S4, e4, by rw [es]; exact L4.dropN hn, k4⟩
      rintro σ H4 ⟨kv, v8, rfl, S4, e4, L4, k4⟩
      rw [List.length_map, List.take_length] at L4
      refine ⟨_, rfl, pp, rfl, ⟨_, sameT S4 w2⟩, for_tup (K := K) (a := pp) (xs := qs.map V.ref) (fun j σ H5 => ∃ (kv : List (Key × V)) (v8 v9 : Option V), σ = [some (.ref ma), some (.bl g), some (.ref d), some (.int z), some (.ref r), some (.int ms[i].1), some (.ref pp), some (.ref pr), v8, v9] ∧ Same H H5 ∧ H5 d = some (.dK kv) ∧ LvAt H5 kv (addF g ms[i].1 ms[i].2.2 (ms[i].2.1.take j) (strikeF ms[i].2.2 (liveF g (ms.take i) fun _ => none))) ∧ kv.length ≤ 5 * i + j)
        ⟨kv, v8, v9, rfl, S4, e4, L4, k4⟩ (fun j σ H4 _ ⟨_, _, _, _, S, _⟩ => sameT S w2) ?_ ?_⟩
      · rintro j y σ H5 hj ⟨kv, v8, v9, rfl, S5, e5, L5, k5⟩
        have hjq : j < qs.length := by
          have := (List.getElem?_eq_some_iff.mp hj).1
          rw [List.length_map] at this
          exact this
        rw [List.getElem?_map, List.getElem?_eq_getElem hjq] at hj
        have hj : V.ref qs[j] = y := Option.some.inj hj
        subst hj
        have hjp : j < ms[i].2.1.length := by rw [← w3]; exact hjq
        obtain ⟨⟨x, sl⟩, hx⟩ : ∃ u, ms[i].2.1[j]? = some u := ⟨_, List.getElem?_eq_getElem hjp⟩
        have q4 := w4 j qs[j] (x, sl) (List.getElem?_eq_getElem hjq) hx
        have ea : addF g ms[i].1 ms[i].2.2 (ms[i].2.1.take (j + 1)) (strikeF ms[i].2.2 (liveF g (ms.take i) fun _ => none)) = if g = true ∨ x ∉ ms[i].2.2 then setF (addF g ms[i].1 ms[i].2.2 (ms[i].2.1.take j) (strikeF ms[i].2.2 (liveF g (ms.take i) fun _ => none))) x (some (ms[i].1, sl)) else addF g ms[i].1 ms[i].2.2 (ms[i].2.1.take j) (strikeF ms[i].2.2 (liveF g (ms.take i) fun _ => none)) := by rw [List.take_succ, hx, addF_app]; rfl
        refine ⟨qs[j], _, rfl, sameT S5 q4, rfl, _, _, rfl, _, _, rfl, rfl, ?_⟩
        have jp : j < 5 := by have := hp ms[i] (List.getElem_mem hims); omega
        have sz : kv.length < sizeLine := Nat.lt_of_le_of_lt (show kv.length ≤ 10000 by omega) (by decide)
        have fin : ∀ t : Addr, H5 t = none → (g = true ∨ x ∉ ms[i].2.2) → Same H (upd (upd H5 t (.tup [.int ms[i].1, .int sl])) d (.dK (putK kv (Sum.inl x) (.ref t)))) ∧ upd H5 t (.tup [.int ms[i].1, .int sl]) d = some (.dK kv) ∧ LvAt (upd (upd H5 t (.tup [.int ms[i].1, .int sl])) d (.dK (putK kv (Sum.inl x) (.ref t)))) (putK kv (Sum.inl x) (.ref t)) (addF g ms[i].1 ms[i].2.2 (ms[i].2.1.take (j + 1)) (strikeF ms[i].2.2 (liveF g (ms.take i) fun _ => none))) := fun t nt ok => by
          have c := same_upd (o := .tup [.int ms[i].1, .int sl]) nt
          have e6 := c _ _ e5
          refine ⟨fun u o e => by rw [upd_ne (ne_of_none e nd)]; exact c _ _ (S5 _ _ e), e6, ?_⟩
          rw [ea, if_pos ok]
          exact ((L5.by fun _ _ z => c _ _ z).put x (t := t) (p := (ms[i].1, sl)) upd_same).by fun u xs e => by rw [upd_ne (ne_of e e6 (by intro z; cases z))]; exact e
        refine ⟨_, rfl, _, rfl, ?_⟩
        cases g with
        | true =>
          refine iteT ?_
          refine ⟨_, rfl, _, rfl, by show 2 ≤ sizeLine; decide, fun t nt => ?_⟩
          obtain ⟨f1, f2, f3⟩ := fin t nt (.inl rfl)
          exact ⟨_, rfl, _, rfl, d, _, rfl, DPut.k (k := Sum.inl x) f2 sz, _, _, _, rfl, f1, upd_same, f3, by have := putK_len1 kv (Sum.inl x : Key) (V.ref t); omega⟩
        | false =>
          have fv : (ms[i].2.2.map V.int).all flatV = true := by
            rw [List.all_map]
            exact List.all_eq_true.mpr fun _ _ => rfl
          refine iteF ⟨_, rfl, _, rfl, pr, _, rfl, .inr (sameT S5 w5), rfl, fv, _, rfl, ite2 (fun hb => ?_) fun hb => ?_⟩
          · have ok : x ∉ ms[i].2.2 := fun z => by
              have hb : (!inV (.int x) (ms[i].2.2.map V.int)) = true := hb
              rw [inV_int, decide_eq_true z] at hb
              cases hb
            refine ⟨_, rfl, _, rfl, by show 2 ≤ sizeLine; decide, fun t nt => ?_⟩
            obtain ⟨f1, f2, f3⟩ := fin t nt (.inr ok)
            exact ⟨_, rfl, _, rfl, d, _, rfl, DPut.k (k := Sum.inl x) f2 sz, _, _, _, rfl, f1, upd_same, f3, by have := putK_len1 kv (Sum.inl x : Key) (V.ref t); omega⟩
          · have ok : ¬ (false = true ∨ x ∉ ms[i].2.2) := fun z => by
              rcases z with z | z
              · cases z
              · have hb : (!inV (.int x) (ms[i].2.2.map V.int)) = false := by simpa using hb
                rw [inV_int, decide_eq_false z] at hb
                cases hb
            exact ⟨kv, _, _, rfl, S5, e5, by rw [ea, if_neg ok]; exact L5, by omega⟩
      · rintro σ H5 ⟨kv, v8, v9, rfl, S5, e5, L5, k5⟩
        rw [List.length_map, w3, List.take_length] at L5
        refine ⟨kv, _, _, _, _, _, _, _, rfl, S5, e5, ?_, ?_⟩
        · rw [List.take_succ, List.getElem?_eq_getElem hims, liveF_app]
          exact L5
        · have := hp ms[i] (List.getElem_mem hims)
          rw [List.length_map] at k5
          omega
    · rintro σ H2 ⟨kv, v3, v4, v5, v6, v7, v8, v9, rfl, S2, ed, hL, hk⟩
      rw [List.length_map, lM, List.take_length] at hL
      rw [List.length_map, lM] at hk
      exact ⟨_, rfl, k H2 d kv S2 nd ed hL hk⟩
end
end K47
namespace K47
open PySem PySem.Spec PyProof.Rows L2 Rg
/-- a comprehension that keeps some of l, i looked at -/
def PvG {α : Type} (f : α → V) (H0 : Hp) (D : Addr) (l : List α) (p : α → Bool) (i : Nat) (H' : Hp) : Prop := Same H0 H' ∧ H' D = some (.lst (((l.take i).filter p).map f))
theorem PvG.start {α : Type} {f : α → V} {H0 : Hp} {D : Addr} {l : List α} {p : α → Bool} (h : H0 D = none) : PvG f H0 D l p 0 (upd H0 D (.lst [])) := ⟨same_upd h, upd_same⟩
theorem take_getG {α : Type} {l : List α} {i : Nat} {x : α} (h : l[i]? = some x) : l.take (i + 1) = l.take i ++ [x] := by
  rw [List.take_add_one, h]
  rfl
theorem PvG.yes {α : Type} {f : α → V} {H0 H' H2 : Hp} {D : Addr} {l : List α} {p : α → Bool} {i : Nat} {x : α} (h : PvG f H0 D l p i H') (hD : H0 D = none) (S : Same H' H2) (hx : l[i]? = some x) (hl : l.length < 1000) (hp : p x = true) :
    ∃ acc, H2 D = some (.lst acc) ∧ acc.length < sizeLine ∧ PvG f H0 D l p (i + 1) (upd H2 D (.lst (acc ++ [f x]))) := by
  refine ⟨_, S _ _ h.2, ?_, fun a o z => ?_, ?_⟩
  · rw [List.length_map]
    have h1 := List.length_filter_le p (l.take i)
    have h2 := List.length_take_le i l
    have hi := (List.getElem?_eq_some_iff.mp hx).1
    exact lt_line (by omega)
  · rw [upd_ne (ne_of_none z hD)]
    exact S _ _ (h.1 _ _ z)
  · rw [upd_same, take_getG hx, List.filter_append, List.map_append, List.filter_cons, if_pos hp]
    rfl
theorem PvG.no {α : Type} {f : α → V} {H0 H' H2 : Hp} {D : Addr} {l : List α} {p : α → Bool} {i : Nat} {x : α} (h : PvG f H0 D l p i H') (S : Same H' H2) (hx : l[i]? = some x) (hp : p x = false) : PvG f H0 D l p (i + 1) H2 := by
  refine ⟨h.1.trans S, ?_⟩
  rw [take_getG hx, List.filter_append, List.filter_cons, if_neg (by rw [hp]; decide), List.filter_nil, List.append_nil]
  exact S _ _ h.2
theorem PvG.all {α : Type} {f : α → V} {H0 H' : Hp} {D : Addr} {l : List α} {p : α → Bool} {n : Nat} (h : PvG f H0 D l p n H') (e : n = l.length) : Same H0 H' ∧ H' D = some (.lst ((l.filter p).map f)) := by
  subst e
  have := h.2
  rw [List.take_length] at this
  exact ⟨h.1, this⟩
end K47
namespace K47
open PySem PySem.Spec PyProof.Rows L2 Rg
/-! ### walks over a dict's values, a set of whole numbers -/
theorem lc_vals {d : Addr} {od : Obj} {kvs : List (Key × V)} {g : TG} {tt : TT} {te : TE} {vs : List Nat} {σ : L2.St} {H1 : Hp} {D : Addr} {Qd : Hp → Prop} (Pv : Nat → Hp → Prop) (h0 : Pv 0 (upd H1 D (.lst []))) (hl : ∀ i H, i ≤ kvs.length → Pv i H → H d = some (.frz od (.dK kvs)))
    (hs : ∀ i k x H, kvs[i]? = some (k, x) → Pv i H → g x (wipe σ vs) H fun σ2 H2 => wipe σ2 vs = wipe σ vs ∧ tt σ2 H2 fun b H3 =>
      if b = true then te σ2 H3 fun y H4 => ∃ acc, H4 D = some (.lst acc) ∧ acc.length < sizeLine ∧ Pv (i + 1) (upd H4 D (.lst (acc ++ [y]))) else Pv (i + 1) H3) (hd : ∀ H, Pv kvs.length H → Qd H) :
    ∃ W : Nat → Nat → Hp → Prop, (∃ m, W 0 m (upd H1 D (.lst []))) ∧ ∀ i m H, W i m H →
      ((Itd d od kvs).stop i H ∧ Qd H) ∨ ((Itd d od kvs).go i H ∧ ∃ Nx : Hp → Prop, (∀ H', Nx H' → ∃ m', m' < m ∧ W (i + 1) m' H') ∧ ∀ x H', (Itd d od kvs).yld i H x H' → g x (wipe σ vs) H' fun σ2 H2 => wipe σ2 vs = wipe σ vs ∧ tt σ2 H2 fun b H3 =>
        if b = true then te σ2 H3 fun y H4 => ∃ acc, H4 D = some (.lst acc) ∧ acc.length < sizeLine ∧ Nx (upd H4 D (.lst (acc ++ [y]))) else Nx H3) := by
  refine ⟨fun i m H => m = kvs.length - i ∧ i ≤ kvs.length ∧ Pv i H, ⟨kvs.length, by simp, Nat.zero_le _, h0⟩, ?_⟩
  rintro i m H ⟨rfl, hi, p⟩
  have q := hl i H hi p
  by_cases hlt : i < kvs.length
  · refine .inr ⟨⟨q, hlt⟩, Pv (i + 1), fun H' p' => ⟨kvs.length - (i + 1), by omega, rfl, hlt, p'⟩, fun x H' y => ?_⟩
    obtain ⟨e, k, ek⟩ := y
    subst e
    exact hs i k x _ ek p
  · have e : i = kvs.length := by omega
    subst e
    exact .inl ⟨⟨q, Nat.le_refl _⟩, hd H p⟩
theorem sc_listI {w : World} {K : PySem.W.Frag} {a : Addr} {xs : List V} {g : TG} {tt : TT} {te : TE} {vs : List Nat} {σ : L2.St} {H1 : Hp} {D : Addr} {Qd : Hp → Prop} (Pv : Nat → Hp → Prop) (h0 : Pv 0 (upd H1 D (SetO w D (fun _ => false) 0))) (hl : ∀ i H, i ≤ xs.length → Pv i H → SqL K H a xs)
    (hs : ∀ i x H, xs[i]? = some x → Pv i H → g x (wipe σ vs) H fun σ2 H2 => wipe σ2 vs = wipe σ vs ∧ tt σ2 H2 fun b H3 =>
      if b = true then te σ2 H3 fun y H4 => ∃ (c : Int) (S : Int → Bool) (n : Nat), y = .int c ∧ H4 D = some (SetO w D S n) ∧ n + 1 < scanBound ∧ Pv (i + 1) (upd H4 D (SetO w D (fun j => S j || decide (j = c)) (if S c = true then n else n + 1))) else Pv (i + 1) H3) (hd : ∀ H, Pv xs.length H → Qd H) :
    ∃ W : Nat → Nat → Hp → Prop, (∃ m, W 0 m (upd H1 D (SetO w D (fun _ => false) 0))) ∧ ∀ i m H, W i m H →
      ((Itl K a).stop i H ∧ Qd H) ∨ ((Itl K a).go i H ∧ ∃ Nx : Hp → Prop, (∀ H', Nx H' → ∃ m', m' < m ∧ W (i + 1) m' H') ∧ ∀ x H', (Itl K a).yld i H x H' → g x (wipe σ vs) H' fun σ2 H2 => wipe σ2 vs = wipe σ vs ∧ tt σ2 H2 fun b H3 =>
        if b = true then te σ2 H3 fun y H4 => ∃ (c : Int) (S : Int → Bool) (n : Nat), y = .int c ∧ H4 D = some (SetO w D S n) ∧ n + 1 < scanBound ∧ Nx (upd H4 D (SetO w D (fun j => S j || decide (j = c)) (if S c = true then n else n + 1))) else Nx H3) := by
  refine ⟨fun i m H => m = xs.length - i ∧ i ≤ xs.length ∧ Pv i H, ⟨xs.length, by simp, Nat.zero_le _, h0⟩, ?_⟩
  rintro i m H ⟨rfl, hi, p⟩
  have q := hl i H hi p
  by_cases hlt : i < xs.length
  · refine .inr ⟨⟨xs, xs[i], q, by simp [hlt]⟩, Pv (i + 1), fun H' p' => ⟨xs.length - (i + 1), by omega, rfl, hlt, p'⟩, fun x H' y => ?_⟩
    obtain ⟨e, y⟩ := y
    subst e
    exact hs i x _ (y xs q) p
  · have e : i = xs.length := by omega
    subst e
    exact .inl ⟨⟨xs, q, Nat.le_refl _⟩, hd H p⟩
/-- the set that a comprehension over l gathers, i looked at -/
def PvZ (w : World) (H0 : Hp) (D : Addr) (l : List Int) (p : Int → Bool) (i : Nat) (H' : Hp) : Prop := Same H0 H' ∧ ∃ (S : Int → Bool) (n : Nat), H' D = some (SetO w D S n) ∧ (∀ k, S k = true ↔ k ∈ (l.take i).filter p) ∧ n ≤ i
theorem PvZ.start {w : World} {H0 : Hp} {D : Addr} {l : List Int} {p : Int → Bool} (h : H0 D = none) : PvZ w H0 D l p 0 (upd H0 D (SetO w D (fun _ => false) 0)) := ⟨same_upd h, _, 0, upd_same, by simp, Nat.le_refl _⟩
theorem PvZ.yes {w : World} {H0 H' : Hp} {D : Addr} {l : List Int} {p : Int → Bool} {i : Nat} {x : Int} (h : PvZ w H0 D l p i H') (hD : H0 D = none) (hx : l[i]? = some x) (hl : l.length < 1000) (hp : p x = true) :
    ∃ (c : Int) (S : Int → Bool) (n : Nat), V.int x = .int c ∧ H' D = some (SetO w D S n) ∧ n + 1 < scanBound ∧ PvZ w H0 D l p (i + 1) (upd H' D (SetO w D (fun j => S j || decide (j = c)) (if S c = true then n else n + 1))) := by
  obtain ⟨s, S, n, e, hS, hn⟩ := h
  have hi := (List.getElem?_eq_some_iff.mp hx).1
  refine ⟨x, S, n, rfl, e, by unfold scanBound; omega, fun a o z => ?_, _, _, upd_same, fun k => ?_, ?_⟩
  · rw [upd_ne (ne_of_none z hD)]
    exact s _ _ z
  · rw [take_getG hx, List.filter_append, List.mem_append, ← hS k, List.filter_cons, if_pos hp]
    simp
  · split <;> omega
theorem PvZ.no {w : World} {H0 H' : Hp} {D : Addr} {l : List Int} {p : Int → Bool} {i : Nat} {x : Int} (h : PvZ w H0 D l p i H') (hx : l[i]? = some x) (hp : p x = false) : PvZ w H0 D l p (i + 1) H' := by
  obtain ⟨s, S, n, e, hS, hn⟩ := h
  refine ⟨s, S, n, e, fun k => ?_, by omega⟩
  rw [take_getG hx, List.filter_append, List.filter_cons, if_neg (by rw [hp]; decide), List.filter_nil, List.append_nil]
  exact hS k
/-- two lists that rise are one, if they hold the same -/
theorem asc_ext : ∀ {a b : List Int}, a.Pairwise (· < ·) → b.Pairwise (· < ·) → (∀ k, k ∈ a ↔ k ∈ b) → a = b
  | [], [], _, _, _ => rfl
  | [], y :: b, _, _, h => by have := (h y).mpr (by simp); cases this
  | x :: a, [], _, _, h => by have := (h x).mp (by simp); cases this
  | x :: a, y :: b, ha, hb, h => by
    obtain ⟨a1, a2⟩ := List.pairwise_cons.mp ha
    obtain ⟨b1, b2⟩ := List.pairwise_cons.mp hb
    have exy : x = y := by
      have p1 : x ∈ y :: b := (h x).mp (by simp)
      have p2 : y ∈ x :: a := (h y).mpr (by simp)
      rcases List.mem_cons.mp p1 with q | q
      · exact q
      · rcases List.mem_cons.mp p2 with r | r
        · exact r.symm
        · have := a1 y r
          have := b1 x q
          omega
    subst exy
    rw [asc_ext a2 b2 fun k => ?_]
    constructor
    · intro z
      rcases List.mem_cons.mp ((h k).mp (by simp [z])) with q | q
      · have := a1 k z; omega
      · exact q
    · intro z
      rcases List.mem_cons.mp ((h k).mpr (by simp [z])) with q | q
      · have := b1 k z; omega
      · exact q
end K47
namespace K47
open PySem PySem.Spec PyProof.Rows L2 Rg
/-! ### disks with several pending writes -/
instance : DecidableEq Plc := fun a b => match a, b with
  | .home i, .home j => if h : i = j then isTrue (by rw [h]) else isFalse fun e => h (by injection e)
  | .log i, .log j => if h : i = j then isTrue (by rw [h]) else isFalse fun e => h (by injection e)
  | .home _, .log _ => isFalse fun e => by cases e
  | .log _, .home _ => isFalse fun e => by cases e
/-- what a write has: cells or a record -/
inductive Ct where
  | cells (c : List Int) | rcd (r : Rec)
def CtAt (K : PySem.W.Frag) (H : Hp) (a : Addr) : Ct → Prop
  | .cells c => SqT K H a (c.map V.int)
  | .rcd r => RecAt K H a r
def CtFit (b s : Int) : Plc → Ct → Prop
  | .home i, .cells c => 0 ≤ i ∧ i ≤ b - 1 ∧ Cells c
  | .log i, .rcd r => 0 ≤ i ∧ i ≤ s - 1 ∧ Fit b s r
  | _, _ => False
/-- handed in: cells as a list, too -/
def CtIn (K : PySem.W.Frag) (H : Hp) (a : Addr) (w : Ct) : Prop := CtAt K H a w ∨ ∃ c, w = .cells c ∧ H a = some (.lst (c.map V.int))
theorem CtAt.by {K : PySem.W.Frag} {H H1 : Hp} {a : Addr} {w : Ct} (h : CtAt K H a w) (f : ∀ b xs, SqT K H b xs → SqT K H1 b xs) : CtAt K H1 a w := by
  cases w with
  | cells c => exact f _ _ h
  | rcd r => exact RecAt.by h f
theorem CtAt.tup {K : PySem.W.Frag} {H : Hp} {a : Addr} {w : Ct} (h : CtAt K H a w) : ∃ xs, SqT K H a xs := by
  cases w with
  | cells c => exact ⟨_, h⟩
  | rcd r =>
    cases r with
    | copy l x c => obtain ⟨pc, e, _⟩ := h; exact ⟨_, e⟩
    | mark l ps rs => obtain ⟨pp, pr, e, _⟩ := h; exact ⟨_, e⟩
theorem CtAt.what {K : PySem.W.Frag} {H : Hp} {a : Addr} {w : Ct} {b s : Int} {q : Plc} (h : CtAt K H a w) (f : CtFit b s q w) : WhatAt K H a b s q := by
  cases q with
  | home i =>
    cases w with
    | cells c => exact ⟨f.1, f.2.1, c, h, f.2.2⟩
    | rcd r => exact f.elim
  | log i =>
    cases w with
    | cells c => exact f.elim
    | rcd r => exact ⟨f.1, f.2.1, r, h, f.2.2⟩
theorem CtFit.rng {b s : Int} {q : Plc} {w : Ct} (f : CtFit b s q w) : Rng b s q := by
  cases q with
  | home i =>
    cases w with
    | cells c => exact ⟨f.1, f.2.1⟩
    | rcd r => exact f.elim
  | log i =>
    cases w with
    | cells c => exact f.elim
    | rcd r => exact ⟨f.1, f.2.1⟩
/-- a pending write: its number, its tuple, its place's tuple, its content, its place, what it has -/
structure Pw where
  (m : Int) (t a u : Addr) (q : Plc) (w : Ct)
def pwK (ps : List Pw) : List (Key × V) := ps.map fun p => (Sum.inl p.m, .ref p.t)
structure PwAt (K : PySem.W.Frag) (H : Hp) (b s : Int) (p : Pw) : Prop where
  t : H p.t = some (.tup [.ref p.a, .ref p.u])
  a : PlcAt K H p.a p.q
  u : CtAt K H p.u p.w
  f : CtFit b s p.q p.w
def PwsAt (K : PySem.W.Frag) (H : Hp) (b s : Int) (ps : List Pw) : Prop := ∀ p ∈ ps, PwAt K H b s p
theorem PwsAt.by {K : PySem.W.Frag} {H H1 : Hp} {b s : Int} {ps : List Pw} (h : PwsAt K H b s ps) (f : ∀ b xs, SqT K H b xs → SqT K H1 b xs) (g : ∀ a xs, H a = some (.tup xs) → H1 a = some (.tup xs)) : PwsAt K H1 b s ps := fun p hp =>
  ⟨g _ _ (h p hp).t, (h p hp).a.by f, (h p hp).u.by f, (h p hp).f⟩
/-- the numbers of pending writes, the places -/
structure PwOk (la : Int) (ps : List Pw) : Prop where
  n : (ps.map (·.m)).Nodup
  le : ∀ p ∈ ps, p.m ≤ la
  q : (ps.map (·.q)).Nodup
theorem dropK_no {κ : Type} [DecidableEq κ] : ∀ (kvs : List (κ × V)) (k : κ), (∀ p ∈ kvs, p.1 ≠ k) → dropK kvs k = kvs := fun kvs k h => by
  unfold dropK
  rw [List.filter_eq_self]
  intro p hp
  simp [h p hp]
def pwOut (m : Int) (ps : List Pw) : List Pw := ps.filter fun p => !decide (p.m = m)
theorem pwK_drop (m : Int) (ps : List Pw) : dropK (pwK ps) (Sum.inl m) = pwK (pwOut m ps) := by
  unfold dropK pwK pwOut
  rw [List.filter_map]
  congr 1
  refine List.filter_congr fun p _ => ?_
  show decide ((Sum.inl p.m : Key) ≠ Sum.inl m) = !decide (p.m = m)
  by_cases e : p.m = m
  · rw [e]; simp
  · simp [e]
theorem pwK_get : ∀ {ps : List Pw}, (ps.map (·.m)).Nodup → ∀ {p : Pw}, p ∈ ps → valV (pwK ps) (Sum.inl p.m) = some (.ref p.t)
  | [], _, p, hp => by cases hp
  | a :: ps, hn, p, hp => by
    rw [List.map_cons, List.nodup_cons] at hn
    rcases List.mem_cons.mp hp with rfl | hp
    · exact valV_pos rfl
    · have ne : ¬ a.m = p.m := fun z => hn.1 (by rw [z]; exact List.mem_map.mpr ⟨p, hp, rfl⟩)
      exact (valV_neg fun z => ne (Sum.inl.inj z)).trans (pwK_get hn.2 hp)
theorem pwK_none : ∀ {ps : List Pw} {m : Int}, (∀ p ∈ ps, p.m ≠ m) → valV (pwK ps) (Sum.inl m) = none
  | [], _, _ => rfl
  | a :: ps, m, h => (valV_neg fun z => h a (by simp) (Sum.inl.inj z)).trans (pwK_none fun p hp => h p (by simp [hp]))
section
variable {P : Program} {w : World} {K : PySem.W.Frag} {mg : Str → Option Value} {base : Heap}
def sp_is_cell_rowL (K : PySem.W.Frag) (Ps : List Addr) : Sp := fun vs H Q _ => ∃ (a : Addr) (c : List Int), vs = [.ref a] ∧ H a = some (.lst (c.map V.int)) ∧ Cells c ∧ Tab Ps H ∧ ∀ H', Tk Ps H H' → Q (.bl true) H'
theorem ok_is_cell_rowL (T : Tx K mg) (B : TBs T base) : FnOk P w K mg base CX0 6 T.f_is_cell_row T.fd_is_cell_row ["value"] (sp_is_cell_rowL K T.Ps) := by
  refine fun_okC T.F_is_cell_row T.code_is_cell_row sc_is_cell_row (fun vs H Q E h => ?_) (fun A outer s H vs Q E hr h => ?_)
  · obtain ⟨_, _, rfl, _⟩ := h; rfl
  · obtain ⟨a, c, rfl, hS, hc, ht, k⟩ := h
    refine ⟨_, (pss_one (ps_ret (pe_and (pe_callB call_isiT rfl T.b_isinstance (by decide +kernel) (pa_cons (pv 0) (pa_cons (pe_tup (pa_cons (pe_bltn (v := .ty "list") rfl T.b_list (by decide +kernel) rfl) (pa_cons (pe_bltn (v := .ty "tuple") rfl T.b_tuple (by decide +kernel) rfl) pa_nil))) pa_nil))) (pe_and (pe_cmpR op_eq (pe_callB call_len_seq rfl T.b_len (by decide +kernel) (pa_cons (pv 0) pa_nil)) (pe_cv T.mg_Plan T.cr_Plan T.cv_Plan_WIDTH) (nomark _)) (pe_one (GxL.pe_allG (k := 2) (own := [("cell", 1)]) (g := gName 1) (tt := tYes) hr rfl T.b_all B.t_is_cell_row rfl (GxL.gsc_by (by decide +kernel)) (blkOk_by (N := ["value", "cell"]) (sc := defScope s_is_cell_row) (by decide +kernel)) sc_is_cell_row.nd (pi_list (pv 0)) (fun _ _ _ _ _ => pg_name (i := 1) sc_is_cell_row.nd rfl (Or.inl rfl)) (fun _ _ _ _ _ _ => pts_nil) (fun _ _ _ _ _ hr2 => pe_call (ok_is_cell T) hr2 rfl T.mg_is_cell T.F_is_cell.kp (b_is_cell T) .nil pass0 (pa_cons (pv 1) pa_nil)))))))), ?_⟩
    refine ⟨_, rfl, (by show 2 ≤ sizeLine; decide), fun t nt => ?_⟩
    have st := same_upd (o := .tup [.ty "list", .ty "tuple"]) nt
    have e0 := upd_same (H := H) (a := t) (o := .tup [.ty "list", .ty "tuple"])
    have t0 := Tk.of ht st
    generalize upd H t (.tup [.ty "list", .ty "tuple"]) = H1 at st e0 t0 ⊢
    have hS1 := st _ _ hS
    refine ⟨_, t, _, _, _, true, rfl, e0, .cons (.ty _) (.cons (.ty _) .nil), .base (.lst hS1), kitAny_cons (b := true) (kit_ty (by decide +kernel)) (fun z => by cases z) (fun _ => rfl), _, rfl, iteT ?_⟩
    refine ⟨_, rfl, a, _, rfl, .inl (.of hS1), rfl, _, rfl, ?_⟩
    rw [List.length_map, hc.len, dec_iv, decide_eq_true (by decide)]
    refine iteT ⟨_, rfl, a, rfl, ⟨_, .of hS1⟩, t0.tab _ T.in_is_cell_row, fun H2 hT => gx_list (K := K) (a := a) (xs := c.map V.int) (fun i H3 => Tk T.Ps H1 H3) (Tk.tabbed t0.tab T.in_is_cell_row hT) (fun i H3 _ kk => .of (kk.at t0.tab hS1)) (fun i y H3 hi kk => ?_) fun H3 kk => k H3 (t0.trans kk)⟩
    rw [List.getElem?_map] at hi
    obtain ⟨x, hx, rfl⟩ := Option.map_eq_some_iff.mp hi
    have hb := hc.ok x (List.mem_of_getElem? hx)
    refine ⟨rfl, yes_ ⟨_, rfl, x, rfl, _, rfl, ?_⟩⟩
    rw [decide_eq_true (show 0 ≤ x ∧ x ≤ 999999999 from hb), if_pos rfl]
    exact kk
def sp_is_contentI (K : PySem.W.Frag) (CP : Addr) (Ps : List Addr) : Sp := fun vs H Q _ => ∃ (p a u : Addr) (b n s : Int) (q : Plc) (w : Ct), vs = [.ref p, .ref a, .ref u] ∧ PlcAt K H a q ∧ CtIn K H u w ∧ CtFit b s q w ∧ PlanAt CP H p b n s ∧ Tab Ps H ∧ ∀ H', Tk Ps H H' → Q (.bl true) H'
theorem ok_is_contentI (T : Tx K mg) (B : TBs T base) : FnOk P w K mg base CX0 9 T.f_is_content T.fd_is_content ["plan", "place", "what"] (sp_is_contentI K T.C_Plan T.Ps) := by
  refine T.F_is_content.ok sc_is_content (fun vs H Q E h => ?_) (fun cdv A outer s H vs Q E hr h => ?_)
  · obtain ⟨_, _, _, _, _, _, _, _, rfl, _⟩ := h; rfl
  · obtain ⟨p, a, u, b, n, sl, q, w, rfl, hq, hw, hf, hP, ht, k⟩ := h
    have hr6 := hr.mono (show 6 ≤ 8 by decide)
    have hr4 := hr.mono (show 4 ≤ 8 by decide)
    rcases hw with hw | ⟨c, rfl, hw⟩
    · refine ⟨_, (pss_cons (ps_if (pt_cmpR op_eq (pe_ix ix_tup (pv 1) pe_int (fun _ _ => rfl)) pe_str (nomark _))
          (pss_one (ps_ret (pe_call (ok_is_cell_row T B) hr6 rfl T.mg_is_cell_row T.F_is_cell_row.kp (b_is_cell_row T) .nil pass0 (pa_cons (pv 2) pa_nil))))
          pss_nil)
        (pss_one (ps_ret (pe_and (pe_call (ok_is_record T B b sl) hr rfl T.mg_is_record T.F_is_record.kp (b_is_record T) .nil pass0 (pa_cons (pv 2) pa_nil)) (pe_one (pe_call (ok_fits_plan T B) hr4 rfl T.mg_fits_plan T.F_fits_plan.kp (b_fits_plan T) .nil pass0 (pa_cons (pv 2) (pa_cons (pv 0) pa_nil)))))))), ?_⟩
      have hw := hw.what hf
      cases q with
      | home i =>
        have hq : SqT K H a [.str "home", .int i] := hq
        obtain ⟨h1, h2, c, h3, h4⟩ := hw
        refine ⟨_, rfl, a, _, 0, .str "home", rfl, rfl, hq, rfl, rfl, _, rfl, iteT ?_⟩
        exact ⟨_, rfl, u, c, rfl, h3, h4, ht, k⟩
      | log i =>
        have hq : SqT K H a [.str "log", .int i] := hq
        obtain ⟨h1, h2, r, h3, h4⟩ := hw
        refine ⟨_, rfl, a, _, 0, .str "log", rfl, rfl, hq, rfl, rfl, _, rfl, iteF ?_⟩
        refine ⟨_, rfl, u, r, rfl, h3, h4, ht, fun H1 k1 => ⟨_, rfl, iteT ?_⟩⟩
        exact ⟨_, rfl, _, rfl, u, p, b, n, sl, r, rfl, h3.tk ht k1, h4, hP.tk ht k1, k1.tab, fun H2 k2 => k H2 (k1.trans k2)⟩
    · refine ⟨_, (pss_cons (ps_if (pt_cmpR op_eq (pe_ix ix_tup (pv 1) pe_int (fun _ _ => rfl)) pe_str (nomark _))
          (pss_one (ps_ret (pe_call (ok_is_cell_rowL T B) hr6 rfl T.mg_is_cell_row T.F_is_cell_row.kp (b_is_cell_row T) .nil pass0 (pa_cons (pv 2) pa_nil))))
          pss_nil)
        (pss_one (ps_ret (pe_and (pe_call (ok_is_record T B b sl) hr rfl T.mg_is_record T.F_is_record.kp (b_is_record T) .nil pass0 (pa_cons (pv 2) pa_nil)) (pe_one (pe_call (ok_fits_plan T B) hr4 rfl T.mg_fits_plan T.F_fits_plan.kp (b_fits_plan T) .nil pass0 (pa_cons (pv 2) (pa_cons (pv 0) pa_nil)))))))), ?_⟩
      cases q with
      | home i =>
        have hq : SqT K H a [.str "home", .int i] := hq
        refine ⟨_, rfl, a, _, 0, .str "home", rfl, rfl, hq, rfl, rfl, _, rfl, iteT ?_⟩
        exact ⟨_, rfl, u, c, rfl, hw, hf.2.2, ht, k⟩
      | log i => exact hf.elim
end
end K47
namespace K47
open PySem PySem.Spec PyProof.Rows L2 Rg
def dPlc : Plc → PyData
  | .home i => .tuple [.str "home", .int i]
  | .log i => .tuple [.str "log", .int i]
theorem dpPlc {K : PySem.W.Frag} {H : Hp} {a : Addr} {q : Plc} (h : PlcAt K H a q) : Dp K H (.ref a) (dPlc q) := by
  cases q with
  | home i => exact .tup h (.cons (.str _) (.cons (.int _) .nil))
  | log i => exact .tup h (.cons (.str _) (.cons (.int _) .nil))
theorem sh2 {z : Str} (hz : PyData.canLay0 (.str z) = true) (a : Int) : SeqAt.shaped (.tuple [.str z, .int a]) = true := by
  unfold SeqAt.shaped
  rw [Bool.and_eq_true]
  exact ⟨by show (PyData.canLay0 (.str z) && true) = true; rw [hz]; rfl, rfl⟩
theorem shPlc (q : Plc) : SeqAt.shaped (dPlc q) = true := by
  cases q with
  | home i => exact sh2 (by decide +kernel) i
  | log i => exact sh2 (by decide +kernel) i
theorem eqPlc (q r : Plc) : PyData.eqv (dPlc q) (dPlc r) = decide (q = r) := by
  have hl : ("home" : Str) ≠ "log" := by decide +kernel
  cases q with
  | home i =>
    cases r with
    | home j => simp [dPlc, PyData.eqv, PyData.eqvAll]; rfl
    | log j => simp [dPlc, PyData.eqv, PyData.eqvAll, hl]
  | log i =>
    cases r with
    | home j => simp [dPlc, PyData.eqv, PyData.eqvAll, hl.symm]
    | log j => simp [dPlc, PyData.eqv, PyData.eqvAll]; rfl
def taken (q : Plc) (ps : List Pw) : Bool := ps.any fun p => decide (p.q = q)
section
variable {K : PySem.W.Frag}
theorem op_eqDK {X : Cx} (hu : X.A.units + 64 < cLine) (hK : X.K = K := by rfl) : OpR X (compareOp .Eq) (rEqD K) := by
  subst hK
  exact op_eqD hu
end
section
variable {P : Program} {w : World} {K : PySem.W.Frag} {mg : Str → Option Value} {base : Heap}
def sp_busyG (CD CP : Addr) (K : PySem.W.Frag) (Ps : List Addr) : Sp := fun vs H Q _ => ∃ (d a : Addr) (A : DA) (b n s hd la : Int) (hs gs : List V) (ps : List Pw) (q : Plc), vs = [.ref d, .ref a] ∧ DAt CD CP H d A b n s hd la hs gs (pwK ps) ∧ PwsAt K H b s ps ∧ PlcAt K H a q ∧ Tab Ps H ∧ ∀ H', Tk Ps H H' → Q (.bl (taken q ps)) H'
theorem ok_busyG (T : Tx K mg) (B : TBs T base) : FnOk P w K mg base CX0 4 T.f_Disk_busy T.fd_Disk_busy ["self", "place"] (sp_busyG T.C_Disk T.C_Plan K T.Ps) := by
  refine fun_okC T.F_Disk_busy T.code_Disk_busy sc_Disk_busy (fun vs H Q E h => ?_) (fun A outer s H vs Q E hr h => ?_)
  · obtain ⟨_, _, _, _, _, _, _, _, _, _, _, _, rfl, _⟩ := h; rfl
  · obtain ⟨d, a, A, b, n, sl, hd, la, hs, gs, ps, q, rfl, D, hps, hq, ht, k⟩ := h
    refine ⟨_, (pss_one (ps_ret (pe_lock (GxL.pe_anyG (k := 0) (own := [("taken", 2), ("_", 3)]) (g := _) (tt := tYes) hr rfl T.b_any B.t_Disk_busy rfl (GxL.gsc_by (by decide +kernel)) (blkOk_by (N := ["self", "place", "taken", "_"]) (sc := defScope s_Disk_busy) (by decide +kernel)) sc_Disk_busy.nd (pi_values (pe_fld (pv 0) rfl))
      (fun _ _ _ _ _ => pg_tupK (K := K) (n := 2) rfl (pgs_cons (pg_name (i := 2) sc_Disk_busy.nd rfl (.inl rfl)) (pgs_cons (pg_name (i := 3) sc_Disk_busy.nd rfl (.inl rfl)) pgs_nil))) (fun _ _ _ _ _ _ => pts_nil) (fun _ _ _ _ _ hr2 => pe_cmpR (op_eqDK (K := K) hr2.units) (pv 1) (pv 2) (nomark _)))))), ?_⟩
    obtain ⟨dx, ho⟩ := D.ob
    have n1 : d ≠ A.pd := ne_of ho D.pd (by intro q; cases q)
    refine ⟨A.pd, _, D.pd, trivial, fun od => ?_⟩
    have t1 : Tab T.Ps (upd H A.pd (.frz od (.dK (pwK ps)))) := ht.upd D.pd (by intro _ q; cases q)
    refine ⟨_, rfl, d, _, _, _, _, rfl, by rw [upd_ne n1]; exact ho, T.cl_Disk, T.na_Disk__pending, rfl, A.pd, od, pwK ps, rfl, upd_same, t1 _ T.in_Disk_busy, fun H2 hT => ?_⟩
    have np : A.pd ≠ T.P_Disk_busy := ht.ne T.in_Disk_busy D.pd (by intro _ q; cases q)
    have tk2 := Tk.tabbed t1 T.in_Disk_busy hT
    have kp1 : ∀ {x : Addr} {o : HO}, H x = some o → x ≠ A.pd → (upd H A.pd (.frz od (.dK (pwK ps)))) x = some o := fun e z => by rw [upd_ne z]; exact e
    have fin : ∀ {H3 : Hp} {v : Bool}, Tk T.Ps (upd H A.pd (.frz od (.dK (pwK ps)))) H3 → v = taken q ps → H3 A.pd = some (.frz od (.dK (pwK ps))) ∧ Q (.bl v) (upd H3 A.pd (.dK (pwK ps))) := fun {H3 v} k3 ev => by
      have e3 := k3.at t1 upd_same
      refine ⟨e3, ?_⟩
      rw [ev]
      refine k _ ⟨k3.tab.upd e3 (by intro _ q; cases q), fun x o hx nx => ?_⟩
      by_cases z : x = A.pd
      · rw [z, upd_same, ← D.pd, ← z]
        exact hx
      · rw [upd_ne z]
        exact k3.kp x o (kp1 hx z) nx
    have lp : (pwK ps).length = ps.length := by unfold pwK; rw [List.length_map]
    refine gx_by ps.length (fun i H3 => Tk T.Ps (upd H A.pd (.frz od (.dK (pwK ps)))) H3 ∧ ∀ p ∈ ps.take i, ¬ p.q = q) ⟨tk2, by simp⟩ (fun i H3 hi x => ⟨x.1.at t1 upd_same, by rw [lp]; exact hi⟩) (fun H3 x => ⟨x.1.at t1 upd_same, by rw [lp]; exact Nat.le_refl _⟩) ?_ fun H3 x => ?_
    · rintro i x H3 H4 hi ⟨tk3, al⟩ ⟨rfl, kx, hk⟩
      have hk : (ps.map fun p => ((Sum.inl p.m : Key), V.ref p.t))[i]? = some (kx, x) := hk
      rw [List.getElem?_map] at hk
      obtain ⟨p, hp, ep⟩ := Option.map_eq_some_iff.mp hk
      cases ep
      have hm := List.mem_of_getElem? hp
      have pa := hps p hm
      have et := tk3.at t1 (kp1 pa.t (ne_of pa.t D.pd (by intro z; cases z)))
      have f1 : ∀ {b : Addr} {xs : List V}, SqT K H b xs → SqT K H4 b xs := fun {b xs} h => tk3.seqT t1 (by
        rcases h with (e | ⟨o, e⟩) | e
        · exact .inl (.inl (kp1 e (ne_of e D.pd (by intro z; cases z))))
        · exact .inl (.inr ⟨o, kp1 e (ne_of e D.pd (by intro z; cases z))⟩)
        · exact .inr e)
      refine ⟨p.t, _, rfl, .of et, rfl, _, _, rfl, _, _, rfl, rfl, rfl, yes_ ⟨_, rfl, _, rfl, _, _, dpPlc (hq.by fun _ _ => f1), dpPlc (pa.a.by fun _ _ => f1), shPlc _, shPlc _, _, rfl, ?_⟩⟩
      rw [eqPlc]
      by_cases e : q = p.q
      · rw [decide_eq_true e, if_neg (by decide)]
        refine fin tk3 ?_
        symm
        unfold taken
        exact List.any_eq_true.mpr ⟨p, hm, decide_eq_true e.symm⟩
      · rw [decide_eq_false e, if_pos rfl]
        refine ⟨tk3, fun y hy => ?_⟩
        rw [List.take_add_one, hp] at hy
        rcases List.mem_append.mp hy with z | z
        · exact al y z
        · have : y = p := by simpa using z
          rw [this]
          exact fun z => e z.symm
    · refine fin x.1 ?_
      symm
      unfold taken
      rw [List.any_eq_false]
      intro p hp
      rw [List.take_length] at x
      rw [decide_eq_false (x.2 p hp)]
      decide
end
end K47
namespace K47
open PySem PySem.Spec PyProof.Rows L2 Rg
section
variable {P : Program} {w : World} {K : PySem.W.Frag} {mg : Str → Option Value} {base : Heap}
theorem pwK_snoc (ps : List Pw) (p : Pw) : pwK ps ++ [(Sum.inl p.m, V.ref p.t)] = pwK (ps ++ [p]) := by unfold pwK; rw [List.map_append]; rfl
theorem PwOk.add {la : Int} {ps : List Pw} {p : Pw} (h : PwOk la ps) (em : p.m = la + 1) (hq : taken p.q ps = false) : PwOk (la + 1) (ps ++ [p]) := by
  refine ⟨?_, fun x hx => ?_, ?_⟩
  · rw [List.map_append, List.nodup_append]
    refine ⟨h.n, by simp, fun a ha b hb => ?_⟩
    obtain ⟨x, hx, rfl⟩ := List.mem_map.mp ha
    have : b = p.m := by simpa using hb
    have := h.le x hx
    omega
  · rcases List.mem_append.mp hx with z | z
    · have := h.le x z
      omega
    · rw [List.mem_singleton.mp z]
      omega
  · rw [List.map_append, List.nodup_append]
    refine ⟨h.q, by simp, fun a ha b hb e => ?_⟩
    obtain ⟨x, hx, rfl⟩ := List.mem_map.mp ha
    have eb : b = p.q := by simpa using hb
    unfold taken at hq
    have := List.any_eq_false.mp hq x hx
    exact this (decide_eq_true (e.trans eb))
/-- a good write to a place that is not busy -/
def sp_issueG (CD CP : Addr) (K : PySem.W.Frag) (Ps : List Addr) : Sp := fun vs H Q _ => ∃ (d a u : Addr) (A : DA) (b n s hd la : Int) (hs gs : List V) (ps : List Pw) (q : Plc) (w : Ct), vs = [.ref d, .ref a, .ref u] ∧ DAt CD CP H d A b n s hd la hs gs (pwK ps) ∧ PwsAt K H b s ps ∧ PwOk la ps ∧ ps.length < 1000 ∧ PlcAt K H a q ∧ CtIn K H u w ∧ CtFit b s q w ∧ taken q ps = false ∧ Tab Ps H ∧
  ∀ (H' : Hp) (t u' : Addr), Tab Ps H' → Kp (d :: A.pd :: Ps) H H' → (∀ b xs, SqT K H b xs → SqT K H' b xs) → DAt CD CP H' d A b n s hd (la + 1) hs gs (pwK (ps ++ [⟨la + 1, t, a, u', q, w⟩])) → PwsAt K H' b s (ps ++ [⟨la + 1, t, a, u', q, w⟩]) → PwOk (la + 1) (ps ++ [⟨la + 1, t, a, u', q, w⟩]) → ((∀ xs, H u ≠ some (.lst xs)) → u' = u) → H t = none → Q (.int (la + 1)) H'
theorem seqT_tk {Ps : List Addr} {H H1 : Hp} (ht : Tab Ps H) (k : Tk Ps H H1) {b : Addr} {xs : List V} (h : SqT K H b xs) : SqT K H1 b xs := k.seqT ht h
theorem ok_issueG (T : Tx K mg) (B : TBs T base) : FnOk P w K mg base CX0 10 T.f_Disk_issue T.fd_Disk_issue ["self", "place", "what"] (sp_issueG T.C_Disk T.C_Plan K T.Ps) := by
  refine T.F_Disk_issue.ok sc_Disk_issue (fun vs H Q E h => ?_) (fun cdv A outer s H vs Q E hr h => ?_)
  · obtain ⟨_, _, _, _, _, _, _, _, _, _, _, _, _, _, rfl, _⟩ := h; rfl
  · obtain ⟨d, a, u, A, b, n, sl, hd, la, hs, gs, ps, q, w, rfl, D, hps, ok, hlen, hq, hw, hf, nq, ht, k⟩ := h
    have hr2 := hr.mono (show 2 ≤ 9 by decide)
    have hr4 := hr.mono (show 4 ≤ 9 by decide)
    refine ⟨_, (pss_cons (ps_if (PW.pt (pw_or (pt_not (pt_val (pe_call (ok_is_place T) hr2 rfl T.mg_is_place T.F_is_place.kp (b_is_place T) .nil pass0 (pa_cons (pe_fld (pv 0) rfl) (pa_cons (pv 1) pa_nil))))) (pw_or1 (pt_not (pt_val (pe_call (ok_is_contentI T B) hr rfl T.mg_is_content T.F_is_content.kp (b_is_content T) .nil pass0 (pa_cons (pe_fld (pv 0) rfl) (pa_cons (pv 1) (pa_cons (pv 2) pa_nil)))))))))
        (pss_one ps_never)
        pss_nil)
      (pss_cons (ps_if (pt_val (pe_meth (pv 0) T.cl_Disk T.m_Disk_busy (ok_busyG T B) hr4 (b_Disk_busy T) .nil pass0 (pa_cons (pv 1) pa_nil)))
        (pss_one ps_never)
        pss_nil)
      (pss_cons (ps_fldaug (pv 0) pe_int in_add)
      (pss_cons (ps_dput (hu_of hr) (pe_fld (pv 0) rfl) (pe_fld (pv 0) rfl) (pe_tup (pa_cons (pv 1) (pa_cons (pe_tupleOf rfl T.b_tuple (pv 2)) pa_nil))) rfl)
      (pss_one (ps_ret (pe_fld (pv 0) rfl))))))), ?_⟩
    obtain ⟨dx, ho⟩ := D.ob
    refine ⟨_, rfl, d, _, _, _, _, rfl, ho, T.cl_Disk, T.na_Disk_plan, rfl, _, rfl, A.p, a, b, n, sl, q, rfl, hq, hf.rng, D.pl, _, rfl, iteF ?_⟩
    refine ⟨_, rfl, d, _, _, _, _, rfl, ho, T.cl_Disk, T.na_Disk_plan, rfl, _, rfl, _, rfl, A.p, a, u, b, n, sl, q, w, rfl, hq, hw, hf, D.pl, ht, fun H1 k1 => ⟨_, rfl, iteF ?_⟩⟩
    have D1 := D.tk ht k1
    have f1 : ∀ b xs, SqT K H b xs → SqT K H1 b xs := fun _ _ => seqT_tk ht k1
    have g1 : ∀ x xs, H x = some (.tup xs) → H1 x = some (.tup xs) := fun x xs e => k1.at ht e
    refine ⟨_, rfl, d, _, _, rfl, k1.at ht ho, rfl, _, rfl, d, a, A, b, n, sl, hd, la, hs, gs, ps, q, rfl, D1, hps.by f1 g1, hq.by f1, k1.tab, fun H2 k2 => ⟨_, rfl, ?_⟩⟩
    rw [nq]
    refine iteF ?_
    have D2 := D1.tk k1.tab k2
    have k12 := k1.trans k2
    have ho2 := k12.at ht ho
    refine ⟨_, rfl, d, _, _, _, _, rfl, ho2, T.cl_Disk, T.na_Disk_last, rfl, la, 1, rfl, rfl, _, _, ho2, by show 6 < 1000; decide, ?_⟩
    have D3 : DAt T.C_Disk T.C_Plan (upd H2 d (.ins T.C_Disk dx (dskF A hd (la + 1)))) d A b n sl hd (la + 1) hs gs (pwK ps) := D2.num hd (la + 1)
    have T3 : Tab T.Ps (upd H2 d (.ins T.C_Disk dx (dskF A hd (la + 1)))) := k12.tab.upd ho2 (by intro _ z; cases z)
    have K3 : Kp (d :: A.pd :: T.Ps) H (upd H2 d (.ins T.C_Disk dx (dskF A hd (la + 1)))) := fun x o hx nx => by
      rw [upd_ne fun z => nx (by simp [z])]
      exact k12.kp x o hx fun z => nx (by simp [z])
    have g3 : ∀ x o, H x = some o → x ≠ d → (∀ ps, o ≠ .tbl ps) → upd H2 d (.ins T.C_Disk dx (dskF A hd (la + 1))) x = some o := fun x o e z n => by
      rw [upd_ne z]
      exact k12.at ht e n
    have f3 : ∀ b xs, SqT K H b xs → SqT K (upd H2 d (.ins T.C_Disk dx (dskF A hd (la + 1)))) b xs := fun b xs h => by
      rcases seqT_tk ht k12 h with (e | ⟨o, e⟩) | e
      · exact .inl (.inl (by rw [upd_ne (ne_of e ho2 (by intro z; cases z))]; exact e))
      · exact .inl (.inr ⟨o, by rw [upd_ne (ne_of e ho2 (by intro z; cases z))]; exact e⟩)
      · exact .inr e
    have o3 := upd_same (H := H2) (a := d) (o := .ins T.C_Disk dx (dskF A hd (la + 1)))
    show tSeq _ _ _ _ (upd H2 d (.ins T.C_Disk dx (dskF A hd (la + 1))))
    have l3 : ∀ c, w = .cells c → H u = some (.lst (c.map V.int)) → upd H2 d (.ins T.C_Disk dx (dskF A hd (la + 1))) u = some (.lst (c.map V.int)) := fun c _ e => g3 u _ e (ne_of e ho (by intro z; cases z)) (by intro _ z; cases z)
    have tn : ∀ x xs, H x = some (.tup xs) → upd H2 d (.ins T.C_Disk dx (dskF A hd (la + 1))) x = some (.tup xs) := fun x xs e => g3 x _ e (ne_of e ho (by intro z; cases z)) (by intro _ z; cases z)
    generalize upd H2 d (.ins T.C_Disk dx (dskF A hd (la + 1))) = H3 at D3 T3 K3 f3 o3 l3 tn ⊢
    clear g3
    -- the tuple of the content
    have go : ∀ (H4 : Hp) (u' : Addr), Same H3 H4 → CtAt K H4 u' w → ((∀ xs, H u ≠ some (.lst xs)) → u' = u) → ∀ t, H4 t = none → ∀ H5, H5 = upd H4 t (.tup [.ref a, .ref u']) → Q (.int (la + 1)) (upd H5 A.pd (.dK (putK (pwK ps) (Sum.inl (la + 1)) (.ref t)))) ∧ H5 A.pd = some (.dK (pwK ps)) ∧ H5 d = some (.ins T.C_Disk dx (dskF A hd (la + 1))) := fun H4 u' s4 cu eu t nt H5 e5 => by
      have s5 : Same H3 H5 := by rw [e5]; exact s4.trans (same_upd nt)
      have s45 : Same H4 H5 := by rw [e5]; exact same_upd nt
      have et : H5 t = some (.tup [.ref a, .ref u']) := by rw [e5]; exact upd_same
      have D5 := D3.same s5
      have nn : ∀ p ∈ ps, p.m ≠ la + 1 := fun p hp z => by have := ok.le p hp; omega
      rw [putK_new _ (pwK_none nn)]
      have epk := pwK_snoc ps ⟨la + 1, t, a, u', q, w⟩
      have epk : pwK ps ++ [(Sum.inl (la + 1), V.ref t)] = pwK (ps ++ [⟨la + 1, t, a, u', q, w⟩]) := epk
      rw [epk]
      have nt3 := s4.free nt
      have ntH : H t = none := K3.free (fun z => by
        simp only [List.mem_cons] at z
        rcases z with z | z | z
        · rw [z, o3] at nt3; cases nt3
        · rw [z, D3.pd] at nt3; cases nt3
        · exact T3.ninN nt3 z) nt3
      have up : ∀ x o, H5 x = some o → (∀ kv, o ≠ .dK kv) → (upd H5 A.pd (.dK (pwK (ps ++ [⟨la + 1, t, a, u', q, w⟩])))) x = some o := fun x o e n => by
        rw [upd_ne (fun z => by rw [z, D5.pd] at e; exact n _ (Option.some.inj e).symm)]
        exact e
      have f6 : ∀ b xs, SqT K H5 b xs → SqT K (upd H5 A.pd (.dK (pwK (ps ++ [⟨la + 1, t, a, u', q, w⟩])))) b xs := fun b xs h => by
        rcases h with (e | ⟨o, e⟩) | e
        · exact .inl (.inl (up _ _ e (by intro _ z; cases z)))
        · exact .inl (.inr ⟨o, up _ _ e (by intro _ z; cases z)⟩)
        · exact .inr e
      have f5 : ∀ b xs, SqT K H b xs → SqT K (upd H5 A.pd (.dK (pwK (ps ++ [⟨la + 1, t, a, u', q, w⟩])))) b xs := fun b xs h => f6 _ _ (sameT s5 (f3 _ _ h))
      refine ⟨k _ t u' ((T3.same s5).upd D5.pd (by intro _ z; cases z)) ((K3.same s5).own (by simp)) f5 (D5.pend _) (fun p hp => ?_) (ok.add rfl nq) eu ntH, D5.pd, s5 _ _ o3⟩
      rcases List.mem_append.mp hp with z | z
      · exact (PwsAt.by (H1 := upd H5 A.pd (.dK (pwK (ps ++ [⟨la + 1, t, a, u', q, w⟩])))) hps f5 fun x xs e => up _ _ (s5 _ _ (tn _ _ e)) (by intro _ z; cases z)) p z
      · rw [List.mem_singleton.mp z]
        exact ⟨up _ _ et (by intro _ z; cases z), hq.by f5, (cu.by fun _ _ => sameT s45).by f6, hf⟩
    refine ⟨_, rfl, _, rfl, ?_⟩
    rcases hw with hw | ⟨c, rfl, hw⟩
    · obtain ⟨xs, hx⟩ := hw.tup
      refine .inr ⟨u, xs, rfl, f3 _ _ hx, by show 2 ≤ sizeLine; decide, fun t nt => ?_⟩
      obtain ⟨kq, e1, e2⟩ := go H3 u (Same.refl _) (hw.by f3) (fun _ => rfl) t nt _ rfl
      generalize upd H3 t (.tup [.ref a, .ref u]) = H5 at kq e1 e2 ⊢
      refine ⟨_, rfl, d, _, _, _, _, rfl, e2, T.cl_Disk, T.na_Disk__pending, rfl, _, rfl, d, _, _, _, _, rfl, e2, T.cl_Disk, T.na_Disk_last, rfl, A.pd, _, rfl, DPut.k (k := Sum.inl (la + 1)) e1 (lt_line (by unfold pwK; rw [List.length_map]; omega)), ?_⟩
      refine ⟨_, rfl, d, _, _, _, _, rfl, by rw [upd_ne (ne_of e2 e1 (by intro z; cases z))]; exact e2, T.cl_Disk, T.na_Disk_last, rfl, kq⟩
    · refine .inl ⟨u, c.map V.int, rfl, .of (l3 c rfl hw), fun r nr => ⟨by show 2 ≤ sizeLine; decide, fun t nt => ?_⟩⟩
      have cu : CtAt K (upd H3 r (.tup (c.map V.int))) r (.cells c) := SqT.of upd_same
      obtain ⟨kq, e1, e2⟩ := go (upd H3 r (.tup (c.map V.int))) r (same_upd nr) cu (fun z => absurd hw (z _)) t nt _ rfl
      generalize upd (upd H3 r (.tup (c.map V.int))) t (.tup [.ref a, .ref r]) = H5 at kq e1 e2 ⊢
      refine ⟨_, rfl, d, _, _, _, _, rfl, e2, T.cl_Disk, T.na_Disk__pending, rfl, _, rfl, d, _, _, _, _, rfl, e2, T.cl_Disk, T.na_Disk_last, rfl, A.pd, _, rfl, DPut.k (k := Sum.inl (la + 1)) e1 (lt_line (by unfold pwK; rw [List.length_map]; omega)), ?_⟩
      refine ⟨_, rfl, d, _, _, _, _, rfl, by rw [upd_ne (ne_of e2 e1 (by intro z; cases z))]; exact e2, T.cl_Disk, T.na_Disk_last, rfl, kq⟩
end
end K47
namespace K47
open PySem PySem.Spec PyProof.Rows L2 Rg
theorem PwOk.out {la : Int} {ps : List Pw} (h : PwOk la ps) (m : Int) : PwOk la (pwOut m ps) :=
  ⟨h.n.sublist (List.Sublist.map _ List.filter_sublist), fun p hp => h.le p (List.mem_filter.mp hp).1, h.q.sublist (List.Sublist.map _ List.filter_sublist)⟩
theorem PwsAt.out {K : PySem.W.Frag} {H : Hp} {b s : Int} {ps : List Pw} (h : PwsAt K H b s ps) (m : Int) : PwsAt K H b s (pwOut m ps) := fun p hp => h p (List.mem_filter.mp hp).1
/-- all pending writes put in their order -/
def putsH : List Pw → List V → List V
  | [], hs => hs
  | p :: ps, hs => putsH ps (putH p.q (.ref p.u) hs)
def putsG : List Pw → List V → List V
  | [], gs => gs
  | p :: ps, gs => putsG ps (putG p.q (.ref p.u) gs)
section
variable {P : Program} {w : World} {K : PySem.W.Frag} {mg : Str → Option Value} {base : Heap}
def sp_sureG (CD CP : Addr) (K : PySem.W.Frag) (Ps : List Addr) : Sp := fun vs H Q _ => ∃ (d : Addr) (p : Pw) (A : DA) (b n s hd la : Int) (hs gs : List V) (ps : List Pw), vs = [.ref d, .int p.m] ∧ DAt CD CP H d A b n s hd la hs gs (pwK ps) ∧ PwsAt K H b s ps ∧ PwOk la ps ∧ p ∈ ps ∧ Tab Ps H ∧
  ∀ H' : Hp, Tab Ps H' → Kp [A.pd, A.ho, A.lg] H H' → (∀ b xs, SqT K H b xs → SqT K H' b xs) → DAt CD CP H' d A b n s hd la (putH p.q (.ref p.u) hs) (putG p.q (.ref p.u) gs) (pwK (pwOut p.m ps)) → PwsAt K H' b s (pwOut p.m ps) → Q .non H'
theorem ok_sureG (T : Tx K mg) : FnOk P w K mg base CX0 2 T.f_Disk_sure T.fd_Disk_sure ["self", "number"] (sp_sureG T.C_Disk T.C_Plan K T.Ps) := by
  refine T.F_Disk_sure.ok sc_Disk_sure (fun vs H Q E h => ?_) (fun cdv A outer s H vs Q E hr h => ?_)
  · obtain ⟨_, _, _, _, _, _, _, _, _, _, _, rfl, _⟩ := h; rfl
  · obtain ⟨d, p, A, b, n, sl, hd, la, hs, gs, ps, rfl, D, hps, ok, hp, ht, k⟩ := h
    refine ⟨_, (pss_cons (ps_if (pt_cmp (pc_dnotin (hu_of hr) (pv 1) (pe_fld (pv 0) rfl)) rfl)
        (pss_one ps_never)
        pss_nil)
      (pss_cons (ps_asg (pe_dpop1 (pe_fld (pv 0) rfl) (pv 1) ⟨rfl, rfl, rfl, rfl⟩) (pg_tup rfl (pgs_cons (pg_name (i := 2) sc_Disk_sure.nd rfl (.inl rfl)) (pgs_cons (pg_name (i := 3) sc_Disk_sure.nd rfl (.inl rfl)) pgs_nil))))
      (pss_one (ps_expr (pe_meth (pv 0) T.cl_Disk T.m_Disk__put (ok_put T) hr (b_Disk__put T) .nil pass0 (pa_cons (pv 2) (pa_cons (pv 3) pa_nil))))))), ?_⟩
    obtain ⟨dx, ho⟩ := D.ob
    have ev := pwK_get ok.n hp
    have pa := hps p hp
    have ed := pwK_drop p.m ps
    refine ⟨_, rfl, _, rfl, d, _, _, _, _, rfl, ho, T.cl_Disk, T.na_Disk__pending, rfl, A.pd, some (.ref p.t), rfl, ?_, _, rfl, iteF ?_⟩
    · rw [← ev]
      exact DGet.k (k := Sum.inl p.m) D.pd
    refine ⟨_, rfl, d, _, _, _, _, rfl, ho, T.cl_Disk, T.na_Disk__pending, rfl, A.pd, rfl, .inl ⟨_, .inl D.pd⟩, _, rfl, _, Sum.inl p.m, .ref p.t, D.pd, rfl, ev, ?_⟩
    rw [ed]
    have D1 := D.pend (pwK (pwOut p.m ps))
    have nd : d ≠ A.pd := ne_of ho D.pd (by intro z; cases z)
    have up1 : ∀ x o, H x = some o → (∀ kv, o ≠ .dK kv) → upd H A.pd (.dK (pwK (pwOut p.m ps))) x = some o := fun x o e n => by
      rw [upd_ne (fun z => by rw [z, D.pd] at e; exact n _ (Option.some.inj e).symm)]
      exact e
    have f1 : ∀ b xs, SqT K H b xs → SqT K (upd H A.pd (.dK (pwK (pwOut p.m ps)))) b xs := fun b xs h => by
      rcases h with (e | ⟨o, e⟩) | e
      · exact .inl (.inl (up1 _ _ e (by intro _ z; cases z)))
      · exact .inl (.inr ⟨o, up1 _ _ e (by intro _ z; cases z)⟩)
      · exact .inr e
    have T1 : Tab T.Ps (upd H A.pd (.dK (pwK (pwOut p.m ps)))) := ht.upd D.pd (by intro _ z; cases z)
    have P1 := (hps.out p.m).by f1 fun x xs e => up1 x _ e (by intro _ z; cases z)
    have t1 := up1 _ _ pa.t (by intro _ z; cases z)
    have o1 := up1 _ _ ho (by intro _ z; cases z)
    have K1 : Kp [A.pd, A.ho, A.lg] H (upd H A.pd (.dK (pwK (pwOut p.m ps)))) := Kp.refl.own (by simp)
    generalize upd H A.pd (.dK (pwK (pwOut p.m ps))) = H1 at D1 f1 T1 P1 t1 o1 K1 ⊢
    refine ⟨p.t, _, rfl, .of t1, rfl, _, _, rfl, _, _, rfl, rfl, _, rfl, d, _, _, rfl, o1, rfl, _, rfl, _, rfl, d, p.a, _, A, b, n, sl, hd, la, hs, gs, pwK (pwOut p.m ps), p.q, rfl, D1, pa.a.by f1, ?_⟩
    have rg := pa.f.rng
    have fin : ∀ {x : Addr} {xs ys : List V}, x ∈ [A.ho, A.lg] → H1 x = some (.lst xs) → (D2 : DAt T.C_Disk T.C_Plan (upd H1 x (.lst ys)) d A b n sl hd la (putH p.q (.ref p.u) hs) (putG p.q (.ref p.u) gs) (pwK (pwOut p.m ps))) → Q .non (upd H1 x (.lst ys)) := fun {x xs ys} hx e D2 => by
      have up2 : ∀ y o, H1 y = some o → (∀ kv, o ≠ .lst kv) → upd H1 x (.lst ys) y = some o := fun y o e2 n => by
        rw [upd_ne (fun z => by rw [z, e] at e2; exact n _ (Option.some.inj e2).symm)]
        exact e2
      have f2 : ∀ b xs, SqT K H1 b xs → SqT K (upd H1 x (.lst ys)) b xs := fun b xs h => by
        rcases h with (e | ⟨o, e⟩) | e
        · exact .inl (.inl (up2 _ _ e (by intro _ z; cases z)))
        · exact .inl (.inr ⟨o, up2 _ _ e (by intro _ z; cases z)⟩)
        · exact .inr e
      refine k _ (T1.upd e (by intro _ z; cases z)) (K1.own ?_) (fun b xs h => f2 _ _ (f1 _ _ h)) D2 (P1.by f2 fun x xs e => up2 x _ e (by intro _ z; cases z))
      simp only [List.mem_cons, List.not_mem_nil, or_false] at hx ⊢
      exact .inr hx
    cases hq : p.q with
    | home i =>
      rw [hq] at rg fin
      exact ⟨rg.1, rg.2, fin (by simp) D1.ho (D1.setH i.toNat (.ref p.u))⟩
    | log i =>
      rw [hq] at rg fin
      exact ⟨rg.1, rg.2, fin (by simp) D1.lg (D1.setL i.toNat (.ref p.u))⟩
theorem pwOut_head {la : Int} {p : Pw} {ps : List Pw} (h : PwOk la (p :: ps)) : pwOut p.m (p :: ps) = ps := by
  unfold pwOut
  rw [List.filter_cons, if_neg (by simp), List.filter_eq_self]
  intro x hx
  have := (List.nodup_cons.mp (show (p.m :: ps.map (·.m)).Nodup from h.n)).1
  have : ¬ x.m = p.m := fun z => this (by rw [← z]; exact List.mem_map.mpr ⟨x, hx, rfl⟩)
  rw [decide_eq_false this]
  rfl
theorem PwOk.tail {la : Int} {p : Pw} {ps : List Pw} (h : PwOk la (p :: ps)) : PwOk la ps :=
  ⟨(List.nodup_cons.mp (show (p.m :: ps.map (·.m)).Nodup from h.n)).2, fun x hx => h.le x (by simp [hx]), (List.nodup_cons.mp (show (p.q :: ps.map (·.q)).Nodup from h.q)).2⟩
theorem putsH_snoc : ∀ (ps : List Pw) (p : Pw) (hs : List V), putsH (ps ++ [p]) hs = putH p.q (.ref p.u) (putsH ps hs)
  | [], _, _ => rfl
  | _ :: ps, p, _ => putsH_snoc ps p _
theorem putsG_snoc : ∀ (ps : List Pw) (p : Pw) (hs : List V), putsG (ps ++ [p]) hs = putG p.q (.ref p.u) (putsG ps hs)
  | [], _, _ => rfl
  | _ :: ps, p, _ => putsG_snoc ps p _
def sp_barrier (CD CP : Addr) (K : PySem.W.Frag) (Ps : List Addr) : Sp := fun vs H Q _ => ∃ (d : Addr) (A : DA) (b n s hd la : Int) (hs gs : List V) (ps : List Pw), vs = [.ref d] ∧ DAt CD CP H d A b n s hd la hs gs (pwK ps) ∧ PwsAt K H b s ps ∧ PwOk la ps ∧ ps.length < 1000 ∧ Tab Ps H ∧
  ∀ H' : Hp, Tab Ps H' → Kp [A.pd, A.ho, A.lg] H H' → (∀ b xs, SqT K H b xs → SqT K H' b xs) → DAt CD CP H' d A b n s hd la (putsH ps hs) (putsG ps gs) [] → Q .non H'
theorem ok_barrier (T : Tx K mg) : FnOk P w K mg base CX0 3 T.f_Disk_barrier T.fd_Disk_barrier ["self"] (sp_barrier T.C_Disk T.C_Plan K T.Ps) := by
  refine T.F_Disk_barrier.ok sc_Disk_barrier (fun vs H Q E h => ?_) (fun cdv A outer s H vs Q E hr h => ?_)
  · obtain ⟨_, _, _, _, _, _, _, _, _, _, rfl, _⟩ := h; rfl
  · obtain ⟨d, A, b, n, sl, hd, la, hs, gs, ps, rfl, D, hps, ok, hlen, ht, k⟩ := h
    refine ⟨_, (pss_one (ps_for PassesOwn.never rfl (pi_list (pe_callTy (call_listD rfl) rfl T.b_list (by decide +kernel) (pa_cons (pe_fld (pv 0) rfl) pa_nil))) (pg_name (i := 1) sc_Disk_barrier.nd rfl (.inl rfl))
        (pss_one (ps_expr (pe_meth (pv 0) T.cl_Disk T.m_Disk_sure (ok_sureG T) hr (b_Disk_sure T) .nil pass0 (pa_cons (pv 1) pa_nil)))))), ?_⟩
    obtain ⟨dx, ho⟩ := D.ob
    refine ⟨_, rfl, d, _, _, _, _, rfl, ho, T.cl_Disk, T.na_Disk__pending, rfl, A.pd, _, rfl, .of D.pd, ?_⟩
    (intro l n_l; generalize he_l : upd _ l _ = H1; obtain ⟨e_l, s_l, f_l⟩ := new_f he_l n_l; clear he_l)
    have el : (pwK ps).map (fun kv => kV kv.1) = ps.map fun p => V.int p.m := by unfold pwK; rw [List.map_map]; rfl
    rw [el] at e_l
    have ht1 := ht.same s_l
    refine ⟨l, rfl, ⟨_, .of e_l⟩, ?_⟩
    refine for_list (K := K) (a := l) (xs := ps.map fun p => V.int p.m) (fun i σ H' => ∃ v1 : Option V, σ = [some (.ref d), v1] ∧ Tab T.Ps H' ∧ Kp [A.pd, A.ho, A.lg] H1 H' ∧ (∀ b xs, SqT K H b xs → SqT K H' b xs) ∧ DAt T.C_Disk T.C_Plan H' d A b n sl hd la (putsH (ps.take i) hs) (putsG (ps.take i) gs) (pwK (ps.drop i)) ∧ PwsAt K H' b sl (ps.drop i) ∧ PwOk la (ps.drop i)) ⟨none, rfl, ht1, Kp.refl, fun _ _ h => sameT s_l h, D.same s_l, hps.by (fun _ _ h => sameT s_l h) (fun _ _ e => s_l _ _ e), ok⟩ (fun i σ H' _ ⟨_, _, _, k', _⟩ => .of (k' _ _ e_l ?_)) ?_ ?_
    · have n1 := (ne_of_none D.pd n_l).symm
      have n2 := (ne_of_none D.ho n_l).symm
      have n3 := (ne_of_none D.lg n_l).symm
      simp [n1, n2, n3]
    · rintro i y σ H2 hi ⟨v1, rfl, t2, k2, f2, D2, P2, O2⟩
      rw [List.getElem?_map] at hi
      obtain ⟨p, hp, rfl⟩ := Option.map_eq_some_iff.mp hi
      obtain ⟨hl, eg⟩ := List.getElem?_eq_some_iff.mp hp
      have edr : ps.drop i = p :: ps.drop (i + 1) := by rw [List.drop_eq_getElem_cons hl, eg]
      rw [edr] at D2 P2 O2
      obtain ⟨dx2, ho2⟩ := D2.ob
      ((try dsimp only); (first | (refine Rg.sg (σ' := [some (.ref d), some (.int p.m)]) ?_ ?_; focus exact rfl) | (refine Rg.sgG (σ' := [some (.ref d), some (.int p.m)]) ?_ ?_; focus exact rfl)))
      refine ⟨_, rfl, d, _, _, rfl, ho2, rfl, _, rfl, d, p, A, b, n, sl, hd, la, _, _, _, rfl, D2, P2, O2, by simp, t2, fun H3 t3 k3 f3 D3 P3 => ?_⟩
      rw [pwOut_head O2] at D3 P3
      rw [← putsH_snoc, ← putsG_snoc, ← take_getG hp] at D3
      exact ⟨_, rfl, t3, k2.trans k3, fun b xs h => f3 _ _ (f2 _ _ h), D3, P3, O2.tail⟩
    · rintro σ H2 ⟨v1, rfl, t2, k2, f2, D2, P2, O2⟩
      rw [List.length_map, List.take_length, List.drop_length] at D2
      exact k H2 t2 ((Kp.of s_l).trans k2) f2 D2
end
end K47
namespace K47
open PySem PySem.Spec PyProof.Rows L2 Rg
/-! ### two values that read alike -/
def flatE (x y : V) : Prop := x = y ∧ (x = .non ∨ (∃ b, x = .bl b) ∨ (∃ i, x = .int i) ∨ ∃ z, x = .str z)
def Sm (K : PySem.W.Frag) (H : Hp) : Nat → V → V → Prop
  | 0, x, y => flatE x y
  | n + 1, x, y => flatE x y ∨ ∃ a b xs ys, x = .ref a ∧ y = .ref b ∧ ((H a = some (.lst xs) ∧ H b = some (.lst ys)) ∨ (SqT K H a xs ∧ SqT K H b ys)) ∧ xs.length = ys.length ∧ ys.length < 1000 ∧ ∀ (i : Nat) (x y : V), xs[i]? = some x → ys[i]? = some y → Sm K H n x y
theorem Sm.same {K : PySem.W.Frag} {H H' : Hp} (s : Same H H') : ∀ {n : Nat} {x y : V}, Sm K H n x y → Sm K H' n x y
  | 0, _, _, h => h
  | n + 1, _, _, h => by
    rcases h with h | ⟨a, b, xs, ys, e1, e2, e3, e4, e5, e6⟩
    · exact .inl h
    · refine .inr ⟨a, b, xs, ys, e1, e2, ?_, e4, e5, fun i x y h1 h2 => Sm.same s (e6 i x y h1 h2)⟩
      rcases e3 with ⟨p, q⟩ | ⟨p, q⟩
      · exact .inl ⟨s _ _ p, s _ _ q⟩
      · exact .inr ⟨sameT s p, sameT s q⟩
theorem Sm.up {K : PySem.W.Frag} {H : Hp} : ∀ {n : Nat} {x y : V}, Sm K H n x y → Sm K H (n + 1) x y
  | 0, _, _, h => .inl h
  | n + 1, _, _, h => by
    rcases h with h | ⟨a, b, xs, ys, e1, e2, e3, e4, e5, e6⟩
    · exact .inl h
    · exact .inr ⟨a, b, xs, ys, e1, e2, e3, e4, e5, fun i x y h1 h2 => (e6 i x y h1 h2).up⟩
theorem Sm.flat {K : PySem.W.Frag} {H : Hp} {n : Nat} {x y : V} (h : flatE x y) : Sm K H n x y := by
  cases n with
  | zero => exact h
  | succ n => exact .inl h
theorem Sm.int {K : PySem.W.Frag} {H : Hp} {n : Nat} {i : Int} : Sm K H n (.int i) (.int i) := Sm.flat ⟨rfl, .inr (.inr (.inl ⟨i, rfl⟩))⟩
/-- x is True, x is False -/
theorem op_isB {X : Cx} (c : Bool) : OpR X (compareOp .Is) (fun x y H Q => y = .bl c ∧ Q (.bl (decide (x = .bl c))) H) := by
  intro pins s σ H x y v u Q I rx ry h
  obtain ⟨rfl, q⟩ := h
  cases ry
  cases x with
  | bl b =>
    cases rx
    by_cases e : b = c
    · subst e
      refine wpAny_is_self rfl ⟨.bl true, H, I, rfl, ?_⟩
      rw [decide_eq_true rfl] at q
      exact q
    · refine wpAny_is_other rfl (fun z => e (by injection z)) ⟨.bl false, H, I, rfl, ?_⟩
      rw [decide_eq_false (fun z => e (by injection z))] at q
      exact q
  | non => cases rx; exact wpAny_is_other rfl (fun z => nomatch z) ⟨.bl false, H, I, rfl, q⟩
  | int i => obtain ⟨t, rfl⟩ := rx; exact wpAny_is_other rfl (fun z => nomatch z) ⟨.bl false, H, I, rfl, q⟩
  | str i => obtain ⟨t, rfl⟩ := rx; exact wpAny_is_other rfl (fun z => nomatch z) ⟨.bl false, H, I, rfl, q⟩
  | byt i => obtain ⟨t, rfl⟩ := rx; exact wpAny_is_other rfl (fun z => nomatch z) ⟨.bl false, H, I, rfl, q⟩
  | flt i => obtain ⟨t, rfl⟩ := rx; exact wpAny_is_other rfl (fun z => nomatch z) ⟨.bl false, H, I, rfl, q⟩
  | ref i => cases rx; exact wpAny_is_other rfl (fun z => nomatch z) ⟨.bl false, H, I, rfl, q⟩
  | ty i => cases rx; exact wpAny_is_other rfl (fun z => nomatch z) ⟨.bl false, H, I, rfl, q⟩
theorem Sm.inv {K : PySem.W.Frag} {H : Hp} {n : Nat} {x y : V} (h : Sm K H n x y) : flatE x y ∨ ∃ m a b xs ys, n = m + 1 ∧ x = .ref a ∧ y = .ref b ∧ ((H a = some (.lst xs) ∧ H b = some (.lst ys)) ∨ (SqT K H a xs ∧ SqT K H b ys)) ∧ xs.length = ys.length ∧ ys.length < 1000 ∧ ∀ (i : Nat) (x y : V), xs[i]? = some x → ys[i]? = some y → Sm K H m x y := by
  cases n with
  | zero => exact .inl h
  | succ m =>
    rcases h with h | ⟨a, b, xs, ys, e⟩
    · exact .inl h
    · exact .inr ⟨m, a, b, xs, ys, rfl, e⟩
section
variable {P : Program} {w : World} {K : PySem.W.Frag} {mg : Str → Option Value} {base : Heap}
def sp_Lsame (K : PySem.W.Frag) (n : Nat) : Sp := fun vs H Q _ => ∃ x y, vs = [x, y] ∧ Sm K H n x y ∧ ∀ H', Same H H' → Q (.bl true) H'
/-- the body, its own call given -/
theorem ok_Lsame_step (T : Tx K mg) (n : Nat) (sp0 : Sp) (F0 : FnOk P w K mg base CX0 (n + 1) T.f_Lsame T.fd_Lsame ["_law_actual", "_law_due"] sp0) (hsp : ∀ (x y : V) (H : Hp) (Q : VK) (E : XK), (∃ m, n = m + 1 ∧ Sm K H m x y) → (∀ H', Same H H' → Q (.bl true) H') → sp0 [x, y] H Q E) : FnOk P w K mg base CX0 (n + 2) T.f_Lsame T.fd_Lsame ["_law_actual", "_law_due"] (sp_Lsame K n) := by
  refine T.F_Lsame.ok sc_Lsame (fun vs H Q E h => ?_) (fun cdv A outer s H vs Q E hr h => ?_)
  · obtain ⟨_, _, rfl, _⟩ := h; rfl
  · obtain ⟨x, y, rfl, hS, k⟩ := h
    refine ⟨_, (pss_cons (ps_if (PW.pt (pw_or (pt_cmpR op_isN (pv 1) pe_non (nomark _)) (pw_or (pt_cmpR (op_isB true) (pv 1) pe_bl (nomark _)) (pw_or1 (pt_cmpR (op_isB false) (pv 1) pe_bl (nomark _))))))
        (pss_one (ps_ret (pe_or (pe_and (pe_cmpR op_isN (pv 0) pe_non (nomark _)) (pe_one (pe_cmpR op_isN (pv 1) pe_non (nomark _)))) (pe_or (pe_and (pe_cmpR (op_isB true) (pv 0) pe_bl (nomark _)) (pe_one (pe_cmpR (op_isB true) (pv 1) pe_bl (nomark _)))) (pe_one (pe_and (pe_cmpR (op_isB false) (pv 0) pe_bl (nomark _)) (pe_one (pe_cmpR (op_isB false) (pv 1) pe_bl (nomark _)))))))))
        pss_nil)
      (pss_cons (ps_if (pt_val (pe_callB call_isi rfl T.b_isinstance (by decide +kernel) (pa_cons (pv 1) (pa_cons (pe_bltn (v := .ty "int") rfl T.b_int (by decide +kernel) rfl) pa_nil))))
        (pss_one (ps_ret (pe_and (pe_callB call_isi rfl T.b_isinstance (by decide +kernel) (pa_cons (pv 0) (pa_cons (pe_bltn (v := .ty "int") rfl T.b_int (by decide +kernel) rfl) pa_nil))) (pe_and (pe_not (pe_callB call_isi rfl T.b_isinstance (by decide +kernel) (pa_cons (pv 0) (pa_cons (pe_bltn (v := .ty "bool") rfl T.b_bool (by decide +kernel) rfl) pa_nil)))) (pe_one (pe_cmpR op_eq (pv 0) (pv 1) (nomark _)))))))
        pss_nil)
      (pss_cons (ps_if (pt_val (pe_callB call_isi rfl T.b_isinstance (by decide +kernel) (pa_cons (pv 1) (pa_cons (pe_bltn (v := .ty "str") rfl T.b_str (by decide +kernel) rfl) pa_nil))))
        (pss_one (ps_ret (pe_and (pe_callB call_isi rfl T.b_isinstance (by decide +kernel) (pa_cons (pv 0) (pa_cons (pe_bltn (v := .ty "str") rfl T.b_str (by decide +kernel) rfl) pa_nil))) (pe_one (pe_cmpR op_eq (pv 0) (pv 1) (nomark _))))))
        pss_nil)
      (pss_cons (ps_if (PW.pt (pw_and (pt_val (pe_callB call_isi rfl T.b_isinstance (by decide +kernel) (pa_cons (pv 1) (pa_cons (pe_bltn (v := .ty "tuple") rfl T.b_tuple (by decide +kernel) rfl) pa_nil)))) (pw_and1 (pt_not (pt_val (pe_callB call_isi rfl T.b_isinstance (by decide +kernel) (pa_cons (pv 0) (pa_cons (pe_bltn (v := .ty "tuple") rfl T.b_tuple (by decide +kernel) rfl) pa_nil))))))))
        (pss_one (ps_ret pe_bl))
        pss_nil)
      (pss_cons (ps_if (PW.pt (pw_and (pt_val (pe_callB call_isi rfl T.b_isinstance (by decide +kernel) (pa_cons (pv 1) (pa_cons (pe_bltn (v := .ty "list") rfl T.b_list (by decide +kernel) rfl) pa_nil)))) (pw_and1 (pt_not (pt_val (pe_callB call_isi rfl T.b_isinstance (by decide +kernel) (pa_cons (pv 0) (pa_cons (pe_bltn (v := .ty "list") rfl T.b_list (by decide +kernel) rfl) pa_nil))))))))
        (pss_one (ps_ret pe_bl))
        pss_nil)
      (pss_cons (ps_if (PW.pt (pw_or (pt_not (pt_val (pe_callB call_isiT rfl T.b_isinstance (by decide +kernel) (pa_cons (pv 0) (pa_cons (pe_tup (pa_cons (pe_bltn (v := .ty "tuple") rfl T.b_tuple (by decide +kernel) rfl) (pa_cons (pe_bltn (v := .ty "list") rfl T.b_list (by decide +kernel) rfl) pa_nil))) pa_nil))))) (pw_or1 (pt_cmpR op_ne (pe_callB call_len_seq rfl T.b_len (by decide +kernel) (pa_cons (pv 0) pa_nil)) (pe_callB call_len_seq rfl T.b_len (by decide +kernel) (pa_cons (pv 1) pa_nil)) (nomark _)))))
        (pss_one (ps_ret pe_bl))
        pss_nil)
      (pss_cons (ps_for PassesOwn.never rfl (pi_range1 rfl T.b_range (pa_cons (pe_callB call_len_seq rfl T.b_len (by decide +kernel) (pa_cons (pv 1) pa_nil)) pa_nil)) (pg_name (i := 2) sc_Lsame.nd rfl (.inl rfl))
        (pss_one (ps_if (pt_not (pt_val (pe_call F0 hr rfl T.mg_Lsame T.F_Lsame.kp (b_Lsame T) .nil pass0 (pa_cons (pe_ix (IxR.or ix_list ix_tup) (pv 0) (pv 2) (fun _ _ => rfl)) (pa_cons (pe_ix (IxR.or ix_list ix_tup) (pv 1) (pv 2) (fun _ _ => rfl)) pa_nil)))))
          (pss_one (ps_ret pe_bl))
          pss_nil)))
      (pss_one (ps_ret pe_bl))))))))), ?_⟩
    rcases hS.inv with hf | ⟨m, a, b, xs, ys, rfl, rfl, rfl, e3, e4, e5, e6⟩
    · obtain ⟨rfl, hf⟩ := hf
      rcases hf with rfl | ⟨b, rfl⟩ | ⟨i, rfl⟩ | ⟨z, rfl⟩
      · exact ⟨_, rfl, rfl, _, rfl, iteT ⟨_, rfl, rfl, _, rfl, iteT ⟨_, rfl, rfl, _, rfl, iteT (k H (Same.refl _))⟩⟩⟩
      · cases b with
        | true => exact ⟨_, rfl, rfl, _, rfl, iteF ⟨_, rfl, rfl, _, rfl, iteT ⟨_, rfl, rfl, _, rfl, iteF ⟨_, rfl, iteF ⟨_, rfl, rfl, _, rfl, iteT ⟨_, rfl, rfl, _, rfl, iteT (k H (Same.refl _))⟩⟩⟩⟩⟩⟩
        | false => exact ⟨_, rfl, rfl, _, rfl, iteF ⟨_, rfl, rfl, _, rfl, iteF ⟨_, rfl, rfl, _, rfl, iteT ⟨_, rfl, rfl, _, rfl, iteF ⟨_, rfl, iteF ⟨_, rfl, rfl, _, rfl, iteF ⟨_, rfl, iteF ⟨_, rfl, rfl, _, rfl, iteT ⟨_, rfl, rfl, k H (Same.refl _)⟩⟩⟩⟩⟩⟩⟩⟩⟩
      · refine ⟨_, rfl, rfl, _, rfl, iteF ⟨_, rfl, rfl, _, rfl, iteF ⟨_, rfl, rfl, _, rfl, iteF ⟨_, rfl, _, _, _, _, true, rfl, .ty _, .base (.int _), kit_ty (by decide +kernel), _, rfl, iteT ⟨_, rfl, _, _, _, _, true, rfl, .ty _, .base (.int _), kit_ty (by decide +kernel), _, rfl, iteT ⟨_, rfl, _, _, _, _, false, rfl, .ty _, .base (.int _), kit_ty (by decide +kernel), _, rfl, _, rfl, iteT ⟨_, rfl, _, rfl, rfl, ?_⟩⟩⟩⟩⟩⟩⟩
        rw [decide_eq_true rfl]
        exact k H (Same.refl _)
      · refine ⟨_, rfl, rfl, _, rfl, iteF ⟨_, rfl, rfl, _, rfl, iteF ⟨_, rfl, rfl, _, rfl, iteF ⟨_, rfl, _, _, _, _, false, rfl, .ty _, .base (.str _), kit_ty (by decide +kernel), _, rfl, iteF ⟨_, rfl, _, _, _, _, true, rfl, .ty _, .base (.str _), kit_ty (by decide +kernel), _, rfl, iteT ⟨_, rfl, _, _, _, _, true, rfl, .ty _, .base (.str _), kit_ty (by decide +kernel), _, rfl, iteT ⟨_, rfl, _, rfl, rfl, ?_⟩⟩⟩⟩⟩⟩⟩
        rw [decide_eq_true rfl]
        exact k H (Same.refl _)
    · -- what stands behind the looks at the kinds
      have tail : ∀ (H0 : Hp), Same H H0 → ((H0 a = some (.lst xs) ∧ H0 b = some (.lst ys)) ∨ (SqT K H0 a xs ∧ SqT K H0 b ys)) → (SqL K H0 a xs ∨ SqT K H0 a xs) ∧ (SqL K H0 b ys ∨ SqT K H0 b ys) := fun H0 _ e => by
        rcases e with ⟨p, q⟩ | ⟨p, q⟩
        · exact ⟨.inl (.of p), .inl (.of q)⟩
        · exact ⟨.inr p, .inr q⟩
      have kp : ∀ (H0 : Hp), Same H H0 → ((H0 a = some (.lst xs) ∧ H0 b = some (.lst ys)) ∨ (SqT K H0 a xs ∧ SqT K H0 b ys)) := fun H0 s0 => by
        rcases e3 with ⟨p, q⟩ | ⟨p, q⟩
        · exact .inl ⟨s0 _ _ p, s0 _ _ q⟩
        · exact .inr ⟨sameT s0 p, sameT s0 q⟩
      refine ⟨_, rfl, rfl, _, rfl, iteF ⟨_, rfl, rfl, _, rfl, iteF ⟨_, rfl, rfl, _, rfl, iteF ?_⟩⟩⟩
      rcases e3 with ⟨p, q⟩ | ⟨p, q⟩
      rotate_left
      refine ⟨_, rfl, _, _, _, _, false, rfl, .ty _, tyT q, kit_ty (by decide +kernel), _, rfl, iteF ⟨_, rfl, _, _, _, _, false, rfl, .ty _, tyT q, kit_ty (by decide +kernel), _, rfl, iteF ⟨_, rfl, _, _, _, _, true, rfl, .ty _, tyT q, kit_ty (by decide +kernel), _, rfl, iteT ⟨_, rfl, _, _, _, _, true, rfl, .ty _, tyT p, kit_ty (by decide +kernel), _, rfl, iteF ⟨_, rfl, _, _, _, _, false, rfl, .ty _, tyT q, kit_ty (by decide +kernel), _, rfl, iteF ?_⟩⟩⟩⟩⟩
      refine ⟨_, rfl, (by show 2 ≤ sizeLine; decide), fun t nt => ?_⟩
      have st := same_upd (o := .tup [.ty "tuple", .ty "list"]) nt
      refine ⟨_, t, _, _, _, true, rfl, upd_same, .cons (.ty _) (.cons (.ty _) .nil), tyT (sameT st p), kitAny_cons (b := true) (kit_ty (by decide +kernel)) (fun z => by cases z) (fun _ => rfl), _, rfl, iteF ?_⟩
      rotate_left
      refine ⟨_, rfl, _, _, _, _, false, rfl, .ty _, .base (.lst q), kit_ty (by decide +kernel), _, rfl, iteF ⟨_, rfl, _, _, _, _, false, rfl, .ty _, .base (.lst q), kit_ty (by decide +kernel), _, rfl, iteF ⟨_, rfl, _, _, _, _, false, rfl, .ty _, .base (.lst q), kit_ty (by decide +kernel), _, rfl, iteF ⟨_, rfl, _, _, _, _, true, rfl, .ty _, .base (.lst q), kit_ty (by decide +kernel), _, rfl, iteT ⟨_, rfl, _, _, _, _, true, rfl, .ty _, .base (.lst p), kit_ty (by decide +kernel), _, rfl, iteF ?_⟩⟩⟩⟩⟩
      refine ⟨_, rfl, (by show 2 ≤ sizeLine; decide), fun t nt => ?_⟩
      have st := same_upd (o := .tup [.ty "tuple", .ty "list"]) nt
      refine ⟨_, t, _, _, _, true, rfl, upd_same, .cons (.ty _) (.cons (.ty _) .nil), .base (.lst (st _ _ p)), kitAny_cons (b := false) (kit_ty (by decide +kernel)) (fun _ => kitAny_cons (b := true) (kit_ty (by decide +kernel)) (fun z => by cases z) (fun _ => rfl)) (fun z => by cases z), _, rfl, iteF ?_⟩
      all_goals
        have sq := tail _ st (kp _ st)
        refine ⟨_, rfl, a, _, rfl, sq.1, _, rfl, b, _, rfl, sq.2, rfl, _, rfl, ?_⟩
        rw [dec_iv, e4, decide_eq_true rfl]
        refine iteF ⟨_, rfl, b, _, rfl, sq.2, _, rfl, by omega, by omega, for_range (lo := 0) (n := ((ys.length : Int)).toNat) (fun i σ H' => ∃ u2 : Option V, σ = [some (.ref a), some (.ref b), u2] ∧ Same H H') ⟨_, rfl, st⟩ ?_ ?_⟩
        · rintro i σ H' hi ⟨u2, rfl, s2⟩
          have hiy : i < ys.length := by omega
          have hix : i < xs.length := by omega
          have ez : (0 : Int) + (i : Int) = (i : Int) := by omega
          rw [ez]
          have ax : atI xs (i : Int) = some xs[i] := atI_nat (List.getElem?_eq_getElem hix)
          have ay : atI ys (i : Int) = some ys[i] := atI_nat (List.getElem?_eq_getElem hiy)
          have ke := kp _ s2
          have call := hsp xs[i] ys[i] H'
          have sm := Sm.same s2 (e6 i _ _ (List.getElem?_eq_getElem hix) (List.getElem?_eq_getElem hiy))
          rcases ke with ⟨p', q'⟩ | ⟨p', q'⟩
          · exact ⟨_, rfl, _, rfl, .inl ⟨a, _, _, _, rfl, rfl, .of p', ax, _, rfl, _, rfl, .inl ⟨b, _, _, _, rfl, rfl, .of q', ay, call _ _ ⟨m, rfl, sm⟩ fun H3 s3 => ⟨_, rfl, iteF ⟨_, rfl, s2.trans s3⟩⟩⟩⟩⟩
          · exact ⟨_, rfl, _, rfl, .inr ⟨a, _, _, _, rfl, rfl, p', ax, _, rfl, _, rfl, .inr ⟨b, _, _, _, rfl, rfl, q', ay, call _ _ ⟨m, rfl, sm⟩ fun H3 s3 => ⟨_, rfl, iteF ⟨_, rfl, s2.trans s3⟩⟩⟩⟩⟩
        · rintro σ H' ⟨u2, rfl, s2⟩
          exact k H' s2
/-- the law's own comparison, of values that read alike down to n -/
theorem ok_Lsame (T : Tx K mg) : ∀ n, FnOk P w K mg base CX0 (n + 2) T.f_Lsame T.fd_Lsame ["_law_actual", "_law_due"] (sp_Lsame K n)
  | 0 => by
    refine ok_Lsame_step T 0 (fun _ _ _ _ => False) ⟨fun _ _ _ _ h => h.elim, fun _ _ _ _ _ _ _ _ _ _ _ _ _ h => h.elim⟩ ?_
    rintro x y H Q E ⟨m, e, _⟩
    omega
  | n + 1 => ok_Lsame_step T (n + 1) (sp_Lsame K n) (ok_Lsame T n) fun x y H Q E ⟨m, e, sm⟩ k => ⟨x, y, rfl, by cases e; exact sm, k⟩
end
end K47
namespace K47
open PySem PySem.Spec PyProof.Rows L2 Rg
section
variable {P : Program} {w : World} {K : PySem.W.Frag} {mg : Str → Option Value} {base : Heap}
def sp_Lmarks (K : PySem.W.Frag) : Sp := fun vs H Q _ => ∃ (lq : Addr) (hd b s M : Int) (lg : LogL) (ds : List (Nat × Addr)), vs = [.ref lq, .int hd] ∧ H lq = some (.lst (lg.map gV)) ∧ lg.length = 30 ∧ LogAt K H b s M lg ∧ Due lg (hd + 1) ds ∧ ds.length ≤ 39 ∧
  ∀ (H' : Hp) (q : Addr) (ts : List Addr), Same H H' → H q = none → H' q = some (.lst (ts.map V.ref)) → MksAt H' ts ds → Q (.ref q) H'
theorem ok_Lmarks (T : Tx K mg) : FnOk P w K mg base CX0 1 T.f_Lmarks T.fd_Lmarks ["_law_log", "_law_head"] (sp_Lmarks K) := by
  refine T.F_Lmarks.ok sc_Lmarks (fun vs H Q E h => ?_) (fun cdv A outer s H vs Q E hr h => ?_)
  · obtain ⟨_, _, _, _, _, _, _, rfl, _⟩ := h; rfl
  · obtain ⟨lq, hd, b, sl, M, lg, ds, rfl, hq, hl, hL, hD, h39, k⟩ := h
    refine ⟨_, (pss_cons (ps_set (i := 2) sc_Lmarks.nd rfl (.inl rfl) (pe_lst pa_nil))
      (pss_cons (ps_for PassesOwn.never rfl (pi_range1 rfl T.b_range (pa_cons pe_int pa_nil)) (pg_name (i := 3) sc_Lmarks.nd rfl (.inl rfl))
        (pss_cons (ps_set (i := 4) sc_Lmarks.nd rfl (.inl rfl) (pe_lst pa_nil))
        (pss_cons (ps_for PassesOwn.never rfl (pi_range1 rfl T.b_range (pa_cons pe_int pa_nil)) (pg_name (i := 5) sc_Lmarks.nd rfl (.inl rfl))
          (pss_one (ps_if (PW.pt (pw_and (pt_cmpR op_notN (pe_ix ix_list (pv 0) (pv 5) (fun _ _ => rfl)) pe_non (nomark _)) (pw_and (pt_cmpR op_eq (pe_ix ix_tup (pe_ix ix_list (pv 0) (pv 5) (fun _ _ => rfl)) pe_int (fun _ _ => rfl)) pe_str (nomark _)) (pw_and1 (pt_cmpR op_eq (pe_ix ix_tup (pe_ix ix_list (pv 0) (pv 5) (fun _ _ => rfl)) pe_int (fun _ _ => rfl)) (pe_op op_add (pe_op op_add (pv 1) pe_int) (pv 3)) (nomark _))))))
            (pss_one (ps_expr (pe_bm PySem.F.plainAttrs_list PySem.F.slot_list_append PySem.F.type_list_append mt_append (pv 4) (pa_cons (pv 5) pa_nil))))
            pss_nil)))
        (pss_cons (ps_if (pt_cmpR op_eq (pe_callB call_len_seq rfl T.b_len (by decide +kernel) (pa_cons (pv 4) pa_nil)) pe_int (nomark _))
          (pss_one (ps_ret (pv 2)))
          pss_nil)
        (pss_one (ps_expr (pe_bm PySem.F.plainAttrs_list PySem.F.slot_list_append PySem.F.type_list_append mt_append (pv 2) (pa_cons (pe_tup (pa_cons (pe_ix ix_list (pv 4) pe_int (fun _ _ => rfl)) (pa_cons (pe_ix ix_list (pv 0) (pe_ix ix_list (pv 4) pe_int (fun _ _ => rfl)) (fun _ _ => rfl)) pa_nil))) pa_nil))))))))
      (pss_one (ps_ret (pv 2))))), ?_⟩
    refine ⟨Nat.zero_le _, fun m nm => ?_⟩
    have s0 := same_upd (o := .lst []) nm
    refine ⟨40, rfl, by decide, by decide, for_range (lo := 0) (n := 40) (fun i σ H2 => ∃ (ts : List Addr) (v3 v4 v5 : Option V), σ = [some (.ref lq), some (.int hd), some (.ref m), v3, v4, v5] ∧ i ≤ ds.length ∧ Same H H2 ∧ H2 m = some (.lst (ts.map V.ref)) ∧ MksAt H2 ts (ds.take i))
      ⟨[], none, none, none, rfl, Nat.zero_le _, s0, upd_same, rfl, fun i t p a _ => by simp at a⟩ ?_ ?_⟩
    · rintro i σ H2 hi ⟨ts, v3, v4, v5, rfl, hid, S2, em, hM⟩
      have hdr := hD.drop i hid
      refine ⟨Nat.zero_le _, fun sq nsq => ?_⟩
      have s3 := same_upd (o := .lst []) nsq
      have S3 := S2.trans s3
      have em3 := s3 _ _ em
      have nsqH : H sq = none := by
        cases q : H sq with
        | none => rfl
        | some o => rw [S2 _ _ q] at nsq; cases nsq
      have nmsq : m ≠ sq := ne_of_none em nsq
      refine ⟨30, rfl, by decide, by decide, for_range (lo := 0) (n := 30) (fun j σ H4 => ∃ (xs : List Nat) (v5 : Option V), σ = [some (.ref lq), some (.int hd), some (.ref m), some (.int (0 + (i : Int))), some (.ref sq), v5] ∧ H4 = upd H2 sq (.lst ((xs.map fun x : Nat => (x : Int)).map V.int)) ∧ xs.length ≤ j ∧ xs.head? = fm (lg.take j) (hd + 1 + (i : Int)))
        ⟨[], v5, rfl, rfl, Nat.le_refl _, rfl⟩ ?_ ?_⟩
      · rintro j σ H4 hj ⟨xs, v5, rfl, rfl, hxl, hxh⟩
        have hjl : j < lg.length := by omega
        have hx : lg[j]? = some lg[j] := List.getElem?_eq_getElem hjl
        have hg : (lg.map gV)[j]? = some (gV lg[j]) := by rw [List.getElem?_map, hx]; rfl
        have S4 : Same H (upd H2 sq (.lst ((xs.map fun x : Nat => (x : Int)).map V.int))) := S2.trans (same_upd nsq)
        have tk : lg.take (j + 1) = lg.take j ++ [lg[j]] := take_snoc hx
        have tl : (lg.take j).length = j := by rw [List.length_take]; omega
        have skip : isMk (hd + 1 + (i : Int)) lg[j] = false → xs.head? = fm (lg.take (j + 1)) (hd + 1 + (i : Int)) := fun z => by
          rw [tk, fm_snoc, ← hxh]
          cases xs.head? with
          | some y => rfl
          | none => simp [z]
        have hg' := hg
        cases q : lg[j] with
        | none =>
          rw [q] at hg
          refine ⟨_, rfl, _, rfl, lq, _, _, _, rfl, rfl, .of (S4 _ _ hq), atN (j := j) (by omega) hg, rfl, _, rfl, iteF ⟨xs, _, rfl, rfl, by omega, skip (by rw [q]; rfl)⟩⟩
        | some ar =>
          obtain ⟨ra, r⟩ := ar
          have hR := (hL j ra r (by rw [hx, q])).1.same S4
          rw [q] at hg
          refine ⟨_, rfl, _, rfl, lq, _, _, _, rfl, rfl, .of (S4 _ _ hq), atN (j := j) (by omega) hg, rfl, _, rfl, iteT ?_⟩
          cases r with
          | copy lot x c =>
            obtain ⟨pc, h1, h2⟩ := hR
            exact ⟨_, rfl, _, rfl, lq, _, _, _, rfl, rfl, .of (S4 _ _ hq), atN (j := j) (by omega) hg, ra, _, 0, .str "copy", rfl, rfl, h1, rfl, rfl, _, rfl, iteF ⟨xs, _, rfl, rfl, by omega, skip (by rw [q]; rfl)⟩⟩
          | mark lot ps rs =>
            obtain ⟨pp, pr, h1, h2, h3⟩ := hR
            refine ⟨_, rfl, _, rfl, lq, _, _, _, rfl, rfl, .of (S4 _ _ hq), atN (j := j) (by omega) hg, ra, _, 0, .str "mark", rfl, rfl, h1, rfl, rfl, _, rfl, iteT ?_⟩
            refine ⟨_, rfl, _, rfl, lq, _, _, _, rfl, rfl, .of (S4 _ _ hq), atN (j := j) (by omega) hg, ra, _, 1, .int lot, rfl, rfl, h1, rfl, _, rfl, _, _, rfl, rfl, _, rfl, _, _, rfl, rfl, rfl, _, rfl, ?_⟩
            rw [dec_iv]
            refine ite2 (fun z => ?_) fun z => ?_
            · have z : lot = hd + 1 + (0 + (i : Int)) := of_decide_eq_true z
              refine ⟨_, rfl, .inl ⟨rfl, _, .inl (.inl upd_same)⟩, _, rfl, sq, _, _, rfl, rfl, upd_same, ?_, xs ++ [j], _, rfl, ?_, by simp; omega, ?_⟩
              · rw [List.length_map, List.length_map]
                exact Nat.lt_of_le_of_lt (show xs.length ≤ 30 by omega) (by decide)
              · rw [upd_upd, List.map_append, List.map_append]
                show _ = upd H2 sq (.lst (_ ++ [V.int (j : Int)]))
                rw [show (0 : Int) + (j : Int) = (j : Int) by omega]
              · rw [tk, fm_snoc, ← hxh, List.head?_append, q]
                have : isMk (hd + 1 + (i : Int)) (some (ra, .mark lot ps rs)) = true := decide_eq_true (by omega)
                cases xs.head? with
                | some y => rfl
                | none => simp [this, tl]
            · have z : ¬ lot = hd + 1 + (0 + (i : Int)) := fun y => z (decide_eq_true y)
              refine ⟨xs, _, rfl, rfl, by omega, skip ?_⟩
              rw [q]
              exact decide_eq_false fun y => z (by omega)
      · rintro σ H4 ⟨xs, v5, rfl, rfl, hxl, hxh⟩
        rw [List.take_of_length_le (by omega)] at hxh
        have S4 : Same H2 (upd H2 sq (.lst ((xs.map fun x : Nat => (x : Int)).map V.int))) := same_upd nsq
        have e4 := upd_same (H := H2) (a := sq) (o := .lst ((xs.map fun x : Nat => (x : Int)).map V.int))
        generalize upd H2 sq (.lst ((xs.map fun x : Nat => (x : Int)).map V.int)) = H4 at S4 e4 ⊢
        refine ⟨_, rfl, sq, _, rfl, .inl (.of e4), rfl, _, rfl, ?_⟩
        rw [dec_iv, List.length_map, List.length_map]
        cases xs with
        | nil =>
          rw [decide_eq_true (show (([] : List Nat).length : Int) = 0 from rfl)]
          have f : fm lg (hd + 1 + (i : Int)) = none := hxh.symm
          have e : i = ds.length := by
            cases hdr' : ds.drop i with
            | nil =>
              have := congrArg List.length hdr'
              rw [List.length_drop, List.length_nil] at this
              omega
            | cons c r =>
              rw [hdr'] at hdr
              cases hdr with
              | cons g _ _ =>
                rw [f] at g
                cases g
          rw [e, List.take_length] at hM
          refine iteT ⟨_, rfl, k H4 m ts (S2.trans S4) ?_ (S4 _ _ em) (hM.same S4)⟩
          exact nm
        | cons j xr =>
          rw [decide_eq_false (show ¬ (((j :: xr).length : Nat) : Int) = 0 by simp; omega)]
          have f : fm lg (hd + 1 + (i : Int)) = some j := hxh.symm
          have lead : ∃ ra, ds[i]? = some (j, ra) ∧ (lg.map gV)[j]? = some (.ref ra) ∧ i < ds.length := by
            cases hdr' : ds.drop i with
            | nil =>
              rw [hdr'] at hdr
              cases hdr with
              | nil g =>
                rw [f] at g
                cases g
            | cons c r =>
              rw [hdr'] at hdr
              have hlt : i < ds.length := by
                have := congrArg List.length hdr'
                rw [List.length_drop, List.length_cons] at this
                omega
              cases hdr with
              | @cons _ j' ra rr _ g1 g2 g3 =>
                rw [f] at g1
                cases g1
                refine ⟨ra, ?_, by rw [List.getElem?_map, g2]; rfl, hlt⟩
                have := congrArg List.head? hdr'
                rw [List.head?_drop] at this
                exact this
          obtain ⟨ra, hc, hg, hlt⟩ := lead
          have em4 := S4 _ _ em
          have h0 : (((j :: xr).map fun x : Nat => (x : Int)).map V.int)[0]? = some (.int (j : Int)) := rfl
          refine iteF ⟨_, rfl, .inl ⟨rfl, _, .inl (.inl em4)⟩, _, rfl, sq, _, 0, _, rfl, rfl, .of e4, atN (j := 0) rfl h0, ?_⟩
          refine ⟨_, rfl, _, rfl, sq, _, 0, _, rfl, rfl, .of e4, atN (j := 0) rfl h0, lq, _, _, _, rfl, rfl, .of (S4 _ _ (S2 _ _ hq)), atN (j := j) rfl hg, ?_⟩
          refine ⟨by show 2 ≤ sizeLine; decide, fun t nt => ?_⟩
          have s5 := same_upd (o := .tup [.int (j : Int), .ref ra]) nt
          have et := upd_same (H := H4) (a := t) (o := .tup [.int (j : Int), .ref ra])
          generalize upd H4 t (.tup [.int (j : Int), .ref ra]) = H5 at s5 et ⊢
          have em5 := s5 _ _ em4
          refine ⟨m, _, _, rfl, rfl, em5, ?_, ts ++ [t], _, _, _, rfl, hlt, fun y o hy => ?_, ?_, ?_⟩
          · rw [List.length_map, hM.1, List.length_take]
            exact Nat.lt_of_le_of_lt (show min i ds.length ≤ 40 by omega) (by decide)
          · rw [upd_ne (ne_of_none hy nm)]
            exact s5 _ _ (S4 _ _ (S2 y o hy))
          · rw [upd_same, List.map_append]
            rfl
          · have h5 : MksAt H5 (ts ++ [t]) (ds.take i ++ [(j, ra)]) := ((hM.same S4).same s5).snoc et
            rw [take_snoc hc]
            refine ⟨h5.1, fun i u q a b => ?_⟩
            have := h5.2 i u q a b
            rw [upd_ne (ne_of this em5 (by intro z; cases z))]
            exact this
    · rintro σ H2 ⟨ts, v3, v4, v5, rfl, hid, _⟩
      exact absurd hid (by omega)
end
end K47
namespace K47
open PySem PySem.Spec PyProof.Rows L2 Rg
theorem Asc.snoc {l : List Int} {y : Int} (h : Asc l) (k : ∀ x ∈ l, x < y) : Asc (l ++ [y]) := fun i a b e1 e2 => by
  by_cases hi : i + 1 < l.length
  · rw [List.getElem?_append_left (by omega)] at e1
    rw [List.getElem?_append_left hi] at e2
    exact h i a b e1 e2
  · rw [List.getElem?_append_right (by omega)] at e2
    cases q : i + 1 - l.length with
    | succ m => rw [q] at e2; simp at e2
    | zero =>
      rw [q] at e2
      cases e2
      rw [List.getElem?_append_left (by omega)] at e1
      exact k a (List.mem_of_getElem? e1)
theorem Asc.nil : Asc [] := fun i a b e1 _ => by simp at e1
/-- pairs stand at qs -/
def PrsAt (H : Hp) (qs : List Addr) (ps : List (Int × Int)) : Prop := qs.length = ps.length ∧ ∀ (i : Nat) (q : Addr) (p : Int × Int), qs[i]? = some q → ps[i]? = some p → H q = some (.tup [.int p.1, .int p.2])
theorem PrsAt.by {H H' : Hp} {qs : List Addr} {ps : List (Int × Int)} (h : PrsAt H qs ps) (f : ∀ b xs, H b = some (.tup xs) → H' b = some (.tup xs)) : PrsAt H' qs ps := ⟨h.1, fun i q p a b => f _ _ (h.2 i q p a b)⟩
theorem PrsAt.snoc {H : Hp} {qs : List Addr} {ps : List (Int × Int)} {t : Addr} {p : Int × Int} (h : PrsAt H qs ps) (e : H t = some (.tup [.int p.1, .int p.2])) : PrsAt H (qs ++ [t]) (ps ++ [p]) := by
  refine ⟨by simp [h.1], fun i u q a b => ?_⟩
  by_cases hi : i < qs.length
  · rw [List.getElem?_append_left hi] at a
    rw [List.getElem?_append_left (by rw [← h.1]; exact hi)] at b
    exact h.2 i u q a b
  · have h0 : qs.length ≤ i := Nat.le_of_not_lt hi
    rw [List.getElem?_append_right h0] at a
    rw [List.getElem?_append_right (by rw [← h.1]; exact h0), ← h.1] at b
    cases hk : i - qs.length with
    | zero =>
      rw [hk] at a b
      cases a
      cases b
      exact e
    | succ m =>
      rw [hk] at a
      simp at a
theorem PrsAt.pairs {K : PySem.W.Frag} {H : Hp} {qs : List Addr} {ps : List (Int × Int)} {pp : Addr} (h : PrsAt H qs ps) (e : SqT K H pp (qs.map V.ref)) : PairsAt K H pp ps := ⟨qs, e, h.1, fun i q p a b => .of (h.2 i q p a b)⟩
end K47
namespace K47
open PySem PySem.Spec PyProof.Rows L2 Rg
/-- places that stand apart, each with what it holds -/
structure Fr (L : List (Addr × HO)) (H : Hp) : Prop where
  at_ : ∀ p ∈ L, H p.1 = some p.2
  nd : (L.map (·.1)).Nodup
theorem Fr.get {L : List (Addr × HO)} {H : Hp} (F : Fr L H) (i : Nat) {a : Addr} {o : HO} (h : L[i]? = some (a, o)) : H a = some o := F.at_ _ (List.mem_of_getElem? h)
theorem Fr.keep {L : List (Addr × HO)} {H H' : Hp} (F : Fr L H) (h : ∀ p ∈ L, ∀ o, H p.1 = some o → H' p.1 = some o) : Fr L H' := ⟨fun p hp => h p hp _ (F.at_ p hp), F.nd⟩
theorem Fr.same {L : List (Addr × HO)} {H H' : Hp} (F : Fr L H) (h : Same H H') : Fr L H' := F.keep fun _ _ _ e => h _ _ e
theorem Fr.put {L : List (Addr × HO)} {H : Hp} (F : Fr L H) (i : Nat) {a : Addr} {o o' : HO} (h : L[i]? = some (a, o)) : Fr (L.set i (a, o')) (upd H a o') := by
  have hi : i < L.length := (List.getElem?_eq_some_iff.mp h).1
  have e : (L.set i (a, o')).map (·.1) = L.map (·.1) := by
    apply List.ext_getElem?
    intro j
    rw [List.getElem?_map, List.getElem?_map]
    by_cases q : i = j
    · subst q
      rw [List.getElem?_set_self hi, h]
      rfl
    · rw [List.getElem?_set_ne q]
  refine ⟨fun p hp => ?_, by rw [e]; exact F.nd⟩
  obtain ⟨j, hj, ej⟩ := List.getElem_of_mem hp
  by_cases q : i = j
  · subst q
    rw [List.getElem_set_self] at ej
    rw [← ej]
    exact upd_same
  · rw [List.getElem_set_ne q] at ej
    have hjl : j < L.length := by rw [List.length_set] at hj; exact hj
    have hpL : p ∈ L := by rw [← ej]; exact List.getElem_mem hjl
    rw [upd_ne]
    · exact F.at_ p hpL
    · intro z
      have n1 : (L.map (·.1))[i]? = some a := by rw [List.getElem?_map, h]; rfl
      have n2 : (L.map (·.1))[j]? = some a := by rw [List.getElem?_map, List.getElem?_eq_getElem hjl, ej, ← z]; rfl
      have il : i < (L.map (·.1)).length := by rw [List.length_map]; exact hi
      have jl : j < (L.map (·.1)).length := by rw [List.length_map]; exact hjl
      rw [List.getElem?_eq_getElem il] at n1
      rw [List.getElem?_eq_getElem jl] at n2
      exact q ((List.getElem_inj F.nd).mp ((Option.some.inj n1).trans (Option.some.inj n2).symm))
theorem Fr.held {L : List (Addr × HO)} {H : Hp} (F : Fr L H) {a : Addr} (h : H a = none) : ∀ p ∈ L, p.1 ≠ a := fun p hp z => by
  have := F.at_ p hp
  rw [z, h] at this
  cases this
/-- one more, at a new place -/
theorem Fr.cons {L : List (Addr × HO)} {H : Hp} (F : Fr L H) {a : Addr} {o : HO} (h : H a = none) : Fr ((a, o) :: L) (upd H a o) := by
  refine ⟨fun p hp => ?_, ?_⟩
  · rcases List.mem_cons.mp hp with rfl | hp
    · exact upd_same
    · rw [upd_ne (F.held h p hp)]
      exact F.at_ p hp
  · rw [List.map_cons, List.nodup_cons]
    refine ⟨fun z => ?_, F.nd⟩
    obtain ⟨p, hp, e⟩ := List.mem_map.mp z
    exact F.held h p hp e
theorem Fr.nil {H : Hp} : Fr [] H := ⟨fun _ h => absurd h List.not_mem_nil, List.nodup_nil⟩
end K47
namespace K47
open PySem PySem.Spec PyProof.Rows L2 Rg
/-- places of one's own: some of the caller's (S), the rest new -/
structure Wr (S : List Addr) (H0 : Hp) (L : List (Addr × HO)) (H : Hp) : Prop where
  F : Fr L H
  k : Kp S H0 H
  n : ∀ p ∈ L, p.1 ∈ S ∨ H0 p.1 = none
theorem Wr.at1 {S : List Addr} {H0 H : Hp} {L : List (Addr × HO)} (W : Wr S H0 L H) (i : Nat) {a : Addr} {o : HO} (h : L[i]? = some (a, o)) : H a = some o := W.F.get i h
theorem Wr.put {S : List Addr} {H0 H : Hp} {L : List (Addr × HO)} (W : Wr S H0 L H) (i : Nat) {a : Addr} {o o' : HO} (h : L[i]? = some (a, o)) : Wr S H0 (L.set i (a, o')) (upd H a o') := by
  refine ⟨W.F.put i h, ?_, fun p hp => ?_⟩
  · rcases W.n _ (List.mem_of_getElem? h) with z | z
    · exact W.k.own z
    · exact W.k.put z
  · rcases List.mem_or_eq_of_mem_set hp with z | z
    · exact W.n p z
    · rw [z]
      exact W.n (a, o) (List.mem_of_getElem? h)
theorem Wr.cons {S : List Addr} {H0 H : Hp} {L : List (Addr × HO)} (W : Wr S H0 L H) {a : Addr} {o : HO} (h : H a = none) : Wr S H0 ((a, o) :: L) (upd H a o) := by
  refine ⟨W.F.cons h, W.k.new h, fun p hp => ?_⟩
  rcases List.mem_cons.mp hp with z | z
  · rw [z]
    by_cases e : a ∈ S
    · exact .inl e
    · exact .inr (W.k.free e h)
  · exact W.n p z
theorem Wr.new {S : List Addr} {H0 H H' : Hp} {L : List (Addr × HO)} (W : Wr S H0 L H) {a : Addr} {o : HO} (h : H a = none) (e : H' a = some o) (s : Same H H') : Wr S H0 ((a, o) :: L) H' := by
  refine ⟨⟨fun p hp => ?_, ?_⟩, W.k.same s, fun p hp => ?_⟩
  · rcases List.mem_cons.mp hp with rfl | hp
    · exact e
    · exact s _ _ (W.F.at_ p hp)
  · rw [List.map_cons, List.nodup_cons]
    refine ⟨fun z => ?_, W.F.nd⟩
    obtain ⟨q, hq, e2⟩ := List.mem_map.mp z
    exact W.F.held h q hq e2
  rcases List.mem_cons.mp hp with z | z
  · rw [z]
    by_cases e : a ∈ S
    · exact .inl e
    · exact .inr (W.k.free e h)
  · exact W.n p z
theorem Wr.set {S : List Addr} {H0 H H' : Hp} {L : List (Addr × HO)} (W : Wr S H0 L H) (i : Nat) {a : Addr} {o o' : HO} (h : L[i]? = some (a, o)) (e : H' a = some o') (k : Kp [a] H H') : Wr S H0 (L.set i (a, o')) H' := by
  have W2 := W.put (o' := o') i h
  refine ⟨⟨fun p hp => ?_, W2.F.nd⟩, fun x u ex n => ?_, W2.n⟩
  · by_cases z : p.1 = a
    · have := W2.F.at_ p hp
      rw [z, upd_same] at this
      rw [z, ← Option.some.inj this]
      exact e
    · have := W2.F.at_ p hp
      rw [upd_ne z] at this
      exact k.at1 this z
  · by_cases z : x = a
    · rcases W.n _ (List.mem_of_getElem? h) with q | q
      · exact absurd (z ▸ q) n
      · rw [z, q] at ex; cases ex
    · exact k.at1 (W.k x u ex n) z
theorem Wr.same {S : List Addr} {H0 H H' : Hp} {L : List (Addr × HO)} (W : Wr S H0 L H) (h : Same H H') : Wr S H0 L H' := ⟨W.F.same h, W.k.same h, W.n⟩
theorem Wr.kpL {S S' : List Addr} {H0 H H' : Hp} {L : List (Addr × HO)} (W : Wr S H0 L H) (hl : ∀ p ∈ L, ∃ xs, p.2 = .lst xs) (k : Kp S' H H') (h : ∀ x ∈ S', H0 x = none ∧ ∃ u, H x = some u ∧ ∀ xs, u ≠ .lst xs) : Wr S H0 L H' := by
  have ap : ∀ p ∈ L, p.1 ∉ S' := fun p hp z => by
    obtain ⟨_, u, eu, nu⟩ := h _ z
    obtain ⟨xs, ex⟩ := hl p hp
    have := W.F.at_ p hp
    rw [eu, ex] at this
    exact nu xs (Option.some.inj this)
  refine ⟨W.F.keep fun p hp o e => k _ _ e (ap p hp), fun x o e n => k x o (W.k x o e n) fun z => ?_, W.n⟩
  rw [(h x z).1] at e
  cases e
theorem Wr.ne {S : List Addr} {H0 H : Hp} {L : List (Addr × HO)} (W : Wr S H0 L H) (i j : Nat) {a b : Addr} {o u : HO} (h : L[i]? = some (a, o)) (h' : L[j]? = some (b, u)) (hij : i ≠ j) : a ≠ b := fun z => by
  have e1 : (L.map (·.1))[i]? = some a := by rw [List.getElem?_map, h]; rfl
  have e2 : (L.map (·.1))[j]? = some a := by rw [List.getElem?_map, h', z]; rfl
  have hi := (List.getElem?_eq_some_iff.mp e1).1
  have hj := (List.getElem?_eq_some_iff.mp e2).1
  have p := List.pairwise_iff_getElem.mp W.F.nd
  have f1 := (List.getElem?_eq_some_iff.mp e1).2
  have f2 := (List.getElem?_eq_some_iff.mp e2).2
  rcases Nat.lt_or_gt_of_ne hij with q | q
  · exact p i j hi hj q (f1.trans f2.symm)
  · exact p j i hj hi q (f2.trans f1.symm)
theorem Wr.free {q : Addr} {H0 H : Hp} {L : List (Addr × HO)} (W : Wr [q] H0 L H) (i j : Nat) {a : Addr} {o u : HO} (h : L[i]? = some (a, o)) (h' : L[j]? = some (q, u)) (hij : i ≠ j) : H0 a = none := by
  rcases W.n _ (List.mem_of_getElem? h) with z | z
  · exact absurd (List.mem_singleton.mp z) (W.ne i j h h' hij)
  · exact z
theorem nd_take {α : Type} {l : List α} (h : l.Nodup) {i : Nat} {x : α} (hx : l[i]? = some x) : x ∉ l.take i := fun z => by
  have h2 := h
  rw [← List.take_append_drop i l] at h2
  have hd : x ∈ l.drop i := List.mem_of_getElem? (i := 0) (by rw [List.getElem?_drop]; exact hx)
  exact (List.nodup_append.mp h2).2.2 x z x hd rfl
end K47
namespace K47
open PySem PySem.Spec PyProof.Rows L2 Rg
theorem asc_pw {l : List Int} (h : l.Pairwise (· < ·)) : Asc l := fun i x y e1 e2 => by
  obtain ⟨h1, f1⟩ := List.getElem?_eq_some_iff.mp e1
  obtain ⟨h2, f2⟩ := List.getElem?_eq_some_iff.mp e2
  have := List.pairwise_iff_getElem.mp h i (i + 1) h1 h2 (by omega)
  rw [f1, f2] at this
  exact this
theorem flatI (l : List Int) : (l.map V.int).all flatV = true := by
  rw [List.all_eq_true]
  intro x hx
  obtain ⟨y, _, rfl⟩ := List.mem_map.mp hx
  rfl
/-- pairs as entries: the place, what it holds -/
abbrev Pg := Addr × (Int × Int)
def PgAt (H : Hp) (G : List Pg) : Prop := ∀ g ∈ G, H g.1 = some (.tup [.int g.2.1, .int g.2.2])
theorem PgAt.pairs {K : PySem.W.Frag} {H : Hp} {G : List Pg} {pp : Addr} (h : PgAt H G) (e : SqT K H pp (G.map fun g => V.ref g.1)) : PairsAt K H pp (G.map (·.2)) := by
  refine ⟨G.map (·.1), by rw [List.map_map]; exact e, by rw [List.length_map, List.length_map], fun i q p a b => ?_⟩
  rw [List.getElem?_map] at a b
  obtain ⟨g, hg, rfl⟩ := Option.map_eq_some_iff.mp a
  rw [hg] at b
  cases b
  exact .of (h g (List.mem_of_getElem? hg))
theorem PgAt.kL {H H' : Hp} {G : List Pg} {S : List Addr} (h : PgAt H G) (k : Kp S H H') (f : ∀ x ∈ S, ∃ xs, H x = some (.lst xs)) : PgAt H' G := fun g hg => k _ _ (h g hg) fun z => by
  obtain ⟨xs, ex⟩ := f _ z
  rw [h g hg] at ex
  cases ex
theorem PgAt.same {H H' : Hp} {G : List Pg} (h : PgAt H G) (s : Same H H') : PgAt H' G := fun g hg => s _ _ (h g hg)
def adV : V → Addr
  | .ref t => t
  | _ => 0
def prH (H : Hp) (v : V) : Int × Int := match H (adV v) with
  | some (.tup [.int i, .int j]) => (i, j)
  | _ => (0, 0)
theorem PgAt.pr {H : Hp} {G : List Pg} (h : PgAt H G) {g : Pg} (hg : g ∈ G) : prH H (.ref g.1) = g.2 := by
  unfold prH
  show (match H g.1 with | some (.tup [.int i, .int j]) => (i, j) | _ => (0, 0)) = g.2
  rw [h g hg]
/-- pairs with distinct first parts, sorted -/
theorem PgAt.sorted {H : Hp} {G : List Pg} (h : PgAt H G) (nd : (G.map (·.2.1)).Nodup) {ys : List V} (s : SrtO.Srtd (ltP (prH H)) ys) (p : ys.Perm (G.map fun g => V.ref g.1)) :
    ∃ G' : List Pg, ys = (G'.map fun g => V.ref g.1) ∧ G'.Perm G ∧ Asc ((G'.map (·.2)).map (·.1)) := by
  have hy : ∀ y ∈ ys, ∃ g ∈ G, y = .ref g.1 := fun y hy => by
    obtain ⟨g, hg, e⟩ := List.mem_map.mp (p.mem_iff.mp hy)
    exact ⟨g, hg, e.symm⟩
  have e1 : ys = (ys.map fun v => ((adV v, prH H v) : Pg)).map fun g => V.ref g.1 := by
    rw [List.map_map]
    conv => lhs; rw [← List.map_id ys]
    refine List.map_congr_left fun v hv => ?_
    obtain ⟨g, _, rfl⟩ := hy v hv
    rfl
  have e2 : (G.map fun g => V.ref g.1).map (fun v => ((adV v, prH H v) : Pg)) = G := by
    rw [List.map_map]
    conv => rhs; rw [← List.map_id G]
    refine List.map_congr_left fun g hg => ?_
    show ((g.1, prH H (.ref g.1)) : Pg) = g
    rw [h.pr hg]
  have p2 : (ys.map fun v => ((adV v, prH H v) : Pg)).Perm G := by
    have := p.map (fun v => ((adV v, prH H v) : Pg))
    rw [e2] at this
    exact this
  refine ⟨_, e1, p2, asc_pw ?_⟩
  rw [List.map_map, List.map_map]
  have nd2 : (ys.map fun v => (prH H v).1).Nodup := by
    have q := (p2.map (·.2.1)).nodup_iff.mpr nd
    rw [List.map_map] at q
    exact q
  rw [List.Nodup, List.pairwise_map] at nd2
  rw [List.pairwise_map]
  refine (List.Pairwise.and s nd2).imp fun {x y} hh => ?_
  obtain ⟨a, b⟩ := hh
  have a : ¬ SrtO.lexB (prH H y) (prH H x) = true := by
    intro z
    have a : SrtO.lexB (prH H y) (prH H x) = false := a
    rw [a] at z
    cases z
  rw [SrtO.lexB_iff] at a
  show (prH H x).1 < (prH H y).1
  have b : (prH H x).1 ≠ (prH H y).1 := b
  omega
structure Mk8 (ps : List (Int × Int)) (rs : List Int) : Prop where
  pl : ps.length ≤ 5
  rl : rs.length ≤ 3
  p : ∀ p ∈ ps, 10 ≤ p.1 ∧ p.1 ≤ 17 ∧ -1 ≤ p.2 ∧ p.2 ≤ 29
  r : ∀ r ∈ rs, 10 ≤ r ∧ r ≤ 17
  pa : Asc (ps.map (·.1))
  ra : Asc rs
theorem Mk8.fit {ps : List (Int × Int)} {rs : List Int} (h : Mk8 ps rs) {lot : Int} (l1 : 1 ≤ lot) (l2 : lot ≤ 999999) : Fit 24 30 (.mark lot ps rs) :=
  ⟨l1, l2, by have := h.pl; omega, by have := h.rl; omega, fun p hp => by have := h.p p hp; omega, h.pa, fun r hr => by have := h.r r hr; omega, h.ra⟩
section
variable {P : Program} {w0_ : World} {K : PySem.W.Frag} {mg : Str → Option Value} {base : Heap}
def sp_Lslot : Sp := fun vs H Q _ => ∃ (p : Addr) (fs : List Int) (k : Int), vs = [.ref p, .int k] ∧ H p = some (.lst (fs.map V.int)) ∧
  ∀ (s : Int) (fs' : List Int), -1 ≤ s → s ≤ 29 → Q (.int s) (upd H p (.lst (fs'.map V.int)))
theorem ok_Lslot (T : Tx K mg) : FnOk P w0_ K mg base CX0 2 T.f_Lslot T.fd_Lslot ["_law_feed_here", "_law_k"] sp_Lslot := by
  refine T.F_Lslot.ok sc_Lslot (fun vs H Q E h => ?_) (fun cdv A0 outer s H vs Q E hr h => ?_)
  · obtain ⟨_, _, _, rfl, _⟩ := h; rfl
  · obtain ⟨p, fs, j, rfl, ef, k⟩ := h
    refine ⟨_, (pss_cons (ps_set (i := 2) sc_Lslot.nd rfl (.inl rfl) (pe_call (ok_Lpick T) hr rfl T.mg_Lpick T.F_Lpick.kp (b_Lpick T) .nil pass0 (pa_cons (pv 0) (pa_cons pe_int pa_nil))))
      (pss_cons (ps_if (pt_cmpR op_gt (pv 2) pe_int (nomark _))
        (pss_one (ps_ret (pe_un un_neg pe_int)))
        pss_nil)
      (pss_cons (ps_if (pt_cmpR op_gt (pv 2) pe_int (nomark _))
        (pss_one (ps_ret (pe_op op_sub (pv 2) pe_int)))
        pss_nil)
      (pss_one (ps_ret (pe_op op_mod (pe_callTy call_int1 rfl T.b_int (by decide +kernel) (pa_cons (pe_op op_add (pv 2) (pe_op op_mul pe_int (pv 1))) pa_nil)) pe_int)))))), ?_⟩
    refine ⟨_, rfl, p, fs, 40, rfl, ef, by decide, fun c fs2 c0 c4 _ => ?_⟩
    ((try dsimp only); (first | (refine Rg.sg (σ' := [some (.ref p), some (.int j), some (.int c)]) ?_ ?_; focus exact rfl) | (refine Rg.sgG (σ' := [some (.ref p), some (.int j), some (.int c)]) ?_ ?_; focus exact rfl)))
    refine ⟨_, rfl, _, _, rfl, rfl, _, rfl, wD (fun h1 => ⟨_, rfl, k _ fs2 (by decide) (by decide)⟩) fun h1 => ?_⟩
    refine ⟨_, rfl, _, _, rfl, rfl, _, rfl, wD (fun h2 => ⟨_, rfl, _, _, rfl, rfl, k _ fs2 (by omega) (by omega)⟩) fun h2 => ?_⟩
    refine ⟨_, rfl, _, rfl, _, _, rfl, rfl, CMul_l (by decide), _, _, rfl, rfl, .inl ⟨_, rfl, _, _, rfl, rfl, (by show (0 : Int) < 30; decide), k _ fs2 (by have := Int.emod_nonneg (c + 7 * j) (show (30 : Int) ≠ 0 by decide); omega) (by have := Int.emod_lt_of_pos (c + 7 * j) (show (0 : Int) < 30 by decide); omega)⟩⟩
def sp_Lmark (K : PySem.W.Frag) : Sp := fun vs H Q _ => ∃ (p : Addr) (fs : List Int) (lot : Int), vs = [.ref p, .int lot] ∧ H p = some (.lst (fs.map V.int)) ∧
  ∀ (H' : Hp) (u : Addr) (ps : List (Int × Int)) (rs fs' : List Int), Kp [p] H H' → H' p = some (.lst (fs'.map V.int)) → RecAt K H' u (.mark lot ps rs) → Mk8 ps rs → H u = none → Q (.ref u) H'
theorem ok_Lmark (T : Tx K mg) : FnOk P w0_ K mg base CX0 3 T.f_Lmark T.fd_Lmark ["_law_feed_here", "_law_lot"] (sp_Lmark K) := by
  refine T.F_Lmark.ok sc_Lmark (fun vs H Q E h => ?_) (fun cdv A0 outer s H vs Q E hr h => ?_)
  · obtain ⟨_, _, _, rfl, _⟩ := h; rfl
  · obtain ⟨p, fs, lot, rfl, ef, k⟩ := h
    have hr1 := hr.mono (show 1 ≤ 2 by decide)
    refine ⟨_, (pss_cons (ps_set (i := 2) sc_Lmark.nd rfl (.inl rfl) (pe_lst pa_nil))
      (pss_cons (ps_for PassesOwn.never rfl (pi_range1 rfl T.b_range (pa_cons (pe_op op_mod (pe_callTy call_int1 rfl T.b_int (by decide +kernel) (pa_cons (pe_op op_add (pe_call (ok_Lpick T) hr1 rfl T.mg_Lpick T.F_Lpick.kp (b_Lpick T) .nil pass0 (pa_cons (pv 0) (pa_cons pe_int pa_nil))) pe_int) pa_nil)) pe_int) pa_nil)) (pg_name (i := 3) sc_Lmark.nd rfl (.inl rfl))
        (pss_cons (ps_set (i := 4) sc_Lmark.nd rfl (.inl rfl) (pe_op op_add pe_int (pe_op op_mod (pe_callTy call_int1 rfl T.b_int (by decide +kernel) (pa_cons (pe_op op_add (pe_op op_add (pe_call (ok_Lpick T) hr1 rfl T.mg_Lpick T.F_Lpick.kp (b_Lpick T) .nil pass0 (pa_cons (pv 0) (pa_cons pe_int pa_nil))) (pe_op op_mul pe_int (pv 3))) (pv 1)) pa_nil)) pe_int)))
        (pss_one (ps_if (pt_cmpR op_notIn_seq (pv 4) (pe_lc rfl (own := [("_law_pair", 5)]) (g := gName 5) (tt := tYes) sc_Lmark.nd (pi_list (pv 2)) (blkOk_by (N := ["_law_feed_here", "_law_lot", "_law_pairs", "_law_k", "_law_block", "_law_pair", "_law_revokes"]) (sc := defScope s_Lmark) (by decide +kernel)) (fun _ _ _ _ _ => pg_name (i := 5) sc_Lmark.nd rfl (Or.inl rfl)) (fun _ _ _ _ _ => pts_nil) (fun _ _ _ _ _ => (pe_ixTK (K := K) (pv 5) pe_int (fun _ _ => rfl)))) rfl)
          (pss_one (ps_expr (pe_bm PySem.F.plainAttrs_list PySem.F.slot_list_append PySem.F.type_list_append mt_append (pv 2) (pa_cons (pe_tup (pa_cons (pv 4) (pa_cons (pe_call (ok_Lslot T) hr rfl T.mg_Lslot T.F_Lslot.kp (b_Lslot T) .nil pass0 (pa_cons (pv 0) (pa_cons (pe_op op_add (pv 3) (pv 1)) pa_nil))) pa_nil))) pa_nil))))
          pss_nil))))
      (pss_cons (ps_set (i := 6) sc_Lmark.nd rfl (.inl rfl) (pe_lst pa_nil))
      (pss_cons (ps_for PassesOwn.never rfl (pi_range1 rfl T.b_range (pa_cons (pe_op op_mod (pe_callTy call_int1 rfl T.b_int (by decide +kernel) (pa_cons (pe_op op_add (pe_call (ok_Lpick T) hr1 rfl T.mg_Lpick T.F_Lpick.kp (b_Lpick T) .nil pass0 (pa_cons (pv 0) (pa_cons pe_int pa_nil))) pe_int) pa_nil)) pe_int) pa_nil)) (pg_name (i := 3) sc_Lmark.nd rfl (.inl rfl))
        (pss_cons (ps_set (i := 4) sc_Lmark.nd rfl (.inl rfl) (pe_op op_add pe_int (pe_op op_mod (pe_callTy call_int1 rfl T.b_int (by decide +kernel) (pa_cons (pe_op op_add (pe_op op_add (pe_call (ok_Lpick T) hr1 rfl T.mg_Lpick T.F_Lpick.kp (b_Lpick T) .nil pass0 (pa_cons (pv 0) (pa_cons pe_int pa_nil))) (pe_op op_mul pe_int (pv 3))) (pv 1)) pa_nil)) pe_int)))
        (pss_one (ps_if (pt_cmpR op_notIn_seq (pv 4) (pv 6) rfl)
          (pss_one (ps_expr (pe_bm PySem.F.plainAttrs_list PySem.F.slot_list_append PySem.F.type_list_append mt_append (pv 6) (pa_cons (pv 4) pa_nil))))
          pss_nil))))
      (pss_one (ps_ret (pe_tup (pa_cons pe_str (pa_cons (pv 1) (pa_cons (pe_callTy call_tuple_of rfl T.b_tuple (by decide +kernel) (pa_cons (pe_callB cr_sortedPO rfl T.b_sorted (by decide +kernel) (pa_cons (pv 2) pa_nil)) pa_nil)) (pa_cons (pe_callTy call_tuple_of rfl T.b_tuple (by decide +kernel) (pa_cons (pe_callB cr_sortedI rfl T.b_sorted (by decide +kernel) (pa_cons (pv 6) pa_nil)) pa_nil)) pa_nil))))))))))), ?_⟩
    have W0 : Wr [p] H [(p, .lst (fs.map V.int))] H := ⟨⟨fun q hq => by rw [List.mem_singleton.mp hq]; exact ef, by simp⟩, Kp.refl, fun q hq => .inl (by rw [List.mem_singleton.mp hq]; simp)⟩
    refine ⟨by show 0 ≤ sizeLine; decide, ?_⟩
    (intro a n_a; generalize he_a : upd _ a _ = H1; obtain ⟨e_a, s_a, f_a⟩ := new_f he_a n_a; clear he_a)
    have W1 : Wr [p] H [(a, .lst []), (p, .lst (fs.map V.int))] H1 := W0.new n_a e_a s_a
    ((try dsimp only); (first | (refine Rg.sg (σ' := [some (.ref p), some (.int lot), some (.ref a), none, none, none, none]) ?_ ?_; focus exact rfl) | (refine Rg.sgG (σ' := [some (.ref p), some (.int lot), some (.ref a), none, none, none, none]) ?_ ?_; focus exact rfl)))
    refine ⟨_, rfl, p, fs, 6, rfl, W1.at1 1 rfl, by decide, fun c f2 c0 c6 _ => ?_⟩
    (generalize he_z : upd _ p _ = H2; obtain ⟨e_z, k_z, f_z⟩ := own_f he_z; clear he_z)
    have W2 : Wr [p] H [(a, .lst []), (p, .lst (f2.map V.int))] H2 := W1.set 1 rfl e_z k_z
    refine ⟨_, _, rfl, rfl, .inl ⟨_, rfl, _, _, rfl, rfl, (by show (0 : Int) < 6; decide), _, rfl, ?_, ?_, ?_⟩⟩
    · have := Int.emod_nonneg (c + 3) (show (6 : Int) ≠ 0 by decide); omega
    · have := Int.emod_lt_of_pos (c + 3) (show (0 : Int) < 6 by decide); omega
    obtain ⟨m, em⟩ : ∃ m, m = (c + 3) % 6 := ⟨_, rfl⟩
    have m5 : m.toNat ≤ 5 := by have := Int.emod_lt_of_pos (c + 3) (show (0 : Int) < 6 by decide); omega
    rw [← em]
    clear em
    have bx : ∀ e : Int, 10 ≤ 10 + e % 8 ∧ 10 + e % 8 ≤ 17 := fun e => by
      have h1 := Int.emod_nonneg e (show (8 : Int) ≠ 0 by decide)
      have h2 := Int.emod_lt_of_pos e (show (0 : Int) < 8 by decide)
      omega
    refine for_range (lo := 0) (n := m.toNat) (fun i σ H' => ∃ (v3 v4 v5 : Option V) (G : List Pg) (fs' : List Int), σ = [some (.ref p), some (.int lot), some (.ref a), v3, v4, v5, none] ∧ Wr [p] H [(a, .lst (G.map fun g => V.ref g.1)), (p, .lst (fs'.map V.int))] H' ∧ PgAt H' G ∧ G.length ≤ i ∧ (∀ g ∈ G, 10 ≤ g.2.1 ∧ g.2.1 ≤ 17 ∧ -1 ≤ g.2.2 ∧ g.2.2 ≤ 29) ∧ (G.map (·.2.1)).Nodup) ⟨none, none, none, [], f2, rfl, W2, (fun g hg => by cases hg), Nat.le_refl _, (fun g hg => by cases hg), List.nodup_nil⟩ ?_ ?_
    · rintro i σ H3 hi ⟨v3, v4, v5, G, fs3, rfl, W3, hG, lG, bG, nG⟩
      ((try dsimp only); (first | (refine Rg.sg (σ' := [some (.ref p), some (.int lot), some (.ref a), some (.int (0 + (i : Int))), v4, v5, none]) ?_ ?_; focus exact rfl) | (refine Rg.sgG (σ' := [some (.ref p), some (.int lot), some (.ref a), some (.int (0 + (i : Int))), v4, v5, none]) ?_ ?_; focus exact rfl)))
      refine ⟨_, rfl, p, fs3, 8, rfl, W3.at1 1 rfl, by decide, fun e f4 e0 e8 _ => ?_⟩
      (generalize he_y : upd _ p _ = H4; obtain ⟨e_y, k_y, f_y⟩ := own_f he_y; clear he_y)
      have W4 : Wr [p] H [(a, .lst (G.map fun g => V.ref g.1)), (p, .lst (f4.map V.int))] H4 := W3.set 1 rfl e_y k_y
      have hG4 := hG.kL k_y fun x hx => by rw [List.mem_singleton.mp hx]; exact ⟨_, W3.at1 1 rfl⟩
      refine ⟨_, rfl, _, _, rfl, rfl, CMul_l (by decide), _, _, rfl, rfl, _, rfl, _, _, rfl, rfl, .inl ⟨_, rfl, _, _, rfl, rfl, (by show (0 : Int) < 8; decide), _, _, rfl, rfl, ?_⟩⟩
      obtain ⟨x10, x17⟩ := bx (e + 3 * (0 + (i : Int)) + lot)
      ((try dsimp only); (first | (refine Rg.sg (σ' := [some (.ref p), some (.int lot), some (.ref a), some (.int (0 + (i : Int))), some (.int (10 + (e + 3 * (0 + (i : Int)) + lot) % 8)), v5, none]) ?_ ?_; focus exact rfl) | (refine Rg.sgG (σ' := [some (.ref p), some (.int lot), some (.ref a), some (.int (0 + (i : Int))), some (.int (10 + (e + 3 * (0 + (i : Int)) + lot) % 8)), v5, none]) ?_ ?_; focus exact rfl)))
      generalize 10 + (e + 3 * (0 + (i : Int)) + lot) % 8 = x at x10 x17 ⊢
      have ea4 := W4.at1 0 rfl
      refine ⟨_, rfl, _, rfl, a, rfl, ⟨_, .of ea4⟩, fun D hD => ?_⟩
      refine lc_list (K := K) (a := a) (xs := G.map fun g => V.ref g.1) (PvG (fun g : Pg => V.int g.2.1) H4 D G (fun _ => true)) (PvG.start hD) (fun j H' _ Pv => .of (Pv.1 _ _ ea4)) ?_ ?_
      · rintro j yv H' hj Pv
        rw [List.getElem?_map] at hj
        obtain ⟨g, hx, rfl⟩ := Option.map_eq_some_iff.mp hj
        refine ⟨rfl, yes_ ⟨_, rfl, g.1, _, 0, .int g.2.1, rfl, rfl, .of (Pv.1 _ _ (hG4 g (List.mem_of_getElem? hx))), rfl, ?_⟩⟩
        exact Pv.yes hD (Same.refl _) hx (by omega) rfl
      intro H5 Pv
      obtain ⟨s5, e5⟩ := Pv.all (by rw [List.length_map])
      rw [List.filter_eq_self.mpr (by simp)] at e5
      have e5 : H5 D = some (.lst ((G.map (·.2.1)).map V.int)) := by rw [e5, List.map_map]; rfl
      have W5 := W4.same s5
      have hG5 := hG4.same s5
      refine ⟨D, _, rfl, .inl (.of e5), rfl, flatI _, _, rfl, ?_⟩
      rw [inV_int]
      refine wND (fun hn => ?_) fun hn => ?_
      · have ea5 := W5.at1 0 rfl
        refine ⟨_, rfl, .inl ⟨rfl, _, .inl (.inl ea5)⟩, _, rfl, _, rfl, _, rfl, _, rfl, _, _, rfl, rfl, p, f4, _, rfl, W5.at1 1 rfl, fun sl f6 sl0 sl1 => ?_⟩
        (generalize he_w : upd _ p _ = H6; obtain ⟨e_w, k_w, f_w⟩ := own_f he_w; clear he_w)
        have W6 : Wr [p] H [(a, .lst (G.map fun g => V.ref g.1)), (p, .lst (f6.map V.int))] H6 := W5.set 1 rfl e_w k_w
        have hG6 := hG5.kL k_w fun x hx => by rw [List.mem_singleton.mp hx]; exact ⟨_, W5.at1 1 rfl⟩
        refine ⟨by show 2 ≤ sizeLine; decide, ?_⟩
        (intro t n_t; generalize he_t : upd _ t _ = H7; obtain ⟨e_t, s_t, f_t⟩ := new_f he_t n_t; clear he_t)
        have W7 := W6.same s_t
        have ea7 := W7.at1 0 rfl
        refine ⟨a, _, _, rfl, rfl, ea7, by rw [List.length_map]; exact lt_line (by omega), ?_⟩
        (generalize he_v : upd _ a _ = H8; obtain ⟨e_v, k_v, f_v⟩ := own_f he_v; clear he_v)
        have ev : H8 a = some (.lst ((G ++ [((t, (x, sl)) : Pg)]).map fun g => V.ref g.1)) := by rw [e_v, List.map_append]; rfl
        refine ⟨_, _, _, G ++ [((t, (x, sl)) : Pg)], f6, rfl, W7.set 0 rfl ev k_v, fun g hg => ?_, by rw [List.length_append]; simp; omega, fun g hg => ?_, ?_⟩
        · have hG8 := (hG6.same s_t).kL k_v fun x hx => by rw [List.mem_singleton.mp hx]; exact ⟨_, ea7⟩
          rcases List.mem_append.mp hg with z | z
          · exact hG8 g z
          · rw [List.mem_singleton.mp z]
            exact k_v.at1 e_t (ne_of e_t ea7 (by intro z; cases z))
        · rcases List.mem_append.mp hg with z | z
          · exact bG g z
          · rw [List.mem_singleton.mp z]
            exact ⟨x10, x17, sl0, sl1⟩
        · rw [List.map_append, List.nodup_append]
          refine ⟨nG, by simp, fun u hu w hw z => hn ?_⟩
          have : w = x := by simpa using hw
          rw [← this, ← z]
          exact hu
      · exact ⟨_, _, _, G, f4, rfl, W5, hG5, by omega, bG, nG⟩
    rintro σ H3 ⟨v3, v4, v5, G, fs3, rfl, W3, hG, lG, bG, nG⟩
    refine ⟨by show 0 ≤ sizeLine; decide, ?_⟩
    (intro b n_b; generalize he_b : upd _ b _ = H4; obtain ⟨e_b, s_b, f_b⟩ := new_f he_b n_b; clear he_b)
    have W4 : Wr [p] H [(b, .lst (([] : List Int).map V.int)), (a, .lst (G.map fun g => V.ref g.1)), (p, .lst (fs3.map V.int))] H4 := W3.new n_b e_b s_b
    have hG4 := hG.same s_b
    ((try dsimp only); (first | (refine Rg.sg (σ' := [some (.ref p), some (.int lot), some (.ref a), v3, v4, v5, some (.ref b)]) ?_ ?_; focus exact rfl) | (refine Rg.sgG (σ' := [some (.ref p), some (.int lot), some (.ref a), v3, v4, v5, some (.ref b)]) ?_ ?_; focus exact rfl)))
    refine ⟨_, rfl, p, fs3, 4, rfl, W4.at1 2 rfl, by decide, fun c f5 c0 c4 _ => ?_⟩
    (generalize he_y : upd _ p _ = H5; obtain ⟨e_y, k_y, f_y⟩ := own_f he_y; clear he_y)
    have W5 : Wr [p] H [(b, .lst (([] : List Int).map V.int)), (a, .lst (G.map fun g => V.ref g.1)), (p, .lst (f5.map V.int))] H5 := W4.set 2 rfl e_y k_y
    have hG5 := hG4.kL k_y fun x hx => by rw [List.mem_singleton.mp hx]; exact ⟨_, W4.at1 2 rfl⟩
    refine ⟨_, _, rfl, rfl, .inl ⟨_, rfl, _, _, rfl, rfl, (by show (0 : Int) < 4; decide), _, rfl, ?_, ?_, ?_⟩⟩
    · have := Int.emod_nonneg (c + 1) (show (4 : Int) ≠ 0 by decide); omega
    · have := Int.emod_lt_of_pos (c + 1) (show (0 : Int) < 4 by decide); omega
    obtain ⟨n, en⟩ : ∃ n, n = (c + 1) % 4 := ⟨_, rfl⟩
    have n3 : n.toNat ≤ 3 := by have := Int.emod_lt_of_pos (c + 1) (show (0 : Int) < 4 by decide); omega
    rw [← en]
    clear en
    refine for_range (lo := 0) (n := n.toNat) (fun i σ H' => ∃ (v3 v4 : Option V) (rs fs' : List Int), σ = [some (.ref p), some (.int lot), some (.ref a), v3, v4, v5, some (.ref b)] ∧ Wr [p] H [(b, .lst (rs.map V.int)), (a, .lst (G.map fun g => V.ref g.1)), (p, .lst (fs'.map V.int))] H' ∧ PgAt H' G ∧ rs.length ≤ i ∧ (∀ r ∈ rs, 10 ≤ r ∧ r ≤ 17) ∧ rs.Nodup) ⟨v3, v4, [], f5, rfl, W5, hG5, Nat.le_refl _, (fun g hg => by cases hg), List.nodup_nil⟩ ?_ ?_
    · rintro i σ H6 hi ⟨v3, v4, rs, fs6, rfl, W6, hG6, lR, bR, nR⟩
      ((try dsimp only); (first | (refine Rg.sg (σ' := [some (.ref p), some (.int lot), some (.ref a), some (.int (0 + (i : Int))), v4, v5, some (.ref b)]) ?_ ?_; focus exact rfl) | (refine Rg.sgG (σ' := [some (.ref p), some (.int lot), some (.ref a), some (.int (0 + (i : Int))), v4, v5, some (.ref b)]) ?_ ?_; focus exact rfl)))
      refine ⟨_, rfl, p, fs6, 8, rfl, W6.at1 2 rfl, by decide, fun e f7 e0 e8 _ => ?_⟩
      (generalize he_w : upd _ p _ = H7; obtain ⟨e_w, k_w, f_w⟩ := own_f he_w; clear he_w)
      have W7 : Wr [p] H [(b, .lst (rs.map V.int)), (a, .lst (G.map fun g => V.ref g.1)), (p, .lst (f7.map V.int))] H7 := W6.set 2 rfl e_w k_w
      have hG7 := hG6.kL k_w fun x hx => by rw [List.mem_singleton.mp hx]; exact ⟨_, W6.at1 2 rfl⟩
      refine ⟨_, rfl, _, _, rfl, rfl, CMul_l (by decide), _, _, rfl, rfl, _, rfl, _, _, rfl, rfl, .inl ⟨_, rfl, _, _, rfl, rfl, (by show (0 : Int) < 8; decide), _, _, rfl, rfl, ?_⟩⟩
      obtain ⟨x10, x17⟩ := bx (e + 3 * (0 + (i : Int)) + lot)
      ((try dsimp only); (first | (refine Rg.sg (σ' := [some (.ref p), some (.int lot), some (.ref a), some (.int (0 + (i : Int))), some (.int (10 + (e + 3 * (0 + (i : Int)) + lot) % 8)), v5, some (.ref b)]) ?_ ?_; focus exact rfl) | (refine Rg.sgG (σ' := [some (.ref p), some (.int lot), some (.ref a), some (.int (0 + (i : Int))), some (.int (10 + (e + 3 * (0 + (i : Int)) + lot) % 8)), v5, some (.ref b)]) ?_ ?_; focus exact rfl)))
      generalize 10 + (e + 3 * (0 + (i : Int)) + lot) % 8 = x at x10 x17 ⊢
      have eb7 := W7.at1 0 rfl
      refine ⟨_, rfl, _, rfl, b, _, rfl, .inl (.of eb7), rfl, flatI _, _, rfl, ?_⟩
      rw [inV_int]
      refine wND (fun hn => ?_) fun hn => ?_
      · refine ⟨_, rfl, .inl ⟨rfl, _, .inl (.inl eb7)⟩, _, rfl, b, _, _, rfl, rfl, eb7, by rw [List.length_map]; exact lt_line (by omega), ?_⟩
        (generalize he_v : upd _ b _ = H8; obtain ⟨e_v, k_v, f_v⟩ := own_f he_v; clear he_v)
        have ev : H8 b = some (.lst ((rs ++ [x]).map V.int)) := by rw [e_v, List.map_append]; rfl
        refine ⟨_, _, rs ++ [x], f7, rfl, W7.set 0 rfl ev k_v, hG7.kL k_v fun x hx => by rw [List.mem_singleton.mp hx]; exact ⟨_, eb7⟩, by rw [List.length_append]; simp; omega, fun r hr => ?_, ?_⟩
        · rcases List.mem_append.mp hr with z | z
          · exact bR r z
          · rw [List.mem_singleton.mp z]
            exact ⟨x10, x17⟩
        · rw [List.nodup_append]
          refine ⟨nR, by simp, fun u hu w hw z => hn ?_⟩
          have : w = x := by simpa using hw
          rw [← this, ← z]
          exact hu
      · exact ⟨_, _, rs, f7, rfl, W7, hG7, by omega, bR, nR⟩
    rintro σ H6 ⟨v3, v4, rs, fs6, rfl, W6, hG6, lR, bR, nR⟩
    refine ⟨_, rfl, _, rfl, a, _, prH H6, rfl, .of (W6.at1 1 rfl), fun x hx => ?_, fun ys q srt stb nq => ?_⟩
    · obtain ⟨g, hg, rfl⟩ := List.mem_map.mp hx
      rw [hG6.pr hg]
      exact ⟨_, rfl, hG6 g hg⟩
    obtain ⟨G', rfl, pG, aG⟩ := hG6.sorted nG srt stb.perm
    generalize h7 : upd H6 q _ = H7
    obtain ⟨e_q, s_q, _⟩ := new_f h7 nq
    refine ⟨q, _, rfl, .inl ⟨.of e_q, ?_⟩⟩
    (intro pp n_pp; generalize he_pp : upd _ pp _ = H8; obtain ⟨e_pp, s_pp, f_pp⟩ := new_f he_pp n_pp; clear he_pp)
    have s8 := s_q.trans s_pp
    refine ⟨_, rfl, b, rs, rfl, .of (s8 _ _ (W6.at1 0 rfl)), fun zs r hp ha nr => ?_⟩
    generalize h9 : upd H8 r _ = H9
    obtain ⟨e_r, s_r, _⟩ := new_f h9 nr
    refine ⟨r, _, rfl, .inl ⟨.of e_r, ?_⟩⟩
    (intro pr n_pr; generalize he_pr : upd _ pr _ = H10; obtain ⟨e_pr, s_pr, f_pr⟩ := new_f he_pr n_pr; clear he_pr)
    refine ⟨by show 4 ≤ sizeLine; decide, ?_⟩
    (intro u n_u; generalize he_u : upd _ u _ = H11; obtain ⟨e_u, s_u, f_u⟩ := new_f he_u n_u; clear he_u)
    have s11 := ((s8.trans s_r).trans s_pr).trans s_u
    have W11 := W6.same s11
    have s811 := (s_r.trans s_pr).trans s_u
    have hG' : PgAt H11 G' := fun g hg => hG6.same s11 g (pG.mem_iff.mp hg)
    have l1 : G'.length ≤ 5 := by rw [pG.length_eq]; omega
    have l2 : zs.length ≤ 3 := by rw [hp.length_eq]; omega
    have nu : H u = none := W6.k.free (fun z => by
      have := (((s8.trans s_r).trans s_pr).free n_u)
      rw [List.mem_singleton.mp z, W6.at1 2 rfl] at this
      cases this) (((s8.trans s_r).trans s_pr).free n_u)
    refine k H11 u (G'.map (·.2)) zs fs6 W11.k (W11.at1 2 rfl) ⟨pp, pr, .of e_u, hG'.pairs (.of (s811 _ _ e_pp)), .of (s_u _ _ e_pr)⟩ ⟨by rw [List.length_map]; exact l1, l2, fun y hy => ?_, fun y hy => bR y (hp.mem_iff.mp hy), aG, asc_pw (lt_of_le_nodup zs ha (hp.nodup_iff.mpr nR))⟩ nu
    obtain ⟨g, hg, rfl⟩ := List.mem_map.mp hy
    exact bG g (pG.mem_iff.mp hg)
end
end K47
namespace K47
open PySem PySem.Spec PyProof.Rows L2 Rg
section
variable {P : Program} {w : World} {K : PySem.W.Frag} {mg : Str → Option Value} {base : Heap}
/-- the call live_copies(marks, lapse=g) -/
theorem kb_live_copies (T : Tx K mg) : KBn K T.fd_live_copies ["marks", "lapse"] 1 ["lapse"] (fun us ws => us ++ ws) (fun us ws => us ++ ws) := by
  obtain ⟨oc, od, kV, doc, pm, an, cdv, ct, osl, e, lk, hcd⟩ := T.F_live_copies.ex
  refine ⟨fun s us ws _ l1 l2 => ?_, fun r1 r2 => r1.append r2⟩
  rw [e]
  match us, ws, l1, l2 with
  | [_], [_], _, _ => exact .of_eq rfl
end
end K47
namespace K47
open PySem PySem.Spec PyProof.Rows L2 Rg
/-! ### the cells that come up -/
def zer : List Int := [0, 0, 0, 0, 0, 0, 0, 0]
def foundR (lot x : Int) : Option (Addr × Rec) → List Int
  | some (_, .copy l y c) => if l = lot ∧ y = x then c else zer
  | _ => zer
def foundC (hc : List (List Int)) (lg : LogL) (x : Int) : Option (Int × Int) → List Int
  | none => hc.getD x.toNat zer
  | some p => if 0 ≤ p.2 ∧ p.2 < lg.length then foundR p.1 x (lg.getD p.2.toNat none) else zer
/-- tuples of cells stand at ts -/
def HomAt (K : PySem.W.Frag) (H : Hp) (ts : List Addr) (hc : List (List Int)) : Prop := ts.length = hc.length ∧ ∀ (i : Nat) (t : Addr) (c : List Int), ts[i]? = some t → hc[i]? = some c → SqT K H t (c.map V.int)
theorem HomAt.by {K : PySem.W.Frag} {H H' : Hp} {ts : List Addr} {hc : List (List Int)} (h : HomAt K H ts hc) (f : ∀ b xs, SqT K H b xs → SqT K H' b xs) : HomAt K H' ts hc := ⟨h.1, fun i t c a b => f _ _ (h.2 i t c a b)⟩
theorem HomAt.same {K : PySem.W.Frag} {H H' : Hp} {ts : List Addr} {hc : List (List Int)} (h : HomAt K H ts hc) (S : Same H H') : HomAt K H' ts hc := h.by fun _ _ => sameT S
theorem HomAt.at {K : PySem.W.Frag} {H : Hp} {ts : List Addr} {hc : List (List Int)} (h : HomAt K H ts hc) {i : Nat} (hi : i < hc.length) : ∃ t, ts[i]? = some t ∧ SqT K H t ((hc.getD i zer).map V.int) := by
  have e1 : ts[i]? = some (ts[i]'(by rw [h.1]; exact hi)) := List.getElem?_eq_getElem (by rw [h.1]; exact hi)
  have e2 : hc[i]? = some hc[i] := List.getElem?_eq_getElem hi
  exact ⟨_, e1, by rw [List.getD_eq_getElem?_getD, e2]; exact h.2 i _ _ e1 e2⟩
theorem HomAt.set {K : PySem.W.Frag} {H : Hp} {ts : List Addr} {hc : List (List Int)} (h : HomAt K H ts hc) {t : Addr} {c : List Int} (e : SqT K H t (c.map V.int)) (i : Nat) : HomAt K H (ts.set i t) (hc.set i c) := ⟨by rw [List.length_set, List.length_set]; exact h.1, fun j t' c' a b => by
  rw [List.getElem?_set] at a b
  by_cases z : i = j
  · rw [if_pos z] at a b
    by_cases y : i < ts.length
    · rw [if_pos y] at a
      rw [if_pos (by rw [← h.1]; exact y)] at b
      cases a; cases b
      exact e
    · rw [if_neg y] at a
      cases a
  · rw [if_neg z] at a b
    exact h.2 j t' c' a b⟩
theorem eq3 (a b c d : Int) : PyData.eqv (.tuple [.str "copy", .int a, .int b]) (.tuple [.str "copy", .int c, .int d]) = decide (a = c ∧ b = d) := by
  simp [PyData.eqv, PyData.eqvAll, Bool.decide_and]
  by_cases e : a = c <;> by_cases f : b = d <;> simp [e, f]
theorem sh3 {z : Str} (hz : PyData.canLay0 (.str z) = true) (a b : Int) : SeqAt.shaped (.tuple [.str z, .int a, .int b]) = true := by
  unfold SeqAt.shaped
  rw [Bool.and_eq_true]
  exact ⟨by show (PyData.canLay0 (.str z) && true) = true; rw [hz]; rfl, rfl⟩
theorem shM (lot : Int) (ps : List (Int × Int)) : SeqAt.shaped (.tuple [.str "mark", .int lot, .tuple (ps.map dPr)]) = true := by
  unfold SeqAt.shaped
  rw [Bool.and_eq_true]
  refine ⟨by show (PyData.canLay0 (.str "mark") && (PyData.canLayAll0 (ps.map dPr) && true)) = true; rw [r_canP, show PyData.canLay0 (.str "mark") = true by decide +kernel]; rfl, decide_eq_true ?_⟩
  show max 0 (max 0 (max (PyData.depthAll (ps.map dPr) + 1) 0)) + 1 ≤ 64
  have := r_depP ps
  omega
theorem rep8 {K : PySem.W.Frag} {H : Hp} {Q : VK} {t0 : Addr} (h : SqT K H t0 [.int 0]) (k : ∀ t, H t = none → Q (.ref t) (upd H t (.tup (zer.map V.int)))) : rRepT K (.ref t0) (.int 8) H Q :=
  ⟨t0, 8, _, rfl, rfl, h, by simp, by decide, by decide, by decide, fun t nt => k t nt⟩
section
variable {P : Program} {w : World} {K : PySem.W.Frag} {mg : Str → Option Value} {base : Heap}
def sp_cells_found (CD CP : Addr) (K : PySem.W.Frag) : Sp := fun vs H Q _ => ∃ (d a : Addr) (x : Int) (A : DA) (b n s hd la M : Int) (ts : List Addr) (hc : List (List Int)) (lg : LogL) (kv lv : List (Key × V)) (F : LiveF), vs = [.ref d, .int x, .ref a] ∧ DAt CD CP H d A b n s hd la (ts.map V.ref) (lg.map gV) kv ∧ LogAt K H b s M lg ∧ HomAt K H ts hc ∧ H a = some (.dK lv) ∧ LvAt H lv F ∧ 0 ≤ x ∧ x < b ∧
  ∀ (H' : Hp) (t : Addr), Same H H' → SqT K H' t ((foundC hc lg x (F x)).map V.int) → Q (.ref t) H'
theorem ok_cells_found (T : Tx K mg) : FnOk P w K mg base CX0 1 T.f_cells_found T.fd_cells_found ["disk", "x", "live"] (sp_cells_found T.C_Disk T.C_Plan K) := by
  refine T.F_cells_found.ok sc_cells_found (fun vs H Q E h => ?_) (fun cdv A0 outer s H vs Q E hr h => ?_)
  · obtain ⟨_, _, _, _, _, _, _, _, _, _, _, _, _, _, _, _, rfl, _⟩ := h; rfl
  · obtain ⟨d, a, x, A, b, n, sl, hd, la, M, ts, hc, lg, kv, lv, F, rfl, D, hL, hH, ea, hF, x0, xb, k⟩ := h
    refine ⟨_, (pss_cons (ps_if (pt_cmp (pc_dnotin (hu_of hr) (pv 1) (pv 2)) rfl)
        (pss_one (ps_ret (pe_ix ix_list (pe_fld (pv 0) rfl) (pv 1) (fun _ _ => rfl))))
        pss_nil)
      (pss_cons (ps_asg (pe_dget (hu_of hr) (pv 2) (pv 1) (fun _ _ => rfl)) (pg_tup rfl (pgs_cons (pg_name (i := 3) sc_cells_found.nd rfl (.inl rfl)) (pgs_cons (pg_name (i := 4) sc_cells_found.nd rfl (.inl rfl)) pgs_nil))))
      (pss_cons (ps_set (i := 5) sc_cells_found.nd rfl (.inl rfl) (pe_ifExp (pt_chain op_le op_lt pe_int (pv 4) (pe_callB call_len_seq rfl T.b_len (by decide +kernel) (pa_cons (pe_fld (pv 0) rfl) pa_nil))) (pe_ix ix_list (pe_fld (pv 0) rfl) (pv 4) (fun _ _ => rfl)) pe_non))
      (pss_cons (ps_if (PW.pt (pw_and (pt_cmpR op_notN (pv 5) pe_non (nomark _)) (pw_and1 (pt_cmpR (op_eqD hr.units) (pe_slice sl_tup (pv 5) po_none (po_some pe_int)) (pe_tup (pa_cons pe_str (pa_cons (pv 3) (pa_cons (pv 1) pa_nil)))) (nomark _)))))
        (pss_one (ps_ret (pe_ix ix_tup (pv 5) pe_int (fun _ _ => rfl))))
        pss_nil)
      (pss_one (ps_ret (pe_op op_repT (pe_tup (pa_cons pe_int pa_nil)) (pe_cv T.mg_Plan T.cr_Plan T.cv_Plan_WIDTH)))))))), ?_⟩
    have fx := hF.2 x
    obtain ⟨dx, ho⟩ := D.ob
    have lgl : (lg.length : Int) = sl := by have := D.gl; rw [List.length_map] at this; exact this
    -- eight zeros
    have zeros : ∀ (H1 : Hp) (t : Addr), Same H H1 → H1 t = none → foundC hc lg x (F x) = zer → Q (.ref t) (upd H1 t (.tup (zer.map V.int))) := fun H1 t S1 nt ez => k _ t (S1.trans (same_upd nt)) (by rw [ez]; exact .of upd_same)
    have dg := DGet.k (k := Sum.inl x) ea
    have elg := D.lg
    have eho := D.ho
    have cD := T.cl_Disk
    have nl := T.na_Disk_log
    have nh := T.na_Disk_home
    cases q : F x with
    | none =>
      rw [q] at fx
      rw [show valV lv (Sum.inl x) = none from fx] at dg
      have := D.hl
      have hxl : x.toNat < hc.length := by rw [List.length_map, hH.1] at this; omega
      obtain ⟨t, t1, t2⟩ := hH.at hxl
      have g1 : atI (ts.map V.ref) x = some (.ref t) := atN (j := x.toNat) (by omega) (by rw [List.getElem?_map, t1]; rfl)
      (repeat ((fail_if_success (intro _)); first | (refine And.intro ?_ ?_; focus (first | rfl | assumption | exact .of (by assumption) | exact .inl (.of (by assumption)) | exact .inr (by assumption) | exact .inr (.of (by assumption)) | exact kit_ty (by decide +kernel) | exact .ty _ | exact tyT (by assumption) | exact .base (.int _) | (show _ ≤ sizeLine; first | decide | exact Nat.le_of_ble_eq_true rfl | (simp only [List.length_cons, List.length_nil]; decide)) | exact ⟨_, .of (by assumption)⟩ | exact ⟨_, by assumption⟩ | exact DGet.k (by assumption) | (with_reducible show (_ : Int) ≤ _; omega) | (with_reducible show (_ : Int) < _; omega) | (with_reducible show (_ : Nat) ≤ _; omega) | (with_reducible show (_ : Nat) < _; omega) | exact ⟨by decide, by decide⟩ | exact CMul_l (by decide) | exact CMul_r (by decide))) | ((fail_if_success (show ∃ W : Nat → Nat → L2.St → Hp → Prop, _)); apply Exists.intro) | (refine iteT ?_) | (refine iteF ?_) | (refine wT ?_ ?_; focus omega) | (refine wF ?_ ?_; focus omega) | (refine wTv ?_ ?_; focus omega) | (refine wFv ?_ ?_; focus omega) | (refine wNT ?_ ?_; focus omega) | (refine wNF ?_ ?_; focus omega)))
      exact k H t (fun _ _ z => z) (by rw [q]; exact t2)
    | some p =>
      rw [q] at fx zeros
      obtain ⟨t, fx1, fx2⟩ := fx
      rw [fx1] at dg
      (repeat ((fail_if_success (intro _)); first | (refine And.intro ?_ ?_; focus (first | rfl | assumption | exact .of (by assumption) | exact .inl (.of (by assumption)) | exact .inr (by assumption) | exact .inr (.of (by assumption)) | exact kit_ty (by decide +kernel) | exact .ty _ | exact tyT (by assumption) | exact .base (.int _) | (show _ ≤ sizeLine; first | decide | exact Nat.le_of_ble_eq_true rfl | (simp only [List.length_cons, List.length_nil]; decide)) | exact ⟨_, .of (by assumption)⟩ | exact ⟨_, by assumption⟩ | exact DGet.k (by assumption) | (with_reducible show (_ : Int) ≤ _; omega) | (with_reducible show (_ : Int) < _; omega) | (with_reducible show (_ : Nat) ≤ _; omega) | (with_reducible show (_ : Nat) < _; omega) | exact ⟨by decide, by decide⟩ | exact CMul_l (by decide) | exact CMul_r (by decide))) | ((fail_if_success (show ∃ W : Nat → Nat → L2.St → Hp → Prop, _)); apply Exists.intro) | (refine iteT ?_) | (refine iteF ?_) | (refine wT ?_ ?_; focus omega) | (refine wF ?_ ?_; focus omega) | (refine wTv ?_ ?_; focus omega) | (refine wFv ?_ ?_; focus omega) | (refine wNT ?_ ?_; focus omega) | (refine wNF ?_ ?_; focus omega)))
      refine wD (fun h0 => ?_) fun h0 => ?_
      · (repeat ((fail_if_success (intro _)); first | (refine And.intro ?_ ?_; focus (first | rfl | assumption | exact .of (by assumption) | exact .inl (.of (by assumption)) | exact .inr (by assumption) | exact .inr (.of (by assumption)) | exact kit_ty (by decide +kernel) | exact .ty _ | exact tyT (by assumption) | exact .base (.int _) | (show _ ≤ sizeLine; first | decide | exact Nat.le_of_ble_eq_true rfl | (simp only [List.length_cons, List.length_nil]; decide)) | exact ⟨_, .of (by assumption)⟩ | exact ⟨_, by assumption⟩ | exact DGet.k (by assumption) | (with_reducible show (_ : Int) ≤ _; omega) | (with_reducible show (_ : Int) < _; omega) | (with_reducible show (_ : Nat) ≤ _; omega) | (with_reducible show (_ : Nat) < _; omega) | exact ⟨by decide, by decide⟩ | exact CMul_l (by decide) | exact CMul_r (by decide))) | ((fail_if_success (show ∃ W : Nat → Nat → L2.St → Hp → Prop, _)); apply Exists.intro) | (refine iteT ?_) | (refine iteF ?_) | (refine wT ?_ ?_; focus omega) | (refine wF ?_ ?_; focus omega) | (refine wTv ?_ ?_; focus omega) | (refine wFv ?_ ?_; focus omega) | (refine wNT ?_ ?_; focus omega) | (refine wNF ?_ ?_; focus omega)))
        refine wD (fun h1 => ?_) fun h1 => ?_
        · rw [List.length_map] at h1
          obtain ⟨o, eo⟩ : ∃ o, lg[p.2.toNat]? = some o := ⟨_, List.getElem?_eq_getElem (by omega)⟩
          have g1 : atI (lg.map gV) p.2 = some (gV o) := atN (j := p.2.toNat) (by omega) (by rw [List.getElem?_map, eo]; rfl)
          have eF : foundC hc lg x (some p) = foundR p.1 x o := by
            show (if 0 ≤ p.2 ∧ p.2 < lg.length then _ else _) = _
            rw [if_pos (by omega), List.getD_eq_getElem?_getD, eo]; rfl
          rw [q, eF] at k
          rw [eF] at zeros
          (repeat ((fail_if_success (intro _)); first | (refine And.intro ?_ ?_; focus (first | rfl | assumption | exact .of (by assumption) | exact .inl (.of (by assumption)) | exact .inr (by assumption) | exact .inr (.of (by assumption)) | exact kit_ty (by decide +kernel) | exact .ty _ | exact tyT (by assumption) | exact .base (.int _) | (show _ ≤ sizeLine; first | decide | exact Nat.le_of_ble_eq_true rfl | (simp only [List.length_cons, List.length_nil]; decide)) | exact ⟨_, .of (by assumption)⟩ | exact ⟨_, by assumption⟩ | exact DGet.k (by assumption) | (with_reducible show (_ : Int) ≤ _; omega) | (with_reducible show (_ : Int) < _; omega) | (with_reducible show (_ : Nat) ≤ _; omega) | (with_reducible show (_ : Nat) < _; omega) | exact ⟨by decide, by decide⟩ | exact CMul_l (by decide) | exact CMul_r (by decide))) | ((fail_if_success (show ∃ W : Nat → Nat → L2.St → Hp → Prop, _)); apply Exists.intro) | (refine iteT ?_) | (refine iteF ?_) | (refine wT ?_ ?_; focus omega) | (refine wF ?_ ?_; focus omega) | (refine wTv ?_ ?_; focus omega) | (refine wFv ?_ ?_; focus omega) | (refine wNT ?_ ?_; focus omega) | (refine wNF ?_ ?_; focus omega)))
          cases o with
          | none =>
            (repeat ((fail_if_success (intro _)); first | (refine And.intro ?_ ?_; focus (first | rfl | assumption | exact .of (by assumption) | exact .inl (.of (by assumption)) | exact .inr (by assumption) | exact .inr (.of (by assumption)) | exact kit_ty (by decide +kernel) | exact .ty _ | exact tyT (by assumption) | exact .base (.int _) | (show _ ≤ sizeLine; first | decide | exact Nat.le_of_ble_eq_true rfl | (simp only [List.length_cons, List.length_nil]; decide)) | exact ⟨_, .of (by assumption)⟩ | exact ⟨_, by assumption⟩ | exact DGet.k (by assumption) | (with_reducible show (_ : Int) ≤ _; omega) | (with_reducible show (_ : Int) < _; omega) | (with_reducible show (_ : Nat) ≤ _; omega) | (with_reducible show (_ : Nat) < _; omega) | exact ⟨by decide, by decide⟩ | exact CMul_l (by decide) | exact CMul_r (by decide))) | ((fail_if_success (show ∃ W : Nat → Nat → L2.St → Hp → Prop, _)); apply Exists.intro) | (refine iteT ?_) | (refine iteF ?_) | (refine wT ?_ ?_; focus omega) | (refine wF ?_ ?_; focus omega) | (refine wTv ?_ ?_; focus omega) | (refine wFv ?_ ?_; focus omega) | (refine wNT ?_ ?_; focus omega) | (refine wNF ?_ ?_; focus omega)))
            (intro t0 n_t0; generalize he_t0 : upd _ t0 _ = H1; obtain ⟨e_t0, s_t0, f_t0⟩ := new_f he_t0 n_t0; clear he_t0)
            exact rep8 (.of e_t0) fun t nt => zeros _ t s_t0 nt rfl
          | some u =>
            obtain ⟨ra, r⟩ := u
            obtain ⟨hR, _, _⟩ := hL _ _ _ eo
            cases r with
            | copy lot y c =>
              obtain ⟨pc, h1, h2⟩ := hR
              (repeat ((fail_if_success (intro _)); first | (refine And.intro ?_ ?_; focus (first | rfl | assumption | exact .of (by assumption) | exact .inl (.of (by assumption)) | exact .inr (by assumption) | exact .inr (.of (by assumption)) | exact kit_ty (by decide +kernel) | exact .ty _ | exact tyT (by assumption) | exact .base (.int _) | (show _ ≤ sizeLine; first | decide | exact Nat.le_of_ble_eq_true rfl | (simp only [List.length_cons, List.length_nil]; decide)) | exact ⟨_, .of (by assumption)⟩ | exact ⟨_, by assumption⟩ | exact DGet.k (by assumption) | (with_reducible show (_ : Int) ≤ _; omega) | (with_reducible show (_ : Int) < _; omega) | (with_reducible show (_ : Nat) ≤ _; omega) | (with_reducible show (_ : Nat) < _; omega) | exact ⟨by decide, by decide⟩ | exact CMul_l (by decide) | exact CMul_r (by decide))) | ((fail_if_success (show ∃ W : Nat → Nat → L2.St → Hp → Prop, _)); apply Exists.intro) | (refine iteT ?_) | (refine iteF ?_) | (refine wT ?_ ?_; focus omega) | (refine wF ?_ ?_; focus omega) | (refine wTv ?_ ?_; focus omega) | (refine wFv ?_ ?_; focus omega) | (refine wNT ?_ ?_; focus omega) | (refine wNF ?_ ?_; focus omega)))
              refine ⟨fun z => absurd z.2 (by show HT.sIx 4 4 (some 3) ≠ 4; decide), ?_⟩
              (intro q n_q; generalize he_q : upd _ q _ = H1; obtain ⟨e_q, s_q, f_q⟩ := new_f he_q n_q; clear he_q)
              have e_q : H1 q = some (.tup [.str "copy", .int lot, .int y]) := by rw [e_q]; rfl
              (repeat ((fail_if_success (intro _)); first | (refine And.intro ?_ ?_; focus (first | rfl | assumption | exact .of (by assumption) | exact .inl (.of (by assumption)) | exact .inr (by assumption) | exact .inr (.of (by assumption)) | exact kit_ty (by decide +kernel) | exact .ty _ | exact tyT (by assumption) | exact .base (.int _) | (show _ ≤ sizeLine; first | decide | exact Nat.le_of_ble_eq_true rfl | (simp only [List.length_cons, List.length_nil]; decide)) | exact ⟨_, .of (by assumption)⟩ | exact ⟨_, by assumption⟩ | exact DGet.k (by assumption) | (with_reducible show (_ : Int) ≤ _; omega) | (with_reducible show (_ : Int) < _; omega) | (with_reducible show (_ : Nat) ≤ _; omega) | (with_reducible show (_ : Nat) < _; omega) | exact ⟨by decide, by decide⟩ | exact CMul_l (by decide) | exact CMul_r (by decide))) | ((fail_if_success (show ∃ W : Nat → Nat → L2.St → Hp → Prop, _)); apply Exists.intro) | (refine iteT ?_) | (refine iteF ?_) | (refine wT ?_ ?_; focus omega) | (refine wF ?_ ?_; focus omega) | (refine wTv ?_ ?_; focus omega) | (refine wFv ?_ ?_; focus omega) | (refine wNT ?_ ?_; focus omega) | (refine wNF ?_ ?_; focus omega)))
              (intro u n_u; generalize he_u : upd _ u _ = H2; obtain ⟨e_u, s_u, f_u⟩ := new_f he_u n_u; clear he_u)
              refine ⟨.tuple [.str "copy", .int lot, .int y], .tuple [.str "copy", .int p.1, .int x], .tup (.of (s_u _ _ e_q)) (.cons (.str _) (.cons (.int _) (.cons (.int _) .nil))), .tup (.of e_u) (.cons (.str _) (.cons (.int _) (.cons (.int _) .nil))), sh3 (by decide +kernel) _ _, sh3 (by decide +kernel) _ _, ?_⟩
              have S2 := s_q.trans s_u
              have h1' := sameT S2 h1
              (repeat ((fail_if_success (intro _)); first | (refine And.intro ?_ ?_; focus (first | rfl | assumption | exact .of (by assumption) | exact .inl (.of (by assumption)) | exact .inr (by assumption) | exact .inr (.of (by assumption)) | exact kit_ty (by decide +kernel) | exact .ty _ | exact tyT (by assumption) | exact .base (.int _) | (show _ ≤ sizeLine; first | decide | exact Nat.le_of_ble_eq_true rfl | (simp only [List.length_cons, List.length_nil]; decide)) | exact ⟨_, .of (by assumption)⟩ | exact ⟨_, by assumption⟩ | exact DGet.k (by assumption) | (with_reducible show (_ : Int) ≤ _; omega) | (with_reducible show (_ : Int) < _; omega) | (with_reducible show (_ : Nat) ≤ _; omega) | (with_reducible show (_ : Nat) < _; omega) | exact ⟨by decide, by decide⟩ | exact CMul_l (by decide) | exact CMul_r (by decide))) | ((fail_if_success (show ∃ W : Nat → Nat → L2.St → Hp → Prop, _)); apply Exists.intro) | (refine iteT ?_) | (refine iteF ?_) | (refine wT ?_ ?_; focus omega) | (refine wF ?_ ?_; focus omega) | (refine wTv ?_ ?_; focus omega) | (refine wFv ?_ ?_; focus omega) | (refine wNT ?_ ?_; focus omega) | (refine wNF ?_ ?_; focus omega)))
              rw [eq3]
              by_cases e : lot = p.1 ∧ y = x
              · rw [decide_eq_true e]
                rw [show foundR p.1 x (some (ra, Rec.copy lot y c)) = c from if_pos e] at k
                have h3 : atI [V.str "copy", V.int lot, V.int y, V.ref pc] 3 = some (.ref pc) := rfl
                (repeat ((fail_if_success (intro _)); first | (refine And.intro ?_ ?_; focus (first | rfl | assumption | exact .of (by assumption) | exact .inl (.of (by assumption)) | exact .inr (by assumption) | exact .inr (.of (by assumption)) | exact kit_ty (by decide +kernel) | exact .ty _ | exact tyT (by assumption) | exact .base (.int _) | (show _ ≤ sizeLine; first | decide | exact Nat.le_of_ble_eq_true rfl | (simp only [List.length_cons, List.length_nil]; decide)) | exact ⟨_, .of (by assumption)⟩ | exact ⟨_, by assumption⟩ | exact DGet.k (by assumption) | (with_reducible show (_ : Int) ≤ _; omega) | (with_reducible show (_ : Int) < _; omega) | (with_reducible show (_ : Nat) ≤ _; omega) | (with_reducible show (_ : Nat) < _; omega) | exact ⟨by decide, by decide⟩ | exact CMul_l (by decide) | exact CMul_r (by decide))) | ((fail_if_success (show ∃ W : Nat → Nat → L2.St → Hp → Prop, _)); apply Exists.intro) | (refine iteT ?_) | (refine iteF ?_) | (refine wT ?_ ?_; focus omega) | (refine wF ?_ ?_; focus omega) | (refine wTv ?_ ?_; focus omega) | (refine wFv ?_ ?_; focus omega) | (refine wNT ?_ ?_; focus omega) | (refine wNF ?_ ?_; focus omega)))
                exact k _ pc S2 (sameT S2 h2)
              · rw [decide_eq_false e]
                (repeat ((fail_if_success (intro _)); first | (refine And.intro ?_ ?_; focus (first | rfl | assumption | exact .of (by assumption) | exact .inl (.of (by assumption)) | exact .inr (by assumption) | exact .inr (.of (by assumption)) | exact kit_ty (by decide +kernel) | exact .ty _ | exact tyT (by assumption) | exact .base (.int _) | (show _ ≤ sizeLine; first | decide | exact Nat.le_of_ble_eq_true rfl | (simp only [List.length_cons, List.length_nil]; decide)) | exact ⟨_, .of (by assumption)⟩ | exact ⟨_, by assumption⟩ | exact DGet.k (by assumption) | (with_reducible show (_ : Int) ≤ _; omega) | (with_reducible show (_ : Int) < _; omega) | (with_reducible show (_ : Nat) ≤ _; omega) | (with_reducible show (_ : Nat) < _; omega) | exact ⟨by decide, by decide⟩ | exact CMul_l (by decide) | exact CMul_r (by decide))) | ((fail_if_success (show ∃ W : Nat → Nat → L2.St → Hp → Prop, _)); apply Exists.intro) | (refine iteT ?_) | (refine iteF ?_) | (refine wT ?_ ?_; focus omega) | (refine wF ?_ ?_; focus omega) | (refine wTv ?_ ?_; focus omega) | (refine wFv ?_ ?_; focus omega) | (refine wNT ?_ ?_; focus omega) | (refine wNF ?_ ?_; focus omega)))
                (intro t0 n_t0; generalize he_t0 : upd _ t0 _ = H3; obtain ⟨e_t0, s_t0, f_t0⟩ := new_f he_t0 n_t0; clear he_t0)
                exact rep8 (.of e_t0) fun t nt => zeros _ t (S2.trans s_t0) nt (if_neg e)
            | mark lot ps rs =>
              obtain ⟨pp, pr, h1, ⟨qs, g2, g3, g4⟩, _⟩ := hR
              (repeat ((fail_if_success (intro _)); first | (refine And.intro ?_ ?_; focus (first | rfl | assumption | exact .of (by assumption) | exact .inl (.of (by assumption)) | exact .inr (by assumption) | exact .inr (.of (by assumption)) | exact kit_ty (by decide +kernel) | exact .ty _ | exact tyT (by assumption) | exact .base (.int _) | (show _ ≤ sizeLine; first | decide | exact Nat.le_of_ble_eq_true rfl | (simp only [List.length_cons, List.length_nil]; decide)) | exact ⟨_, .of (by assumption)⟩ | exact ⟨_, by assumption⟩ | exact DGet.k (by assumption) | (with_reducible show (_ : Int) ≤ _; omega) | (with_reducible show (_ : Int) < _; omega) | (with_reducible show (_ : Nat) ≤ _; omega) | (with_reducible show (_ : Nat) < _; omega) | exact ⟨by decide, by decide⟩ | exact CMul_l (by decide) | exact CMul_r (by decide))) | ((fail_if_success (show ∃ W : Nat → Nat → L2.St → Hp → Prop, _)); apply Exists.intro) | (refine iteT ?_) | (refine iteF ?_) | (refine wT ?_ ?_; focus omega) | (refine wF ?_ ?_; focus omega) | (refine wTv ?_ ?_; focus omega) | (refine wFv ?_ ?_; focus omega) | (refine wNT ?_ ?_; focus omega) | (refine wNF ?_ ?_; focus omega)))
              refine ⟨fun z => absurd z.2 (by show HT.sIx 4 4 (some 3) ≠ 4; decide), ?_⟩
              (intro q n_q; generalize he_q : upd _ q _ = H1; obtain ⟨e_q, s_q, f_q⟩ := new_f he_q n_q; clear he_q)
              have e_q : H1 q = some (.tup [.str "mark", .int lot, .ref pp]) := by rw [e_q]; rfl
              (repeat ((fail_if_success (intro _)); first | (refine And.intro ?_ ?_; focus (first | rfl | assumption | exact .of (by assumption) | exact .inl (.of (by assumption)) | exact .inr (by assumption) | exact .inr (.of (by assumption)) | exact kit_ty (by decide +kernel) | exact .ty _ | exact tyT (by assumption) | exact .base (.int _) | (show _ ≤ sizeLine; first | decide | exact Nat.le_of_ble_eq_true rfl | (simp only [List.length_cons, List.length_nil]; decide)) | exact ⟨_, .of (by assumption)⟩ | exact ⟨_, by assumption⟩ | exact DGet.k (by assumption) | (with_reducible show (_ : Int) ≤ _; omega) | (with_reducible show (_ : Int) < _; omega) | (with_reducible show (_ : Nat) ≤ _; omega) | (with_reducible show (_ : Nat) < _; omega) | exact ⟨by decide, by decide⟩ | exact CMul_l (by decide) | exact CMul_r (by decide))) | ((fail_if_success (show ∃ W : Nat → Nat → L2.St → Hp → Prop, _)); apply Exists.intro) | (refine iteT ?_) | (refine iteF ?_) | (refine wT ?_ ?_; focus omega) | (refine wF ?_ ?_; focus omega) | (refine wTv ?_ ?_; focus omega) | (refine wFv ?_ ?_; focus omega) | (refine wNT ?_ ?_; focus omega) | (refine wNF ?_ ?_; focus omega)))
              (intro u n_u; generalize he_u : upd _ u _ = H2; obtain ⟨e_u, s_u, f_u⟩ := new_f he_u n_u; clear he_u)
              have S2 := s_q.trans s_u
              refine ⟨.tuple [.str "mark", .int lot, .tuple (ps.map dPr)], .tuple [.str "copy", .int p.1, .int x], .tup (.of (s_u _ _ e_q)) (.cons (.str _) (.cons (.int _) (.cons (.tup (sameT S2 g2) (r_dpAllP qs ps g3 fun i q p a b => sameT S2 (g4 i q p a b))) .nil))), .tup (.of e_u) (.cons (.str _) (.cons (.int _) (.cons (.int _) .nil))), shM _ _, sh3 (by decide +kernel) _ _, _, rfl, wFb rfl ?_⟩
              (repeat ((fail_if_success (intro _)); first | (refine And.intro ?_ ?_; focus (first | rfl | assumption | exact .of (by assumption) | exact .inl (.of (by assumption)) | exact .inr (by assumption) | exact .inr (.of (by assumption)) | exact kit_ty (by decide +kernel) | exact .ty _ | exact tyT (by assumption) | exact .base (.int _) | (show _ ≤ sizeLine; first | decide | exact Nat.le_of_ble_eq_true rfl | (simp only [List.length_cons, List.length_nil]; decide)) | exact ⟨_, .of (by assumption)⟩ | exact ⟨_, by assumption⟩ | exact DGet.k (by assumption) | (with_reducible show (_ : Int) ≤ _; omega) | (with_reducible show (_ : Int) < _; omega) | (with_reducible show (_ : Nat) ≤ _; omega) | (with_reducible show (_ : Nat) < _; omega) | exact ⟨by decide, by decide⟩ | exact CMul_l (by decide) | exact CMul_r (by decide))) | ((fail_if_success (show ∃ W : Nat → Nat → L2.St → Hp → Prop, _)); apply Exists.intro) | (refine iteT ?_) | (refine iteF ?_) | (refine wT ?_ ?_; focus omega) | (refine wF ?_ ?_; focus omega) | (refine wTv ?_ ?_; focus omega) | (refine wFv ?_ ?_; focus omega) | (refine wNT ?_ ?_; focus omega) | (refine wNF ?_ ?_; focus omega)))
              (intro t0 n_t0; generalize he_t0 : upd _ t0 _ = H3; obtain ⟨e_t0, s_t0, f_t0⟩ := new_f he_t0 n_t0; clear he_t0)
              exact rep8 (.of e_t0) fun t nt => zeros _ t (S2.trans s_t0) nt rfl
        · (repeat ((fail_if_success (intro _)); first | (refine And.intro ?_ ?_; focus (first | rfl | assumption | exact .of (by assumption) | exact .inl (.of (by assumption)) | exact .inr (by assumption) | exact .inr (.of (by assumption)) | exact kit_ty (by decide +kernel) | exact .ty _ | exact tyT (by assumption) | exact .base (.int _) | (show _ ≤ sizeLine; first | decide | exact Nat.le_of_ble_eq_true rfl | (simp only [List.length_cons, List.length_nil]; decide)) | exact ⟨_, .of (by assumption)⟩ | exact ⟨_, by assumption⟩ | exact DGet.k (by assumption) | (with_reducible show (_ : Int) ≤ _; omega) | (with_reducible show (_ : Int) < _; omega) | (with_reducible show (_ : Nat) ≤ _; omega) | (with_reducible show (_ : Nat) < _; omega) | exact ⟨by decide, by decide⟩ | exact CMul_l (by decide) | exact CMul_r (by decide))) | ((fail_if_success (show ∃ W : Nat → Nat → L2.St → Hp → Prop, _)); apply Exists.intro) | (refine iteT ?_) | (refine iteF ?_) | (refine wT ?_ ?_; focus omega) | (refine wF ?_ ?_; focus omega) | (refine wTv ?_ ?_; focus omega) | (refine wFv ?_ ?_; focus omega) | (refine wNT ?_ ?_; focus omega) | (refine wNF ?_ ?_; focus omega)))
          (intro t0 n_t0; generalize he_t0 : upd _ t0 _ = H1; obtain ⟨e_t0, s_t0, f_t0⟩ := new_f he_t0 n_t0; clear he_t0)
          exact rep8 (.of e_t0) fun t nt => zeros _ t s_t0 nt (if_neg fun z => by rw [List.length_map] at h1; omega)
      · (repeat ((fail_if_success (intro _)); first | (refine And.intro ?_ ?_; focus (first | rfl | assumption | exact .of (by assumption) | exact .inl (.of (by assumption)) | exact .inr (by assumption) | exact .inr (.of (by assumption)) | exact kit_ty (by decide +kernel) | exact .ty _ | exact tyT (by assumption) | exact .base (.int _) | (show _ ≤ sizeLine; first | decide | exact Nat.le_of_ble_eq_true rfl | (simp only [List.length_cons, List.length_nil]; decide)) | exact ⟨_, .of (by assumption)⟩ | exact ⟨_, by assumption⟩ | exact DGet.k (by assumption) | (with_reducible show (_ : Int) ≤ _; omega) | (with_reducible show (_ : Int) < _; omega) | (with_reducible show (_ : Nat) ≤ _; omega) | (with_reducible show (_ : Nat) < _; omega) | exact ⟨by decide, by decide⟩ | exact CMul_l (by decide) | exact CMul_r (by decide))) | ((fail_if_success (show ∃ W : Nat → Nat → L2.St → Hp → Prop, _)); apply Exists.intro) | (refine iteT ?_) | (refine iteF ?_) | (refine wT ?_ ?_; focus omega) | (refine wF ?_ ?_; focus omega) | (refine wTv ?_ ?_; focus omega) | (refine wFv ?_ ?_; focus omega) | (refine wNT ?_ ?_; focus omega) | (refine wNF ?_ ?_; focus omega)))
        (intro t0 n_t0; generalize he_t0 : upd _ t0 _ = H1; obtain ⟨e_t0, s_t0, f_t0⟩ := new_f he_t0 n_t0; clear he_t0)
        exact rep8 (.of e_t0) fun t nt => zeros _ t s_t0 nt (if_neg fun z => by omega)
end
end K47
namespace K47
open PySem PySem.Spec PyProof.Rows L2 Rg
theorem all_int (l : List Int) : (l.map V.int).all flatV = true := by
  rw [List.all_map]
  exact List.all_eq_true.mpr fun _ _ => rfl
theorem MarksAt.at {K : PySem.W.Frag} {H : Hp} {ma : Addr} {ms : List Mk3} (h : MarksAt K H ma ms) {i : Nat} {m : Mk3} (hi : ms[i]? = some m) : ∃ (vs : List V) (a r pp pr : Addr) (z : Int), H ma = some (.lst vs) ∧ vs.length = ms.length ∧ atI vs (0 + (i : Int)) = some (.ref a) ∧ SqT K H a [.int z, .ref r] ∧ SqT K H r [.str "mark", .int m.1, .ref pp, .ref pr] ∧ PairsAt K H pp m.2.1 ∧ SqT K H pr (m.2.2.map V.int) := by
  obtain ⟨mas, h1, h2, h3⟩ := h
  have hl : i < mas.length := by have := (List.getElem?_eq_some_iff.mp hi).1; omega
  have e := List.getElem?_eq_getElem hl
  obtain ⟨z, r, q1, ⟨pp, pr, q2, q3, q4⟩⟩ := h3 i _ m e hi
  exact ⟨_, _, r, pp, pr, z, h1, by rw [List.length_map]; exact h2, atN (j := i) (by omega) (by rw [List.getElem?_map, e]; rfl), q1, q2, q3, q4⟩
theorem MarksAt.lst {K : PySem.W.Frag} {H : Hp} {ma : Addr} {ms : List Mk3} (h : MarksAt K H ma ms) : ∃ (vs : List V), H ma = some (.lst vs) ∧ vs.length = ms.length := by
  obtain ⟨mas, h1, h2, h3⟩ := h
  exact ⟨_, h1, by rw [List.length_map]; exact h2⟩
theorem PairsAt.at {K : PySem.W.Frag} {H : Hp} {pp : Addr} {ps : List (Int × Int)} (h : PairsAt K H pp ps) : ∃ qs : List Addr, SqT K H pp (qs.map V.ref) ∧ (qs.map V.ref).length = ps.length ∧ ∀ (j : Nat) (y : V), (qs.map V.ref)[j]? = some y → ∃ (q : Addr) (p : Int × Int), y = .ref q ∧ ps[j]? = some p ∧ SqT K H q [.int p.1, .int p.2] := by
  obtain ⟨qs, h1, h2, h3⟩ := h
  refine ⟨qs, h1, by rw [List.length_map]; exact h2, fun j y hj => ?_⟩
  rw [List.getElem?_map] at hj
  obtain ⟨q, hq, rfl⟩ := Option.map_eq_some_iff.mp hj
  have hl : j < ps.length := by have := (List.getElem?_eq_some_iff.mp hq).1; omega
  exact ⟨q, ps[j], rfl, List.getElem?_eq_getElem hl, h3 j q _ hq (List.getElem?_eq_getElem hl)⟩
section
variable {P : Program} {w : World} {K : PySem.W.Frag} {mg : Str → Option Value} {base : Heap}
def sp_cells_after (CD CP : Addr) (K : PySem.W.Frag) : Sp := fun vs H Q _ => ∃ (d ma : Addr) (x : Int) (g : Bool) (A : DA) (b n s hd la M : Int) (ts : List Addr) (hc : List (List Int)) (lg : LogL) (kv : List (Key × V)) (ms : List Mk3), vs = [.ref d, .ref ma, .int x, .bl g] ∧ DAt CD CP H d A b n s hd la (ts.map V.ref) (lg.map gV) kv ∧ LogAt K H b s M lg ∧ HomAt K H ts hc ∧ MarksAt K H ma ms ∧ ms.length ≤ 100 ∧ (∀ m ∈ ms, m.2.1.length ≤ 5) ∧ 0 ≤ x ∧ x < b ∧
  ∀ (H' : Hp) (t : Addr), Same H H' → SqT K H' t ((foundC hc lg x (liveF g ms (fun _ => none) x)).map V.int) → Q (.ref t) H'
theorem ok_cells_after (T : Tx K mg) : FnOk P w K mg base CX0 2 T.f_cells_after T.fd_cells_after ["disk", "marks", "x", "lapse"] (sp_cells_after T.C_Disk T.C_Plan K) := by
  refine T.F_cells_after.ok sc_cells_after (fun vs H Q E h => ?_) (fun cdv A0 outer s H vs Q E hr h => ?_)
  · obtain ⟨_, _, _, _, _, _, _, _, _, _, _, _, _, _, _, _, rfl, _⟩ := h; rfl
  · obtain ⟨d, ma, x, g, A, b, n, sl, hd, la, M, ts, hc, lg, kv, ms, rfl, D, hL, hH, hM, hz, hp, x0, xb, k⟩ := h
    refine ⟨_, (pss_one (ps_ret (pe_call (ok_cells_found T) hr rfl T.mg_cells_found T.F_cells_found.kp (b_cells_found T) .nil pass0 (pa_cons (pv 0) (pa_cons (pv 2) (pa_cons (pe_callN (ok_live_copies T) hr rfl T.mg_live_copies T.F_live_copies.kp (kb_live_copies T) pass0 (pa_cons (pv 1) pa_nil) (pk_cons (pv 3) pk_nil)) pa_nil)))))), ?_⟩
    refine ⟨_, rfl, _, rfl, _, rfl, _, rfl, rfl, rfl, ma, g, ms, rfl, hM, hz, hp, fun H1 dd lv S1 nd ed hF _ => ?_⟩
    exact ⟨d, dd, x, A, b, n, sl, hd, la, M, ts, hc, lg, kv, lv, _, rfl, D.same S1, hL.same S1, hH.same S1, ed, hF, x0, xb, fun H2 t S2 e => k H2 t (S1.trans S2) e⟩
/-- the call cells_after(disk, marks, x, lapse=g) -/
theorem kb_cells_after (T : Tx K mg) : KBn K T.fd_cells_after ["disk", "marks", "x", "lapse"] 3 ["lapse"] (fun us ws => us ++ ws) (fun us ws => us ++ ws) := by
  obtain ⟨oc, od, kV, doc, pm, an, cdv, ct, osl, e, lk, hcd⟩ := T.F_cells_after.ex
  refine ⟨fun s us ws _ l1 l2 => ?_, fun r1 r2 => r1.append r2⟩
  rw [e]
  match us, ws, l1, l2 with
  | [_, _, _], [_], _, _ => exact .of_eq rfl
def DueV (H : Hp) (v : V) : Option (Int × Int) → Prop
  | none => v = .non
  | some p => ∃ t, v = .ref t ∧ H t = some (.tup [.int p.1, .int p.2])
theorem DueV.same {H H' : Hp} {v : V} {o : Option (Int × Int)} (h : DueV H v o) (S : Same H H') : DueV H' v o := by
  cases o with
  | none => exact h
  | some p => obtain ⟨t, a, b⟩ := h; exact ⟨t, a, S _ _ b⟩
end
end K47
namespace K47
open PySem PySem.Spec PyProof.Rows L2 Rg
theorem dueP_in {x lot : Int} {st : Bool} {p : Int × Int} : ∀ {ps : List (Int × Int)} {acc : Option (Int × Int)}, dueP x lot st ps acc = some p → acc = some p ∨ ∃ q ∈ ps, p.2 = q.2
  | [], _, h => .inl h
  | q :: ps, acc, h => by
    rw [dueP] at h
    rcases dueP_in h with z | ⟨q', hq, e⟩
    · by_cases c : q.1 = x ∧ st = false
      · rw [if_pos c] at z
        exact .inr ⟨q, List.mem_cons_self, by rw [← Option.some.inj z]⟩
      · rw [if_neg c] at z
        exact .inl z
    · exact .inr ⟨q', List.mem_cons_of_mem _ hq, e⟩
theorem dueF_in {x : Int} {g : Bool} {p : Int × Int} : ∀ {ms : List Mk3} {acc : Option (Int × Int)}, dueF x g ms acc = some p → acc = some p ∨ ∃ m ∈ ms, ∃ q ∈ m.2.1, p.2 = q.2
  | [], _, h => .inl h
  | m :: ms, acc, h => by
    rw [dueF] at h
    rcases dueF_in h with z | ⟨m', hm, q, hq, e⟩
    · rcases dueP_in z with z | ⟨q, hq, e⟩
      · exact .inl z
      · exact .inr ⟨m, List.mem_cons_self, q, hq, e⟩
    · exact .inr ⟨m', List.mem_cons_of_mem _ hm, q, hq, e⟩
end K47
namespace K47
open PySem PySem.Spec PyProof.Rows L2 Rg
/-- the mark that a found entry names -/
def mkOf (lg : LogL) (p : Nat × Addr) : Mk3 := match lg[p.1]? with
  | some (some (_, .mark l ps rs)) => (l, ps, rs)
  | _ => (0, [], [])
theorem due_rec {lg : LogL} : ∀ {L : Int} {ds : List (Nat × Addr)}, Due lg L ds → ∀ p ∈ ds, ∃ l ps rs, lg[p.1]? = some (some (p.2, .mark l ps rs)) ∧ fm lg l = some p.1 ∧ L ≤ l ∧ l < L + ds.length := by
  intro L ds h
  induction h with
  | nil _ => intro p hp; cases hp
  | @cons L j a r ds h1 h2 h3 ih =>
    intro p hp
    rcases List.mem_cons.mp hp with rfl | hp
    · obtain ⟨a', ps, rs, e⟩ := fm_some h1
      rw [h2] at e
      cases e
      exact ⟨L, ps, rs, h2, h1, by omega, by rw [List.length_cons]; omega⟩
    · obtain ⟨l, ps, rs, e1, e2, e3, e4⟩ := ih p hp
      exact ⟨l, ps, rs, e1, e2, by omega, by rw [List.length_cons]; omega⟩
theorem due_marks {K : PySem.W.Frag} {H : Hp} {b s M L : Int} {lg : LogL} {ds : List (Nat × Addr)} {ts : List Addr} {q : Addr} (hl : LogAt K H b s M lg) (hd : Due lg L ds) (hm : MksAt H ts ds) (e : H q = some (.lst (ts.map V.ref))) : MarksAt K H q (ds.map (mkOf lg)) := by
  refine ⟨ts, e, by rw [List.length_map]; exact hm.1, fun i a m h1 h2 => ?_⟩
  rw [List.getElem?_map] at h2
  obtain ⟨p, hp, rfl⟩ := Option.map_eq_some_iff.mp h2
  obtain ⟨l, ps, rs, e1, _⟩ := due_rec hd p (List.mem_of_getElem? hp)
  refine ⟨_, _, .of (hm.2 i a p h1 hp), ?_⟩
  have em : mkOf lg p = (l, ps, rs) := by unfold mkOf; rw [e1]
  rw [em]
  exact (hl _ _ _ e1).1
theorem due_fit {K : PySem.W.Frag} {H : Hp} {b s M L : Int} {lg : LogL} {ds : List (Nat × Addr)} (hl : LogAt K H b s M lg) (hd : Due lg L ds) {m : Mk3} (h : m ∈ ds.map (mkOf lg)) : ∃ p ∈ ds, lg[p.1]? = some (some (p.2, .mark m.1 m.2.1 m.2.2)) ∧ Fit b s (.mark m.1 m.2.1 m.2.2) := by
  obtain ⟨p, hp, rfl⟩ := List.mem_map.mp h
  obtain ⟨l, ps, rs, e1, _⟩ := due_rec hd p hp
  have em : mkOf lg p = (l, ps, rs) := by unfold mkOf; rw [e1]
  rw [em]
  exact ⟨p, hp, e1, (hl _ _ _ e1).2.1⟩
/-- k is a slot that is read -/
def InS (ds : List (Nat × Addr)) (F : LiveF) (k : Int) : Prop := (∃ p ∈ ds, (p.1 : Int) = k) ∨ (0 ≤ k ∧ ∃ x lot, F x = some (lot, k))
/-- the slots of live copies are slots -/
theorem liveF_slot {P : Int → Prop} (g : Bool) (x : Int) : ∀ (ms : List Mk3), (∀ m ∈ ms, ∀ p ∈ m.2.1, P p.2) → ∀ (F : LiveF), (∀ q, F x = some q → P q.2) → ∀ q, liveF g ms F x = some q → P q.2
  | [], _, F, h, q, e => h q e
  | m :: ms, hm, F, h, q, e => by
    refine liveF_slot g x ms (fun m' hm' => hm m' (by simp [hm'])) _ (fun r er => ?_) q e
    rw [addF_eq] at er
    rcases dueP_in er with z | ⟨p, hp, ep⟩
    · rw [strikeF_eq] at z
      split at z
      · cases z
      · exact h r z
    · rw [ep]
      exact hm m (by simp) p hp
theorem LvAt.ent' {H : Hp} {kv : List (Key × V)} {F : LiveF} (h : LvAt H kv F) {e : Key × V} (he : e ∈ kv) : ∃ (x : Int) (p : Int × Int) (t : Addr), e = (Sum.inl x, .ref t) ∧ F x = some p ∧ H t = some (.tup [.int p.1, .int p.2]) := by
  obtain ⟨x, ex⟩ := h.1.i e he
  have hv := valV_mem h.1.nd he
  rw [ex] at hv
  have := h.2 x
  cases q : F x with
  | none => rw [q] at this; rw [hv] at this; cases this
  | some p =>
    rw [q] at this
    obtain ⟨t, a, b⟩ := this
    rw [hv] at a
    exact ⟨x, p, t, by rw [← ex, ← Option.some.inj a], q, b⟩
def entS (F : LiveF) (e : Key × V) : Int := match e.1 with
  | .inl x => (match F x with
    | some p => p.2
    | none => 0)
  | _ => 0
theorem entS_of {F : LiveF} {x : Int} {p : Int × Int} {t : Addr} (h : F x = some p) : entS F (Sum.inl x, V.ref t) = p.2 := by
  show (match F x with | some p => p.2 | none => 0) = p.2
  rw [h]
section
variable {P : Program} {w0_ : World} {K : PySem.W.Frag} {mg : Str → Option Value} {base : Heap}
theorem kb_slots_read (T : Tx K mg) : KBn K T.fd_slots_read ["disk", "lapse"] 1 ["lapse"] (fun us ws => us ++ ws) (fun us ws => us ++ ws) := by
  obtain ⟨oc, od, kV, doc, pm, an, cdv, ct, osl, e, lk, hcd⟩ := T.F_slots_read.ex
  refine ⟨fun s us ws _ l1 l2 => ?_, fun r1 r2 => r1.append r2⟩
  rw [e]
  match us, ws, l1, l2 with
  | [_], [_], _, _ => exact .of_eq rfl
def sp_slots_read (CD CP : Addr) (K : PySem.W.Frag) : Sp := fun vs H Q _ => ∃ (d : Addr) (gg : Bool) (A : DA) (b n s hd la M : Int) (hs : List V) (lg : LogL) (kv : List (Key × V)) (ds : List (Nat × Addr)), vs = [.ref d, .bl gg] ∧ DAt CD CP H d A b n s hd la hs (lg.map gV) kv ∧ LogAt K H b s M lg ∧ Due lg (hd + 1) ds ∧ ds.length ≤ 7 ∧ (∀ m ∈ ds.map (mkOf lg), m.2.1.length ≤ 5) ∧ s ≤ 1000 ∧ 0 ≤ hd ∧ hd ≤ 999999 ∧
  ∀ (H' : Hp) (p : Addr) (ns : List Int), Same H H' → H p = none → ns.Pairwise (· < ·) → (∀ k, k ∈ ns ↔ InS ds (liveF gg (ds.map (mkOf lg)) fun _ => none) k) → H' p = some (.lst (ns.map V.int)) → Q (.ref p) H'
theorem ok_slots_read (T : Tx K mg) : FnOk P w0_ K mg base CX0 2 T.f_slots_read T.fd_slots_read ["disk", "lapse"] (sp_slots_read T.C_Disk T.C_Plan K) := by
  refine T.F_slots_read.ok sc_slots_read (fun vs H Q E h => ?_) (fun cdv A0 outer s H vs Q E hr h => ?_)
  · obtain ⟨_, _, _, _, _, _, _, _, _, _, _, _, _, rfl, _⟩ := h; rfl
  · obtain ⟨d, gg, A, b, n, sl, hd, la, M, hs, lg, kv0, ds, rfl, D, hL, hD, l7, l5, hs1, hd0, hd1, k⟩ := h
    refine ⟨_, (pss_cons (ps_set (i := 2) sc_slots_read.nd rfl (.inl rfl) (pe_call (ok_found_marks T) hr rfl T.mg_found_marks T.F_found_marks.kp (b_found_marks T) .nil pass0 (pa_cons (pv 0) pa_nil)))
      (pss_cons (ps_set (i := 3) sc_slots_read.nd rfl (.inl rfl) (pe_callN (ok_live_copies T) hr rfl T.mg_live_copies T.F_live_copies.kp (kb_live_copies T) pass0 (pa_cons (pv 2) pa_nil) (pk_cons (pv 1) pk_nil)))
      (pss_cons (ps_set (i := 4) sc_slots_read.nd rfl (.inl rfl) (pe_op op_cat (pe_lc rfl (own := [("slot", 5), ("_", 6)]) (g := _) (tt := tYes) sc_slots_read.nd (pi_list (pv 2)) (blkOk_by (N := ["disk", "lapse", "marks", "live", "slots", "slot", "_"]) (sc := defScope s_slots_read) (by decide +kernel)) (fun _ _ _ _ _ => (pg_tupK (K := K) (n := 2) rfl (pgs_cons (pg_name (i := 5) sc_slots_read.nd rfl (.inl rfl)) (pgs_cons (pg_name (i := 6) sc_slots_read.nd rfl (.inl rfl)) pgs_nil)))) (fun _ _ _ _ _ => pts_nil) (fun _ _ _ _ _ => (pv 5))) (pe_lock (pe_lc rfl (own := [("_", 6), ("slot", 5)]) (g := _) (tt := tYes) sc_slots_read.nd (pi_values (pv 3)) (blkOk_by (N := ["disk", "lapse", "marks", "live", "slots", "slot", "_"]) (sc := defScope s_slots_read) (by decide +kernel)) (fun _ _ _ _ _ => (pg_tupK (K := K) (n := 2) rfl (pgs_cons (pg_name (i := 6) sc_slots_read.nd rfl (.inl rfl)) (pgs_cons (pg_name (i := 5) sc_slots_read.nd rfl (.inl rfl)) pgs_nil)))) (fun _ _ _ _ _ => pts_nil) (fun _ _ _ _ _ => (pv 5))))))
      (pss_one (ps_ret (pe_callB (cr_sortedSet rfl) rfl T.b_sorted (by decide +kernel) (pa_cons (pe_scI rfl (own := [("slot", 5)]) (g := gName 5) (tt := _) sc_slots_read.nd (pi_list (pv 4)) (blkOk_by (N := ["disk", "lapse", "marks", "live", "slots", "slot", "_"]) (sc := defScope s_slots_read) (by decide +kernel)) (fun _ _ _ _ _ => pg_name (i := 5) sc_slots_read.nd rfl (Or.inl rfl)) (fun _ _ _ _ _ => pts_one (pt_cmpR op_ne (pv 5) (pe_gc T.c_NO_SLOT) (nomark _))) (fun _ _ _ _ _ => pv 5)) pa_nil))))))), ?_⟩
    refine ⟨_, rfl, d, A, b, n, sl, hd, la, M, hs, lg, kv0, ds, rfl, D, hL, hD, by omega, hs1, hd0, hd1, fun H1 q ts S1 nq eq hm => ?_⟩
    have hL1 := hL.same S1
    have hM1 := due_marks hL1 hD hm eq
    ((try dsimp only); (first | (refine Rg.sg (σ' := [some (.ref d), some (.bl gg), some (.ref q), none, none, none, none]) ?_ ?_; focus exact rfl) | (refine Rg.sgG (σ' := [some (.ref d), some (.bl gg), some (.ref q), none, none, none, none]) ?_ ?_; focus exact rfl)))
    refine ⟨_, rfl, _, rfl, rfl, rfl, q, gg, _, rfl, hM1, by rw [List.length_map]; omega, l5, fun H2 lv kv S2 nlv elv hF lkv => ?_⟩
    rw [List.length_map] at lkv
    ((try dsimp only); (first | (refine Rg.sg (σ' := [some (.ref d), some (.bl gg), some (.ref q), some (.ref lv), none, none, none]) ?_ ?_; focus exact rfl) | (refine Rg.sgG (σ' := [some (.ref d), some (.bl gg), some (.ref q), some (.ref lv), none, none, none]) ?_ ?_; focus exact rfl)))
    have eq2 := S2 _ _ eq
    have hm2 := hm.same S2
    refine ⟨_, rfl, q, rfl, ⟨_, .of eq2⟩, fun D1 hD1 => ?_⟩
    refine lc_list (K := K) (a := q) (xs := ts.map V.ref) (fun i H' => Same H2 H' ∧ H' D1 = some (.lst (((ds.take i).map fun p => (p.1 : Int)).map V.int))) ⟨same_upd hD1, upd_same⟩ (fun j H' _ Pv => .of (Pv.1 _ _ eq2)) ?_ ?_
    · rintro j y H' hj ⟨sj, ej⟩
      rw [List.getElem?_map] at hj
      obtain ⟨t, ht, rfl⟩ := Option.map_eq_some_iff.mp hj
      have hjl : j < ds.length := by rw [← hm2.1]; exact (List.getElem?_eq_some_iff.mp ht).1
      obtain ⟨p, hp⟩ : ∃ p, ds[j]? = some p := ⟨_, List.getElem?_eq_getElem hjl⟩
      have et := sj _ _ (hm2.2 j t p ht hp)
      refine ⟨t, _, rfl, .of et, rfl, _, _, rfl, _, _, rfl, rfl, rfl, yes_ ⟨_, rfl, _, ej, ?_, fun x o e => ?_, ?_⟩⟩
      · rw [List.length_map, List.length_map]
        exact lt_line (by have := List.length_take_le j ds; omega)
      · rw [upd_ne (ne_of_none e hD1)]
        exact sj _ _ e
      · rw [upd_same, List.take_add_one, hp, List.map_append, List.map_append]
        rfl
    rintro H3 ⟨s3, e3⟩
    rw [List.length_map, hm2.1, List.take_length] at e3
    have elv3 := s3 _ _ elv
    have hF3 : LvAt H3 kv (liveF gg (ds.map (mkOf lg)) fun _ => none) := hF.by fun t xs e => s3 _ _ e
    refine ⟨lv, _, elv3, trivial, fun od => ?_⟩
    have lk : upd H3 lv (.frz od (.dK kv)) lv = some (.frz od (.dK kv)) := upd_same
    have oth : ∀ {x : Addr} {u : HO}, H3 x = some u → x ≠ lv → upd H3 lv (.frz od (.dK kv)) x = some u := fun e n => by rw [upd_ne n]; exact e
    have fr : ∀ {x : Addr}, upd H3 lv (.frz od (.dK kv)) x = none → H3 x = none := fun {x} e => by
      by_cases z : x = lv
      · rw [z, upd_same] at e; cases e
      · rw [upd_ne z] at e; exact e
    generalize upd H3 lv (.frz od (.dK kv)) = H4 at lk oth fr ⊢
    refine ⟨_, rfl, lv, od, kv, rfl, lk, fun D2 hD2 => ?_⟩
    have hD2H := fr hD2
    refine lc_vals (d := lv) (od := od) (kvs := kv) (PvG (fun e : Key × V => V.int (entS (liveF gg (ds.map (mkOf lg)) fun _ => none) e)) H4 D2 kv (fun _ => true)) (PvG.start hD2) (fun j H' _ Pv => Pv.1 _ _ lk) ?_ ?_
    · rintro j kx y H' hj Pv
      obtain ⟨x, p, t, eq', fx, et⟩ := hF3.ent' (List.mem_of_getElem? hj)
      cases eq'
      have et' := Pv.1 _ _ (oth et (ne_of et elv3 (by intro z; cases z)))
      refine ⟨t, _, rfl, .of et', rfl, _, _, rfl, _, _, rfl, rfl, rfl, yes_ ⟨_, rfl, ?_⟩⟩
      have := Pv.yes hD2 (Same.refl _) hj (by omega) rfl
      rw [show entS (liveF gg (ds.map (mkOf lg)) fun _ => none) (Sum.inl x, V.ref t) = p.2 from entS_of fx] at this
      exact this
    intro H5 Pv
    obtain ⟨s5, e5⟩ := Pv.all rfl
    rw [List.filter_eq_self.mpr (by simp)] at e5
    refine ⟨s5 _ _ lk, ?_⟩
    have nDl : D2 ≠ lv := (ne_of_none lk hD2).symm
    have S6 : Same H3 (upd H5 lv (.dK kv)) := fun x u e => by
      by_cases z : x = lv
      · rw [z, elv3] at e
        rw [z, upd_same]
        exact e
      · rw [upd_ne z]
        exact s5 _ _ (oth e z)
    have e6 : upd H5 lv (.dK kv) D2 = some (.lst (kv.map fun e => V.int (entS (liveF gg (ds.map (mkOf lg)) fun _ => none) e))) := by rw [upd_ne nDl]; exact e5
    generalize upd H5 lv (.dK kv) = H6 at S6 e6 ⊢
    have e36 := S6 _ _ e3
    refine ⟨D1, D2, _, _, rfl, rfl, e36, e6, by rw [List.length_map, List.length_map, List.length_map]; exact Nat.le_of_lt (lt_line (by omega)), ?_⟩
    (intro r n_r; generalize he_r : upd _ r _ = H7; obtain ⟨e_r, s_r, f_r⟩ := new_f he_r n_r; clear he_r)
    obtain ⟨sl, esl⟩ : ∃ sl : List Int, sl = (ds.map fun p => (p.1 : Int)) ++ kv.map (entS (liveF gg (ds.map (mkOf lg)) fun _ => none)) := ⟨_, rfl⟩
    have er : H7 r = some (.lst (sl.map V.int)) := by rw [e_r, esl]; simp only [List.map_append, List.map_map]; rfl
    have S7 : Same H H7 := (((S1.trans S2).trans s3).trans S6).trans s_r
    have hlen : sl.length < 62 := by rw [esl, List.length_append, List.length_map, List.length_map]; omega
    ((try dsimp only); (first | (refine Rg.sg (σ' := [some (.ref d), some (.bl gg), some (.ref q), some (.ref lv), some (.ref r), none, none]) ?_ ?_; focus exact rfl) | (refine Rg.sgG (σ' := [some (.ref d), some (.bl gg), some (.ref q), some (.ref lv), some (.ref r), none, none]) ?_ ?_; focus exact rfl)))
    refine ⟨_, rfl, r, rfl, ⟨_, .of er⟩, fun Z hZ => ?_⟩
    refine sc_listI (K := K) (a := r) (xs := sl.map V.int) (PvZ w0_ H7 Z sl fun k => !decide (k = -1)) (PvZ.start hZ) (fun j H' _ Pv => .of (Pv.1 _ _ er)) ?_ ?_
    · rintro j y H' hj Pv
      rw [List.getElem?_map] at hj
      obtain ⟨x, hx, rfl⟩ := Option.map_eq_some_iff.mp hj
      refine ⟨rfl, _, rfl, rfl, _, rfl, ?_⟩
      refine wNe (fun e => ?_) fun e => ?_
      · exact ⟨_, rfl, Pv.yes hZ hx (by omega) (by rw [decide_eq_false e]; rfl)⟩
      · exact Pv.no hx (by rw [decide_eq_true e]; rfl)
    intro H8 Pv
    rw [List.length_map] at Pv
    obtain ⟨s8, S, n', eZ, hS, hn⟩ := Pv
    rw [List.take_length] at hS
    refine ⟨Z, S, n', rfl, eZ, by omega, fun ns p hp hm' hl' np => ?_⟩
    have S8 := S7.trans s8
    refine k _ p ns (S8.trans (same_upd np)) (S8.free np) hp (fun y => ?_) upd_same
    rw [hm' y, hS y, List.mem_filter, esl, List.mem_append]
    -- the slots of live copies are -1 or slots
    have slotOk : ∀ x p, liveF gg (ds.map (mkOf lg)) (fun _ => none) x = some p → -1 ≤ p.2 := fun x p e => liveF_slot (P := fun k => -1 ≤ k) gg x _ (fun m hm q hq => by
      obtain ⟨_, _, _, ft⟩ := due_fit hL hD hm
      exact (ft.2.2.2.2.1 q hq).2.2.2.1) _ (fun q z => by cases z) p e
    constructor
    · rintro ⟨h | h, hne⟩
      · obtain ⟨p, hp, rfl⟩ := List.mem_map.mp h
        exact .inl ⟨p, hp, rfl⟩
      · obtain ⟨e, he, rfl⟩ := List.mem_map.mp h
        obtain ⟨x, p, t, rfl, fx, _⟩ := hF3.ent' he
        have ee : entS (liveF gg (ds.map (mkOf lg)) fun _ => none) (Sum.inl x, V.ref t) = p.2 := entS_of fx
        rw [ee] at hne ⊢
        have h1 := slotOk x p fx
        have h2 : ¬ p.2 = -1 := by simpa using hne
        exact .inr ⟨by omega, x, p.1, fx⟩
    · rintro (⟨p, hp, e⟩ | ⟨h0, x, lot, fx⟩)
      · refine ⟨.inl (List.mem_map.mpr ⟨p, hp, e⟩), ?_⟩
        rw [← e]
        simp <;> omega
      · obtain ⟨t, ht, _⟩ := hF3.mem fx
        refine ⟨.inr (List.mem_map.mpr ⟨_, ht, entS_of fx⟩), ?_⟩
        simp <;> omega
end
end K47
namespace K47
open PySem PySem.Spec PyProof.Rows L2 Rg
theorem strk_nil (x : Int) (g : Bool) (rs : List Int) : strk x g rs [] = (decide (x ∈ rs) && !g) := by simp [strk]
theorem strk_snoc (x : Int) (g : Bool) (rs : List Int) (t : List Mk3) (m : Mk3) : strk x g rs (t ++ [m]) = (strk x g rs t || decide (x ∈ m.2.2)) := by
  unfold strk
  rw [List.any_append]
  simp [Bool.or_assoc]
section
variable {P : Program} {w0_ : World} {K : PySem.W.Frag} {mg : Str → Option Value} {base : Heap}
def sp_Llive (K : PySem.W.Frag) : Sp := fun vs H Q _ => ∃ (ma : Addr) (x : Int) (g : Bool) (ms : List Mk3), vs = [.ref ma, .int x, .bl g] ∧ MarksAt K H ma ms ∧ ms.length ≤ 100 ∧ ∀ (H' : Hp) (v : V), Same H H' → DueV H' v (liveF g ms (fun _ => none) x) → Q v H'
theorem ok_Llive (T : Tx K mg) : FnOk P w0_ K mg base CX0 1 T.f_Llive T.fd_Llive ["_law_marks_here", "_law_x", "_law_lapse"] (sp_Llive K) := by
  refine T.F_Llive.ok sc_Llive (fun vs H Q E h => ?_) (fun cdv A0 outer s H vs Q E hr h => ?_)
  · obtain ⟨_, _, _, _, rfl, _⟩ := h; rfl
  · obtain ⟨ma, x, g, ms, rfl, hM, hz, k⟩ := h
    rw [← due_is_live] at k
    refine ⟨_, (pss_cons (ps_set (i := 3) sc_Llive.nd rfl (.inl rfl) pe_non)
      (pss_cons (ps_for PassesOwn.never rfl (pi_range1 rfl T.b_range (pa_cons (pe_callB call_len_seq rfl T.b_len (by decide +kernel) (pa_cons (pv 0) pa_nil)) pa_nil)) (pg_name (i := 4) sc_Llive.nd rfl (.inl rfl))
        (pss_cons (ps_set (i := 5) sc_Llive.nd rfl (.inl rfl) (pe_ix ix_tup (pe_ix ix_list (pv 0) (pv 4) (fun _ _ => rfl)) pe_int (fun _ _ => rfl)))
        (Evl.pss_cut (ps_set (i := 6) sc_Llive.nd rfl (.inl rfl) (pe_and (pe_cmpR op_in_seq (pv 1) (pe_ix ix_tup (pv 5) pe_int (fun _ _ => rfl)) rfl) (pe_one (pe_not (pv 2)))))
        (pss_cons (ps_for PassesOwn.never rfl (pi_range2 rfl T.b_range (pa_cons (pe_op op_add (pv 4) pe_int) (pa_cons (pe_callB call_len_seq rfl T.b_len (by decide +kernel) (pa_cons (pv 0) pa_nil)) pa_nil))) (pg_name (i := 7) sc_Llive.nd rfl (.inl rfl))
          (pss_one (ps_if (pt_cmpR op_in_seq (pv 1) (pe_ix ix_tup (pe_ix ix_tup (pe_ix ix_list (pv 0) (pv 7) (fun _ _ => rfl)) pe_int (fun _ _ => rfl)) pe_int (fun _ _ => rfl)) rfl)
            (pss_one (ps_set (i := 6) sc_Llive.nd rfl (.inl rfl) pe_bl))
            pss_nil)))
        (pss_one (ps_for PassesOwn.never rfl (pi_tup (pe_ix ix_tup (pv 5) pe_int (fun _ _ => rfl))) (pg_name (i := 8) sc_Llive.nd rfl (.inl rfl))
          (pss_one (ps_if (PW.pt (pw_and (pt_cmpR op_eq (pe_ix ix_tup (pv 8) pe_int (fun _ _ => rfl)) (pv 1) (nomark _)) (pw_and1 (pt_not (pt_val (pv 6))))))
            (pss_one (ps_set (i := 3) sc_Llive.nd rfl (.inl rfl) (pe_tup (pa_cons (pe_ix ix_tup (pv 5) pe_int (fun _ _ => rfl)) (pa_cons (pe_ix ix_tup (pv 8) pe_int (fun _ _ => rfl)) pa_nil)))))
            pss_nil))))))))
      (pss_one (ps_ret (pv 3))))), ?_⟩
    obtain ⟨vs, e1, e2⟩ := hM.lst
    refine ⟨_, rfl, ma, _, rfl, .inl (.of e1), ms.length, by rw [e2], by omega, by omega, for_range (lo := 0) (n := ms.length) (fun j σ H2 => ∃ (v3 : V) (v4 v5 v6 v7 v8 : Option V) (acc : Option (Int × Int)), σ = [some (.ref ma), some (.int x), some (.bl g), some v3, v4, v5, v6, v7, v8] ∧ Same H H2 ∧ DueV H2 v3 acc ∧ dueF x g ms none = dueF x g (ms.drop j) acc)
      ⟨.non, none, none, none, none, none, none, rfl, Same.refl _, rfl, rfl⟩ ?_ ?_⟩
    · rintro i σ H2 hi ⟨v3, v4, v5, v6, v7, v8, acc, rfl, S2, hv, hf⟩
      obtain ⟨vs', a, r, pp, pr, z, f1, f2, f3, f4, f5, f6, f7⟩ := (hM.same S2).at (List.getElem?_eq_getElem hi)
      obtain ⟨qs, g1, g2, g3⟩ := PairsAt.at f6
      rw [List.drop_eq_getElem_cons hi, dueF] at hf
      ((try dsimp only); (first | (refine Rg.sg (σ' := [some (.ref ma), some (.int x), some (.bl g), some v3, some (.int (0 + (i : Int))), v5, v6, v7, v8]) ?_ ?_; focus exact rfl) | (refine Rg.sgG (σ' := [some (.ref ma), some (.int x), some (.bl g), some v3, some (.int (0 + (i : Int))), v5, v6, v7, v8]) ?_ ?_; focus exact rfl)))
      refine ⟨_, rfl, _, rfl, ma, _, _, _, rfl, rfl, .of f1, f3, a, _, 1, .ref r, rfl, rfl, f4, rfl, ?_⟩
      ((try dsimp only); (first | (refine Rg.sg (σ' := [some (.ref ma), some (.int x), some (.bl g), some v3, some (.int (0 + (i : Int))), some (.ref r), v6, v7, v8]) ?_ ?_; focus exact rfl) | (refine Rg.sgG (σ' := [some (.ref ma), some (.int x), some (.bl g), some v3, some (.int (0 + (i : Int))), some (.ref r), v6, v7, v8]) ?_ ?_; focus exact rfl)))
      refine ⟨fun σ H' => σ = [some (.ref ma), some (.int x), some (.bl g), some v3, some (.int (0 + (i : Int))), some (.ref r), some (.bl (decide (x ∈ ms[i].2.2) && !g)), v7, v8] ∧ H' = H2, ?_, ?_⟩
      · refine ⟨_, rfl, _, rfl, r, _, 3, .ref pr, rfl, rfl, f5, rfl, pr, _, rfl, .inr f7, rfl, flatI _, ?_⟩
        rw [if_neg (by decide), inV_int]
        by_cases hx : x ∈ ms[i].2.2
        · rw [decide_eq_true hx]
          refine ⟨_, rfl, iteT ⟨_, rfl, _, rfl, ?_⟩⟩
          cases g <;> exact ⟨rfl, rfl⟩
        · rw [decide_eq_false hx]
          exact ⟨_, rfl, iteF ⟨rfl, rfl⟩⟩
      rintro σ H3 ⟨rfl, rfl⟩
      refine ⟨_, rfl, _, _, rfl, rfl, _, rfl, ma, _, rfl, .inl (.of f1), ?_⟩
      have el : (vs'.length : Int) = (ms.length : Int) := by rw [f2]
      refine ⟨_, _, rfl, ⟨by omega, by omega, by omega, by omega⟩, for_range (lo := 0 + (i : Int) + 1) (n := ((vs'.length : Int) - (0 + (i : Int) + 1)).toNat) (fun j σ H' => ∃ v7 : Option V, σ = [some (.ref ma), some (.int x), some (.bl g), some v3, some (.int (0 + (i : Int))), some (.ref r), some (.bl (strk x g ms[i].2.2 ((ms.drop (i + 1)).take j))), v7, v8] ∧ H' = H3) ⟨v7, by rw [List.take_zero, strk_nil], rfl⟩ ?_ ?_⟩
      · rintro j σ H4 hj ⟨v7, rfl, rfl⟩
        have hj2 : i + 1 + j < ms.length := by omega
        obtain ⟨vs2, a2, r2, pp2, pr2, z2, h1, h2, h3, h4, h5, h6, h7⟩ := (hM.same S2).at (List.getElem?_eq_getElem hj2)
        have hm : (ms.drop (i + 1))[j]? = some ms[i + 1 + j] := by rw [List.getElem?_drop]; exact List.getElem?_eq_getElem hj2
        have e3 : (0 : Int) + ((i + 1 + j : Nat) : Int) = 0 + (i : Int) + 1 + (j : Int) := by omega
        rw [e3] at h3
        ((try dsimp only); (first | (refine Rg.sg (σ' := [some (.ref ma), some (.int x), some (.bl g), some v3, some (.int (0 + (i : Int))), some (.ref r), some (.bl (strk x g ms[i].2.2 ((ms.drop (i + 1)).take j))), some (.int (0 + (i : Int) + 1 + (j : Int))), v8]) ?_ ?_; focus exact rfl) | (refine Rg.sgG (σ' := [some (.ref ma), some (.int x), some (.bl g), some v3, some (.int (0 + (i : Int))), some (.ref r), some (.bl (strk x g ms[i].2.2 ((ms.drop (i + 1)).take j))), some (.int (0 + (i : Int) + 1 + (j : Int))), v8]) ?_ ?_; focus exact rfl)))
        refine ⟨_, rfl, _, rfl, _, rfl, ma, _, _, _, rfl, rfl, .of h1, h3, a2, _, 1, .ref r2, rfl, rfl, h4, rfl, r2, _, 3, .ref pr2, rfl, rfl, h5, rfl, pr2, _, rfl, .inr h7, rfl, flatI _, _, rfl, ?_⟩
        rw [if_neg (by decide), inV_int]
        refine wD (fun hx => ?_) fun hx => ?_
        · exact ⟨some (.int (0 + (i : Int) + 1 + (j : Int))), by rw [take_getG hm, strk_snoc, decide_eq_true hx, Bool.or_true]; rfl, rfl⟩
        · exact ⟨some (.int (0 + (i : Int) + 1 + (j : Int))), by rw [take_getG hm, strk_snoc, decide_eq_false hx, Bool.or_false], rfl⟩
      rintro σ H4 ⟨v7, rfl, rfl⟩
      rw [List.take_of_length_le (by rw [List.length_drop]; omega)]
      refine ⟨_, rfl, r, _, 2, .ref pp, rfl, rfl, f5, rfl, pp, rfl, ⟨_, g1⟩, ?_⟩
      refine for_tup (K := K) (a := pp) (xs := qs.map V.ref) (fun j σ H3 => ∃ (v3 : V) (v8 : Option V) (acc : Option (Int × Int)), σ = [some (.ref ma), some (.int x), some (.bl g), some v3, some (.int (0 + (i : Int))), some (.ref r), some (.bl (strk x g ms[i].2.2 (ms.drop (i + 1)))), v7, v8] ∧ Same H4 H3 ∧ DueV H3 v3 acc ∧ dueF x g ms none = dueF x g (ms.drop (i + 1)) (dueP x ms[i].1 (strk x g ms[i].2.2 (ms.drop (i + 1))) (ms[i].2.1.drop j) acc))
        ⟨v3, v8, acc, rfl, Same.refl _, hv, hf⟩ (fun j σ H3 _ ⟨_, _, _, _, S, _⟩ => sameT S g1) ?_ ?_
      · rintro j y σ H5 hj ⟨v3, v8, acc, rfl, S3, hv, hf⟩
        obtain ⟨q, p, rfl, p1, p2⟩ := g3 j y hj
        have p2 := sameT S3 p2
        have f5 := sameT S3 f5
        have hjl := (List.getElem?_eq_some_iff.mp p1).1
        rw [List.drop_eq_getElem_cons hjl, (List.getElem?_eq_some_iff.mp p1).2, dueP] at hf
        ((try dsimp only); (first | (refine Rg.sg (σ' := [some (.ref ma), some (.int x), some (.bl g), some v3, some (.int (0 + (i : Int))), some (.ref r), some (.bl (strk x g ms[i].2.2 (ms.drop (i + 1)))), v7, some (.ref q)]) ?_ ?_; focus exact rfl) | (refine Rg.sgG (σ' := [some (.ref ma), some (.int x), some (.bl g), some v3, some (.int (0 + (i : Int))), some (.ref r), some (.bl (strk x g ms[i].2.2 (ms.drop (i + 1)))), v7, some (.ref q)]) ?_ ?_; focus exact rfl)))
        refine ⟨_, rfl, q, _, 0, .int p.1, rfl, rfl, p2, rfl, _, rfl, rfl, _, rfl, wI (fun h1 => ?_) fun h1 => ?_⟩
        · refine ⟨_, rfl, _, rfl, ?_⟩
          cases hs : strk x g ms[i].2.2 (ms.drop (i + 1)) with
          | true =>
            rw [hs, if_neg (fun z => by cases z.2)] at hf
            exact iteF ⟨v3, _, acc, rfl, S3, hv, hf⟩
          | false =>
            rw [hs, if_pos ⟨h1, rfl⟩] at hf
            refine iteT ⟨_, rfl, r, _, 1, .int ms[i].1, rfl, rfl, f5, rfl, _, rfl, q, _, 1, .int p.2, rfl, rfl, p2, rfl, by show 2 ≤ sizeLine; decide, ?_⟩
            (intro t n_t; generalize he_t : upd _ t _ = H6; obtain ⟨e_t, s_t, f_t⟩ := new_f he_t n_t; clear he_t)
            exact ⟨_, _, some (ms[i].1, p.2), rfl, S3.trans s_t, ⟨t, rfl, e_t⟩, hf⟩
        · rw [if_neg fun z => h1 z.1] at hf
          exact ⟨v3, _, acc, rfl, S3, hv, hf⟩
      · rintro σ H5 ⟨v3, v8, acc, rfl, S3, hv, hf⟩
        rw [g2, List.drop_length] at hf
        exact ⟨v3, _, _, _, _, _, acc, rfl, S2.trans S3, hv, hf⟩
    · rintro σ H2 ⟨v3, v4, v5, v6, v7, v8, acc, rfl, S2, hv, hf⟩
      rw [List.drop_length] at hf
      exact ⟨_, rfl, k H2 v3 S2 (by rw [hf]; exact hv)⟩
end
end K47
namespace K47
open PySem PySem.Spec PyProof.Rows L2 Rg
/-- the slots of found marks are distinct -/
theorem due_nd {lg : LogL} {L : Int} {ds : List (Nat × Addr)} (h : Due lg L ds) : (ds.map (·.1)).Nodup := by
  induction h with
  | nil _ => exact List.nodup_nil
  | @cons L j a r ds h1 h2 h3 ih =>
    rw [List.map_cons, List.nodup_cons]
    refine ⟨fun z => ?_, ih⟩
    obtain ⟨p, hp, e⟩ := List.mem_map.mp z
    obtain ⟨l, ps, rs, e1, _, e3, _⟩ := due_rec h3 p hp
    obtain ⟨a', ps', rs', e4⟩ := fm_some h1
    have e : p.1 = j := e
    rw [e, e4] at e1
    cases e1
    omega
theorem liveF_key (g : Bool) (x : Int) : ∀ (ms : List Mk3) (F : LiveF) (q : Int × Int), liveF g ms F x = some q → F x = some q ∨ ∃ m ∈ ms, ∃ p ∈ m.2.1, p.1 = x ∧ q = (m.1, p.2)
  | [], F, q, e => .inl e
  | m :: ms, F, q, e => by
    rcases liveF_key g x ms _ q e with z | ⟨m', hm', p, hp, h⟩
    · rw [addF_eq] at z
      have key : ∀ (ps : List (Int × Int)) (acc : Option (Int × Int)) (st : Bool), dueP x m.1 st ps acc = some q → acc = some q ∨ ∃ p ∈ ps, p.1 = x ∧ q = (m.1, p.2) := by
        intro ps
        induction ps with
        | nil => intro acc st h; exact .inl h
        | cons p ps ih =>
          intro acc st h
          rw [dueP] at h
          rcases ih _ _ h with w | ⟨p', hp', e'⟩
          · split at w
            · rename_i c
              exact .inr ⟨p, List.mem_cons_self, c.1, (Option.some.inj w).symm⟩
            · exact .inl w
          · exact .inr ⟨p', List.mem_cons_of_mem _ hp', e'⟩
      rcases key _ _ _ z with w | ⟨p, hp, h⟩
      · rw [strikeF_eq] at w
        split at w
        · cases w
        · exact .inl w
      · exact .inr ⟨m, List.mem_cons_self, p, hp, h⟩
    · exact .inr ⟨m', List.mem_cons_of_mem _ hm', p, hp, h⟩
section
variable {P : Program} {w0_ : World} {K : PySem.W.Frag} {mg : Str → Option Value} {base : Heap}
def sp_Lslots (K : PySem.W.Frag) : Sp := fun vs H Q _ => ∃ (ma : Addr) (g : Bool) (b s M L : Int) (lg : LogL) (ds : List (Nat × Addr)) (ts : List Addr), vs = [.ref ma, .bl g] ∧ H ma = some (.lst (ts.map V.ref)) ∧ MksAt H ts ds ∧ LogAt K H b s M lg ∧ Due lg L ds ∧ ds.length ≤ 7 ∧ b ≤ 24 ∧
  ∀ (H' : Hp) (p : Addr) (ns : List Int), Same H H' → H p = none → ns.Pairwise (· < ·) → (∀ k, k ∈ ns ↔ InS ds (liveF g (ds.map (mkOf lg)) fun _ => none) k) → H' p = some (.lst (ns.map V.int)) → Q (.ref p) H'
theorem ok_Lslots (T : Tx K mg) : FnOk P w0_ K mg base CX0 2 T.f_Lslots T.fd_Lslots ["_law_marks_here", "_law_lapse"] (sp_Lslots K) := by
  refine T.F_Lslots.ok sc_Lslots (fun vs H Q E h => ?_) (fun cdv A0 outer s H vs Q E hr h => ?_)
  · obtain ⟨_, _, _, _, _, _, _, _, _, rfl, _⟩ := h; rfl
  · obtain ⟨ma, g, b, sl, M, L, lg, ds, ts, rfl, em, hm, hL, hD, l7, hb, k⟩ := h
    refine ⟨_, (pss_cons (ps_setLc (i := 2) (own := [("_law_mark_here", 3)]) (g := gName 3) (tt := tYes) rfl sc_Lslots.nd rfl rfl (sw_true rfl rfl rfl (by decide +kernel)) (pi_list (pv 0)) (blkOk_by (N := ["_law_marks_here", "_law_lapse", "_law_slots_here", "_law_mark_here", "_law_x", "_law_live_here"]) (sc := defScope s_Lslots) (by decide +kernel)) (fun _ _ _ _ _ => pg_name (i := 3) sc_Lslots.nd rfl (Or.inl rfl)) (fun _ _ _ _ _ => pts_nil) (fun _ _ _ _ _ => (pe_ixTK (K := K) (pv 3) pe_int (fun _ _ => rfl))))
      (pss_cons (ps_for PassesOwn.never rfl (pi_range1 rfl T.b_range (pa_cons pe_int pa_nil)) (pg_name (i := 4) sc_Lslots.nd rfl (.inl rfl))
        (pss_cons (ps_set (i := 5) sc_Lslots.nd rfl (.inl rfl) (pe_call (ok_Llive T) hr rfl T.mg_Llive T.F_Llive.kp (b_Llive T) .nil pass0 (pa_cons (pv 0) (pa_cons (pv 4) (pa_cons (pv 1) pa_nil)))))
        (pss_one (ps_if (PW.pt (pw_and (pt_cmpR op_notN (pv 5) pe_non (nomark _)) (pw_and (pt_cmpR op_ge (pe_ix ix_tup (pv 5) pe_int (fun _ _ => rfl)) pe_int (nomark _)) (pw_and1 (pt_cmpR op_notIn_seq (pe_ix ix_tup (pv 5) pe_int (fun _ _ => rfl)) (pv 2) rfl)))))
          (pss_one (ps_expr (pe_bm PySem.F.plainAttrs_list PySem.F.slot_list_append PySem.F.type_list_append mt_append (pv 2) (pa_cons (pe_ix ix_tup (pv 5) pe_int (fun _ _ => rfl)) pa_nil))))
          pss_nil))))
      (pss_one (ps_ret (pe_callB cr_sortedI rfl T.b_sorted (by decide +kernel) (pa_cons (pv 2) pa_nil)))))), ?_⟩
    have hM := due_marks hL hD hm em
    obtain ⟨F, eF⟩ : ∃ F : LiveF, F = liveF g (ds.map (mkOf lg)) fun _ => none := ⟨_, rfl⟩
    refine ⟨_, rfl, ma, rfl, ⟨_, .of em⟩, fun D1 hD1 => ?_⟩
    refine lc_list (K := K) (a := ma) (xs := ts.map V.ref) (fun i H' => Same H H' ∧ H' D1 = some (.lst (((ds.take i).map fun p => (p.1 : Int)).map V.int))) ⟨same_upd hD1, upd_same⟩ (fun j H' _ Pv => .of (Pv.1 _ _ em)) ?_ ?_
    · rintro j y H' hj ⟨sj, ej⟩
      rw [List.getElem?_map] at hj
      obtain ⟨t, ht, rfl⟩ := Option.map_eq_some_iff.mp hj
      have hjl : j < ds.length := by rw [← hm.1]; exact (List.getElem?_eq_some_iff.mp ht).1
      obtain ⟨p, hp⟩ : ∃ p, ds[j]? = some p := ⟨_, List.getElem?_eq_getElem hjl⟩
      have et := sj _ _ (hm.2 j t p ht hp)
      refine ⟨rfl, yes_ ⟨_, rfl, t, _, 0, .int (p.1 : Int), rfl, rfl, .of et, rfl, _, ej, ?_, fun x o e => ?_, ?_⟩⟩
      · rw [List.length_map, List.length_map]
        exact lt_line (by have := List.length_take_le j ds; omega)
      · rw [upd_ne (ne_of_none e hD1)]
        exact sj _ _ e
      · rw [upd_same, List.take_add_one, hp, List.map_append, List.map_append]
        rfl
    rintro H1 ⟨s1, e1⟩
    rw [List.length_map, hm.1, List.take_length] at e1
    ((try dsimp only); (first | (refine Rg.sg (σ' := [some (.ref ma), some (.bl g), some (.ref D1), none, none, none]) ?_ ?_; focus exact rfl) | (refine Rg.sgG (σ' := [some (.ref ma), some (.bl g), some (.ref D1), none, none, none]) ?_ ?_; focus exact rfl)))
    refine ⟨24, rfl, by decide, by decide, ?_⟩
    refine for_range (lo := 0) (n := (24 : Int).toNat) (fun i σ H' => ∃ (v4 v5 : Option V) (ks : List Int), σ = [some (.ref ma), some (.bl g), some (.ref D1), none, v4, v5] ∧ Same H H' ∧ H' D1 = some (.lst (ks.map V.int)) ∧ ks.Nodup ∧ ks.length ≤ 7 + i ∧ ∀ k, k ∈ ks ↔ (∃ p ∈ ds, (p.1 : Int) = k) ∨ (0 ≤ k ∧ ∃ x lot, 0 ≤ x ∧ x < (i : Int) ∧ F x = some (lot, k))) ⟨none, none, _, rfl, s1, e1, ?_, ?_, fun k => ?_⟩ ?_ ?_
    · have := due_nd hD
      rw [List.Nodup, List.pairwise_map] at this ⊢
      exact this.imp fun {a b} h z => h (by exact_mod_cast z)
    · rw [List.length_map]; omega
    · rw [List.mem_map]
      refine ⟨fun h => .inl h, fun h => ?_⟩
      rcases h with h | ⟨_, x, lot, h1, h2, _⟩
      · exact h
      · have h2 : x < ((0 : Nat) : Int) := h2
        omega
    · rintro i σ H2 hi ⟨v4, v5, ks, rfl, S2, ek, nk, lk, mk⟩
      have hi : i < 24 := hi
      ((try dsimp only); (first | (refine Rg.sg (σ' := [some (.ref ma), some (.bl g), some (.ref D1), none, some (.int (0 + (i : Int))), v5]) ?_ ?_; focus exact rfl) | (refine Rg.sgG (σ' := [some (.ref ma), some (.bl g), some (.ref D1), none, some (.int (0 + (i : Int))), v5]) ?_ ?_; focus exact rfl)))
      refine ⟨_, rfl, _, rfl, _, rfl, ma, _, g, _, rfl, hM.same S2, by rw [List.length_map]; omega, fun H3 v S3 hv => ?_⟩
      have ek3 := S3 _ _ ek
      rw [← eF, show (0 : Int) + (i : Int) = (i : Int) by omega] at hv
      ((try dsimp only); (first | (refine Rg.sg (σ' := [some (.ref ma), some (.bl g), some (.ref D1), none, some (.int (0 + (i : Int))), some v]) ?_ ?_; focus exact rfl) | (refine Rg.sgG (σ' := [some (.ref ma), some (.bl g), some (.ref D1), none, some (.int (0 + (i : Int))), some v]) ?_ ?_; focus exact rfl)))
      have up : ∀ k, (∃ x lot, 0 ≤ x ∧ x < ((i + 1 : Nat) : Int) ∧ F x = some (lot, k)) ↔ (∃ x lot, 0 ≤ x ∧ x < (i : Int) ∧ F x = some (lot, k)) ∨ ∃ lot, F (i : Int) = some (lot, k) := fun k => by
        constructor
        · rintro ⟨x, lot, x0, x1, h⟩
          by_cases z : x = (i : Int)
          · exact .inr ⟨lot, z ▸ h⟩
          · exact .inl ⟨x, lot, x0, by omega, h⟩
        · rintro (⟨x, lot, x0, x1, h⟩ | ⟨lot, h⟩)
          · exact ⟨x, lot, x0, by omega, h⟩
          · exact ⟨_, lot, by omega, by omega, h⟩
      have stay : (∀ k lot, F (i : Int) = some (lot, k) → 0 ≤ k → k ∈ ks) → ∀ k, k ∈ ks ↔ (∃ p ∈ ds, (p.1 : Int) = k) ∨ (0 ≤ k ∧ ∃ x lot, 0 ≤ x ∧ x < ((i + 1 : Nat) : Int) ∧ F x = some (lot, k)) := fun h k => by
        constructor
        · intro hk
          rcases (mk k).mp hk with z | ⟨z, w⟩
          · exact .inl z
          · exact .inr ⟨z, (up k).mpr (.inl w)⟩
        · rintro (z | ⟨z, w⟩)
          · exact (mk k).mpr (.inl z)
          · rcases (up k).mp w with w | ⟨lot, w⟩
            · exact (mk k).mpr (.inr ⟨z, w⟩)
            · exact h k lot w z
      cases q : F (i : Int) with
      | none =>
        rw [q] at hv
        obtain rfl : v = .non := hv
        exact ⟨_, rfl, rfl, _, rfl, iteF ⟨_, _, ks, rfl, S2.trans S3, ek3, nk, by omega, stay fun k lot z => by rw [q] at z; cases z⟩⟩
      | some p =>
        rw [q] at hv
        obtain ⟨t, rfl, et⟩ := hv
        refine ⟨_, rfl, rfl, _, rfl, iteT ⟨_, rfl, t, _, 1, .int p.2, rfl, rfl, .of et, rfl, _, _, rfl, rfl, _, rfl, ?_⟩⟩
        refine wD (fun h0 => ?_) fun h0 => ?_
        · refine ⟨_, rfl, t, _, 1, .int p.2, rfl, rfl, .of et, rfl, _, rfl, D1, _, rfl, .inl (.of ek3), rfl, flatI _, _, rfl, ?_⟩
          rw [inV_int]
          refine wND (fun hn => ?_) fun hn => ?_
          · refine ⟨_, rfl, .inl ⟨rfl, _, .inl (.inl ek3)⟩, _, rfl, t, _, 1, .int p.2, rfl, rfl, .of et, rfl, D1, _, _, rfl, rfl, ek3, by rw [List.length_map]; exact lt_line (by omega), ?_⟩
            (generalize he_v : upd _ D1 _ = H4; obtain ⟨e_v, k_v, f_v⟩ := own_f he_v; clear he_v)
            have ev : H4 D1 = some (.lst ((ks ++ [p.2]).map V.int)) := by rw [e_v, List.map_append]; rfl
            refine ⟨_, _, ks ++ [p.2], rfl, fun x o e => ?_, ev, ?_, by rw [List.length_append]; simp; omega, fun k => ?_⟩
            · exact k_v.at1 (S3 _ _ (S2 _ _ e)) (ne_of_none e hD1)
            · rw [List.nodup_append]
              refine ⟨nk, by simp, fun u hu w hw z => hn ?_⟩
              have : w = p.2 := by simpa using hw
              rw [← this, ← z]
              exact hu
            · rw [List.mem_append, List.mem_singleton, mk k, up k]
              constructor
              · rintro ((z | ⟨z, w⟩) | rfl)
                · exact .inl z
                · exact .inr ⟨z, .inl w⟩
                · exact .inr ⟨h0, .inr ⟨p.1, q⟩⟩
              · rintro (z | ⟨z, w | ⟨lot, w⟩⟩)
                · exact .inl (.inl z)
                · exact .inl (.inr ⟨z, w⟩)
                · rw [q] at w
                  cases w
                  exact .inr rfl
          · exact ⟨_, _, ks, rfl, S2.trans S3, ek3, nk, by omega, stay fun k lot z _ => by rw [q] at z; cases z; exact hn⟩
        · exact ⟨_, _, ks, rfl, S2.trans S3, ek3, nk, by omega, stay fun k lot z z0 => by rw [q] at z; cases z; exact absurd z0 h0⟩
    rintro σ H2 ⟨v4, v5, ks, rfl, S2, ek, nk, lk, mk⟩
    refine ⟨_, rfl, D1, ks, rfl, .of ek, fun ns p hp ha np => ?_⟩
    refine k _ p ns (S2.trans (same_upd np)) (S2.free np) (lt_of_le_nodup ns ha (hp.nodup_iff.mpr nk)) (fun y => ?_) upd_same
    rw [hp.mem_iff, mk y]
    have hk : ∀ x q, F x = some q → 0 ≤ x ∧ x < 24 := fun x q h => by
      rw [eF] at h
      rcases liveF_key _ _ _ _ _ h with z | ⟨m, hm', p, hp, rfl, _⟩
      · cases z
      · obtain ⟨_, _, _, ft⟩ := due_fit hL hD hm'
        have := ft.2.2.2.2.1 p hp
        omega
    rw [← eF]
    constructor
    · rintro (z | ⟨z, x, lot, _, _, w⟩)
      · exact .inl z
      · exact .inr ⟨z, x, lot, w⟩
    · rintro (z | ⟨z, x, lot, w⟩)
      · exact .inl z
      · exact .inr ⟨z, x, lot, (hk x _ w).1, (hk x _ w).2, w⟩
end
end K47
namespace K47
open PySem PySem.Spec PyProof.Rows L2 Rg
section
variable {P : Program} {w0_ : World} {K : PySem.W.Frag} {mg : Str → Option Value} {base : Heap}
def sp_Lcells (K : PySem.W.Frag) : Sp := fun vs H Q _ => ∃ (lq ma ho : Addr) (x : Int) (g : Bool) (b s M : Int) (ts : List Addr) (hc : List (List Int)) (lg : LogL) (ms : List Mk3), vs = [.ref lq, .ref ma, .ref ho, .int x, .bl g] ∧ H lq = some (.lst (lg.map gV)) ∧ (lg.length : Int) = s ∧ LogAt K H b s M lg ∧ H ho = some (.lst (ts.map V.ref)) ∧ HomAt K H ts hc ∧ MarksAt K H ma ms ∧ ms.length ≤ 100 ∧ 0 ≤ x ∧ x < hc.length ∧ (∀ p, liveF g ms (fun _ => none) x = some p → -1 ≤ p.2 ∧ p.2 < s) ∧
  ∀ (H' : Hp) (t : Addr), Same H H' → SqT K H' t ((foundC hc lg x (liveF g ms (fun _ => none) x)).map V.int) → Q (.ref t) H'
theorem ok_Lcells (T : Tx K mg) : FnOk P w0_ K mg base CX0 2 T.f_Lcells T.fd_Lcells ["_law_log", "_law_marks_here", "_law_home", "_law_x", "_law_lapse"] (sp_Lcells K) := by
  refine T.F_Lcells.ok sc_Lcells (fun vs H Q E h => ?_) (fun cdv A0 outer s H vs Q E hr h => ?_)
  · obtain ⟨_, _, _, _, _, _, _, _, _, _, _, _, rfl, _⟩ := h; rfl
  · obtain ⟨lq, ma, ho, x, g, b, sl, M, ts, hc, lg, ms, rfl, eq, el, hL, eho, hH, hM, hz, x0, xl, hb, k⟩ := h
    refine ⟨_, (pss_cons (ps_set (i := 5) sc_Lcells.nd rfl (.inl rfl) (pe_call (ok_Llive T) hr rfl T.mg_Llive T.F_Llive.kp (b_Llive T) .nil pass0 (pa_cons (pv 1) (pa_cons (pv 3) (pa_cons (pv 4) pa_nil)))))
      (pss_cons (ps_if (pt_cmpR op_isN (pv 5) pe_non (nomark _))
        (pss_one (ps_ret (pe_ix ix_list (pv 2) (pv 3) (fun _ _ => rfl))))
        pss_nil)
      (pss_cons (ps_asg (pv 5) (pg_tup rfl (pgs_cons (pg_name (i := 6) sc_Lcells.nd rfl (.inl rfl)) (pgs_cons (pg_name (i := 7) sc_Lcells.nd rfl (.inl rfl)) pgs_nil))))
      (pss_cons (ps_if (PW.pt (pw_and (pt_cmpR op_ge (pv 7) pe_int (nomark _)) (pw_and (pt_cmpR op_notN (pe_ix ix_list (pv 0) (pv 7) (fun _ _ => rfl)) pe_non (nomark _)) (pw_and1 (pt_cmpR (op_eqD hr.units) (pe_slice sl_tup (pe_ix ix_list (pv 0) (pv 7) (fun _ _ => rfl)) po_none (po_some pe_int)) (pe_tup (pa_cons pe_str (pa_cons (pv 6) (pa_cons (pv 3) pa_nil)))) (nomark _))))))
        (pss_one (ps_ret (pe_ix ix_tup (pe_ix ix_list (pv 0) (pv 7) (fun _ _ => rfl)) pe_int (fun _ _ => rfl))))
        pss_nil)
      (pss_one (ps_ret (pe_tup (pa_cons pe_int (pa_cons pe_int (pa_cons pe_int (pa_cons pe_int (pa_cons pe_int (pa_cons pe_int (pa_cons pe_int (pa_cons pe_int pa_nil))))))))))))))), ?_⟩
    refine ⟨_, rfl, _, rfl, _, rfl, ma, x, g, ms, rfl, hM, hz, fun H0 v S0 hv => ?_⟩
    obtain ⟨F, eF⟩ : ∃ F : LiveF, F = liveF g ms fun _ => none := ⟨_, rfl⟩
    rw [← eF] at hv hb k
    have eq0 := S0 _ _ eq
    have eho0 := S0 _ _ eho
    have hH0 := hH.same S0
    ((try dsimp only); (first | (refine Rg.sg (σ' := [some (.ref lq), some (.ref ma), some (.ref ho), some (.int x), some (.bl g), some v, none, none]) ?_ ?_; focus exact rfl) | (refine Rg.sgG (σ' := [some (.ref lq), some (.ref ma), some (.ref ho), some (.int x), some (.bl g), some v, none, none]) ?_ ?_; focus exact rfl)))
    have zeros : ∀ (H1 : Hp) (t : Addr), Same H0 H1 → H1 t = none → foundC hc lg x (F x) = zer → Q (.ref t) (upd H1 t (.tup (zer.map V.int))) := fun H1 t S1 nt ez => k _ t ((S0.trans S1).trans (same_upd nt)) (by rw [ez]; exact .of upd_same)
    cases q : F x with
    | none =>
      rw [q] at hv
      obtain rfl : v = .non := hv
      obtain ⟨t, t1, t2⟩ := hH0.at (i := x.toNat) (by omega)
      have g1 : atI (ts.map V.ref) x = some (.ref t) := atN (j := x.toNat) (by omega) (by rw [List.getElem?_map, t1]; rfl)
      (repeat ((fail_if_success (intro _)); first | (refine And.intro ?_ ?_; focus (first | rfl | assumption | exact .of (by assumption) | exact .inl (.of (by assumption)) | exact .inr (by assumption) | exact .inr (.of (by assumption)) | exact kit_ty (by decide +kernel) | exact .ty _ | exact tyT (by assumption) | exact .base (.int _) | (show _ ≤ sizeLine; first | decide | exact Nat.le_of_ble_eq_true rfl | (simp only [List.length_cons, List.length_nil]; decide)) | exact ⟨_, .of (by assumption)⟩ | exact ⟨_, by assumption⟩ | exact DGet.k (by assumption) | (with_reducible show (_ : Int) ≤ _; omega) | (with_reducible show (_ : Int) < _; omega) | (with_reducible show (_ : Nat) ≤ _; omega) | (with_reducible show (_ : Nat) < _; omega) | exact ⟨by decide, by decide⟩ | exact CMul_l (by decide) | exact CMul_r (by decide))) | ((fail_if_success (show ∃ W : Nat → Nat → L2.St → Hp → Prop, _)); apply Exists.intro) | (refine iteT ?_) | (refine iteF ?_) | (refine wT ?_ ?_; focus omega) | (refine wF ?_ ?_; focus omega) | (refine wTv ?_ ?_; focus omega) | (refine wFv ?_ ?_; focus omega) | (refine wNT ?_ ?_; focus omega) | (refine wNF ?_ ?_; focus omega)))
      exact k H0 t S0 (by rw [q]; exact t2)
    | some p =>
      rw [q] at hv
      obtain ⟨t, rfl, et⟩ := hv
      obtain ⟨b1, b2⟩ := hb p q
      rw [q] at k zeros
      refine ⟨_, rfl, rfl, _, rfl, iteF ⟨_, rfl, t, _, rfl, .of et, rfl, _, _, rfl, _, _, rfl, rfl, ?_⟩⟩
      ((try dsimp only); (first | (refine Rg.sg (σ' := [some (.ref lq), some (.ref ma), some (.ref ho), some (.int x), some (.bl g), some (.ref t), some (.int p.1), some (.int p.2)]) ?_ ?_; focus exact rfl) | (refine Rg.sgG (σ' := [some (.ref lq), some (.ref ma), some (.ref ho), some (.int x), some (.bl g), some (.ref t), some (.int p.1), some (.int p.2)]) ?_ ?_; focus exact rfl)))
      refine ⟨_, rfl, _, _, rfl, rfl, _, rfl, wD (fun h0 => ?_) fun h0 => ?_⟩
      · obtain ⟨o, eo⟩ : ∃ o, lg[p.2.toNat]? = some o := ⟨_, List.getElem?_eq_getElem (by omega)⟩
        have g1 : atI (lg.map gV) p.2 = some (gV o) := atN (j := p.2.toNat) (by omega) (by rw [List.getElem?_map, eo]; rfl)
        have eFo : foundC hc lg x (some p) = foundR p.1 x o := by
          show (if 0 ≤ p.2 ∧ p.2 < lg.length then _ else _) = _
          rw [if_pos (by omega), List.getD_eq_getElem?_getD, eo]; rfl
        rw [eFo] at k zeros
        refine ⟨_, rfl, _, rfl, lq, _, _, _, rfl, rfl, .of eq0, g1, ?_⟩
        cases o with
        | none =>
          refine ⟨rfl, _, rfl, iteF ⟨by show 8 ≤ sizeLine; decide, fun t0 nt0 => zeros _ t0 (Same.refl _) nt0 rfl⟩⟩
        | some u =>
          obtain ⟨ra, r⟩ := u
          obtain ⟨hR, _, _⟩ := hL _ _ _ eo
          refine ⟨rfl, _, rfl, iteT ⟨_, rfl, _, rfl, lq, _, _, _, rfl, rfl, .of eq0, g1, ?_⟩⟩
          cases r with
          | copy lot y c =>
            obtain ⟨pc, h1, h2⟩ := hR
            have h1 := sameT S0 h1
            (repeat ((fail_if_success (intro _)); first | (refine And.intro ?_ ?_; focus (first | rfl | assumption | exact .of (by assumption) | exact .inl (.of (by assumption)) | exact .inr (by assumption) | exact .inr (.of (by assumption)) | exact kit_ty (by decide +kernel) | exact .ty _ | exact tyT (by assumption) | exact .base (.int _) | (show _ ≤ sizeLine; first | decide | exact Nat.le_of_ble_eq_true rfl | (simp only [List.length_cons, List.length_nil]; decide)) | exact ⟨_, .of (by assumption)⟩ | exact ⟨_, by assumption⟩ | exact DGet.k (by assumption) | (with_reducible show (_ : Int) ≤ _; omega) | (with_reducible show (_ : Int) < _; omega) | (with_reducible show (_ : Nat) ≤ _; omega) | (with_reducible show (_ : Nat) < _; omega) | exact ⟨by decide, by decide⟩ | exact CMul_l (by decide) | exact CMul_r (by decide))) | ((fail_if_success (show ∃ W : Nat → Nat → L2.St → Hp → Prop, _)); apply Exists.intro) | (refine iteT ?_) | (refine iteF ?_) | (refine wT ?_ ?_; focus omega) | (refine wF ?_ ?_; focus omega) | (refine wTv ?_ ?_; focus omega) | (refine wFv ?_ ?_; focus omega) | (refine wNT ?_ ?_; focus omega) | (refine wNF ?_ ?_; focus omega)))
            refine ⟨fun z => absurd z.2 (by show HT.sIx 4 4 (some 3) ≠ 4; decide), ?_⟩
            (intro w n_w; generalize he_w : upd _ w _ = H1; obtain ⟨e_w, s_w, f_w⟩ := new_f he_w n_w; clear he_w)
            have e_w : H1 w = some (.tup [.str "copy", .int lot, .int y]) := by rw [e_w]; rfl
            (repeat ((fail_if_success (intro _)); first | (refine And.intro ?_ ?_; focus (first | rfl | assumption | exact .of (by assumption) | exact .inl (.of (by assumption)) | exact .inr (by assumption) | exact .inr (.of (by assumption)) | exact kit_ty (by decide +kernel) | exact .ty _ | exact tyT (by assumption) | exact .base (.int _) | (show _ ≤ sizeLine; first | decide | exact Nat.le_of_ble_eq_true rfl | (simp only [List.length_cons, List.length_nil]; decide)) | exact ⟨_, .of (by assumption)⟩ | exact ⟨_, by assumption⟩ | exact DGet.k (by assumption) | (with_reducible show (_ : Int) ≤ _; omega) | (with_reducible show (_ : Int) < _; omega) | (with_reducible show (_ : Nat) ≤ _; omega) | (with_reducible show (_ : Nat) < _; omega) | exact ⟨by decide, by decide⟩ | exact CMul_l (by decide) | exact CMul_r (by decide))) | ((fail_if_success (show ∃ W : Nat → Nat → L2.St → Hp → Prop, _)); apply Exists.intro) | (refine iteT ?_) | (refine iteF ?_) | (refine wT ?_ ?_; focus omega) | (refine wF ?_ ?_; focus omega) | (refine wTv ?_ ?_; focus omega) | (refine wFv ?_ ?_; focus omega) | (refine wNT ?_ ?_; focus omega) | (refine wNF ?_ ?_; focus omega)))
            (intro u n_u; generalize he_u : upd _ u _ = H2; obtain ⟨e_u, s_u, f_u⟩ := new_f he_u n_u; clear he_u)
            refine ⟨.tuple [.str "copy", .int lot, .int y], .tuple [.str "copy", .int p.1, .int x], .tup (.of (s_u _ _ e_w)) (.cons (.str _) (.cons (.int _) (.cons (.int _) .nil))), .tup (.of e_u) (.cons (.str _) (.cons (.int _) (.cons (.int _) .nil))), sh3 (by decide +kernel) _ _, sh3 (by decide +kernel) _ _, ?_⟩
            have S2 := s_w.trans s_u
            have h1' := sameT S2 h1
            have eq2 := S2 _ _ eq0
            refine ⟨_, rfl, ?_⟩
            rw [eq3]
            by_cases e : lot = p.1 ∧ y = x
            · rw [decide_eq_true e]
              rw [show foundR p.1 x (some (ra, Rec.copy lot y c)) = c from if_pos e] at k
              refine iteT ⟨_, rfl, _, rfl, lq, _, _, _, rfl, rfl, .of eq2, g1, ra, _, 3, .ref pc, rfl, rfl, h1', rfl, ?_⟩
              exact k _ pc (S0.trans S2) (sameT S2 (sameT S0 h2))
            · rw [decide_eq_false e]
              exact iteF ⟨by show 8 ≤ sizeLine; decide, fun t0 nt0 => zeros _ t0 S2 nt0 (if_neg e)⟩
          | mark lot ps rs =>
            obtain ⟨pp, pr, h1, ⟨qs, g2, g3, g4⟩, _⟩ := hR
            have h1 := sameT S0 h1
            have g2 := sameT S0 g2
            have g4 : ∀ (i : Nat) (q : Addr) (p : Int × Int), qs[i]? = some q → ps[i]? = some p → SqT K H0 q [.int p.1, .int p.2] := fun i q p a b => sameT S0 (g4 i q p a b)
            (repeat ((fail_if_success (intro _)); first | (refine And.intro ?_ ?_; focus (first | rfl | assumption | exact .of (by assumption) | exact .inl (.of (by assumption)) | exact .inr (by assumption) | exact .inr (.of (by assumption)) | exact kit_ty (by decide +kernel) | exact .ty _ | exact tyT (by assumption) | exact .base (.int _) | (show _ ≤ sizeLine; first | decide | exact Nat.le_of_ble_eq_true rfl | (simp only [List.length_cons, List.length_nil]; decide)) | exact ⟨_, .of (by assumption)⟩ | exact ⟨_, by assumption⟩ | exact DGet.k (by assumption) | (with_reducible show (_ : Int) ≤ _; omega) | (with_reducible show (_ : Int) < _; omega) | (with_reducible show (_ : Nat) ≤ _; omega) | (with_reducible show (_ : Nat) < _; omega) | exact ⟨by decide, by decide⟩ | exact CMul_l (by decide) | exact CMul_r (by decide))) | ((fail_if_success (show ∃ W : Nat → Nat → L2.St → Hp → Prop, _)); apply Exists.intro) | (refine iteT ?_) | (refine iteF ?_) | (refine wT ?_ ?_; focus omega) | (refine wF ?_ ?_; focus omega) | (refine wTv ?_ ?_; focus omega) | (refine wFv ?_ ?_; focus omega) | (refine wNT ?_ ?_; focus omega) | (refine wNF ?_ ?_; focus omega)))
            refine ⟨fun z => absurd z.2 (by show HT.sIx 4 4 (some 3) ≠ 4; decide), ?_⟩
            (intro w n_w; generalize he_w : upd _ w _ = H1; obtain ⟨e_w, s_w, f_w⟩ := new_f he_w n_w; clear he_w)
            have e_w : H1 w = some (.tup [.str "mark", .int lot, .ref pp]) := by rw [e_w]; rfl
            (repeat ((fail_if_success (intro _)); first | (refine And.intro ?_ ?_; focus (first | rfl | assumption | exact .of (by assumption) | exact .inl (.of (by assumption)) | exact .inr (by assumption) | exact .inr (.of (by assumption)) | exact kit_ty (by decide +kernel) | exact .ty _ | exact tyT (by assumption) | exact .base (.int _) | (show _ ≤ sizeLine; first | decide | exact Nat.le_of_ble_eq_true rfl | (simp only [List.length_cons, List.length_nil]; decide)) | exact ⟨_, .of (by assumption)⟩ | exact ⟨_, by assumption⟩ | exact DGet.k (by assumption) | (with_reducible show (_ : Int) ≤ _; omega) | (with_reducible show (_ : Int) < _; omega) | (with_reducible show (_ : Nat) ≤ _; omega) | (with_reducible show (_ : Nat) < _; omega) | exact ⟨by decide, by decide⟩ | exact CMul_l (by decide) | exact CMul_r (by decide))) | ((fail_if_success (show ∃ W : Nat → Nat → L2.St → Hp → Prop, _)); apply Exists.intro) | (refine iteT ?_) | (refine iteF ?_) | (refine wT ?_ ?_; focus omega) | (refine wF ?_ ?_; focus omega) | (refine wTv ?_ ?_; focus omega) | (refine wFv ?_ ?_; focus omega) | (refine wNT ?_ ?_; focus omega) | (refine wNF ?_ ?_; focus omega)))
            (intro u n_u; generalize he_u : upd _ u _ = H2; obtain ⟨e_u, s_u, f_u⟩ := new_f he_u n_u; clear he_u)
            have S2 := s_w.trans s_u
            refine ⟨.tuple [.str "mark", .int lot, .tuple (ps.map dPr)], .tuple [.str "copy", .int p.1, .int x], .tup (.of (s_u _ _ e_w)) (.cons (.str _) (.cons (.int _) (.cons (.tup (sameT S2 g2) (r_dpAllP qs ps g3 fun i q p a b => sameT S2 (g4 i q p a b))) .nil))), .tup (.of e_u) (.cons (.str _) (.cons (.int _) (.cons (.int _) .nil))), shM _ _, sh3 (by decide +kernel) _ _, _, rfl, wFb rfl ?_⟩
            exact ⟨by show 8 ≤ sizeLine; decide, fun t0 nt0 => zeros _ t0 S2 nt0 rfl⟩
      · exact ⟨by show 8 ≤ sizeLine; decide, fun t0 nt0 => zeros _ t0 (Same.refl _) nt0 (if_neg fun z => h0 z.1)⟩
end
end K47
namespace K47
open PySem PySem.Spec PyProof.Rows L2 Rg
section
variable {K : PySem.W.Frag} {CD CP : Addr} {Ps : List Addr} {H H' : Hp} {p d lq : Addr} {A : DA} {b n s hd la M : Int} {hs gs : List V} {lg : LogL} {kv : List (Key × V)}
/-- what a law's own writes change -/
def DkS (p d lq : Addr) (A : DA) (Ps : List Addr) : List Addr := p :: lq :: A.ho :: A.lg :: d :: A.pd :: Ps
theorem Dk.isnS (x : Dk K CD CP Ps H p d lq A b n s hd la M hs lg kv) : ∀ a ∈ DkS p d lq A Ps, Isnt H a := fun a h => by
  obtain ⟨dx, ho⟩ := x.D.ob
  obtain ⟨fs, ep⟩ := x.f
  unfold DkS at h
  rcases List.mem_cons.mp h with z | z
  · rw [z]; exact isnt_lst ep
  rcases List.mem_cons.mp z with z | z
  · rw [z]; exact isnt_lst x.l
  rcases List.mem_cons.mp z with z | z
  · rw [z]; exact isnt_lst x.D.ho
  rcases List.mem_cons.mp z with z | z
  · rw [z]; exact isnt_lst x.D.lg
  exact x.isn a z
end
end K47
namespace K47
open PySem PySem.Spec PyProof.Rows L2 Rg
section
variable {K : PySem.W.Frag} {CD CP : Addr} {Ps : List Addr} {H H' : Hp} {p d lq : Addr} {A : DA} {b n s hd la M : Int} {hs gs : List V} {lg : LogL} {kv : List (Key × V)}
/-- another list is written -/
theorem Dk.list (x : Dk K CD CP Ps H p d lq A b n s hd la M hs lg kv) {a : Addr} {xs : List V} (e0 : H a = some (.lst xs)) (n1 : a ≠ p) (n2 : a ≠ lq) (n3 : a ≠ A.ho) (n4 : a ≠ A.lg) (o : HO) : Dk K CD CP Ps (upd H a o) p d lq A b n s hd la M hs lg kv := by
  obtain ⟨fs, ep⟩ := x.f
  obtain ⟨dx, ho⟩ := x.D.ob
  obtain ⟨px, hp⟩ := x.D.pl.ob
  have k : Kp [a] H (upd H a o) := Kp.refl.own1
  have g : ∀ {c : Addr} {o : HO}, H c = some o → c ≠ a → upd H a _ c = some o := fun q z => k.at1 q z
  refine ⟨x.D.keep fun c hc o q => g q ?_, ⟨fs, g ep n1.symm⟩, g x.l n2.symm, x.L.kp k (by simp only [List.mem_singleton]; rintro c rfl; exact isnt_lst e0), x.t.upd e0 (by intro _ z; cases z), x.n1, x.n2, x.n3, x.n4, x.n5⟩
  simp only [List.mem_cons, List.not_mem_nil, or_false] at hc
  rcases hc with rfl | rfl | rfl | rfl | rfl
  · exact ne_of ho e0 (by intro z; cases z)
  · exact ne_of hp e0 (by intro z; cases z)
  · exact n3.symm
  · exact n4.symm
  · exact ne_of x.D.pd e0 (by intro z; cases z)
/-- a home is sure -/
theorem Dk.homed (x : Dk K CD CP Ps H p d lq A b n s hd la M hs lg kv) {kv' : List (Key × V)} {hs' : List V} (t : Tab Ps H') (k : Kp [A.pd, A.ho, A.lg] H H') (e : DAt CD CP H' d A b n s hd la hs' (lg.map gV) kv') : Dk K CD CP Ps H' p d lq A b n s hd la M hs' lg kv' := by
  obtain ⟨fs0, e0⟩ := x.f
  have hpd := x.D.pd
  have ni : ∀ {a : Addr} {xs : List V}, H a = some (.lst xs) → a ≠ A.ho → a ≠ A.lg → a ∉ [A.pd, A.ho, A.lg] := fun {a xs} h z1 z2 z => by
    simp only [List.mem_cons, List.not_mem_nil, or_false] at z
    rcases z with z | z | z
    · rw [z, hpd] at h; cases h
    · exact z1 z
    · exact z2 z
  have isn : ∀ a ∈ [A.pd, A.ho, A.lg], Isnt H a := fun a z => by
    simp only [List.mem_cons, List.not_mem_nil, or_false] at z
    rcases z with rfl | rfl | rfl
    · exact isnt_dK hpd
    · exact isnt_lst x.D.ho
    · exact isnt_lst x.D.lg
  exact ⟨e, ⟨fs0, k _ _ e0 (ni e0 x.n2 x.n3)⟩, k _ _ x.l (ni x.l x.n4 x.n5), x.L.kp k isn, t, x.n1, x.n2, x.n3, x.n4, x.n5⟩
/-- a list that is not the disk's, nor the feed, nor the log's -/
theorem Dk.nin (x : Dk K CD CP Ps H p d lq A b n s hd la M hs lg kv) {a : Addr} {xs : List V} (e0 : H a = some (.lst xs)) (n1 : a ≠ p) (n2 : a ≠ lq) (n3 : a ≠ A.ho) (n4 : a ≠ A.lg) : a ∉ DkS p d lq A Ps := fun h => by
  obtain ⟨dx, ho⟩ := x.D.ob
  unfold DkS at h
  simp only [List.mem_cons] at h
  rcases h with h | h | h | h | h | h | h
  · exact n1 h
  · exact n2 h
  · exact n3 h
  · exact n4 h
  · rw [h, ho] at e0; cases e0
  · rw [h, x.D.pd] at e0; cases e0
  · exact x.t.nin e0 (by intro _ z; cases z) h
theorem MarksAt.kp {S : List Addr} {ma : Addr} {ms : List Mk3} (h : MarksAt K H ma ms) (k : Kp S H H') (isn : ∀ a ∈ S, Isnt H a) (n : ma ∉ S) : MarksAt K H' ma ms := by
  obtain ⟨mas, h1, h2, h3⟩ := h
  exact ⟨mas, k _ _ h1 n, h2, fun i a m e1 e2 => let ⟨z, r, q1, q2⟩ := h3 i a m e1 e2; ⟨z, r, seqT_kp k isn q1, q2.by fun _ _ => seqT_kp k isn⟩⟩
theorem MarksAt.snoc {ma t r : Addr} {ms : List Mk3} {vs : List V} {z : Int} {m : Mk3} (h : MarksAt K H ma ms) (e : H ma = some (.lst vs)) (et : H t = some (.tup [.int z, .ref r])) (hm : MarkAt K H r m) : MarksAt K (upd H ma (.lst (vs ++ [.ref t]))) ma (ms ++ [m]) := by
  obtain ⟨mas, h1, h2, h3⟩ := h
  rw [h1] at e
  cases e
  have k : ∀ b xs, SqT K H b xs → SqT K (upd H ma (.lst (mas.map V.ref ++ [.ref t]))) b xs := fun b xs q => seqT_kp (S := [ma]) Kp.refl.own1 (by simp only [List.mem_singleton]; rintro c rfl; exact isnt_lst h1) q
  refine ⟨mas ++ [t], by rw [upd_same, List.map_append]; rfl, by simp [h2], fun i u q a b => ?_⟩
  by_cases hi : i < mas.length
  · rw [List.getElem?_append_left hi] at a
    rw [List.getElem?_append_left (by rw [← h2]; exact hi)] at b
    obtain ⟨z, r, q1, q2⟩ := h3 i u q a b
    exact ⟨z, r, k _ _ q1, q2.by k⟩
  · have h0 : mas.length ≤ i := Nat.le_of_not_lt hi
    rw [List.getElem?_append_right h0] at a
    rw [List.getElem?_append_right (by rw [← h2]; exact h0), ← h2] at b
    cases hk : i - mas.length with
    | zero =>
      rw [hk] at a b
      cases a
      cases b
      exact ⟨z, r, k _ _ (.of et), hm.by k⟩
    | succ m =>
      rw [hk] at a
      simp at a
def dHm (hc : List (List Int)) : List PyData := hc.map fun c => .tuple (c.map PyData.int)
theorem canH : ∀ hc : List (List Int), PyData.canLayAll0 (dHm hc) = true
  | [] => rfl
  | c :: hc => by
    show (PyData.canLayAll0 (c.map PyData.int) && PyData.canLayAll0 (dHm hc)) = true
    rw [r_canI, canH hc]; rfl
theorem depH : ∀ hc : List (List Int), PyData.depthAll (dHm hc) ≤ 1
  | [] => Nat.zero_le _
  | c :: hc => by
    show max (PyData.depthAll (c.map PyData.int) + 1) (PyData.depthAll (dHm hc)) ≤ 1
    have := depH hc
    rw [r_depI]
    omega
theorem shH (hc : List (List Int)) : SeqAt.shaped (.list (dHm hc)) = true := by
  unfold SeqAt.shaped
  rw [Bool.and_eq_true]
  refine ⟨canH hc, decide_eq_true ?_⟩
  show PyData.depthAll (dHm hc) + 1 ≤ 64
  have := depH hc
  omega
theorem eqH (hc : List (List Int)) : PyData.eqv (.list (dHm hc)) (.list (dHm hc)) = true := SeqAt.eqv_refl _ (canH hc)
theorem dpAllH : ∀ (ts : List Addr) (hc : List (List Int)), HomAt K H ts hc → DpAll K H (ts.map V.ref) (dHm hc)
  | [], [], _ => .nil
  | t :: ts, c :: hc, h => .cons (.tup (h.2 0 t c rfl rfl) (r_dpAllI c)) (dpAllH ts hc ⟨by have := h.1; simpa using this, fun i t c a b => h.2 (i + 1) t c (by simpa using a) (by simpa using b)⟩)
  | [], _ :: _, h => by have := h.1; simp at this
  | _ :: _, [], h => by have := h.1; simp at this
theorem HomAt.dp {ts : List Addr} {hc : List (List Int)} {q : Addr} (h : HomAt K H ts hc) (e : SqL K H q (ts.map V.ref)) : Dp K H (.ref q) (.list (dHm hc)) := .lst e (dpAllH ts hc h)
theorem HomAt.kp {S : List Addr} {ts : List Addr} {hc : List (List Int)} (h : HomAt K H ts hc) (k : Kp S H H') (isn : ∀ a ∈ S, Isnt H a) : HomAt K H' ts hc := h.by fun _ _ => seqT_kp k isn
end
end K47
namespace K47
open PySem PySem.Spec PyProof.Rows L2 Rg
section
variable {P : Program} {w : World} {K : PySem.W.Frag} {mg : Str → Option Value} {base : Heap}
def sp_Lput (K : PySem.W.Frag) (CD CP : Addr) (Ps : List Addr) : Sp := fun vs H Q _ => ∃ (p d lq u : Addr) (slot : Int) (A : DA) (hd la M : Int) (hs : List V) (lg : LogL) (r : Rec), vs = [.ref d, .ref lq, .int slot, .ref u] ∧ Dk K CD CP Ps H p d lq A 24 5 30 hd la M hs lg [] ∧ 0 ≤ slot ∧ slot < 30 ∧ RecAt K H u r ∧ Fit 24 30 r ∧ r.lot ≤ M ∧
  ∀ H' : Hp, Kp (lq :: A.ho :: A.lg :: d :: A.pd :: Ps) H H' → Dk K CD CP Ps H' p d lq A 24 5 30 hd (la + 1) M hs (lg.set slot.toNat (some (u, r))) [] → Q .non H'
theorem ok_Lput (T : Tx K mg) (B : TBs T base) : FnOk P w K mg base CX0 11 T.f_Lput T.fd_Lput ["_law_disk_here", "_law_log", "_law_slot_here", "_law_record"] (sp_Lput K T.C_Disk T.C_Plan T.Ps) := by
  refine T.F_Lput.ok sc_Lput (fun vs H Q E h => ?_) (fun cdv A0 outer s H vs Q E hr h => ?_)
  · obtain ⟨_, _, _, _, _, _, _, _, _, _, _, _, rfl, _⟩ := h; rfl
  · obtain ⟨p, d, lq, u, slot, A, hd, la, M, hs, lg, r, rfl, X11, hs0, hs30, hru, fit, rl, k⟩ := h
    have hr2 := hr.mono (show 2 ≤ 10 by decide)
    refine ⟨_, (pss_cons (ps_set (i := 4) sc_Lput.nd rfl (.inl rfl) (pe_meth (pv 0) T.cl_Disk T.m_Disk_issue (ok_issue T B) hr (b_Disk_issue T) .nil pass0 (pa_cons (pe_tup (pa_cons pe_str (pa_cons (pv 2) pa_nil))) (pa_cons (pv 3) pa_nil))))
      (pss_cons (ps_expr (pe_meth (pv 0) T.cl_Disk T.m_Disk_sure (ok_sure T) hr2 (b_Disk_sure T) .nil pass0 (pa_cons (pv 4) pa_nil)))
      (pss_one (ps_asg (pv 3) (pg_sub (pv 1) (pv 2) set_list))))), ?_⟩
    obtain ⟨dx, ho⟩ := X11.D.ob
    refine ⟨_, rfl, d, _, _, rfl, ho, rfl, _, rfl, by show 2 ≤ sizeLine; decide, fun t nt => ?_⟩
    have st := same_upd (o := .tup [.str "log", .int slot]) nt
    have X12 := X11.same st
    have hru2 := hru.same st
    have hq : PlcAt K (upd H t (.tup [.str "log", .int slot])) t (.log slot) := .of upd_same
    refine ⟨_, rfl, d, t, u, A, 24, 5, 30, hd, la, hs, lg.map gV, .log slot, rfl, X12.D, hq, ⟨hs0, by omega, r, hru2, fit⟩, X12.t, fun H13 wt t13 k13 D13 e13 => ?_⟩
    have X13 := X12.issued t13 k13 D13
    have hru3 := hru2.by fun _ _ => seqT_kp k13 X12.isn
    ((try dsimp only); (first | (refine Rg.sg (σ' := [some (.ref d), some (.ref lq), some (.int slot), some (.ref u), some (.int (la + 1))]) ?_ ?_; focus exact rfl) | (refine Rg.sgG (σ' := [some (.ref d), some (.ref lq), some (.int slot), some (.ref u), some (.int (la + 1))]) ?_ ?_; focus exact rfl)))
    obtain ⟨dx3, ho3⟩ := D13.ob
    refine ⟨_, rfl, d, _, _, rfl, ho3, rfl, _, rfl, d, t, u, wt, la + 1, A, 24, 5, 30, hd, la + 1, hs, lg.map gV, .log slot, rfl, D13, e13, hq.by fun _ _ => seqT_kp k13 X12.isn, ⟨hs0, by omega⟩, t13, fun H14 t14 k14 D14 => ?_⟩
    have hsl : slot.toNat < (lg.map gV).length := by have := X13.D.gl; omega
    obtain ⟨e14, X14⟩ := X13.logged t14 k14 D14 hru3 fit rl
    refine ⟨_, rfl, _, rfl, _, rfl, lq, _, slot, slot.toNat, rfl, rfl, e14, ixN_at (by omega) hsl, ?_⟩
    refine k _ ?_ X14
    have k13' : Kp (lq :: A.ho :: A.lg :: d :: A.pd :: T.Ps) H H13 := (Kp.of st).trans (k13.mono fun x h => by
      rcases List.mem_cons.mp h with z | z
      · simp [z]
      rcases List.mem_cons.mp z with z | z
      · simp [z]
      · simp [z])
    exact (k13'.trans (k14.mono fun x h => by
      simp only [List.mem_cons, List.not_mem_nil, or_false] at h
      rcases h with z | z | z <;> simp [z])).own (by simp)
end
end K47
namespace K47
open PySem PySem.Spec PyProof.Rows L2 Rg
/-- marks of few pairs -/
def LgOk (lg : LogL) : Prop := ∀ (i : Nat) (a : Addr) (l : Int) (ps : List (Int × Int)) (rs : List Int), lg[i]? = some (some (a, .mark l ps rs)) → ps.length ≤ 5
theorem LgOk.set {lg : LogL} (h : LgOk lg) {r : Rec} (hr : ∀ l ps rs, r = .mark l ps rs → ps.length ≤ 5) (u : Addr) (i : Nat) : LgOk (lg.set i (some (u, r))) := fun j a l ps rs e => by
  rw [List.getElem?_set] at e
  split at e
  · split at e
    · have e := Option.some.inj (Option.some.inj e)
      cases e
      exact hr _ _ _ rfl
    · cases e
  · exact h j a l ps rs e
section
variable {P : Program} {w0_ : World} {K : PySem.W.Frag} {mg : Str → Option Value} {base : Heap}
theorem cells5 {a b c : Int} (ha : 0 ≤ a) (ha' : a ≤ 999999999) (hb : 0 ≤ b) (hb' : b ≤ 999999999) (hc : 0 ≤ c) (hc' : c ≤ 999999999) : Cells [a, b, c, 0, 0, 0, 0, 0] := ⟨rfl, fun i hi => by
  simp only [List.mem_cons, List.not_mem_nil, or_false] at hi
  rcases hi with rfl | rfl | rfl | rfl | rfl | rfl | rfl | rfl <;> omega⟩
/-- marks that the law has drawn -/
structure Mu where
  (u : Addr) (lot : Int) (ps : List (Int × Int)) (rs : List Int)
structure MuOk (K : PySem.W.Frag) (H : Hp) (M : Int) (m : Mu) : Prop where
  r : RecAt K H m.u (.mark m.lot m.ps m.rs)
  o : Mk8 m.ps m.rs
  l1 : 1 ≤ m.lot
  l2 : m.lot + 1 ≤ M
theorem MuOk.kp {K : PySem.W.Frag} {H H' : Hp} {M : Int} {m : Mu} (h : MuOk K H M m) {S : List Addr} (k : Kp S H H') (z : ∀ a ∈ S, Isnt H a) : MuOk K H' M m := ⟨h.r.by fun _ _ => seqT_kp k z, h.o, h.l1, h.l2⟩
theorem MuOk.same {K : PySem.W.Frag} {H H' : Hp} {M : Int} {m : Mu} (h : MuOk K H M m) (S : Same H H') : MuOk K H' M m := ⟨h.r.same S, h.o, h.l1, h.l2⟩
def sp_Lcopies (K : PySem.W.Frag) (CD CP : Addr) (Ps : List Addr) : Sp := fun vs H Q _ => ∃ (p d lq ml : Addr) (A : DA) (hd la M : Int) (hs : List V) (lg : LogL) (us : List Mu), vs = [.ref p, .ref d, .ref lq, .ref ml] ∧ Dk K CD CP Ps H p d lq A 24 5 30 hd la M hs lg [] ∧ LgOk lg ∧ H ml = some (.lst (us.map fun m => V.ref m.u)) ∧ (∀ m ∈ us, MuOk K H M m) ∧ ml ∉ DkS p d lq A Ps ∧ M ≤ 999999 ∧
  ∀ (H' : Hp) (la' : Int) (lg' : LogL), Kp (DkS p d lq A Ps) H H' → Dk K CD CP Ps H' p d lq A 24 5 30 hd la' M hs lg' [] → LgOk lg' → Q .non H'
theorem ok_Lcopies (T : Tx K mg) (B : TBs T base) : FnOk P w0_ K mg base CX0 12 T.f_Lcopies T.fd_Lcopies ["_law_feed_here", "_law_disk_here", "_law_log", "_law_marks_here"] (sp_Lcopies K T.C_Disk T.C_Plan T.Ps) := by
  refine T.F_Lcopies.ok sc_Lcopies (fun vs H Q E h => ?_) (fun cdv A0 outer s H vs Q E hr h => ?_)
  · obtain ⟨_, _, _, _, _, _, _, _, _, _, _, rfl, _⟩ := h; rfl
  · obtain ⟨p, d, lq, ml, A, hd, la, M, hs, lg, us, rfl, X, hlg, eml, hU, nml, hMM, k⟩ := h
    have hr1 := hr.mono (show 1 ≤ 11 by decide)
    refine ⟨_, (pss_one (ps_for PassesOwn.never rfl (pi_list (pv 3)) (pg_name (i := 4) sc_Lcopies.nd rfl (.inl rfl))
        (pss_one (ps_for PassesOwn.never rfl (pi_tup (pe_ix ix_tup (pv 4) pe_int (fun _ _ => rfl))) (pg_name (i := 5) sc_Lcopies.nd rfl (.inl rfl))
          (pss_cons (ps_set (i := 6) sc_Lcopies.nd rfl (.inl rfl) (pe_call (ok_Lpick T) hr1 rfl T.mg_Lpick T.F_Lpick.kp (b_Lpick T) .nil pass0 (pa_cons (pv 0) (pa_cons pe_int pa_nil))))
          (pss_cons (ps_set (i := 7) sc_Lcopies.nd rfl (.inl rfl) (pe_op op_add (pe_ix ix_tup (pv 4) pe_int (fun _ _ => rfl)) (pe_callTy call_int1 rfl T.b_int (by decide +kernel) (pa_cons (pe_cmpR op_eq (pv 6) pe_int (nomark _)) pa_nil))))
          (pss_cons (ps_set (i := 8) sc_Lcopies.nd rfl (.inl rfl) (pe_op op_add (pe_ix ix_tup (pv 5) pe_int (fun _ _ => rfl)) (pe_callTy call_int1 rfl T.b_int (by decide +kernel) (pa_cons (pe_cmpR op_eq (pv 6) pe_int (nomark _)) pa_nil))))
          (pss_one (ps_if (pt_cmpR op_ge (pe_ix ix_tup (pv 5) pe_int (fun _ _ => rfl)) pe_int (nomark _))
            (pss_one (ps_expr (pe_call (ok_Lput T B) hr rfl T.mg_Lput T.F_Lput.kp (b_Lput T) .nil pass0 (pa_cons (pv 1) (pa_cons (pv 2) (pa_cons (pe_ix ix_tup (pv 5) pe_int (fun _ _ => rfl)) (pa_cons (pe_tup (pa_cons pe_str (pa_cons (pv 7) (pa_cons (pv 8) (pa_cons (pe_tup (pa_cons (pe_op op_add (pe_ix ix_tup (pv 5) pe_int (fun _ _ => rfl)) pe_int) (pa_cons (pv 7) (pa_cons (pv 8) (pa_cons pe_int (pa_cons pe_int (pa_cons pe_int (pa_cons pe_int (pa_cons pe_int pa_nil))))))))) pa_nil))))) pa_nil)))))))
            pss_nil))))))))), ?_⟩
    have isn := X.isnS
    refine ⟨_, rfl, ml, rfl, ⟨_, .of eml⟩, ?_⟩
    refine for_list (K := K) (a := ml) (xs := us.map fun m => V.ref m.u) (fun i σ H' => ∃ (v4 v5 v6 v7 v8 : Option V) (la' : Int) (lg' : LogL), σ = [some (.ref p), some (.ref d), some (.ref lq), some (.ref ml), v4, v5, v6, v7, v8] ∧ Kp (DkS p d lq A T.Ps) H H' ∧ Dk K T.C_Disk T.C_Plan T.Ps H' p d lq A 24 5 30 hd la' M hs lg' [] ∧ LgOk lg') ⟨none, none, none, none, none, la, lg, rfl, Kp.refl, X, hlg⟩ (fun i σ H' _ ⟨_, _, _, _, _, _, _, _, kk, _, _⟩ => .of (kk _ _ eml nml)) ?_ ?_
    · rintro i y σ H1 hi ⟨v4, v5, v6, v7, v8, la1, lg1, rfl, k1, X1, O1⟩
      rw [List.getElem?_map] at hi
      obtain ⟨m, hm, rfl⟩ := Option.map_eq_some_iff.mp hi
      have hu := hU m (List.mem_of_getElem? hm)
      obtain ⟨pp, pr, h1, hP, h3⟩ := hu.r
      obtain ⟨qs, g1, g2, g3⟩ := PairsAt.at hP
      have h1' := seqT_kp k1 isn h1
      have g1' := seqT_kp k1 isn g1
      ((try dsimp only); (first | (refine Rg.sg (σ' := [some (.ref p), some (.ref d), some (.ref lq), some (.ref ml), some (.ref m.u), v5, v6, v7, v8]) ?_ ?_; focus exact rfl) | (refine Rg.sgG (σ' := [some (.ref p), some (.ref d), some (.ref lq), some (.ref ml), some (.ref m.u), v5, v6, v7, v8]) ?_ ?_; focus exact rfl)))
      refine ⟨_, rfl, m.u, _, 2, .ref pp, rfl, rfl, h1', rfl, pp, rfl, ⟨_, g1'⟩, ?_⟩
      refine for_tup (K := K) (a := pp) (xs := qs.map V.ref) (fun j σ H' => ∃ (v5 v6 v7 v8 : Option V) (la' : Int) (lg' : LogL), σ = [some (.ref p), some (.ref d), some (.ref lq), some (.ref ml), some (.ref m.u), v5, v6, v7, v8] ∧ Kp (DkS p d lq A T.Ps) H H' ∧ Dk K T.C_Disk T.C_Plan T.Ps H' p d lq A 24 5 30 hd la' M hs lg' [] ∧ LgOk lg') ⟨v5, v6, v7, v8, la1, lg1, rfl, k1, X1, O1⟩ (fun i σ H' _ ⟨_, _, _, _, _, _, _, kk, _, _⟩ => seqT_kp kk isn g1) ?_ ?_
      · rintro j y σ H2 hj ⟨v5, v6, v7, v8, la2, lg2, rfl, k2, X2, O2⟩
        obtain ⟨q, pq, rfl, p1, p2⟩ := g3 j y hj
        have hb := hu.o.p pq (List.mem_of_getElem? p1)
        have hl1 := hu.l1
        have hl2 := hu.l2
        obtain ⟨f2, e2⟩ := X2.f
        ((try dsimp only); (first | (refine Rg.sg (σ' := [some (.ref p), some (.ref d), some (.ref lq), some (.ref ml), some (.ref m.u), some (.ref q), v6, v7, v8]) ?_ ?_; focus exact rfl) | (refine Rg.sgG (σ' := [some (.ref p), some (.ref d), some (.ref lq), some (.ref ml), some (.ref m.u), some (.ref q), v6, v7, v8]) ?_ ?_; focus exact rfl)))
        refine ⟨_, rfl, p, f2, 8, rfl, e2, by decide, fun ch f3 c0 c8 _ => ?_⟩
        have X3 := X2.pick f3
        have k3 : Kp (DkS p d lq A T.Ps) H (upd H2 p (.lst (f3.map V.int))) := k2.own (by simp [DkS])
        generalize upd H2 p (.lst (f3.map V.int)) = H3 at X3 k3 ⊢
        have h13 := seqT_kp k3 isn h1
        have p23 := seqT_kp k3 isn p2
        ((try dsimp only); (first | (refine Rg.sg (σ' := [some (.ref p), some (.ref d), some (.ref lq), some (.ref ml), some (.ref m.u), some (.ref q), some (.int ch), v7, v8]) ?_ ?_; focus exact rfl) | (refine Rg.sgG (σ' := [some (.ref p), some (.ref d), some (.ref lq), some (.ref ml), some (.ref m.u), some (.ref q), some (.int ch), v7, v8]) ?_ ?_; focus exact rfl)))
        obtain ⟨b6, eb6⟩ : ∃ b : Bool, b = decide (V.int ch = V.int 6) := ⟨_, rfl⟩
        obtain ⟨b7, eb7⟩ : ∃ b : Bool, b = decide (V.int ch = V.int 7) := ⟨_, rfl⟩
        have i6 : 0 ≤ (if b6 = true then (1 : Int) else 0) ∧ (if b6 = true then (1 : Int) else 0) ≤ 1 := by cases b6 <;> decide
        have i7 : 0 ≤ (if b7 = true then (1 : Int) else 0) ∧ (if b7 = true then (1 : Int) else 0) ≤ 1 := by cases b7 <;> decide
        refine ⟨_, rfl, m.u, _, 1, .int m.lot, rfl, rfl, h13, rfl, _, rfl, rfl, .inr ⟨b6, by rw [eb6], _, _, rfl, rfl, ?_⟩⟩
        ((try dsimp only); (first | (refine Rg.sg (σ' := [some (.ref p), some (.ref d), some (.ref lq), some (.ref ml), some (.ref m.u), some (.ref q), some (.int ch), some (.int (m.lot + if b6 = true then (1 : Int) else 0)), v8]) ?_ ?_; focus exact rfl) | (refine Rg.sgG (σ' := [some (.ref p), some (.ref d), some (.ref lq), some (.ref ml), some (.ref m.u), some (.ref q), some (.int ch), some (.int (m.lot + if b6 = true then (1 : Int) else 0)), v8]) ?_ ?_; focus exact rfl)))
        refine ⟨_, rfl, q, _, 0, .int pq.1, rfl, rfl, p23, rfl, _, rfl, rfl, .inr ⟨b7, by rw [eb7], _, _, rfl, rfl, ?_⟩⟩
        ((try dsimp only); (first | (refine Rg.sg (σ' := [some (.ref p), some (.ref d), some (.ref lq), some (.ref ml), some (.ref m.u), some (.ref q), some (.int ch), some (.int (m.lot + if b6 = true then (1 : Int) else 0)), some (.int (pq.1 + if b7 = true then (1 : Int) else 0))]) ?_ ?_; focus exact rfl) | (refine Rg.sgG (σ' := [some (.ref p), some (.ref d), some (.ref lq), some (.ref ml), some (.ref m.u), some (.ref q), some (.int ch), some (.int (m.lot + if b6 = true then (1 : Int) else 0)), some (.int (pq.1 + if b7 = true then (1 : Int) else 0))]) ?_ ?_; focus exact rfl)))
        generalize (if b6 = true then (1 : Int) else 0) = z6 at i6 ⊢
        generalize (if b7 = true then (1 : Int) else 0) = z7 at i7 ⊢
        refine ⟨_, rfl, q, _, 1, .int pq.2, rfl, rfl, p23, rfl, _, _, rfl, rfl, _, rfl, wD (fun h0 => ?_) fun h0 => ?_⟩
        · refine ⟨_, rfl, _, rfl, _, rfl, q, _, 1, .int pq.2, rfl, rfl, p23, rfl, _, rfl, _, rfl, _, rfl, q, _, 1, .int pq.2, rfl, rfl, p23, rfl, _, _, rfl, rfl, _, rfl, _, rfl, by show 8 ≤ sizeLine; decide, ?_⟩
          (intro c n_c; generalize he_c : upd _ c _ = H4; obtain ⟨e_c, s_c, f_c⟩ := new_f he_c n_c; clear he_c)
          refine ⟨by show 4 ≤ sizeLine; decide, ?_⟩
          (intro u n_u; generalize he_u : upd _ u _ = H5; obtain ⟨e_u, s_u, f_u⟩ := new_f he_u n_u; clear he_u)
          have X5 := (X3.same s_c).same s_u
          have hru : RecAt K H5 u (.copy (m.lot + z6) (pq.1 + z7) [pq.2 + 1, m.lot + z6, pq.1 + z7, 0, 0, 0, 0, 0]) := ⟨c, .of e_u, .of (s_u _ _ e_c)⟩
          refine ⟨p, d, lq, u, pq.2, A, hd, la2, M, hs, lg2, _, rfl, X5, h0, by omega, hru, ⟨by omega, by omega, by omega, by omega, by omega, cells5 (by omega) (by omega) (by omega) (by omega) (by omega) (by omega)⟩, (by show m.lot + z6 ≤ M; omega), fun H6 k6 X6 => ?_⟩
          exact ⟨_, _, _, _, _, _, rfl, ((k3.same s_c).same s_u).trans (k6.mono fun x h => by simp only [DkS, List.mem_cons] at h ⊢; exact .inr h), X6, O2.set (fun _ _ _ z => by cases z) u _⟩
        · exact ⟨_, _, _, _, la2, lg2, rfl, k3, X3, O2⟩
      · rintro σ H2 ⟨v5, v6, v7, v8, la2, lg2, rfl, k2, X2, O2⟩
        exact ⟨_, _, _, _, _, la2, lg2, rfl, k2, X2, O2⟩
    · rintro σ H1 ⟨v4, v5, v6, v7, v8, la1, lg1, rfl, k1, X1, O1⟩
      exact k H1 la1 lg1 k1 X1 O1
end
end K47
namespace K47
open PySem PySem.Spec PyProof.Rows L2 Rg
theorem putsH_all : ∀ (ps : List Pw) (k : Nat) (hs : List V), (∀ (j : Nat) (p : Pw), ps[j]? = some p → p.q = .home ((k + j : Nat) : Int)) → hs.length = k + ps.length → putsH ps hs = hs.take k ++ ps.map fun p => V.ref p.u
  | [], k, hs, _, hl => by
    show hs = hs.take k ++ []
    rw [List.append_nil]
    exact (List.take_of_length_le (by rw [hl]; simp)).symm
  | p :: ps, k, hs, h, hl => by
    have h0 := h 0 p rfl
    rw [Nat.add_zero] at h0
    rw [List.length_cons] at hl
    have ih := putsH_all ps (k + 1) (hs.set k (.ref p.u)) (fun j q hq => by have := h (j + 1) q (by simpa using hq); rw [this]; congr 2; omega) (by rw [List.length_set]; omega)
    show putsH ps (putH p.q (.ref p.u) hs) = _
    rw [h0]
    show putsH ps (hs.set ((k : Nat) : Int).toNat (.ref p.u)) = _
    rw [Int.toNat_natCast, ih, List.map_cons, List.take_add_one, List.getElem?_set_self (by omega), List.take_set_of_le (Nat.le_refl _)]
    simp
theorem putsG_home : ∀ (ps : List Pw) (gs : List V), (∀ p ∈ ps, ∃ i, p.q = .home i) → putsG ps gs = gs
  | [], _, _ => rfl
  | p :: ps, gs, h => by
    obtain ⟨i, e⟩ := h p (by simp)
    show putsG ps (putG p.q (.ref p.u) gs) = gs
    rw [e]
    exact putsG_home ps gs fun p' hp => h p' (by simp [hp])
theorem _root_.Rg.Kp.hidS {S S2 : List Addr} {H Hc Hn : Hp} (k : Kp S H Hc) (k2 : Kp S2 Hc Hn) (h : ∀ x ∈ S2, x ∈ S ∨ H x = none) : Kp S H Hn := fun x o e n => k2 x o (k x o e n) fun z => by
  rcases h x z with q | q
  · exact n q
  · rw [q] at e; cases e
theorem pigeon : ∀ (n : Nat) (l : List Int), l.length < n → ∃ x : Nat, x < n ∧ (x : Int) ∉ l
  | 0, l, h => absurd h (Nat.not_lt_zero _)
  | n + 1, l, h => by
    by_cases hn : (n : Int) ∈ l
    · obtain ⟨x, hx, hm⟩ := pigeon n (l.erase (n : Int)) (by rw [List.length_erase_of_mem hn]; have := List.length_pos_of_mem hn; omega)
      refine ⟨x, by omega, fun z => hm ?_⟩
      exact (List.mem_erase_of_ne (by omega)).mpr z
    · exact ⟨n, by omega, hn⟩
section
variable {P : Program} {w0_ : World} {K : PySem.W.Frag} {mg : Str → Option Value} {base : Heap}
def sp_Ldisk (K : PySem.W.Frag) (CD CP : Addr) (Ps : List Addr) : Sp := fun vs H Q _ => ∃ (p lq ho : Addr) (fs : List Int) (hd : Int) (ts : List Addr) (hc : List (List Int)), vs = [.ref p, .int hd, .ref lq, .ref ho] ∧ H p = some (.lst (fs.map V.int)) ∧ 0 ≤ hd ∧ hd ≤ 999984 ∧ H lq = some (.lst (List.replicate 30 .non)) ∧ H ho = some (.lst (ts.map V.ref)) ∧ HomAt K H ts hc ∧ (∀ c ∈ hc, Cells c) ∧ hc.length = 24 ∧ p ≠ lq ∧ ho ≠ p ∧ ho ≠ lq ∧ Tab Ps H ∧
  ∀ (H' : Hp) (d : Addr) (A : DA) (la : Int) (us : List Addr) (lg : LogL), Kp (p :: lq :: Ps) H H' → H A.ho = none → H A.lg = none → H A.pd = none → H d = none → Dk K CD CP Ps H' p d lq A 24 5 30 hd la (hd + 7) (us.map V.ref) lg [] → HomAt K H' us hc → LgOk lg → Q (.ref d) H'
theorem ok_Ldisk (T : Tx K mg) (B : TBs T base) : FnOk P w0_ K mg base CX0 13 T.f_Ldisk T.fd_Ldisk ["_law_feed_here", "_law_head", "_law_log", "_law_home"] (sp_Ldisk K T.C_Disk T.C_Plan T.Ps) := by
  refine T.F_Ldisk.ok sc_Ldisk (fun vs H Q E h => ?_) (fun cdv A0 outer s H vs Q E hr h => ?_)
  · obtain ⟨_, _, _, _, _, _, _, rfl, _⟩ := h; rfl
  · obtain ⟨p, lq, ho, fs, hd, ts, hc, rfl, ep, hd0, hd1, elq, eho, hH, hcs, hcl, npq, nhp, nhq, ht, k⟩ := h
    have hr1 := hr.mono (show 1 ≤ 12 by decide)
    have hr2 := hr.mono (show 2 ≤ 12 by decide)
    have hr3 := hr.mono (show 3 ≤ 12 by decide)
    have hr10 := hr.mono (show 10 ≤ 12 by decide)
    have hr11 := hr.mono (show 11 ≤ 12 by decide)
    refine ⟨_, (pss_cons (ps_set (i := 4) sc_Ldisk.nd rfl (.inl rfl) (pe_make T.mk_Disk (ok_Disk_init T) hr2 rfl T.mg_Disk (b_Disk___init__ T) .nil pass0 (pa_cons (pe_makeK T.mk_Plan (ok_Plan_init T) hr2 rfl T.mg_Plan (kb_Plan T) pass0 (pa_cons pe_int pa_nil) (pk_cons pe_int (pk_cons pe_int pk_nil))) pa_nil)))
      (pss_cons (ps_expr (pe_meth (pv 4) T.cl_Disk T.m_Disk_move_head (ok_move_head T) hr2 (b_Disk_move_head T) .nil pass0 (pa_cons (pv 1) pa_nil)))
      (pss_cons (ps_for PassesOwn.never rfl (pi_range1 rfl T.b_range (pa_cons pe_int pa_nil)) (pg_name (i := 5) sc_Ldisk.nd rfl (.inl rfl))
        (pss_one (ps_expr (pe_meth (pv 4) T.cl_Disk T.m_Disk_issue (ok_issueG T B) hr10 (b_Disk_issue T) .nil pass0 (pa_cons (pe_tup (pa_cons pe_str (pa_cons (pv 5) pa_nil))) (pa_cons (pe_callTy call_list_of rfl T.b_list (by decide +kernel) (pa_cons (pe_ix ix_list (pv 3) (pv 5) (fun _ _ => rfl)) pa_nil)) pa_nil))))))
      (pss_cons (ps_expr (pe_meth0 (pv 4) T.cl_Disk T.m_Disk_barrier (ok_barrier T) hr3 (b_Disk_barrier T) .nil pass0))
      (pss_cons (ps_set (i := 6) sc_Ldisk.nd rfl (.inl rfl) (pe_op op_mod (pe_callTy call_int1 rfl T.b_int (by decide +kernel) (pa_cons (pe_op op_add (pe_call (ok_Lpick T) hr1 rfl T.mg_Lpick T.F_Lpick.kp (b_Lpick T) .nil pass0 (pa_cons (pv 0) (pa_cons pe_int pa_nil))) pe_int) pa_nil)) pe_int))
      (pss_cons (ps_set (i := 7) sc_Ldisk.nd rfl (.inl rfl) (pe_op op_cat (pe_lc rfl (own := [("_law_k", 8)]) (g := gName 8) (tt := tYes) sc_Ldisk.nd (pi_range1 rfl T.b_range (pa_cons (pv 6) pa_nil)) (blkOk_by (N := ["_law_feed_here", "_law_head", "_law_log", "_law_home", "_law_disk_here", "_law_x", "_law_many", "_law_lots", "_law_k", "_law_marks_here", "_law_lot", "_law_used", "_law_slot_here", "_law_place"]) (sc := defScope s_Ldisk) (by decide +kernel)) (fun _ _ _ _ _ => pg_name (i := 8) sc_Ldisk.nd rfl (Or.inl rfl)) (fun _ _ _ _ _ => pts_nil) (fun _ _ _ _ _ => (pe_op op_add (pe_op op_add (pv 1) pe_int) (pv 8)))) (pe_lst (pa_cons (pe_op op_add (pe_op op_add (pv 1) (pv 6)) pe_int) (pa_cons (pe_callB (call_max2 rfl) rfl T.b_max (by decide +kernel) (pa_cons pe_int (pa_cons (pv 1) pa_nil))) pa_nil)))))
      (Evl.pss_cut (ps_if (pt_cmpR op_eq (pe_call (ok_Lpick T) hr1 rfl T.mg_Lpick T.F_Lpick.kp (b_Lpick T) .nil pass0 (pa_cons (pv 0) (pa_cons pe_int pa_nil))) pe_int (nomark _))
        (pss_one (ps_expr (pe_bm PySem.F.plainAttrs_list PySem.F.slot_list_append PySem.F.type_list_append mt_append (pv 7) (pa_cons (pe_op op_add (pv 1) pe_int) pa_nil))))
        pss_nil)
      (pss_cons (ps_setLc (i := 9) (own := [("_law_lot", 10)]) (g := gName 10) (tt := tYes) rfl sc_Ldisk.nd rfl rfl (sw_true rfl rfl rfl (by decide +kernel)) (pi_list (pv 7)) (blkOk_by (N := ["_law_feed_here", "_law_head", "_law_log", "_law_home", "_law_disk_here", "_law_x", "_law_many", "_law_lots", "_law_k", "_law_marks_here", "_law_lot", "_law_used", "_law_slot_here", "_law_place"]) (sc := defScope s_Ldisk) (by decide +kernel)) (fun _ _ _ _ _ => pg_name (i := 10) sc_Ldisk.nd rfl (Or.inl rfl)) (fun _ _ _ _ _ => pts_nil) (fun _ _ _ _ _ => (pe_call (ok_Lmark T) hr3 rfl T.mg_Lmark T.F_Lmark.kp (b_Lmark T) .nil pass0 (pa_cons (pv 0) (pa_cons (pv 10) pa_nil)))))
      (pss_cons (ps_expr (pe_call (ok_Lcopies T B) hr rfl T.mg_Lcopies T.F_Lcopies.kp (b_Lcopies T) .nil pass0 (pa_cons (pv 0) (pa_cons (pv 4) (pa_cons (pv 2) (pa_cons (pv 9) pa_nil))))))
      (pss_cons (ps_set (i := 11) sc_Ldisk.nd rfl (.inr rfl) (pe_lst pa_nil))
      (pss_cons (ps_for PassesOwn.never rfl (pi_range1 rfl T.b_range (pa_cons (pe_callB call_len_seq rfl T.b_len (by decide +kernel) (pa_cons (pv 9) pa_nil)) pa_nil)) (pg_name (i := 8) sc_Ldisk.nd rfl (.inl rfl))
        (pss_cons (ps_set (i := 12) sc_Ldisk.nd rfl (.inl rfl) (pe_op op_mod (pe_callTy call_int1 rfl T.b_int (by decide +kernel) (pa_cons (pe_op op_add (pe_op op_add (pe_call (ok_Lpick T) hr1 rfl T.mg_Lpick T.F_Lpick.kp (b_Lpick T) .nil pass0 (pa_cons (pv 0) (pa_cons pe_int pa_nil))) (pe_op op_mul pe_int (pv 8))) pe_int) pa_nil)) pe_int))
        (Evl.pss_cut (ps_if (pt_cmpR op_in_seq (pv 12) (pv 11) rfl)
          (pss_one (ps_set (i := 12) sc_Ldisk.nd rfl (.inl rfl) (pe_ix ix_list (pe_lc rfl (own := [("_law_place", 13)]) (g := gName 13) (tt := _) sc_Ldisk.nd (pi_range1 rfl T.b_range (pa_cons pe_int pa_nil)) (blkOk_by (N := ["_law_feed_here", "_law_head", "_law_log", "_law_home", "_law_disk_here", "_law_x", "_law_many", "_law_lots", "_law_k", "_law_marks_here", "_law_lot", "_law_used", "_law_slot_here", "_law_place"]) (sc := defScope s_Ldisk) (by decide +kernel)) (fun _ _ _ _ _ => pg_name (i := 13) sc_Ldisk.nd rfl (Or.inl rfl)) (fun _ _ _ _ _ => pts_one (pt_cmpR (op_notInK (K := K)) (pv 13) (pv 11) rfl)) (fun _ _ _ _ _ => (pv 13))) pe_int (fun _ _ => rfl))))
          pss_nil)
        (pss_cons (ps_expr (pe_bm PySem.F.plainAttrs_list PySem.F.slot_list_append PySem.F.type_list_append mt_append (pv 11) (pa_cons (pv 12) pa_nil)))
        (pss_one (ps_expr (pe_call (ok_Lput T B) hr11 rfl T.mg_Lput T.F_Lput.kp (b_Lput T) .nil pass0 (pa_cons (pv 4) (pa_cons (pv 2) (pa_cons (pv 12) (pa_cons (pe_ix ix_list (pv 9) (pv 8) (fun _ _ => rfl)) pa_nil)))))))))))
      (pss_one (ps_ret (pv 4)))))))))))))), ?_⟩
    -- the plan, the disk
    refine ⟨rfl, rfl, fun px pdx npx npdx ned => ?_⟩
    refine ⟨px, pdx, 24, 5, 30, rfl, upd_same, by decide, by decide, by decide, by decide, by decide, by decide, by decide, ?_⟩
    have Pl : PlanAt T.C_Plan (upd (upd (upd H pdx (.own px)) px (.ins T.C_Plan pdx [])) px (.ins T.C_Plan pdx (planF 24 5 30))) px 24 5 30 :=
      ⟨⟨pdx, upd_same⟩, by decide, by decide, by decide, by decide, by decide, by decide, by decide⟩
    have s2 : Same H (upd (upd (upd H pdx (.own px)) px (.ins T.C_Plan pdx [])) px (.ins T.C_Plan pdx (planF 24 5 30))) := fun x o e => by
      rw [upd_ne (ne_of_none e npx), upd_ne (ne_of_none e npx), upd_ne (ne_of_none e npdx)]
      exact e
    generalize upd (upd (upd H pdx (.own px)) px (.ins T.C_Plan pdx [])) px (.ins T.C_Plan pdx (planF 24 5 30)) = H2 at Pl s2 ⊢
    refine ⟨rfl, fun d ddx nd nddx ned2 => ?_⟩
    have s3 : Same H2 (upd (upd H2 ddx (.own d)) d (.ins T.C_Disk ddx [])) := fun x o e => by
      rw [upd_ne (ne_of_none e nd), upd_ne (ne_of_none e nddx)]
      exact e
    obtain ⟨pdx2, epx⟩ := Pl.ob
    refine ⟨d, ddx, px, 24, 5, 30, rfl, upd_same, Pl.same s3, ne_of_none epx nd, fun H3 A ts0 eA k3 fho flg fpd D3 z3 => ⟨rfl, ?_⟩⟩
    have k3' : Same H2 H3 := fun x o e => k3.at1 (s3 _ _ e) (ne_of_none e nd)
    have s03 : Same H H3 := s2.trans k3'
    have z2 : ∀ {x : Addr}, (upd (upd H2 ddx (.own d)) d (.ins T.C_Disk ddx [])) x = none → H x = none := fun e => s2.free (un (un e))
    have nhoH := z2 fho
    have nlgH := z2 flg
    have npdH := z2 fpd
    have ndH := s2.free nd
    have nh3 : p ≠ A.ho := ne_of_none ep nhoH
    have nl3 : p ≠ A.lg := ne_of_none ep nlgH
    have nq3 : lq ≠ A.ho := ne_of_none elq nhoH
    have nq4 : lq ≠ A.lg := ne_of_none elq nlgH
    have nb3 : ho ≠ A.ho := ne_of_none eho nhoH
    have nb4 : ho ≠ A.lg := ne_of_none eho nlgH
    ((try dsimp only); (first | (refine Rg.sg (σ' := [some (.ref p), some (.int hd), some (.ref lq), some (.ref ho), some (.ref d), none, none, none, none, none, none, none, none, none]) ?_ ?_; focus exact rfl) | (refine Rg.sgG (σ' := [some (.ref p), some (.int hd), some (.ref lq), some (.ref ho), some (.ref d), none, none, none, none, none, none, none, none, none]) ?_ ?_; focus exact rfl)))
    -- the head
    obtain ⟨dx3, ho3⟩ := D3.ob
    refine ⟨_, rfl, d, _, _, rfl, ho3, rfl, _, rfl, d, hd, A, 24, 5, 30, 0, 0, _, _, _, dx3, rfl, ho3, D3, hd0, by omega, ?_⟩
    have D4 := D3.num (dx := dx3) hd 0
    have k4 : Kp [d] H3 (upd H3 d (.ins T.C_Disk dx3 (dskF A hd 0))) := Kp.refl.own1
    generalize upd H3 d (.ins T.C_Disk dx3 (dskF A hd 0)) = H4 at D4 k4 ⊢
    have K4 : Kp (p :: lq :: T.Ps) H H4 := Kp.hidS (Kp.of s03) k4 fun x hx => .inr (by rw [List.mem_singleton.mp hx]; exact ndH)
    have ht4 : Tab T.Ps H4 := fun P hP => by
      obtain ⟨ps, e, x⟩ := (ht.same s03) P hP
      exact ⟨ps, k4.at1 e (ne_of e ho3 (by intro z; cases z)), x⟩
    have l4 : ∀ {x : Addr} {xs : List V}, H x = some (.lst xs) → H4 x = some (.lst xs) := fun {x xs} e => k4.at1 (s03 _ _ e) (ne_of (s03 _ _ e) ho3 (by intro z; cases z))
    have f4 : ∀ b xs, SqT K H b xs → SqT K H4 b xs := fun b xs h => seqT_kp k4 (by simp only [List.mem_singleton]; rintro c rfl; exact isnt_ins ho3) (sameT s03 h)
    -- the homes are issued
    have lts0 : ts0.length = 24 := by have := D4.hl; rw [List.length_map] at this; omega
    refine ⟨24, rfl, by decide, by decide, ?_⟩
    refine for_range (lo := 0) (n := (24 : Int).toNat) (fun i σ H' => ∃ (v5 : Option V) (ps : List Pw), σ = [some (.ref p), some (.int hd), some (.ref lq), some (.ref ho), some (.ref d), v5, none, none, none, none, none, none, none, none] ∧ Kp (d :: A.pd :: T.Ps) H4 H' ∧ (∀ b xs, SqT K H4 b xs → SqT K H' b xs) ∧ Tab T.Ps H' ∧ DAt T.C_Disk T.C_Plan H' d A 24 5 30 hd (i : Int) (ts0.map V.ref) (List.replicate 30 .non) (pwK ps) ∧ PwsAt K H' 24 30 ps ∧ PwOk (i : Int) ps ∧ ps.length = i ∧ ∀ (j : Nat) (q : Pw), ps[j]? = some q → q.q = .home (j : Int) ∧ ∃ c, hc[j]? = some c ∧ q.w = .cells c)
      ⟨none, [], rfl, Kp.refl, fun _ _ h => h, ht4, D4, (fun q hq => by cases hq), ⟨List.nodup_nil, (fun q hq => by cases hq), List.nodup_nil⟩, rfl, fun j q hj => by simp at hj⟩ ?_ ?_
    · rintro i σ H5 hi ⟨v5, ps, rfl, k5, f5, t5, D5, P5, O5, l5, q5⟩
      have hi : i < 24 := hi
      have n5 : ∀ {x : Addr} {xs : List V}, H x = some (.lst xs) → H5 x = some (.lst xs) := fun {x xs} e => k5 _ _ (l4 e) fun z => by
        obtain ⟨dx4, ho4⟩ := D4.ob
        simp only [List.mem_cons] at z
        rcases z with z | z | z
        · have := l4 e; rw [z, ho4] at this; cases this
        · have := l4 e; rw [z, D4.pd] at this; cases this
        · exact ht4.nin (l4 e) (by intro _ z; cases z) z
      obtain ⟨c, hci⟩ : ∃ c, hc[i]? = some c := ⟨_, List.getElem?_eq_getElem (by omega)⟩
      obtain ⟨t, hti⟩ : ∃ t, ts[i]? = some t := ⟨_, List.getElem?_eq_getElem (by rw [hH.1]; omega)⟩
      have hct := f5 _ _ (f4 _ _ (hH.2 i t c hti hci))
      obtain ⟨dx5, ho5⟩ := D5.ob
      ((try dsimp only); (first | (refine Rg.sg (σ' := [some (.ref p), some (.int hd), some (.ref lq), some (.ref ho), some (.ref d), some (.int (0 + (i : Int))), none, none, none, none, none, none, none, none]) ?_ ?_; focus exact rfl) | (refine Rg.sgG (σ' := [some (.ref p), some (.int hd), some (.ref lq), some (.ref ho), some (.ref d), some (.int (0 + (i : Int))), none, none, none, none, none, none, none, none]) ?_ ?_; focus exact rfl)))
      refine ⟨_, rfl, d, _, _, rfl, ho5, rfl, _, rfl, by show 2 ≤ sizeLine; decide, ?_⟩
      (intro a n_a; generalize he_a : upd _ a _ = H6; obtain ⟨e_a, s_a, f_a⟩ := new_f he_a n_a; clear he_a)
      have g6 : atI (ts.map V.ref) (0 + (i : Int)) = some (.ref t) := at_of (j := i) (by omega) (by rw [List.getElem?_map, hti]; rfl)
      refine ⟨_, rfl, _, rfl, ho, _, _, _, rfl, rfl, .of (s_a _ _ (n5 eho)), g6, t, _, rfl, .inr (sameT s_a hct), ?_⟩
      (intro u n_u; generalize he_u : upd _ u _ = H7; obtain ⟨e_u, s_u, f_u⟩ := new_f he_u n_u; clear he_u)
      have s57 := s_a.trans s_u
      have hqa : PlcAt K H7 a (.home (0 + (i : Int))) := .of (s_u _ _ e_a)
      have ntk : taken (.home (0 + (i : Int))) ps = false := by
        unfold taken
        rw [List.any_eq_false]
        intro q hq
        obtain ⟨j, hj⟩ := List.getElem?_of_mem hq
        have hjl := (List.getElem?_eq_some_iff.mp hj).1
        rw [(q5 j q hj).1]
        intro z
        have := of_decide_eq_true z
        injection this with this
        omega
      refine ⟨d, a, u, A, 24, 5, 30, hd, i, _, _, ps, .home (0 + (i : Int)), .cells c, rfl, D5.same s57, P5.by (fun _ _ h => sameT s57 h) (fun _ _ e => s57 _ _ e), O5, by omega, hqa, .inr ⟨c, rfl, e_u⟩, ⟨by omega, by omega, hcs c (List.mem_of_getElem? hci)⟩, ntk, t5.same s57, fun H8 w u' t8 k8 f8 D8 P8 O8 _ _ => ?_⟩
      have ec : ((i + 1 : Nat) : Int) = (i : Int) + 1 := by omega
      rw [← ec] at D8 P8 O8
      refine ⟨_, ps ++ [⟨((i + 1 : Nat) : Int), w, a, u', .home (0 + (i : Int)), .cells c⟩], rfl, (k5.same s57).trans k8, fun b xs h => f8 _ _ (sameT s57 (f5 _ _ h)), t8, D8, P8, O8, by rw [List.length_append, l5]; rfl, fun j q hj => ?_⟩
      by_cases hjl : j < ps.length
      · rw [List.getElem?_append_left hjl] at hj
        exact q5 j q hj
      · rw [List.getElem?_append_right (by omega)] at hj
        cases e : j - ps.length with
        | succ n => rw [e] at hj; simp at hj
        | zero =>
          rw [e] at hj
          cases hj
          have : j = i := by omega
          subst this
          exact ⟨by show Plc.home (0 + (j : Int)) = .home (j : Int); congr 1; omega, c, hci, rfl⟩
    rintro σ H5 ⟨v5, ps, rfl, k5, f5, t5, D5, P5, O5, l5, q5⟩
    have l5 : ps.length = 24 := l5
    obtain ⟨dx5, ho5⟩ := D5.ob
    refine ⟨_, rfl, d, _, _, rfl, ho5, rfl, d, A, 24, 5, 30, hd, _, _, _, ps, rfl, D5, P5, O5, by omega, t5, fun H6 t6 k6 f6 D6 => ?_⟩
    have ePH : putsH ps (ts0.map V.ref) = (ps.map (·.u)).map V.ref := by
      rw [putsH_all ps 0 _ (fun j q hj => by rw [(q5 j q hj).1, Nat.zero_add]) (by rw [List.length_map]; omega), List.take_zero, List.nil_append, List.map_map]
      rfl
    rw [ePH, putsG_home ps _ fun q hq => by obtain ⟨j, hj⟩ := List.getElem?_of_mem hq; exact ⟨_, (q5 j q hj).1⟩] at D6
    obtain ⟨us, eus⟩ : ∃ us : List Addr, us = ps.map (·.u) := ⟨_, rfl⟩
    rw [← eus] at D6
    have hU6 : HomAt K H6 us hc := by
      refine ⟨by rw [eus, List.length_map]; omega, fun i t c a b => ?_⟩
      rw [eus, List.getElem?_map] at a
      obtain ⟨q, hq, rfl⟩ := Option.map_eq_some_iff.mp a
      obtain ⟨_, c', hc', ew⟩ := q5 i q hq
      rw [b] at hc'
      cases hc'
      have := (P5 q (List.mem_of_getElem? hq)).u
      rw [ew] at this
      exact f6 _ _ this
    -- what is changed so far
    have K6 : Kp (p :: lq :: T.Ps) H H6 := by
      refine Kp.hidS (Kp.hidS K4 k5 fun x hx => ?_) k6 fun x hx => ?_
      · simp only [List.mem_cons] at hx ⊢
        rcases hx with rfl | rfl | z
        · exact .inr ndH
        · exact .inr npdH
        · exact .inl (.inr (.inr z))
      · simp only [List.mem_cons, List.not_mem_nil, or_false] at hx
        rcases hx with rfl | rfl | rfl
        · exact .inr npdH
        · exact .inr nhoH
        · exact .inr nlgH
    have n6 : ∀ {x : Addr} {xs : List V}, H x = some (.lst xs) → x ≠ A.ho → x ≠ A.lg → H6 x = some (.lst xs) := fun {x xs} e n1 n2 => by
      obtain ⟨dx4, ho4⟩ := D4.ob
      have e4 := l4 e
      have e5 := k5 _ _ e4 fun z => by
        simp only [List.mem_cons] at z
        rcases z with z | z | z
        · rw [z, ho4] at e4; cases e4
        · rw [z, D4.pd] at e4; cases e4
        · exact ht4.nin e4 (by intro _ z; cases z) z
      refine k6 _ _ e5 fun z => ?_
      simp only [List.mem_cons, List.not_mem_nil, or_false] at z
      rcases z with z | z | z
      · rw [z, D5.pd] at e5; cases e5
      · exact n1 z
      · exact n2 z
    have rep : (List.replicate 30 (none : Option (Addr × Rec))).map gV = List.replicate 30 .non := by simp [gV]
    have X6 : Dk K T.C_Disk T.C_Plan T.Ps H6 p d lq A 24 5 30 hd ((24 : Int).toNat : Int) (hd + 7) (us.map V.ref) (List.replicate 30 none) [] := by
      refine ⟨by rw [rep]; exact D6, ⟨_, n6 ep nh3 nl3⟩, by rw [rep]; exact n6 elq nq3 nq4, fun i a r q => ?_, t6, npq, nh3, nl3, nq3, nq4⟩
      have := List.mem_of_getElem? q
      simp at this
    have O6 : LgOk (List.replicate 30 none) := fun i a l ps rs q => by
      have := List.mem_of_getElem? q
      simp at this
    clear D3 z3 D4 D5 P5 O5 q5 D6 t5 k5 f5 ho5 ho3 k4 K4 ht4 l4 f4 n6 fho flg fpd k3 k3' s03 s2 s3 Pl z2 ePH eus f6 k6 t6 rep
    -- the lots
    obtain ⟨f6, ef6⟩ := X6.f
    refine ⟨_, rfl, p, f6, 5, rfl, ef6, by decide, fun c f7 c0 c5 _ => ?_⟩
    have X7 := X6.pick f7
    have K7 : Kp (p :: lq :: T.Ps) H (upd H6 p (.lst (f7.map V.int))) := K6.own (by simp)
    have U7 : HomAt K (upd H6 p (.lst (f7.map V.int))) us hc := hU6.kp (S := [p]) Kp.refl.own1 (by simp only [List.mem_singleton]; rintro c rfl; exact isnt_lst ef6)
    generalize upd H6 p (.lst (f7.map V.int)) = H7 at X7 K7 U7 ⊢
    refine ⟨_, _, rfl, rfl, .inl ⟨_, rfl, _, _, rfl, rfl, (by show (0 : Int) < 5; decide), ?_⟩⟩
    ((try dsimp only); (first | (refine Rg.sg (σ' := [some (.ref p), some (.int hd), some (.ref lq), some (.ref ho), some (.ref d), v5, some (.int ((c + 3) % 5)), none, none, none, none, none, none, none]) ?_ ?_; focus exact rfl) | (refine Rg.sgG (σ' := [some (.ref p), some (.int hd), some (.ref lq), some (.ref ho), some (.ref d), v5, some (.int ((c + 3) % 5)), none, none, none, none, none, none, none]) ?_ ?_; focus exact rfl)))
    have m0 : 0 ≤ (c + 3) % 5 := Int.emod_nonneg _ (by decide)
    have m5 : (c + 3) % 5 < 5 := Int.emod_lt_of_pos _ (by decide)
    generalize (c + 3) % 5 = m at m0 m5 ⊢
    refine ⟨_, rfl, m, rfl, by omega, by omega, fun D hD => ?_⟩
    refine lc_range (lo := 0) (n := m.toNat) (PvG (fun k : Nat => V.int (hd + 1 + (0 + (k : Int)))) H7 D (List.range m.toNat) (fun _ => true)) (PvG.start hD) ?_ ?_
    · rintro j H' hj Pv
      have hx : (List.range m.toNat)[j]? = some j := by rw [List.getElem?_range hj]
      refine ⟨rfl, yes_ ⟨_, rfl, _, _, rfl, rfl, _, rfl, _, _, rfl, rfl, ?_⟩⟩
      exact Pv.yes hD (Same.refl _) hx (by rw [List.length_range]; omega) rfl
    intro H8 Pv
    obtain ⟨s8, e8⟩ := Pv.all (by rw [List.length_range])
    rw [List.filter_eq_self.mpr (by simp)] at e8
    refine ⟨_, rfl, _, rfl, _, _, rfl, rfl, _, _, rfl, rfl, _, rfl, _, _, rfl, by show 2 ≤ sizeLine; decide, ?_⟩
    obtain ⟨mx, emx⟩ : ∃ mx : Int, mx = if hd > 1 then hd else 1 := ⟨_, rfl⟩
    have mx1 : 1 ≤ mx ∧ mx ≤ hd + 1 := by rw [emx]; split <;> omega
    rw [← emx]
    clear emx
    (intro L2 n_L2; generalize he_L2 : upd _ L2 _ = H9; obtain ⟨e_L2, s_L2, f_L2⟩ := new_f he_L2 n_L2; clear he_L2)
    refine ⟨D, L2, _, _, rfl, rfl, s_L2 _ _ e8, e_L2, ?_, ?_⟩
    · rw [List.length_map, List.length_range]
      exact Nat.le_of_lt (lt_line (by show m.toNat + 2 ≤ 10000; omega))
    (intro lo n_lo; generalize he_lo : upd _ lo _ = H10; obtain ⟨e_lo, s_lo, f_lo⟩ := new_f he_lo n_lo; clear he_lo)
    obtain ⟨lts, elts⟩ : ∃ lts : List Int, lts = ((List.range m.toNat).map fun k : Nat => hd + 1 + (0 + (k : Int))) ++ [hd + m + 2, mx] := ⟨_, rfl⟩
    have e10 : H10 lo = some (.lst (lts.map V.int)) := by rw [e_lo, elts, List.map_append, List.map_map]; rfl
    have blt : ∀ l ∈ lts, 1 ≤ l ∧ l + 1 ≤ hd + 7 := fun l hl => by
      rw [elts] at hl
      rcases List.mem_append.mp hl with z | z
      · obtain ⟨j, hj, rfl⟩ := List.mem_map.mp z
        have := List.mem_range.mp hj
        omega
      · simp only [List.mem_cons, List.not_mem_nil, or_false] at z
        rcases z with rfl | rfl <;> omega
    have llt : lts.length ≤ 6 := by rw [elts, List.length_append, List.length_map, List.length_range]; show m.toNat + 2 ≤ 6; omega
    have s10 := (s8.trans s_L2).trans s_lo
    have X10 := X7.same s10
    have K10 := K7.same s10
    have U10 := U7.same s10
    have nloH9 := n_lo
    have nlop : lo ≠ p := fun z => by obtain ⟨_, e⟩ := (X7.same (s8.trans s_L2)).f; rw [← z, n_lo] at e; cases e
    have nloq : lo ≠ lq := fun z => by have e := (X7.same (s8.trans s_L2)).l; rw [← z, n_lo] at e; cases e
    have nloh : lo ≠ A.ho := fun z => by have e := (X7.same (s8.trans s_L2)).D.ho; rw [← z, n_lo] at e; cases e
    have nlol : lo ≠ A.lg := fun z => by have e := (X7.same (s8.trans s_L2)).D.lg; rw [← z, n_lo] at e; cases e
    have nloH : H lo = none := by
      have e9 : ∀ o, H lo = some o → lo ∈ p :: lq :: T.Ps := fun o e => by
        by_cases z : lo ∈ p :: lq :: T.Ps
        · exact z
        · have := (s8.trans s_L2) _ _ (K7 _ _ e z)
          rw [n_lo] at this
          cases this
      cases e : H lo with
      | none => rfl
      | some o =>
        have z := e9 o e
        simp only [List.mem_cons] at z
        rcases z with z | z | z
        · exact absurd z nlop
        · exact absurd z nloq
        · exact absurd z ((X7.same (s8.trans s_L2)).t.ninN n_lo)
    clear X7 K7 U7 s10 elts e_lo
    ((try dsimp only); (first | (refine Rg.sg (σ' := [some (.ref p), some (.int hd), some (.ref lq), some (.ref ho), some (.ref d), v5, some (.int m), some (.ref lo), none, none, none, none, none, none]) ?_ ?_; focus exact rfl) | (refine Rg.sgG (σ' := [some (.ref p), some (.int hd), some (.ref lq), some (.ref ho), some (.ref d), v5, some (.int m), some (.ref lo), none, none, none, none, none, none]) ?_ ?_; focus exact rfl)))
    refine ⟨fun σ H' => ∃ lts' : List Int, σ = [some (.ref p), some (.int hd), some (.ref lq), some (.ref ho), some (.ref d), v5, some (.int m), some (.ref lo), none, none, none, none, none, none] ∧ Kp (p :: lq :: T.Ps) H H' ∧ Dk K T.C_Disk T.C_Plan T.Ps H' p d lq A 24 5 30 hd ((24 : Int).toNat : Int) (hd + 7) (us.map V.ref) (List.replicate 30 none) [] ∧ HomAt K H' us hc ∧ H' lo = some (.lst (lts'.map V.int)) ∧ (∀ l ∈ lts', 1 ≤ l ∧ l + 1 ≤ hd + 7) ∧ lts'.length ≤ 7, ?_, ?_⟩
    · obtain ⟨f10, ef10⟩ := X10.f
      refine ⟨_, rfl, p, f10, 3, rfl, ef10, by decide, fun r f11 _ _ _ => ?_⟩
      have X11 := X10.pick f11
      have K11 : Kp (p :: lq :: T.Ps) H (upd H10 p (.lst (f11.map V.int))) := K10.own (by simp)
      have kk : Kp [p] H10 (upd H10 p (.lst (f11.map V.int))) := Kp.refl.own1
      have U11 := U10.kp kk (by simp only [List.mem_singleton]; rintro c rfl; exact isnt_lst ef10)
      have e11 := kk.at1 e10 nlop
      generalize upd H10 p (.lst (f11.map V.int)) = H11 at X11 K11 U11 e11 ⊢
      clear kk
      refine ⟨rfl, _, rfl, wI (fun _ => ?_) fun _ => ?_⟩
      · refine ⟨_, rfl, .inl ⟨rfl, _, .inl (.inl e11)⟩, _, rfl, _, _, rfl, rfl, lo, _, _, rfl, rfl, e11, by rw [List.length_map]; exact lt_line (by omega), ?_⟩
        have X12 := X11.list e11 nlop nloq nloh nlol (.lst (lts.map V.int ++ [V.int (hd + 1)]))
        have kk : Kp [lo] H11 (upd H11 lo (.lst (lts.map V.int ++ [V.int (hd + 1)]))) := Kp.refl.own1
        refine ⟨lts ++ [hd + 1], rfl, Kp.hidS K11 kk fun x hx => .inr (by rw [List.mem_singleton.mp hx]; exact nloH), X12, U11.kp kk (by simp only [List.mem_singleton]; rintro c rfl; exact isnt_lst e11), by rw [upd_same, List.map_append]; rfl, fun l hl => ?_, by rw [List.length_append]; show lts.length + 1 ≤ 7; omega⟩
        rcases List.mem_append.mp hl with z | z
        · exact blt l z
        · rw [List.mem_singleton.mp z]
          omega
      · exact ⟨lts, rfl, K11, X11, U11, e11, blt, by omega⟩
    rintro σ H11 ⟨lts', rfl, K11, X11, U11, e11, blt', llt'⟩
    -- the marks
    refine ⟨_, rfl, lo, rfl, ⟨_, .of e11⟩, fun D9 hD9 => ?_⟩
    have nDp : D9 ≠ p := fun z => by obtain ⟨_, e⟩ := X11.f; rw [← z, hD9] at e; cases e
    have nDq : D9 ≠ lq := fun z => by have e := X11.l; rw [← z, hD9] at e; cases e
    have nDh : D9 ≠ A.ho := fun z => by have e := X11.D.ho; rw [← z, hD9] at e; cases e
    have nDl : D9 ≠ A.lg := fun z => by have e := X11.D.lg; rw [← z, hD9] at e; cases e
    have nDo : D9 ≠ lo := (ne_of_none e11 hD9).symm
    have nDH : H D9 = none := by
      cases e : H D9 with
      | none => rfl
      | some o =>
        by_cases z : D9 ∈ p :: lq :: T.Ps
        · simp only [List.mem_cons] at z
          rcases z with z | z | z
          · exact absurd z nDp
          · exact absurd z nDq
          · exact absurd z (X11.t.ninN hD9)
        · have := K11 _ _ e z
          rw [hD9] at this
          cases this
    refine lc_list (K := K) (a := lo) (xs := lts'.map V.int) (fun i H' => ∃ ms : List Mu, ms.length = i ∧ Kp (p :: lq :: T.Ps) H H' ∧ Dk K T.C_Disk T.C_Plan T.Ps H' p d lq A 24 5 30 hd ((24 : Int).toNat : Int) (hd + 7) (us.map V.ref) (List.replicate 30 none) [] ∧ HomAt K H' us hc ∧ H' lo = some (.lst (lts'.map V.int)) ∧ H' D9 = some (.lst (ms.map fun m => V.ref m.u)) ∧ ∀ m ∈ ms, MuOk K H' (hd + 7) m)
      ⟨[], rfl, K11.same (same_upd hD9), X11.same (same_upd hD9), U11.same (same_upd hD9), same_upd hD9 _ _ e11, upd_same, (fun m hm => by cases hm)⟩ (fun j H' _ ⟨_, _, _, _, _, e, _⟩ => .of e) ?_ ?_
    · rintro j y H12 hj ⟨ms, lm, K12, X12, U12, e12, eD12, hm12⟩
      rw [List.getElem?_map] at hj
      obtain ⟨l, hl, rfl⟩ := Option.map_eq_some_iff.mp hj
      have hjl := (List.getElem?_eq_some_iff.mp hl).1
      have hb := blt' l (List.mem_of_getElem? hl)
      obtain ⟨f12, ef12⟩ := X12.f
      refine ⟨rfl, yes_ ⟨_, rfl, _, rfl, p, f12, l, rfl, ef12, fun H13 u ps rs f13 k13 ef13 hR hok nu => ?_⟩⟩
      have is12 : ∀ c ∈ [p], Isnt H12 c := by simp only [List.mem_singleton]; rintro c rfl; exact isnt_lst ef12
      have X13 := X12.feed k13 ef13
      have eD13 := k13.at1 eD12 nDp
      have is13 : ∀ c ∈ [D9], Isnt H13 c := by simp only [List.mem_singleton]; rintro c rfl; exact isnt_lst eD13
      have kD : Kp [D9] H13 (upd H13 D9 (.lst (ms.map (fun m => V.ref m.u) ++ [V.ref u]))) := Kp.refl.own1
      refine ⟨_, eD13, by rw [List.length_map]; exact lt_line (by omega), ms ++ [⟨u, l, ps, rs⟩], by rw [List.length_append, lm]; rfl, Kp.hidS (Kp.hidS K12 k13 fun x hx => .inl (by rw [List.mem_singleton.mp hx]; simp)) kD (fun x hx => .inr (by rw [List.mem_singleton.mp hx]; exact nDH)), X13.list eD13 nDp nDq nDh nDl _, (U12.kp k13 is12).kp kD is13, kD.at1 (k13.at1 e12 nlop) nDo.symm, by rw [upd_same, List.map_append]; rfl, fun m' hm' => ?_⟩
      rcases List.mem_append.mp hm' with z | z
      · exact ((hm12 m' z).kp k13 is12).kp kD is13
      · rw [List.mem_singleton.mp z]
        exact (⟨hR, hok, hb.1, hb.2⟩ : MuOk K H13 (hd + 7) ⟨u, l, ps, rs⟩).kp kD is13
    rintro H12 ⟨ms, lm, K12, X12, U12, e12, eD12, hm12⟩
    rw [List.length_map] at lm
    clear X11 K11 U11 e11 hD9 blt' blt llt
    ((try dsimp only); (first | (refine Rg.sg (σ' := [some (.ref p), some (.int hd), some (.ref lq), some (.ref ho), some (.ref d), v5, some (.int m), some (.ref lo), none, some (.ref D9), none, none, none, none]) ?_ ?_; focus exact rfl) | (refine Rg.sgG (σ' := [some (.ref p), some (.int hd), some (.ref lq), some (.ref ho), some (.ref d), v5, some (.int m), some (.ref lo), none, some (.ref D9), none, none, none, none]) ?_ ?_; focus exact rfl)))
    have nDS := X12.nin eD12 nDp nDq nDh nDl
    refine ⟨_, rfl, _, rfl, _, rfl, _, rfl, p, d, lq, D9, A, hd, _, hd + 7, _, _, ms, rfl, X12, O6, eD12, hm12, nDS, by omega, fun H13 la13 lg13 k13 X13 O13 => ?_⟩
    have isn12 := X12.isnS
    have hidD : ∀ x ∈ DkS p d lq A T.Ps, x ∈ p :: lq :: T.Ps ∨ H x = none := fun x hx => by
      simp only [DkS, List.mem_cons] at hx ⊢
      rcases hx with rfl | rfl | rfl | rfl | rfl | rfl | z
      · exact .inl (.inl rfl)
      · exact .inl (.inr (.inl rfl))
      · exact .inr nhoH
      · exact .inr nlgH
      · exact .inr ndH
      · exact .inr npdH
      · exact .inl (.inr (.inr z))
    have K13 := Kp.hidS K12 k13 hidD
    have U13 := U12.kp k13 isn12
    have eD13 := k13 _ _ eD12 nDS
    have hm13 : ∀ m ∈ ms, MuOk K H13 (hd + 7) m := fun m hm => (hm12 m hm).kp k13 isn12
    clear X12 U12 eD12 hm12 K12 e12 isn12 k13
    refine ⟨by show 0 ≤ sizeLine; decide, ?_⟩
    (intro ul n_ul; generalize he_ul : upd _ ul _ = H14; obtain ⟨e_ul, s_ul, f_ul⟩ := new_f he_ul n_ul; clear he_ul)
    have nup : ul ≠ p := fun z => by obtain ⟨_, e⟩ := X13.f; rw [← z, n_ul] at e; cases e
    have nuq : ul ≠ lq := fun z => by have e := X13.l; rw [← z, n_ul] at e; cases e
    have nuh : ul ≠ A.ho := fun z => by have e := X13.D.ho; rw [← z, n_ul] at e; cases e
    have nulg : ul ≠ A.lg := fun z => by have e := X13.D.lg; rw [← z, n_ul] at e; cases e
    have nuD : ul ≠ D9 := (ne_of_none eD13 n_ul).symm
    have nuH : H ul = none := by
      cases e : H ul with
      | none => rfl
      | some o =>
        by_cases z : ul ∈ p :: lq :: T.Ps
        · simp only [List.mem_cons] at z
          rcases z with z | z | z
          · exact absurd z nup
          · exact absurd z nuq
          · exact absurd z (X13.t.ninN n_ul)
        · have := K13 _ _ e z
          rw [n_ul] at this
          cases this
    have X14 := X13.same s_ul
    have U14 := U13.same s_ul
    have K14 := K13.same s_ul
    have eD14 := s_ul _ _ eD13
    have hm14 : ∀ m ∈ ms, MuOk K H14 (hd + 7) m := fun m hm => (hm13 m hm).same s_ul
    clear X13 U13 K13 eD13 hm13
    ((try dsimp only); (first | (refine Rg.sg (σ' := [some (.ref p), some (.int hd), some (.ref lq), some (.ref ho), some (.ref d), v5, some (.int m), some (.ref lo), none, some (.ref D9), none, some (.ref ul), none, none]) ?_ ?_; focus exact rfl) | (refine Rg.sgG (σ' := [some (.ref p), some (.int hd), some (.ref lq), some (.ref ho), some (.ref d), v5, some (.int m), some (.ref lo), none, some (.ref D9), none, some (.ref ul), none, none]) ?_ ?_; focus exact rfl)))
    have lms : ms.length ≤ 7 := by omega
    refine ⟨_, rfl, D9, _, rfl, .inl (.of eD14), _, rfl, by omega, by rw [List.length_map]; omega, ?_⟩
    rw [List.length_map]
    refine for_range (lo := 0) (n := (ms.length : Int).toNat) (fun i σ H' => ∃ (v8 v12 : Option V) (la' : Int) (lg' : LogL) (ud : List Int), σ = [some (.ref p), some (.int hd), some (.ref lq), some (.ref ho), some (.ref d), v5, some (.int m), some (.ref lo), v8, some (.ref D9), none, some (.ref ul), v12, none] ∧ Kp (p :: lq :: T.Ps) H H' ∧ Dk K T.C_Disk T.C_Plan T.Ps H' p d lq A 24 5 30 hd la' (hd + 7) (us.map V.ref) lg' [] ∧ HomAt K H' us hc ∧ LgOk lg' ∧ H' D9 = some (.lst (ms.map fun m => V.ref m.u)) ∧ (∀ m ∈ ms, MuOk K H' (hd + 7) m) ∧ H' ul = some (.lst (ud.map V.int)) ∧ ud.length = i)
      ⟨none, none, la13, lg13, [], rfl, K14, X14, U14, O13, eD14, hm14, e_ul, rfl⟩ ?_ ?_
    · rintro i σ H15 hi ⟨v8, v12, la15, lg15, ud, rfl, K15, X15, U15, O15, eD15, hm15, eu15, lud⟩
      have hi : i < ms.length := by omega
      obtain ⟨f15, ef15⟩ := X15.f
      ((try dsimp only); (first | (refine Rg.sg (σ' := [some (.ref p), some (.int hd), some (.ref lq), some (.ref ho), some (.ref d), v5, some (.int m), some (.ref lo), some (.int (0 + (i : Int))), some (.ref D9), none, some (.ref ul), v12, none]) ?_ ?_; focus exact rfl) | (refine Rg.sgG (σ' := [some (.ref p), some (.int hd), some (.ref lq), some (.ref ho), some (.ref d), v5, some (.int m), some (.ref lo), some (.int (0 + (i : Int))), some (.ref D9), none, some (.ref ul), v12, none]) ?_ ?_; focus exact rfl)))
      refine ⟨_, rfl, p, f15, 30, rfl, ef15, by decide, fun r f16 r0 r30 _ => ?_⟩
      have is15 : ∀ c ∈ [p], Isnt H15 c := by simp only [List.mem_singleton]; rintro c rfl; exact isnt_lst ef15
      have X16 := X15.pick f16
      have k16 : Kp [p] H15 (upd H15 p (.lst (f16.map V.int))) := Kp.refl.own1
      have K16 : Kp (p :: lq :: T.Ps) H (upd H15 p (.lst (f16.map V.int))) := K15.own (by simp)
      have U16 := U15.kp k16 is15
      have eD16 := k16.at1 eD15 nDp
      have eu16 := k16.at1 eu15 nup
      have hm16 : ∀ m ∈ ms, MuOk K (upd H15 p (.lst (f16.map V.int))) (hd + 7) m := fun m hm => (hm15 m hm).kp k16 is15
      generalize upd H15 p (.lst (f16.map V.int)) = H16 at X16 K16 U16 eD16 eu16 hm16 ⊢
      clear X15 K15 U15 eD15 eu15 hm15 is15 k16 ef15
      refine ⟨_, rfl, _, _, rfl, rfl, CMul_l (by decide), _, _, rfl, rfl, _, _, rfl, rfl, .inl ⟨_, rfl, _, _, rfl, rfl, (by show (0 : Int) < 30; decide), ?_⟩⟩
      ((try dsimp only); (first | (refine Rg.sg (σ' := [some (.ref p), some (.int hd), some (.ref lq), some (.ref ho), some (.ref d), v5, some (.int m), some (.ref lo), some (.int (0 + (i : Int))), some (.ref D9), none, some (.ref ul), some (.int ((r + 11 * (0 + (i : Int)) + 4) % 30)), none]) ?_ ?_; focus exact rfl) | (refine Rg.sgG (σ' := [some (.ref p), some (.int hd), some (.ref lq), some (.ref ho), some (.ref d), v5, some (.int m), some (.ref lo), some (.int (0 + (i : Int))), some (.ref D9), none, some (.ref ul), some (.int ((r + 11 * (0 + (i : Int)) + 4) % 30)), none]) ?_ ?_; focus exact rfl)))
      have s0 : 0 ≤ (r + 11 * (0 + (i : Int)) + 4) % 30 := Int.emod_nonneg _ (by decide)
      have s30 : (r + 11 * (0 + (i : Int)) + 4) % 30 < 30 := Int.emod_lt_of_pos _ (by decide)
      generalize (r + 11 * (0 + (i : Int)) + 4) % 30 = sl at s0 s30 ⊢
      refine ⟨fun σ H' => ∃ sl : Int, 0 ≤ sl ∧ sl < 30 ∧ σ = [some (.ref p), some (.int hd), some (.ref lq), some (.ref ho), some (.ref d), v5, some (.int m), some (.ref lo), some (.int (0 + (i : Int))), some (.ref D9), none, some (.ref ul), some (.int sl), none] ∧ Same H16 H', ?_, ?_⟩
      · refine ⟨_, rfl, _, rfl, ul, _, rfl, .inl (.of eu16), rfl, flatI _, _, rfl, ?_⟩
        rw [if_neg (by decide), inV_int]
        refine wD (fun hin => ?_) fun hin => ⟨sl, s0, s30, rfl, Same.refl _⟩
        refine ⟨30, rfl, by decide, by decide, fun D hD => ?_⟩
        refine lc_range (lo := 0) (n := (30 : Int).toNat) (PvG (fun k : Nat => V.int (0 + (k : Int))) H16 D (List.range 30) (fun k => !decide ((0 + (k : Int)) ∈ ud))) (PvG.start hD) ?_ ?_
        · rintro j H' hj Pv
          have hx : (List.range 30)[j]? = some j := List.getElem?_range (show j < 30 from hj)
          refine ⟨rfl, _, rfl, _, rfl, ul, _, rfl, .inl (.of (Pv.1 _ _ eu16)), rfl, flatI _, _, rfl, ?_⟩
          rw [inV_int]
          refine wND (fun hn => ?_) fun hn => ?_
          · exact ⟨_, rfl, Pv.yes hD (Same.refl _) hx (by rw [List.length_range]; omega) (by rw [decide_eq_false hn]; rfl)⟩
          · exact Pv.no (Same.refl _) hx (by rw [decide_eq_true hn]; rfl)
        intro H17 Pv
        obtain ⟨s17, e17⟩ := Pv.all (by rw [List.length_range]; rfl)
        obtain ⟨x, hx, hxn⟩ := pigeon 30 ud (by omega)
        have hmem : x ∈ (List.range 30).filter (fun k : Nat => !decide ((0 + (k : Int)) ∈ ud)) := List.mem_filter.mpr ⟨List.mem_range.mpr hx, by rw [show (0 : Int) + (x : Int) = (x : Int) by omega, decide_eq_false hxn]; rfl⟩
        obtain ⟨y, ys, ey⟩ : ∃ y ys, (List.range 30).filter (fun k : Nat => !decide ((0 + (k : Int)) ∈ ud)) = y :: ys := by
          cases h : (List.range 30).filter (fun k : Nat => !decide ((0 + (k : Int)) ∈ ud)) with
          | nil => rw [h] at hmem; cases hmem
          | cons y ys => exact ⟨y, ys, rfl⟩
        have hy : y < 30 := by
          have : y ∈ (List.range 30).filter (fun k : Nat => !decide ((0 + (k : Int)) ∈ ud)) := by rw [ey]; exact List.mem_cons_self
          exact List.mem_range.mp (List.mem_filter.mp this).1
        rw [ey] at e17
        refine ⟨D, _, _, _, rfl, rfl, .of e17, at_of (j := 0) rfl rfl, ?_⟩
        exact ⟨0 + (y : Int), by omega, by omega, rfl, s17⟩
      rintro σ H17 ⟨sl, s0, s30, rfl, s17⟩
      have X17 := X16.same s17
      have K17 := K16.same s17
      have U17 := U16.same s17
      have eD17 := s17 _ _ eD16
      have eu17 := s17 _ _ eu16
      have hm17 : ∀ m ∈ ms, MuOk K H17 (hd + 7) m := fun m hm => (hm16 m hm).same s17
      clear X16 K16 U16 eD16 eu16 hm16
      refine ⟨_, rfl, .inl ⟨rfl, _, .inl (.inl eu17)⟩, _, rfl, ul, _, _, rfl, rfl, eu17, by rw [List.length_map]; exact lt_line (by omega), ?_⟩
      have is17 : ∀ c ∈ [ul], Isnt H17 c := by simp only [List.mem_singleton]; rintro c rfl; exact isnt_lst eu17
      have kU : Kp [ul] H17 (upd H17 ul (.lst (ud.map V.int ++ [V.int sl]))) := Kp.refl.own1
      have X18 := X17.list eu17 nup nuq nuh nulg (.lst (ud.map V.int ++ [V.int sl]))
      have K18 := Kp.hidS K17 kU fun x hx => .inr (by rw [List.mem_singleton.mp hx]; exact nuH)
      have U18 := U17.kp kU is17
      have eD18 := kU.at1 eD17 nuD.symm
      have eu18 : upd H17 ul (.lst (ud.map V.int ++ [V.int sl])) ul = some (.lst ((ud ++ [sl]).map V.int)) := by rw [upd_same, List.map_append]; rfl
      have hm18 : ∀ m ∈ ms, MuOk K (upd H17 ul (.lst (ud.map V.int ++ [V.int sl]))) (hd + 7) m := fun m hm => (hm17 m hm).kp kU is17
      generalize upd H17 ul (.lst (ud.map V.int ++ [V.int sl])) = H18 at X18 K18 U18 eD18 eu18 hm18 ⊢
      clear X17 K17 U17 eD17 eu17 hm17 kU is17
      obtain ⟨mu, hmu⟩ : ∃ mu, ms[i]? = some mu := ⟨_, List.getElem?_eq_getElem hi⟩
      have hmo := hm18 mu (List.mem_of_getElem? hmu)
      have hl1 := hmo.l1
      have hl2 := hmo.l2
      refine ⟨_, rfl, _, rfl, _, rfl, _, rfl, _, rfl, D9, _, _, _, rfl, rfl, .of eD18, at_of (j := i) (by omega) (by rw [List.getElem?_map, hmu]; rfl), p, d, lq, mu.u, sl, A, hd, la15, hd + 7, _, lg15, .mark mu.lot mu.ps mu.rs, rfl, X18, s0, s30, hmo.r, hmo.o.fit (by omega) (by omega), (by show mu.lot ≤ hd + 7; omega), fun H19 k19 X19 => ?_⟩
      have k19' : Kp (DkS p d lq A T.Ps) H18 H19 := k19.mono fun x h => by simp only [DkS, List.mem_cons] at h ⊢; exact .inr h
      have isn18 := X18.isnS
      have nD18 := X18.nin eD18 nDp nDq nDh nDl
      have nu18 := X18.nin eu18 nup nuq nuh nulg
      exact ⟨_, _, _, _, ud ++ [sl], rfl, Kp.hidS K18 k19' hidD, X19, U18.kp k19' isn18, O15.set (fun l ps rs z => by cases z; exact hmo.o.pl) _ _, k19' _ _ eD18 nD18, fun m hm => (hm18 m hm).kp k19' isn18, k19' _ _ eu18 nu18, by rw [List.length_append, lud]; rfl⟩
    rintro σ H15 ⟨v8, v12, la15, lg15, ud, rfl, K15, X15, U15, O15, eD15, hm15, eu15, lud⟩
    exact ⟨_, rfl, k H15 d A la15 us lg15 K15 nhoH nlgH npdH ndH X15 U15 O15⟩
end
end K47
namespace K47
open PySem PySem.Spec PyProof.Rows L2 Rg
theorem fm_set {lg : LogL} {L : Int} {j : Nat} {y : Option (Addr × Rec)} (hy : isMk L y = false) (hj : ∀ i, fm lg L = some i → i ≠ j) : fm (lg.set j y) L = fm lg L := by
  cases e : fm lg L with
  | none =>
    unfold fm at e ⊢
    rw [List.findIdx?_eq_none_iff] at e ⊢
    intro x hx
    rcases List.mem_or_eq_of_mem_set hx with z | z
    · exact e x z
    · rw [z]; exact hy
  | some i =>
    have hij := hj i e
    unfold fm at e ⊢
    rw [List.findIdx?_eq_some_iff_getElem] at e ⊢
    obtain ⟨h1, h2, h3⟩ := e
    refine ⟨by rw [List.length_set]; exact h1, by rw [List.getElem_set_ne (Ne.symm hij)]; exact h2, fun k hk => ?_⟩
    by_cases z : k = j
    · subst z
      rw [List.getElem_set_self, hy]
      decide
    · rw [List.getElem_set_ne (Ne.symm z)]
      exact h3 k hk
/-- a record that is no mark, put where no found mark stands -/
theorem due_set {lg : LogL} {j : Nat} {y : Option (Addr × Rec)} (hy : ∀ L, isMk L y = false) : ∀ {L : Int} {ds : List (Nat × Addr)}, Due lg L ds → (∀ p ∈ ds, p.1 ≠ j) → Due (lg.set j y) L ds := by
  intro L ds h
  induction h with
  | nil h => intro _; exact .nil (by rw [fm_set (hy _) (fun i e => by rw [h] at e; cases e)]; exact h)
  | @cons L i a r ds h1 h2 h3 ih =>
    intro hp
    have hij : i ≠ j := hp (i, a) (by simp)
    exact .cons (by rw [fm_set (hy _) (fun k e => by rw [h1] at e; cases e; exact hij)]; exact h1) (by rw [List.getElem?_set_ne (Ne.symm hij)]; exact h2) (ih fun p hp' => hp p (by simp [hp']))
theorem mk_set {lg : LogL} {j : Nat} {y : Option (Addr × Rec)} {ds : List (Nat × Addr)} (h : ∀ p ∈ ds, p.1 ≠ j) : ds.map (mkOf (lg.set j y)) = ds.map (mkOf lg) := by
  refine List.map_congr_left fun p hp => ?_
  unfold mkOf
  rw [List.getElem?_set_ne (Ne.symm (h p hp))]
theorem found_set {hc : List (List Int)} {lg : LogL} {j : Nat} {y : Option (Addr × Rec)} {x : Int} {o : Option (Int × Int)} (h : ∀ q, o = some q → 0 ≤ q.2 → q.2.toNat ≠ j) : foundC hc (lg.set j y) x o = foundC hc lg x o := by
  cases o with
  | none => rfl
  | some p =>
    show (if 0 ≤ p.2 ∧ p.2 < (lg.set j y).length then foundR p.1 x ((lg.set j y).getD p.2.toNat none) else zer) = if 0 ≤ p.2 ∧ p.2 < lg.length then foundR p.1 x (lg.getD p.2.toNat none) else zer
    rw [List.length_set]
    by_cases c : 0 ≤ p.2 ∧ p.2 < lg.length
    · rw [if_pos c, if_pos c, List.getD_eq_getElem?_getD, List.getD_eq_getElem?_getD, List.getElem?_set_ne (Ne.symm (h p rfl c.1))]
    · rw [if_neg c, if_neg c]
/-- the cells of all blocks -/
def allC (hc : List (List Int)) (lg : LogL) (F : LiveF) : List (List Int) := (List.range 24).map fun x : Nat => foundC hc lg (x : Int) (F (x : Int))
theorem allC_set {hc : List (List Int)} {lg : LogL} {j : Nat} {y : Option (Addr × Rec)} {F : LiveF} (h : ∀ x q, F x = some q → 0 ≤ q.2 → q.2.toNat ≠ j) : allC hc (lg.set j y) F = allC hc lg F :=
  List.map_congr_left fun x _ => found_set fun q e => h _ q e
theorem allC_at {hc : List (List Int)} {lg : LogL} {F : LiveF} {x : Nat} (hx : x < 24) : (allC hc lg F)[x]? = some (foundC hc lg (x : Int) (F (x : Int))) := by
  unfold allC
  rw [List.getElem?_map, List.getElem?_range hx]
  rfl
/-- the places of a row of cells, so far -/
def RowAt (K : PySem.W.Frag) (H0 : Hp) (D : Addr) (Cs : List (List Int)) (i : Nat) (H : Hp) : Prop := Same H0 H ∧ ∃ ts : List Addr, ts.length = i ∧ H D = some (.lst (ts.map V.ref)) ∧ ∀ (j : Nat) (t : Addr) (c : List Int), ts[j]? = some t → Cs[j]? = some c → SqT K H t (c.map V.int)
theorem RowAt.start {K : PySem.W.Frag} {H0 : Hp} {D : Addr} {Cs : List (List Int)} (h : H0 D = none) : RowAt K H0 D Cs 0 (upd H0 D (.lst [])) := ⟨same_upd h, [], rfl, upd_same, fun j t c e => by simp at e⟩
theorem RowAt.snoc {K : PySem.W.Frag} {H0 H H1 : Hp} {D t : Addr} {Cs : List (List Int)} {i : Nat} {c : List Int} (h : RowAt K H0 D Cs i H) (hD : H0 D = none) (S : Same H H1) (hi : Cs[i]? = some c) (e : SqT K H1 t (c.map V.int)) (l : i < 1000) :
    ∃ acc, H1 D = some (.lst acc) ∧ acc.length < sizeLine ∧ RowAt K H0 D Cs (i + 1) (upd H1 D (.lst (acc ++ [V.ref t]))) := by
  obtain ⟨s, ts, lt, eD, ht⟩ := h
  have eD1 := S _ _ eD
  have g : ∀ b xs, SqT K H1 b xs → SqT K (upd H1 D (.lst (ts.map V.ref ++ [V.ref t]))) b xs := fun b xs q => seqT_kp (S := [D]) Kp.refl.own1 (by simp only [List.mem_singleton]; rintro a rfl; exact isnt_lst eD1) q
  refine ⟨_, eD1, by rw [List.length_map]; exact lt_line (by omega), fun x o ex => ?_, ts ++ [t], by rw [List.length_append, lt]; rfl, by rw [upd_same, List.map_append]; rfl, fun j u c' e1 e2 => ?_⟩
  · rw [upd_ne (ne_of_none ex hD)]
    exact S _ _ (s _ _ ex)
  · by_cases hj : j < ts.length
    · rw [List.getElem?_append_left hj] at e1
      exact g _ _ (sameT S (ht j u c' e1 e2))
    · rw [List.getElem?_append_right (by omega)] at e1
      cases q : j - ts.length with
      | succ n => rw [q] at e1; simp at e1
      | zero =>
        rw [q] at e1
        cases e1
        have : j = i := by omega
        subst this
        rw [hi] at e2
        cases e2
        exact g _ _ e
theorem RowAt.all {K : PySem.W.Frag} {H0 H : Hp} {D : Addr} {Cs : List (List Int)} {n : Nat} (h : RowAt K H0 D Cs n H) (hn : n = Cs.length) : ∃ ts : List Addr, Same H0 H ∧ H D = some (.lst (ts.map V.ref)) ∧ HomAt K H ts Cs := by
  obtain ⟨s, ts, lt, eD, ht⟩ := h
  exact ⟨ts, s, eD, by rw [lt, hn], ht⟩
section
variable {P : Program} {w0_ : World} {K : PySem.W.Frag} {mg : Str → Option Value} {base : Heap}
def sp_Lall_cells (CD CP : Addr) (K : PySem.W.Frag) : Sp := fun vs H Q _ => ∃ (d : Addr) (g : Bool) (A : DA) (hd la M : Int) (us : List Addr) (hc : List (List Int)) (lg : LogL) (kv : List (Key × V)) (ds : List (Nat × Addr)), vs = [.ref d, .bl g] ∧ DAt CD CP H d A 24 5 30 hd la (us.map V.ref) (lg.map gV) kv ∧ LogAt K H 24 30 M lg ∧ LgOk lg ∧ HomAt K H us hc ∧ Due lg (hd + 1) ds ∧ ds.length ≤ 7 ∧ 0 ≤ hd ∧ hd ≤ 999999 ∧
  ∀ (H' : Hp) (q : Addr) (ts : List Addr), Same H H' → H q = none → H' q = some (.lst (ts.map V.ref)) → HomAt K H' ts (allC hc lg (liveF g (ds.map (mkOf lg)) fun _ => none)) → Q (.ref q) H'
theorem ok_Lall_cells (T : Tx K mg) : FnOk P w0_ K mg base CX0 3 T.f_Lall_cells T.fd_Lall_cells ["_law_disk_here", "_law_lapse"] (sp_Lall_cells T.C_Disk T.C_Plan K) := by
  refine T.F_Lall_cells.ok sc_Lall_cells (fun vs H Q E h => ?_) (fun cdv A0 outer s H vs Q E hr h => ?_)
  · obtain ⟨_, _, _, _, _, _, _, _, _, _, _, rfl, _⟩ := h; rfl
  · obtain ⟨d, g, A, hd, la, M, us, hc, lg, kv, ds, rfl, D, hL, hO, hU, hD, l7, hd0, hd1, k⟩ := h
    have hr1 := hr.mono (show 1 ≤ 2 by decide)
    refine ⟨_, (pss_cons (ps_set (i := 2) sc_Lall_cells.nd rfl (.inr rfl) (pe_call (ok_found_marks T) hr1 rfl T.mg_found_marks T.F_found_marks.kp (b_found_marks T) .nil pass0 (pa_cons (pv 0) pa_nil)))
      (pss_one (ps_ret (pe_lc rfl (own := [("_law_x", 3)]) (g := gName 3) (tt := tYes) sc_Lall_cells.nd (pi_range1 rfl T.b_range (pa_cons pe_int pa_nil)) (blkOk_by (N := ["_law_disk_here", "_law_lapse", "_law_found", "_law_x"]) (sc := defScope s_Lall_cells) (by decide +kernel)) (fun _ _ _ _ _ => pg_name (i := 3) sc_Lall_cells.nd rfl (Or.inl rfl)) (fun _ _ _ _ _ => pts_nil) (fun _ _ _ _ _ => (pe_callN (ok_cells_after T) hr rfl T.mg_cells_after T.F_cells_after.kp (kb_cells_after T) pass0 (pa_cons (pv 0) (pa_cons (pv 2) (pa_cons (pv 3) pa_nil))) (pk_cons (pv 1) pk_nil))))))), ?_⟩
    refine ⟨_, rfl, d, A, 24, 5, 30, hd, la, M, _, lg, kv, ds, rfl, D, hL, hD, by omega, by omega, hd0, hd1, fun H1 q ts S1 nq eq hm => ?_⟩
    have hM := due_marks (hL.same S1) hD hm eq
    have l5 : ∀ m ∈ ds.map (mkOf lg), m.2.1.length ≤ 5 := fun m hm' => by
      obtain ⟨p, _, e, _⟩ := due_fit hL hD hm'
      exact hO _ _ _ _ _ e
    ((try dsimp only); (first | (refine Rg.sg (σ' := [some (.ref d), some (.bl g), some (.ref q), none]) ?_ ?_; focus exact rfl) | (refine Rg.sgG (σ' := [some (.ref d), some (.bl g), some (.ref q), none]) ?_ ?_; focus exact rfl)))
    refine ⟨24, rfl, by decide, by decide, fun Z hZ => ?_⟩
    refine lc_range (lo := 0) (n := (24 : Int).toNat) (RowAt K H1 Z (allC hc lg (liveF g (ds.map (mkOf lg)) fun _ => none))) (RowAt.start hZ) ?_ ?_
    · rintro j H2 hj R
      have hj : j < 24 := hj
      have S2 := R.1
      refine ⟨rfl, yes_ ⟨_, rfl, _, rfl, _, rfl, _, rfl, rfl, rfl, d, q, 0 + (j : Int), g, A, 24, 5, 30, hd, la, M, us, hc, lg, kv, ds.map (mkOf lg), rfl, (D.same S1).same S2, (hL.same S1).same S2, (hU.same S1).same S2, hM.same S2, by rw [List.length_map]; omega, l5, by omega, by omega, fun H3 t S3 et => ?_⟩⟩
      rw [show (0 : Int) + (j : Int) = (j : Int) by omega] at et
      exact R.snoc hZ S3 (allC_at hj) et (by omega)
    intro H2 R
    obtain ⟨us2, S2, e2, h2⟩ := R.all (by unfold allC; rw [List.length_map, List.length_range]; rfl)
    exact k H2 Z us2 (S1.trans S2) (S1.free hZ) e2 h2
end
end K47
namespace K47
open PySem PySem.Spec PyProof.Rows L2 Rg
/-- two lists of numbers read alike -/
theorem Sm.ints {K : PySem.W.Frag} {H : Hp} {a b : Addr} {xs : List Int} (ha : H a = some (.lst (xs.map V.int))) (hb : H b = some (.lst (xs.map V.int))) (hl : xs.length < 1000) {n : Nat} : Sm K H (n + 1) (.ref a) (.ref b) := by
  refine .inr ⟨a, b, _, _, rfl, rfl, .inl ⟨ha, hb⟩, rfl, by rw [List.length_map]; exact hl, fun i x y h1 h2 => ?_⟩
  rw [h1] at h2
  cases h2
  rw [List.getElem?_map] at h1
  obtain ⟨z, _, rfl⟩ := Option.map_eq_some_iff.mp h1
  exact Sm.int
theorem asc_len {l : List Int} (h : l.Pairwise (· < ·)) {n : Nat} (hb : ∀ x ∈ l, 0 ≤ x ∧ x < (n : Int)) : l.length ≤ n := by
  by_cases c : l.length ≤ n
  · exact c
  · exfalso
    have : ∀ (l : List Int) (lo : Int), l.Pairwise (· < ·) → (∀ x ∈ l, lo ≤ x ∧ x < (n : Int)) → (l.length : Int) ≤ max 0 ((n : Int) - lo) := by
      intro l
      induction l with
      | nil => intro lo _ _; simp; omega
      | cons a l ih =>
        intro lo h hb
        rw [List.pairwise_cons] at h
        have h1 := hb a (by simp)
        have h2 := ih (a + 1) h.2 fun x hx => by
          have := h.1 x hx
          have := hb x (by simp [hx])
          omega
        rw [List.length_cons]
        omega
    have := this l 0 h hb
    omega
theorem Dk.fresh {K : PySem.W.Frag} {CD CP : Addr} {Ps : List Addr} {H H' : Hp} {p d lq a : Addr} {A : DA} {b n s hd la M : Int} {hs : List V} {lg : LogL} {kv : List (Key × V)} {xs : List V} (x : Dk K CD CP Ps H p d lq A b n s hd la M hs lg kv) (h : H a = none) (S : Same H H') (e : H' a = some (.lst xs)) : a ∉ DkS p d lq A Ps :=
  (x.same S).nin e (fun z => by obtain ⟨_, q⟩ := x.f; rw [← z, h] at q; cases q) (fun z => by have q := x.l; rw [← z, h] at q; cases q) (fun z => by have q := x.D.ho; rw [← z, h] at q; cases q) (fun z => by have q := x.D.lg; rw [← z, h] at q; cases q)
section
variable {P : Program} {w0_ : World} {K : PySem.W.Frag} {mg : Str → Option Value} {base : Heap}
def sp_Lother (K : PySem.W.Frag) (CD CP : Addr) (Ps : List Addr) : Sp := fun vs H Q _ => ∃ (p d lq ho : Addr) (A : DA) (hd la M : Int) (us ts : List Addr) (hc : List (List Int)) (lg : LogL) (g : Bool), vs = [.ref d, .ref lq, .int hd, .ref ho, .bl g] ∧ Dk K CD CP Ps H p d lq A 24 5 30 hd la M (us.map V.ref) lg [] ∧ LgOk lg ∧ HomAt K H us hc ∧ H ho = some (.lst (ts.map V.ref)) ∧ HomAt K H ts hc ∧ hc.length = 24 ∧ ho ∉ DkS p d lq A Ps ∧ M ≤ hd + 7 ∧ hd + 1 ≤ M ∧ 0 ≤ hd ∧ hd ≤ 999984 ∧
  ∀ (H' : Hp) (la' : Int) (lg' : LogL), Kp (DkS p d lq A Ps) H H' → Dk K CD CP Ps H' p d lq A 24 5 30 hd la' M (us.map V.ref) lg' [] → LgOk lg' → HomAt K H' us hc → Q (.bl true) H'
theorem ok_Lother (T : Tx K mg) (B : TBs T base) : FnOk P w0_ K mg base CX0 12 T.f_Lother_slots T.fd_Lother_slots ["_law_disk_here", "_law_log", "_law_head", "_law_home", "_law_lapse"] (sp_Lother K T.C_Disk T.C_Plan T.Ps) := by
  refine T.F_Lother_slots.ok sc_Lother_slots (fun vs H Q E h => ?_) (fun cdv A0 outer s H vs Q E hr h => ?_)
  · obtain ⟨_, _, _, _, _, _, _, _, _, _, _, _, _, rfl, _⟩ := h; rfl
  · obtain ⟨p, d, lq, ho, A, hd, la, M, us, ts, hc, lg, g, rfl, X, hO, hU, eho, hT, hc24, nho, hM7, hM1, hd0, hd1, k⟩ := h
    have hr1 := hr.mono (show 1 ≤ 11 by decide)
    have hr2 := hr.mono (show 2 ≤ 11 by decide)
    have hr3 := hr.mono (show 3 ≤ 11 by decide)
    refine ⟨_, (pss_cons (ps_set (i := 5) sc_Lother_slots.nd rfl (.inr rfl) (pe_call (ok_Lmarks T) hr1 rfl T.mg_Lmarks T.F_Lmarks.kp (b_Lmarks T) .nil pass0 (pa_cons (pv 1) (pa_cons (pv 2) pa_nil))))
      (pss_cons (ps_set (i := 6) sc_Lother_slots.nd rfl (.inl rfl) (pe_call (ok_Lslots T) hr2 rfl T.mg_Lslots T.F_Lslots.kp (b_Lslots T) .nil pass0 (pa_cons (pv 5) (pa_cons (pv 4) pa_nil))))
      (pss_cons (ps_setLc (i := 7) (own := [("_law_x", 8)]) (g := gName 8) (tt := tYes) rfl sc_Lother_slots.nd rfl rfl (sw_true rfl rfl rfl (by decide +kernel)) (pi_range1 rfl T.b_range (pa_cons pe_int pa_nil)) (blkOk_by (N := ["_law_disk_here", "_law_log", "_law_head", "_law_home", "_law_lapse", "_law_marks_here", "_law_told", "_law_due", "_law_x", "_law_named", "_law_mark_here", "_law_pair", "_law_slot_here", "_law_lot", "_law_block"]) (sc := defScope s_Lother_slots) (by decide +kernel)) (fun _ _ _ _ _ => pg_name (i := 8) sc_Lother_slots.nd rfl (Or.inl rfl)) (fun _ _ _ _ _ => pts_nil) (fun _ _ _ _ _ => (pe_call (ok_Lcells T) hr2 rfl T.mg_Lcells T.F_Lcells.kp (b_Lcells T) .nil pass0 (pa_cons (pv 1) (pa_cons (pv 5) (pa_cons (pv 3) (pa_cons (pv 8) (pa_cons (pv 4) pa_nil))))))))
      (pss_cons (ps_set (i := 9) sc_Lother_slots.nd rfl (.inl rfl) (pe_lst pa_nil))
      (pss_cons (ps_for PassesOwn.never rfl (pi_list (pv 5)) (pg_name (i := 10) sc_Lother_slots.nd rfl (.inr rfl))
        (pss_one (ps_expr (pe_bm PySem.F.plainAttrs_list PySem.F.slot_list_extend PySem.F.type_list_extend mt_extend (pv 9) (pa_cons (pe_lc rfl (own := [("_law_pair", 11)]) (g := gName 11) (tt := tYes) sc_Lother_slots.nd (pi_tup (pe_ix ix_tup (pe_ix ix_tup (pv 10) pe_int (fun _ _ => rfl)) pe_int (fun _ _ => rfl))) (blkOk_by (N := ["_law_disk_here", "_law_log", "_law_head", "_law_home", "_law_lapse", "_law_marks_here", "_law_told", "_law_due", "_law_x", "_law_named", "_law_mark_here", "_law_pair", "_law_slot_here", "_law_lot", "_law_block"]) (sc := defScope s_Lother_slots) (by decide +kernel)) (fun _ _ _ _ _ => pg_name (i := 11) sc_Lother_slots.nd rfl (Or.inl rfl)) (fun _ _ _ _ _ => pts_nil) (fun _ _ _ _ _ => (pe_tup (pa_cons (pe_ixTK (K := K) (pe_ixTK (K := K) (pv 10) pe_int (fun _ _ => rfl)) pe_int (fun _ _ => rfl)) (pa_cons (pe_ixTK (K := K) (pv 11) pe_int (fun _ _ => rfl)) pa_nil))))) pa_nil)))))
      (pss_cons (ps_expr (pe_bm PySem.F.plainAttrs_list PySem.F.slot_list_append PySem.F.type_list_append mt_append (pv 9) (pa_cons (pe_tup (pa_cons (pe_op op_add (pv 2) pe_int) (pa_cons pe_int pa_nil))) pa_nil)))
      (pss_cons (ps_for PassesOwn.never rfl (pi_range1 rfl T.b_range (pa_cons pe_int pa_nil)) (pg_name (i := 12) sc_Lother_slots.nd rfl (.inl rfl))
        (pss_one (ps_if (pt_cmpR op_notIn_seq (pv 12) (pv 6) rfl)
          (pss_cons (ps_asg (pe_ix ix_list (pv 9) (pe_op op_mod (pe_callTy call_int1 rfl T.b_int (by decide +kernel) (pa_cons (pv 12) pa_nil)) (pe_callB call_len_seq rfl T.b_len (by decide +kernel) (pa_cons (pv 9) pa_nil))) (fun _ _ => rfl)) (pg_tup rfl (pgs_cons (pg_name (i := 13) sc_Lother_slots.nd rfl (.inl rfl)) (pgs_cons (pg_name (i := 14) sc_Lother_slots.nd rfl (.inl rfl)) pgs_nil))))
          (pss_cons (ps_expr (pe_call (ok_Lput T B) hr rfl T.mg_Lput T.F_Lput.kp (b_Lput T) .nil pass0 (pa_cons (pv 0) (pa_cons (pv 1) (pa_cons (pv 12) (pa_cons (pe_tup (pa_cons pe_str (pa_cons (pv 13) (pa_cons (pv 14) (pa_cons (pe_tup (pa_cons (pe_op op_add (pv 12) pe_int) (pa_cons pe_int (pa_cons pe_int (pa_cons pe_int (pa_cons pe_int (pa_cons pe_int (pa_cons pe_int (pa_cons pe_int pa_nil))))))))) pa_nil))))) pa_nil))))))
          (pss_one (ps_if (pt_cmpR (op_neD hr.units) (pe_call (ok_Lall_cells T) hr3 rfl T.mg_Lall_cells T.F_Lall_cells.kp (b_Lall_cells T) .nil pass0 (pa_cons (pv 0) (pa_cons (pv 4) pa_nil))) (pv 7) (nomark _))
            (pss_one (ps_ret pe_bl))
            pss_nil))))
          pss_nil)))
      (pss_one (ps_ret (pe_call (ok_Lsame T 1) hr3 rfl T.mg_Lsame T.F_Lsame.kp (b_Lsame T) .nil pass0 (pa_cons (pe_callN (ok_slots_read T) hr2 rfl T.mg_slots_read T.F_slots_read.kp (kb_slots_read T) pass0 (pa_cons (pv 0) pa_nil) (pk_cons (pv 4) pk_nil)) (pa_cons (pv 6) pa_nil)))))))))))), ?_⟩
    obtain ⟨ds, hD, l7⟩ := due_ex X.L 7 (hd + 1) (by omega)
    obtain ⟨F, eF⟩ : ∃ F : LiveF, F = liveF g (ds.map (mkOf lg)) fun _ => none := ⟨_, rfl⟩
    have lgl : lg.length = 30 := by have := X.D.gl; rw [List.length_map] at this; omega
    have slotOk : ∀ x q, F x = some q → -1 ≤ q.2 ∧ q.2 < 30 := fun x q e => by
      rw [eF] at e
      exact liveF_slot (P := fun k => -1 ≤ k ∧ k < 30) g x _ (fun m hm r hr => by
        obtain ⟨_, _, _, ft⟩ := due_fit X.L hD hm
        have := ft.2.2.2.2.1 r hr
        omega) _ (fun q z => by cases z) q e
    refine ⟨_, rfl, _, rfl, lq, hd, 24, 30, M, lg, ds, rfl, X.l, lgl, X.L, hD, by omega, fun H1 q tq S1 nq eq hm => ?_⟩
    ((try dsimp only); (first | (refine Rg.sg (σ' := [some (.ref d), some (.ref lq), some (.int hd), some (.ref ho), some (.bl g), some (.ref q), none, none, none, none, none, none, none, none, none]) ?_ ?_; focus exact rfl) | (refine Rg.sgG (σ' := [some (.ref d), some (.ref lq), some (.int hd), some (.ref ho), some (.bl g), some (.ref q), none, none, none, none, none, none, none, none, none]) ?_ ?_; focus exact rfl)))
    refine ⟨_, rfl, _, rfl, q, g, 24, 30, M, hd + 1, lg, ds, tq, rfl, eq, hm, X.L.same S1, hD, l7, by decide, fun H2 to ns S2 nto hns mns eto => ?_⟩
    rw [← eF] at mns
    ((try dsimp only); (first | (refine Rg.sg (σ' := [some (.ref d), some (.ref lq), some (.int hd), some (.ref ho), some (.bl g), some (.ref q), some (.ref to), none, none, none, none, none, none, none, none]) ?_ ?_; focus exact rfl) | (refine Rg.sgG (σ' := [some (.ref d), some (.ref lq), some (.int hd), some (.ref ho), some (.bl g), some (.ref q), some (.ref to), none, none, none, none, none, none, none, none]) ?_ ?_; focus exact rfl)))
    have S12 := S1.trans S2
    have hM2 := due_marks (X.L.same S12) hD (hm.same S2) (S2 _ _ eq)
    refine ⟨24, rfl, by decide, by decide, fun Z hZ => ?_⟩
    refine lc_range (lo := 0) (n := (24 : Int).toNat) (RowAt K H2 Z (allC hc lg F)) (RowAt.start hZ) ?_ ?_
    · rintro j H3 hj R
      have hj : j < 24 := hj
      have S3 := R.1
      have S13 := S12.trans S3
      refine ⟨rfl, yes_ ⟨_, rfl, _, rfl, _, rfl, _, rfl, _, rfl, lq, q, ho, 0 + (j : Int), g, 24, 30, M, ts, hc, lg, ds.map (mkOf lg), rfl, S13 _ _ X.l, by rw [lgl]; rfl, X.L.same S13, S13 _ _ eho, hT.same S13, hM2.same S3, by rw [List.length_map]; omega, by omega, by rw [hc24]; omega, by rw [← eF]; exact slotOk _, fun H4 t S4 et => ?_⟩⟩
      rw [← eF, show (0 : Int) + (j : Int) = (j : Int) by omega] at et
      exact R.snoc hZ S4 (allC_at hj) et (by omega)
    intro H4 R
    obtain ⟨uz, S24, eZ, hZu⟩ := R.all (by unfold allC; rw [List.length_map, List.length_range]; rfl)
    have S4 := S12.trans S24
    have eq4 := S24 _ _ (S2 _ _ eq)
    have hm4 := (hm.same S2).same S24
    have eto4 := S24 _ _ eto
    ((try dsimp only); (first | (refine Rg.sg (σ' := [some (.ref d), some (.ref lq), some (.int hd), some (.ref ho), some (.bl g), some (.ref q), some (.ref to), some (.ref Z), none, none, none, none, none, none, none]) ?_ ?_; focus exact rfl) | (refine Rg.sgG (σ' := [some (.ref d), some (.ref lq), some (.int hd), some (.ref ho), some (.bl g), some (.ref q), some (.ref to), some (.ref Z), none, none, none, none, none, none, none]) ?_ ?_; focus exact rfl)))
    refine ⟨by show 0 ≤ sizeLine; decide, ?_⟩
    (intro n9 n_n9; generalize he_n9 : upd _ n9 _ = H5; obtain ⟨e_n9, s_n9, f_n9⟩ := new_f he_n9 n_n9; clear he_n9)
    ((try dsimp only); (first | (refine Rg.sg (σ' := [some (.ref d), some (.ref lq), some (.int hd), some (.ref ho), some (.bl g), some (.ref q), some (.ref to), some (.ref Z), none, some (.ref n9), none, none, none, none, none]) ?_ ?_; focus exact rfl) | (refine Rg.sgG (σ' := [some (.ref d), some (.ref lq), some (.int hd), some (.ref ho), some (.bl g), some (.ref q), some (.ref to), some (.ref Z), none, some (.ref n9), none, none, none, none, none]) ?_ ?_; focus exact rfl)))
    -- the named lots and blocks
    have keep9 : ∀ {Ha Hb : Hp} {o : HO}, Same H4 Ha → Hb = upd Ha n9 o → Same H4 Hb := fun s e x u ex => by
      rw [e, upd_ne (ne_of_none ex n_n9)]
      exact s _ _ ex
    refine ⟨_, rfl, q, rfl, ⟨_, .of (s_n9 _ _ eq4)⟩, ?_⟩
    refine for_list (K := K) (a := q) (xs := tq.map V.ref) (fun i σ H' => ∃ (v10 : Option V) (G : List Pg), σ = [some (.ref d), some (.ref lq), some (.int hd), some (.ref ho), some (.bl g), some (.ref q), some (.ref to), some (.ref Z), none, some (.ref n9), v10, none, none, none, none] ∧ Same H4 H' ∧ H' n9 = some (.lst (G.map fun g => V.ref g.1)) ∧ PgAt H' G ∧ G.length ≤ 5 * i ∧ ∀ g ∈ G, 1 ≤ g.2.1 ∧ g.2.1 ≤ M ∧ 0 ≤ g.2.2 ∧ g.2.2 < 24) ⟨none, [], rfl, s_n9, e_n9, (fun g hg => by cases hg), Nat.le_refl _, (fun g hg => by cases hg)⟩ (fun i σ H' _ ⟨_, _, _, S, _⟩ => .of (S _ _ eq4)) ?_ ?_
    · rintro i y σ H6 hi ⟨v10, G, rfl, S6, e9, hG, lG, bG⟩
      rw [List.getElem?_map] at hi
      obtain ⟨t, ht, rfl⟩ := Option.map_eq_some_iff.mp hi
      have hil : i < ds.length := by rw [← hm4.1]; exact (List.getElem?_eq_some_iff.mp ht).1
      obtain ⟨pd, hpd⟩ : ∃ pd, ds[i]? = some pd := ⟨_, List.getElem?_eq_getElem hil⟩
      have et := S6 _ _ (hm4.2 i t pd ht hpd)
      obtain ⟨l, ps, rs, elg, _, _, _⟩ := due_rec hD pd (List.mem_of_getElem? hpd)
      obtain ⟨hR, ft, lM⟩ := X.L _ _ _ elg
      have lM : l ≤ M := lM
      have lps : ps.length ≤ 5 := hO _ _ _ _ _ elg
      have l1 : 1 ≤ l := ft.1
      obtain ⟨pp, pr, h1, hP, h3⟩ := hR.same (S4.trans S6)
      obtain ⟨qs, g1, g2, g3⟩ := PairsAt.at hP
      ((try dsimp only); (first | (refine Rg.sg (σ' := [some (.ref d), some (.ref lq), some (.int hd), some (.ref ho), some (.bl g), some (.ref q), some (.ref to), some (.ref Z), none, some (.ref n9), some (.ref t), none, none, none, none]) ?_ ?_; focus exact rfl) | (refine Rg.sgG (σ' := [some (.ref d), some (.ref lq), some (.int hd), some (.ref ho), some (.bl g), some (.ref q), some (.ref to), some (.ref Z), none, some (.ref n9), some (.ref t), none, none, none, none]) ?_ ?_; focus exact rfl)))
      refine ⟨_, rfl, .inl ⟨rfl, _, .inl (.inl e9)⟩, _, rfl, t, _, 1, .ref pd.2, rfl, rfl, .of et, rfl, pd.2, _, 2, .ref pp, rfl, rfl, h1, rfl, pp, rfl, ⟨_, g1⟩, fun D hD' => ?_⟩
      refine lc_tup (K := K) (a := pp) (xs := qs.map V.ref) (fun j H' => ∃ G1 : List Pg, Same H6 H' ∧ H' D = some (.lst (G1.map fun g => V.ref g.1)) ∧ PgAt H' G1 ∧ G1.length = j ∧ ∀ g ∈ G1, 1 ≤ g.2.1 ∧ g.2.1 ≤ M ∧ 0 ≤ g.2.2 ∧ g.2.2 < 24) ⟨[], same_upd hD', upd_same, (fun g hg => by cases hg), rfl, (fun g hg => by cases hg)⟩ (fun j H' _ ⟨_, S, _⟩ => sameT S g1) ?_ ?_
      · rintro j y H7 hj ⟨G1, S7, eD7, hG7, lG7, bG7⟩
        obtain ⟨qq, pq, rfl, p1, p2⟩ := g3 j y hj
        have hb := ft.2.2.2.2.1 pq (List.mem_of_getElem? p1)
        have hjl := (List.getElem?_eq_some_iff.mp p1).1
        refine ⟨rfl, yes_ ⟨_, rfl, t, _, 1, .ref pd.2, rfl, rfl, .of (S7 _ _ et), rfl, pd.2, _, 1, .int l, rfl, rfl, sameT S7 h1, rfl, _, rfl, qq, _, 0, .int pq.1, rfl, rfl, sameT S7 p2, rfl, by show 2 ≤ sizeLine; decide, ?_⟩⟩
        (intro w n_w; generalize he_w : upd _ w _ = H8; obtain ⟨e_w, s_w, f_w⟩ := new_f he_w n_w; clear he_w)
        have eD8 := s_w _ _ eD7
        refine ⟨_, eD8, by rw [List.length_map]; exact lt_line (by omega), G1 ++ [((w, (l, pq.1)) : Pg)], fun x u ex => ?_, by rw [upd_same, List.map_append]; rfl, fun g hg => ?_, by rw [List.length_append, lG7]; rfl, fun g hg => ?_⟩
        · rw [upd_ne (ne_of_none ex hD')]
          exact s_w _ _ (S7 _ _ ex)
        · have eg : H8 g.1 = some (.tup [.int g.2.1, .int g.2.2]) := by
            rcases List.mem_append.mp hg with z | z
            · exact s_w _ _ (hG7 g z)
            · rw [List.mem_singleton.mp z]; exact e_w
          rw [upd_ne (ne_of eg eD8 (by intro z; cases z))]
          exact eg
        · rcases List.mem_append.mp hg with z | z
          · exact bG7 g z
          · rw [List.mem_singleton.mp z]
            exact ⟨l1, lM, hb.1, hb.2.2.1⟩
      rintro H7 ⟨G1, S7, eD7, hG7, lG7, bG7⟩
      rw [g2] at lG7
      have e97 := S7 _ _ e9
      refine ⟨n9, D, _, _, rfl, rfl, e97, eD7, by rw [List.length_map, List.length_map]; exact Nat.le_of_lt (lt_line (by omega)), ?_⟩
      refine ⟨_, G ++ G1, rfl, keep9 (S6.trans S7) rfl, by rw [upd_same, List.map_append], fun g hg => ?_, by rw [List.length_append]; omega, fun g hg => ?_⟩
      · have eg : H7 g.1 = some (.tup [.int g.2.1, .int g.2.2]) := by
          rcases List.mem_append.mp hg with z | z
          · exact S7 _ _ (hG g z)
          · exact hG7 g z
        rw [upd_ne (ne_of eg e97 (by intro z; cases z))]
        exact eg
      · rcases List.mem_append.mp hg with z | z
        · exact bG g z
        · exact bG7 g z
    rintro σ H6 ⟨v10, G, rfl, S6, e9, hG, lG, bG⟩
    rw [List.length_map, hm4.1] at lG
    refine ⟨_, rfl, .inl ⟨rfl, _, .inl (.inl e9)⟩, _, rfl, _, _, rfl, rfl, by show 2 ≤ sizeLine; decide, ?_⟩
    (intro w n_w; generalize he_w : upd _ w _ = H7; obtain ⟨e_w, s_w, f_w⟩ := new_f he_w n_w; clear he_w)
    have e97 := s_w _ _ e9
    refine ⟨n9, _, _, rfl, rfl, e97, by rw [List.length_map]; exact lt_line (by omega), ?_⟩
    have S8 : Same H4 (upd H7 n9 (.lst (G.map (fun g => V.ref g.1) ++ [V.ref w]))) := keep9 (S6.trans s_w) rfl
    obtain ⟨G', eG'⟩ : ∃ G' : List Pg, G' = G ++ [((w, (hd + 1, 10)) : Pg)] := ⟨_, rfl⟩
    have e98 : upd H7 n9 (.lst (G.map (fun g => V.ref g.1) ++ [V.ref w])) n9 = some (.lst (G'.map fun g => V.ref g.1)) := by rw [upd_same, eG', List.map_append]; rfl
    have hG8 : PgAt (upd H7 n9 (.lst (G.map (fun g => V.ref g.1) ++ [V.ref w]))) G' := fun g hg => by
      rw [eG'] at hg
      have eg : H7 g.1 = some (.tup [.int g.2.1, .int g.2.2]) := by
        rcases List.mem_append.mp hg with z | z
        · exact s_w _ _ (hG g z)
        · rw [List.mem_singleton.mp z]; exact e_w
      rw [upd_ne (ne_of eg e97 (by intro z; cases z))]
      exact eg
    have bG8 : ∀ g ∈ G', 1 ≤ g.2.1 ∧ g.2.1 ≤ M ∧ 0 ≤ g.2.2 ∧ g.2.2 < 24 := fun g hg => by
      rw [eG'] at hg
      rcases List.mem_append.mp hg with z | z
      · exact bG g z
      · rw [List.mem_singleton.mp z]
        exact ⟨by show 1 ≤ hd + 1; omega, hM1, by show (0 : Int) ≤ 10; decide, by show (10 : Int) < 24; decide⟩
    have lG8 : 1 ≤ G'.length ∧ G'.length ≤ 36 := by rw [eG', List.length_append]; simp; omega
    generalize upd H7 n9 (.lst (G.map (fun g => V.ref g.1) ++ [V.ref w])) = H8 at S8 e98 hG8 ⊢
    clear eG' hG bG lG e9 e97 s_w n_w e_w f_w S6
    have X8 := X.same (S4.trans S8)
    have U8 := hU.same (S4.trans S8)
    have n9S := (X.same S4).fresh n_n9 S8 e98
    have toS := (X.same S1).fresh nto ((S2.trans S24).trans S8) (S8 _ _ eto4)
    have ZS := (X.same S12).fresh hZ (S24.trans S8) (S8 _ _ eZ)
    have isn := X8.isnS
    have inS30 : ∀ k, InS ds F k → 0 ≤ k ∧ k < 30 := fun k hk => by
      rcases hk with ⟨pd, hp, rfl⟩ | ⟨h0, x, lot, hx⟩
      · obtain ⟨l, ps, rs, e, _⟩ := due_rec hD pd hp
        have := (List.getElem?_eq_some_iff.mp e).1
        omega
      · exact ⟨h0, (slotOk x _ hx).2⟩
    have lns : ns.length < 1000 := Nat.lt_of_le_of_lt (asc_len (n := 30) hns fun x hx => inS30 x ((mns x).mp hx)) (by decide)
    refine ⟨30, rfl, by decide, by decide, ?_⟩
    refine for_range (lo := 0) (n := (30 : Int).toNat) (fun i σ H' => ∃ (v12 v13 v14 : Option V) (la' : Int) (lg' : LogL), σ = [some (.ref d), some (.ref lq), some (.int hd), some (.ref ho), some (.bl g), some (.ref q), some (.ref to), some (.ref Z), none, some (.ref n9), v10, none, v12, v13, v14] ∧ Kp (DkS p d lq A T.Ps) H8 H' ∧ Dk K T.C_Disk T.C_Plan T.Ps H' p d lq A 24 5 30 hd la' M (us.map V.ref) lg' [] ∧ LgOk lg' ∧ Due lg' (hd + 1) ds ∧ ds.map (mkOf lg') = ds.map (mkOf lg) ∧ allC hc lg' F = allC hc lg F) ⟨none, none, none, la, lg, rfl, Kp.refl, X8, hO, hD, rfl, rfl⟩ ?_ ?_
    · rintro i σ H9 hi ⟨v12, v13, v14, la9, lg9, rfl, k9, X9, O9, D9, m9, c9⟩
      have hi : i < 30 := hi
      have eto9 := k9 _ _ (S8 _ _ eto4) toS
      have e99 := k9 _ _ e98 n9S
      have eZ9 := k9 _ _ (S8 _ _ eZ) ZS
      have hZ9 := (hZu.same S8).kp k9 isn
      have U9 := U8.kp k9 isn
      ((try dsimp only); (first | (refine Rg.sg (σ' := [some (.ref d), some (.ref lq), some (.int hd), some (.ref ho), some (.bl g), some (.ref q), some (.ref to), some (.ref Z), none, some (.ref n9), v10, none, some (.int (0 + (i : Int))), v13, v14]) ?_ ?_; focus exact rfl) | (refine Rg.sgG (σ' := [some (.ref d), some (.ref lq), some (.int hd), some (.ref ho), some (.bl g), some (.ref q), some (.ref to), some (.ref Z), none, some (.ref n9), v10, none, some (.int (0 + (i : Int))), v13, v14]) ?_ ?_; focus exact rfl)))
      refine ⟨_, rfl, _, rfl, to, _, rfl, .inl (.of eto9), rfl, flatI _, _, rfl, ?_⟩
      rw [inV_int]
      refine wND (fun hn => ?_) fun hn => ⟨_, _, _, la9, lg9, rfl, k9, X9, O9, D9, m9, c9⟩
      have hnS : ¬ InS ds F (0 + (i : Int)) := fun z => hn ((mns _).mpr z)
      have nds : ∀ pd ∈ ds, pd.1 ≠ i := fun pd hp z => hnS (.inl ⟨pd, hp, by rw [z]; omega⟩)
      have nF : ∀ x r, F x = some r → 0 ≤ r.2 → r.2.toNat ≠ i := fun x r hx h0 z => hnS (.inr ⟨by omega, x, r.1, by rw [hx, show (0 : Int) + (i : Int) = r.2 by omega]⟩)
      have lmap : ((G'.map fun g => V.ref g.1).length : Int) = (G'.length : Int) := by rw [List.length_map]
      obtain ⟨j, ej⟩ : ∃ j : Int, j = (0 + (i : Int)) % ((G'.map fun g => V.ref g.1).length : Int) := ⟨_, rfl⟩
      have j0 : 0 ≤ j := by rw [ej]; exact Int.emod_nonneg _ (by omega)
      have j1 : j < (G'.length : Int) := by rw [ej, ← lmap]; exact Int.emod_lt_of_pos _ (by omega)
      obtain ⟨pg, hpg⟩ : ∃ pg, G'[j.toNat]? = some pg := ⟨_, List.getElem?_eq_getElem (by omega)⟩
      have bpg := bG8 pg (List.mem_of_getElem? hpg)
      have epg : H9 pg.1 = some (.tup [.int pg.2.1, .int pg.2.2]) := by
        have := hG8 pg (List.mem_of_getElem? hpg)
        refine k9 _ _ this fun z => ?_
        obtain ⟨o, e1, e2, _⟩ := isn _ z
        rw [this] at e1
        exact e2 _ (Option.some.inj e1).symm
      refine ⟨_, rfl, _, rfl, .inl ⟨_, rfl, _, rfl, n9, _, rfl, .inl (.of e99), _, _, rfl, rfl, by show 0 < ((G'.map fun g => V.ref g.1).length : Int); omega, n9, _, _, _, rfl, rfl, .of e99, at_of (j := j.toNat) (by rw [← ej]; omega) (by rw [List.getElem?_map, hpg]; rfl), pg.1, _, rfl, .of epg, rfl, _, _, rfl, _, _, rfl, rfl, ?_⟩⟩
      ((try dsimp only); (first | (refine Rg.sg (σ' := [some (.ref d), some (.ref lq), some (.int hd), some (.ref ho), some (.bl g), some (.ref q), some (.ref to), some (.ref Z), none, some (.ref n9), v10, none, some (.int (0 + (i : Int))), some (.int pg.2.1), some (.int pg.2.2)]) ?_ ?_; focus exact rfl) | (refine Rg.sgG (σ' := [some (.ref d), some (.ref lq), some (.int hd), some (.ref ho), some (.bl g), some (.ref q), some (.ref to), some (.ref Z), none, some (.ref n9), v10, none, some (.int (0 + (i : Int))), some (.int pg.2.1), some (.int pg.2.2)]) ?_ ?_; focus exact rfl)))
      refine ⟨_, rfl, _, rfl, _, rfl, _, rfl, _, rfl, _, rfl, _, _, rfl, rfl, by show 8 ≤ sizeLine; decide, ?_⟩
      (intro c n_c; generalize he_c : upd _ c _ = H10; obtain ⟨e_c, s_c, f_c⟩ := new_f he_c n_c; clear he_c)
      refine ⟨by show 4 ≤ sizeLine; decide, ?_⟩
      (intro u n_u; generalize he_u : upd _ u _ = H11; obtain ⟨e_u, s_u, f_u⟩ := new_f he_u n_u; clear he_u)
      have X11 := (X9.same s_c).same s_u
      have hru : RecAt K H11 u (.copy pg.2.1 pg.2.2 [0 + (i : Int) + 1, 555, 0, 0, 0, 0, 0, 7]) := ⟨c, .of e_u, .of (s_u _ _ e_c)⟩
      have cel : Cells [0 + (i : Int) + 1, 555, 0, 0, 0, 0, 0, 7] := ⟨rfl, fun y hy => by
        simp only [List.mem_cons, List.not_mem_nil, or_false] at hy
        rcases hy with rfl | rfl | rfl | rfl | rfl | rfl | rfl | rfl <;> omega⟩
      refine ⟨p, d, lq, u, 0 + (i : Int), A, hd, la9, M, _, lg9, _, rfl, X11, by omega, by omega, hru, ⟨bpg.1, by omega, bpg.2.2.1, by omega, bpg.2.2.2, cel⟩, (by show pg.2.1 ≤ M; exact bpg.2.1), fun H12 k12 X12 => ?_⟩
      rw [show ((0 : Int) + (i : Int)).toNat = i by omega] at X12
      have k12' : Kp (DkS p d lq A T.Ps) H11 H12 := k12.mono fun x h => by simp only [DkS, List.mem_cons] at h ⊢; exact .inr h
      have k9' := ((k9.same s_c).same s_u).trans k12'
      have O12 : LgOk (lg9.set i (some (u, .copy pg.2.1 pg.2.2 [0 + (i : Int) + 1, 555, 0, 0, 0, 0, 0, 7]))) := O9.set (fun _ _ _ z => by cases z) u i
      have D12 := due_set (y := some (u, Rec.copy pg.2.1 pg.2.2 [0 + (i : Int) + 1, 555, 0, 0, 0, 0, 0, 7])) (j := i) (fun L => rfl) D9 nds
      have m12 : ds.map (mkOf (lg9.set i (some (u, .copy pg.2.1 pg.2.2 [0 + (i : Int) + 1, 555, 0, 0, 0, 0, 0, 7])))) = ds.map (mkOf lg) := by rw [mk_set nds]; exact m9
      have c12 : allC hc (lg9.set i (some (u, .copy pg.2.1 pg.2.2 [0 + (i : Int) + 1, 555, 0, 0, 0, 0, 0, 7]))) F = allC hc lg F := by rw [allC_set nF]; exact c9
      generalize lg9.set i (some (u, .copy pg.2.1 pg.2.2 [0 + (i : Int) + 1, 555, 0, 0, 0, 0, 0, 7])) = lg12 at X12 O12 D12 m12 c12
      have U12 := U8.kp k9' isn
      refine ⟨_, rfl, _, rfl, d, g, A, hd, la9 + 1, M, us, hc, lg12, [], ds, rfl, X12.D, X12.L, O12, U12, D12, l7, hd0, by omega, fun H13 q13 t13 S13 _ e13 h13 => ?_⟩
      rw [m12, ← eF, c12] at h13
      have eZ13 := S13 _ _ (k9' _ _ (S8 _ _ eZ) ZS)
      have hZ13 := ((hZu.same S8).kp k9' isn).same S13
      refine ⟨_, rfl, _, _, h13.dp (.of e13), hZ13.dp (.of eZ13), shH _, shH _, _, rfl, ?_⟩
      rw [eqH]
      exact iteF ⟨_, _, _, _, lg12, rfl, k9'.same S13, X12.same S13, O12, D12, m12, c12⟩
    rintro σ H9 ⟨v12, v13, v14, la9, lg9, rfl, k9, X9, O9, D9, m9, c9⟩
    have l5 : ∀ m ∈ ds.map (mkOf lg9), m.2.1.length ≤ 5 := fun m hm' => by
      obtain ⟨pd, _, e, _⟩ := due_fit X9.L D9 hm'
      exact O9 _ _ _ _ _ e
    refine ⟨_, rfl, _, rfl, rfl, rfl, d, g, A, 24, 5, 30, hd, la9, M, _, lg9, _, ds, rfl, X9.D, X9.L, D9, l7, l5, by decide, hd0, by omega, fun H10 sr nr S10 _ hr' mr er => ⟨_, rfl, ?_⟩⟩
    rw [m9, ← eF] at mr
    have enr : nr = ns := asc_ext hr' hns fun y => by rw [mr y, mns y]
    rw [enr] at er
    refine ⟨_, _, rfl, Sm.ints er (S10 _ _ (k9 _ _ (S8 _ _ eto4) toS)) lns, fun H11 S11 => ?_⟩
    exact k H11 la9 lg9 ((((Kp.of (S4.trans S8)).trans k9).same S10).same S11) ((X9.same S10).same S11) O9 (((U8.kp k9 isn).same S10).same S11)
end
end K47
namespace K47
open PySem PySem.Spec PyProof.Rows L2 Rg
section
variable {K : PySem.W.Frag} {CD CP : Addr} {Ps : List Addr} {H H' : Hp} {p d lq : Addr} {A : DA} {b n s hd la M : Int} {hs gs : List V} {lg ll : LogL} {kv : List (Key × V)}
/-- a disk, a feed and a log of one's own with records of one's own -/
structure Dt (K : PySem.W.Frag) (CD CP : Addr) (Ps : List Addr) (H : Hp) (p d lq : Addr) (A : DA) (b n s hd la M : Int) (hs : List V) (lg ll : LogL) (kv : List (Key × V)) : Prop where
  D : DAt CD CP H d A b n s hd la hs (lg.map gV) kv
  f : ∃ fs : List Int, H p = some (.lst (fs.map V.int))
  l : H lq = some (.lst (ll.map gV))
  L : LogAt K H b s M lg
  LL : LogAt K H b s M ll
  t : Tab Ps H
  n1 : p ≠ lq
  n2 : p ≠ A.ho
  n3 : p ≠ A.lg
  n4 : lq ≠ A.ho
  n5 : lq ≠ A.lg
theorem Dk.dt (x : Dk K CD CP Ps H p d lq A b n s hd la M hs lg kv) : Dt K CD CP Ps H p d lq A b n s hd la M hs lg lg kv := ⟨x.D, x.f, x.l, x.L, x.L, x.t, x.n1, x.n2, x.n3, x.n4, x.n5⟩
theorem Dt.same (x : Dt K CD CP Ps H p d lq A b n s hd la M hs lg ll kv) (e : Same H H') : Dt K CD CP Ps H' p d lq A b n s hd la M hs lg ll kv :=
  ⟨x.D.same e, let ⟨fs, q⟩ := x.f; ⟨fs, e _ _ q⟩, e _ _ x.l, x.L.same e, x.LL.same e, x.t.same e, x.n1, x.n2, x.n3, x.n4, x.n5⟩
theorem Dt.isn (x : Dt K CD CP Ps H p d lq A b n s hd la M hs lg ll kv) : ∀ a ∈ d :: A.pd :: Ps, Isnt H a := fun a h => by
  obtain ⟨dx, ho⟩ := x.D.ob
  rcases List.mem_cons.mp h with z | z
  · rw [z]; exact isnt_ins ho
  rcases List.mem_cons.mp z with z | z
  · rw [z]; exact isnt_dK x.D.pd
  · exact isnt_tab x.t z
theorem Dt.isn3 (x : Dt K CD CP Ps H p d lq A b n s hd la M hs lg ll kv) : ∀ a ∈ [A.pd, A.ho, A.lg], Isnt H a := fun a z => by
  simp only [List.mem_cons, List.not_mem_nil, or_false] at z
  rcases z with rfl | rfl | rfl
  · exact isnt_dK x.D.pd
  · exact isnt_lst x.D.ho
  · exact isnt_lst x.D.lg
theorem Dt.issued (x : Dt K CD CP Ps H p d lq A b n s hd la M hs lg ll kv) {la' : Int} {kv' : List (Key × V)} (t : Tab Ps H') (k : Kp (d :: A.pd :: Ps) H H') (e : DAt CD CP H' d A b n s hd la' hs (lg.map gV) kv') : Dt K CD CP Ps H' p d lq A b n s hd la' M hs lg ll kv' := by
  obtain ⟨fs0, e0⟩ := x.f
  obtain ⟨dx, ho⟩ := x.D.ob
  have ni : ∀ {a : Addr} {xs : List V}, H a = some (.lst xs) → a ∉ d :: A.pd :: Ps := fun {a xs} h z => by
    rcases List.mem_cons.mp z with z | z
    · rw [z, ho] at h; cases h
    rcases List.mem_cons.mp z with z | z
    · rw [z, x.D.pd] at h; cases h
    · exact x.t.nin h (by intro _ z; cases z) z
  exact ⟨e, ⟨fs0, k _ _ e0 (ni e0)⟩, k _ _ x.l (ni x.l), x.L.kp k x.isn, x.LL.kp k x.isn, t, x.n1, x.n2, x.n3, x.n4, x.n5⟩
/-- a record is sure -/
theorem Dt.sured (x : Dt K CD CP Ps H p d lq A b n s hd la M hs lg ll kv) {kv' : List (Key × V)} {i : Nat} {u : Addr} {r : Rec} (t : Tab Ps H') (k : Kp [A.pd, A.ho, A.lg] H H') (e : DAt CD CP H' d A b n s hd la hs ((lg.map gV).set i (.ref u)) kv') (hr : RecAt K H u r) (hf : Fit b s r) (hm : r.lot ≤ M) :
    Dt K CD CP Ps H' p d lq A b n s hd la M hs (lg.set i (some (u, r))) ll kv' := by
  obtain ⟨fs0, e0⟩ := x.f
  have hpd := x.D.pd
  have ni : ∀ {a : Addr} {xs : List V}, H a = some (.lst xs) → a ≠ A.ho → a ≠ A.lg → a ∉ [A.pd, A.ho, A.lg] := fun {a xs} h z1 z2 z => by
    simp only [List.mem_cons, List.not_mem_nil, or_false] at z
    rcases z with z | z | z
    · rw [z, hpd] at h; cases h
    · exact z1 z
    · exact z2 z
  have gs : (lg.set i (some (u, r))).map gV = (lg.map gV).set i (.ref u) := by rw [List.map_set]; rfl
  exact ⟨by rw [gs]; exact e, ⟨fs0, k _ _ e0 (ni e0 x.n2 x.n3)⟩, k _ _ x.l (ni x.l x.n4 x.n5), (x.L.kp k x.isn3).set (hr.by fun _ _ => seqT_kp k x.isn3) hf hm i, x.LL.kp k x.isn3, t, x.n1, x.n2, x.n3, x.n4, x.n5⟩
/-- a record of one's own stands in the log of one's own -/
theorem Dt.lset (x : Dt K CD CP Ps H p d lq A b n s hd la M hs lg ll kv) {i : Nat} {u : Addr} {r : Rec} (hr : RecAt K H u r) (hf : Fit b s r) (hm : r.lot ≤ M) :
    Dt K CD CP Ps (upd H lq (.lst ((ll.map gV).set i (.ref u)))) p d lq A b n s hd la M hs lg (ll.set i (some (u, r))) kv := by
  obtain ⟨fs, ep⟩ := x.f
  obtain ⟨dx, ho⟩ := x.D.ob
  obtain ⟨px, hp⟩ := x.D.pl.ob
  have k : Kp [lq] H (upd H lq (.lst ((ll.map gV).set i (.ref u)))) := Kp.refl.own1
  have z : ∀ c ∈ [lq], Isnt H c := by simp only [List.mem_singleton]; rintro c rfl; exact isnt_lst x.l
  refine ⟨x.D.keep fun c hc o q => k.at1 q ?_, ⟨fs, k.at1 ep x.n1⟩, by rw [upd_same, List.map_set]; rfl, x.L.kp k z, (x.LL.kp k z).set (hr.by fun _ _ => seqT_kp k z) hf hm i, x.t.upd x.l (by intro _ z; cases z), x.n1, x.n2, x.n3, x.n4, x.n5⟩
  simp only [List.mem_cons, List.not_mem_nil, or_false] at hc
  rcases hc with rfl | rfl | rfl | rfl | rfl
  · exact ne_of ho x.l (by intro z; cases z)
  · exact ne_of hp x.l (by intro z; cases z)
  · exact x.n4.symm
  · exact x.n5.symm
  · exact ne_of x.D.pd x.l (by intro z; cases z)
end
/-- the records of a log -/
def recs (lg : LogL) : List (Option Rec) := lg.map (Option.map (·.2))
theorem recs_set (lg : LogL) (i : Nat) (u : Addr) (r : Rec) : recs (lg.set i (some (u, r))) = (recs lg).set i (some r) := by unfold recs; rw [List.map_set]; rfl
def isMkR (L : Int) : Option Rec → Bool
  | some (.mark l _ _) => decide (l = L)
  | _ => false
theorem isMk_rec (L : Int) (x : Option (Addr × Rec)) : isMk L x = isMkR L (x.map (·.2)) := by
  cases x with
  | none => rfl
  | some u =>
    obtain ⟨a, r⟩ := u
    cases r <;> rfl
theorem fm_recs (lg : LogL) (L : Int) : fm lg L = (recs lg).findIdx? (isMkR L) := by
  unfold fm recs
  rw [List.findIdx?_map]
  congr 1
  funext x
  exact isMk_rec L x
def mkR (R : List (Option Rec)) (i : Nat) : Mk3 := match R[i]? with
  | some (some (.mark l ps rs)) => (l, ps, rs)
  | _ => (0, [], [])
theorem mkOf_rec (lg : LogL) (p : Nat × Addr) : mkOf lg p = mkR (recs lg) p.1 := by
  unfold mkOf mkR recs
  rw [List.getElem?_map]
  cases e : lg[p.1]? with
  | none => rfl
  | some u =>
    cases u with
    | none => rfl
    | some v =>
      obtain ⟨a, r⟩ := v
      cases r <;> rfl
theorem due_recs {lg ll : LogL} (e : recs lg = recs ll) : ∀ {L : Int} {ds : List (Nat × Addr)}, Due lg L ds → ∃ ds', Due ll L ds' ∧ ds'.map (·.1) = ds.map (·.1) ∧ ds'.map (mkOf ll) = ds.map (mkOf lg) := by
  intro L ds h
  induction h with
  | nil h => exact ⟨[], .nil (by rw [fm_recs, ← e, ← fm_recs]; exact h), rfl, rfl⟩
  | @cons L j a r ds h1 h2 h3 ih =>
    obtain ⟨ds', i1, i2, i3⟩ := ih
    have f : fm ll L = some j := by rw [fm_recs, ← e, ← fm_recs]; exact h1
    obtain ⟨a', ps, rs, e2⟩ := fm_some f
    refine ⟨(j, a') :: ds', .cons f e2 i1, by rw [List.map_cons, List.map_cons, i2], ?_⟩
    rw [List.map_cons, List.map_cons, i3, mkOf_rec, mkOf_rec, e]
theorem InS.slots {ds ds' : List (Nat × Addr)} {F : LiveF} {k : Int} (h : ds'.map (·.1) = ds.map (·.1)) : InS ds' F k ↔ InS ds F k := by
  have g : ∀ {a b : List (Nat × Addr)}, a.map (·.1) = b.map (·.1) → (∃ p ∈ a, (p.1 : Int) = k) → ∃ p ∈ b, (p.1 : Int) = k := fun {a b} e ⟨p, hp, q⟩ => by
    have : p.1 ∈ b.map (·.1) := by rw [← e]; exact List.mem_map.mpr ⟨p, hp, rfl⟩
    obtain ⟨p', hp', e'⟩ := List.mem_map.mp this
    exact ⟨p', hp', by rw [e']; exact q⟩
  unfold InS
  constructor
  · rintro (z | z)
    · exact .inl (g h z)
    · exact .inr z
  · rintro (z | z)
    · exact .inl (g h.symm z)
    · exact .inr z
end K47
namespace K47
open PySem PySem.Spec PyProof.Rows L2 Rg
/-- two tuples of numbers read alike -/
theorem Sm.tups {K : PySem.W.Frag} {H : Hp} {a b : Addr} {xs : List Int} (ha : SqT K H a (xs.map V.int)) (hb : SqT K H b (xs.map V.int)) (hl : xs.length < 1000) {n : Nat} : Sm K H (n + 1) (.ref a) (.ref b) := by
  refine .inr ⟨a, b, _, _, rfl, rfl, .inr ⟨ha, hb⟩, rfl, by rw [List.length_map]; exact hl, fun i x y h1 h2 => ?_⟩
  rw [h1] at h2
  cases h2
  rw [List.getElem?_map] at h1
  obtain ⟨z, _, rfl⟩ := Option.map_eq_some_iff.mp h1
  exact Sm.int
theorem found_len {hc : List (List Int)} {lg : LogL} {x b s M : Int} {K : PySem.W.Frag} {H : Hp} {o : Option (Int × Int)} (h : ∀ c ∈ hc, Cells c) (hL : LogAt K H b s M lg) : (foundC hc lg x o).length < 1000 := by
  have hz : zer.length < 1000 := by decide
  cases o with
  | none =>
    show (hc.getD x.toNat zer).length < 1000
    rw [List.getD_eq_getElem?_getD]
    cases e : hc[x.toNat]? with
    | none => exact hz
    | some c => have := (h c (List.mem_of_getElem? e)).len; show c.length < 1000; omega
  | some p =>
    show (if 0 ≤ p.2 ∧ p.2 < lg.length then foundR p.1 x (lg.getD p.2.toNat none) else zer).length < 1000
    split
    · rw [List.getD_eq_getElem?_getD]
      cases e : lg[p.2.toNat]? with
      | none => exact hz
      | some u =>
        cases u with
        | none => exact hz
        | some v =>
          obtain ⟨a, r⟩ := v
          have ft := (hL _ _ _ e).2.1
          cases r with
          | copy l y c =>
            show (if l = p.1 ∧ y = x then c else zer).length < 1000
            split
            · have := ft.2.2.2.2.2.len; omega
            · exact hz
          | mark l ps rs => exact hz
    · exact hz
section
variable {P : Program} {w0_ : World} {K : PySem.W.Frag} {mg : Str → Option Value} {base : Heap}
def sp_Ltold (K : PySem.W.Frag) (CD CP : Addr) (Ps : List Addr) : Sp := fun vs H Q _ => ∃ (p d lq : Addr) (A : DA) (hd la M : Int) (us : List Addr) (hc : List (List Int)) (lg : LogL) (g : Bool), vs = [.ref d, .ref lq, .int hd, .bl g] ∧ Dk K CD CP Ps H p d lq A 24 5 30 hd la M (us.map V.ref) lg [] ∧ LgOk lg ∧ HomAt K H us hc ∧ (∀ c ∈ hc, Cells c) ∧ M ≤ hd + 7 ∧ 0 ≤ hd ∧ hd ≤ 999984 ∧
  ∀ (H' : Hp) (la' : Int) (lg' ll' : LogL), Kp (DkS p d lq A Ps) H H' → Dt K CD CP Ps H' p d lq A 24 5 30 hd la' M (us.map V.ref) lg' ll' [] → recs lg' = recs ll' → LgOk lg' → HomAt K H' us hc → Q (.bl true) H'
theorem ok_Ltold (T : Tx K mg) (B : TBs T base) : FnOk P w0_ K mg base CX0 12 T.f_Ltold_slots T.fd_Ltold_slots ["_law_disk_here", "_law_log", "_law_head", "_law_lapse"] (sp_Ltold K T.C_Disk T.C_Plan T.Ps) := by
  refine T.F_Ltold_slots.ok sc_Ltold_slots (fun vs H Q E h => ?_) (fun cdv A0 outer s H vs Q E hr h => ?_)
  · obtain ⟨_, _, _, _, _, _, _, _, _, _, _, rfl, _⟩ := h; rfl
  · obtain ⟨p, d, lq, A, hd, la, M, us, hc, lg, g, rfl, X, hO, hU, hcs, hM7, hd0, hd1, k⟩ := h
    have hr1 := hr.mono (show 1 ≤ 11 by decide)
    have hr2 := hr.mono (show 2 ≤ 11 by decide)
    have hr3 := hr.mono (show 3 ≤ 11 by decide)
    have hr10 := hr.mono (show 10 ≤ 11 by decide)
    refine ⟨_, (pss_cons (ps_set (i := 4) sc_Ltold_slots.nd rfl (.inl rfl) (pe_call (ok_Lmarks T) hr1 rfl T.mg_Lmarks T.F_Lmarks.kp (b_Lmarks T) .nil pass0 (pa_cons (pv 1) (pa_cons (pv 2) pa_nil))))
      (pss_cons (ps_setLc (i := 5) (own := [("_law_mark_here", 6)]) (g := gName 6) (tt := tYes) rfl sc_Ltold_slots.nd rfl rfl (sw_true rfl rfl rfl (by decide +kernel)) (pi_list (pv 4)) (blkOk_by (N := ["_law_disk_here", "_law_log", "_law_head", "_law_lapse", "_law_marks_here", "_law_used", "_law_mark_here", "_law_x", "_law_live_here", "_law_lot", "_law_slot_here", "_law_before", "_law_cells_here", "_law_write"]) (sc := defScope s_Ltold_slots) (by decide +kernel)) (fun _ _ _ _ _ => pg_name (i := 6) sc_Ltold_slots.nd rfl (Or.inl rfl)) (fun _ _ _ _ _ => pts_nil) (fun _ _ _ _ _ => (pe_ixTK (K := K) (pv 6) pe_int (fun _ _ => rfl))))
      (pss_cons (ps_for PassesOwn.never rfl (pi_range2 rfl T.b_range (pa_cons pe_int (pa_cons pe_int pa_nil))) (pg_name (i := 7) sc_Ltold_slots.nd rfl (.inl rfl))
        (pss_cons (ps_set (i := 8) sc_Ltold_slots.nd rfl (.inl rfl) (pe_call (ok_Llive T) hr1 rfl T.mg_Llive T.F_Llive.kp (b_Llive T) .nil pass0 (pa_cons (pv 4) (pa_cons (pv 7) (pa_cons (pv 3) pa_nil)))))
        (pss_one (ps_if (PW.pt (pw_and (pt_cmpR op_notN (pv 8) pe_non (nomark _)) (pw_and (pt_cmpR op_ge (pe_ix ix_tup (pv 8) pe_int (fun _ _ => rfl)) pe_int (nomark _)) (pw_and1 (pt_cmpR op_notIn_seq (pe_ix ix_tup (pv 8) pe_int (fun _ _ => rfl)) (pv 5) rfl)))))
          (pss_cons (ps_asg (pv 8) (pg_tup rfl (pgs_cons (pg_name (i := 9) sc_Ltold_slots.nd rfl (.inl rfl)) (pgs_cons (pg_name (i := 10) sc_Ltold_slots.nd rfl (.inl rfl)) pgs_nil))))
          (pss_cons (ps_set (i := 11) sc_Ltold_slots.nd rfl (.inl rfl) (pe_callN (ok_cells_after T) hr2 rfl T.mg_cells_after T.F_cells_after.kp (kb_cells_after T) pass0 (pa_cons (pv 0) (pa_cons (pe_call (ok_found_marks T) hr1 rfl T.mg_found_marks T.F_found_marks.kp (b_found_marks T) .nil pass0 (pa_cons (pv 0) pa_nil)) (pa_cons (pv 7) pa_nil))) (pk_cons (pv 3) pk_nil)))
          (pss_cons (ps_set (i := 12) sc_Ltold_slots.nd rfl (.inl rfl) (pe_tup (pa_cons (pv 7) (pa_cons pe_int (pa_cons pe_int (pa_cons pe_int (pa_cons pe_int (pa_cons pe_int (pa_cons (pv 10) (pa_cons pe_int pa_nil))))))))))
          (pss_cons (ps_set (i := 13) sc_Ltold_slots.nd rfl (.inl rfl) (pe_meth (pv 0) T.cl_Disk T.m_Disk_issue (ok_issue T B) hr10 (b_Disk_issue T) .nil pass0 (pa_cons (pe_tup (pa_cons pe_str (pa_cons (pv 10) pa_nil))) (pa_cons (pe_tup (pa_cons pe_str (pa_cons (pv 9) (pa_cons (pv 7) (pa_cons (pv 12) pa_nil))))) pa_nil))))
          (pss_cons (ps_if (pt_not (pt_val (pe_call (ok_Lsame T 1) hr3 rfl T.mg_Lsame T.F_Lsame.kp (b_Lsame T) .nil pass0 (pa_cons (pe_callN (ok_cells_after T) hr2 rfl T.mg_cells_after T.F_cells_after.kp (kb_cells_after T) pass0 (pa_cons (pv 0) (pa_cons (pe_call (ok_found_marks T) hr1 rfl T.mg_found_marks T.F_found_marks.kp (b_found_marks T) .nil pass0 (pa_cons (pv 0) pa_nil)) (pa_cons (pv 7) pa_nil))) (pk_cons (pv 3) pk_nil)) (pa_cons (pv 11) pa_nil)))))
            (pss_one (ps_ret pe_bl))
            pss_nil)
          (pss_cons (ps_expr (pe_meth (pv 0) T.cl_Disk T.m_Disk_sure (ok_sure T) hr2 (b_Disk_sure T) .nil pass0 (pa_cons (pv 13) pa_nil)))
          (pss_cons (ps_asg (pe_tup (pa_cons pe_str (pa_cons (pv 9) (pa_cons (pv 7) (pa_cons (pv 12) pa_nil))))) (pg_sub (pv 1) (pv 10) set_list))
          (pss_one (ps_if (pt_not (pt_val (pe_call (ok_Lsame T 1) hr3 rfl T.mg_Lsame T.F_Lsame.kp (b_Lsame T) .nil pass0 (pa_cons (pe_callN (ok_cells_after T) hr2 rfl T.mg_cells_after T.F_cells_after.kp (kb_cells_after T) pass0 (pa_cons (pv 0) (pa_cons (pe_call (ok_found_marks T) hr1 rfl T.mg_found_marks T.F_found_marks.kp (b_found_marks T) .nil pass0 (pa_cons (pv 0) pa_nil)) (pa_cons (pv 7) pa_nil))) (pk_cons (pv 3) pk_nil)) (pa_cons (pv 12) pa_nil)))))
            (pss_one (ps_ret pe_bl))
            pss_nil)))))))))
          pss_nil))))
      (pss_one (ps_ret pe_bl))))), ?_⟩
    obtain ⟨ds, hD, l7⟩ := due_ex X.L 7 (hd + 1) (by omega)
    obtain ⟨F, eF⟩ : ∃ F : LiveF, F = liveF g (ds.map (mkOf lg)) fun _ => none := ⟨_, rfl⟩
    have lgl : lg.length = 30 := by have := X.D.gl; rw [List.length_map] at this; omega
    have slotOk : ∀ x q, F x = some q → -1 ≤ q.2 ∧ q.2 < 30 := fun x q e => by
      rw [eF] at e
      exact liveF_slot (P := fun k => -1 ≤ k ∧ k < 30) g x _ (fun m hm r hr => by
        obtain ⟨_, _, _, ft⟩ := due_fit X.L hD hm
        have := ft.2.2.2.2.1 r hr
        omega) _ (fun q z => by cases z) q e
    have lotOk : ∀ x q, F x = some q → 1 ≤ q.1 ∧ q.1 ≤ M ∧ 0 ≤ x ∧ x < 24 := fun x q e => by
      rw [eF] at e
      rcases liveF_key _ _ _ _ _ e with z | ⟨m, hm', r, hr, h1, rfl⟩
      · cases z
      · obtain ⟨pd, _, e1, ft⟩ := due_fit X.L hD hm'
        have h2 := (X.L _ _ _ e1).2.2
        have h2 : m.1 ≤ M := h2
        have h3 := ft.2.2.2.2.1 r hr
        exact ⟨ft.1, h2, by omega, by omega⟩
    refine ⟨_, rfl, _, rfl, lq, hd, 24, 30, M, lg, ds, rfl, X.l, lgl, X.L, hD, by omega, fun H1 q tq S1 nq eq hm => ?_⟩
    refine ⟨_, rfl, q, rfl, ⟨_, .of eq⟩, fun us5 hus5 => ?_⟩
    refine lc_list (K := K) (a := q) (xs := tq.map V.ref) (fun i H' => Same H1 H' ∧ H' us5 = some (.lst (((ds.take i).map fun p => (p.1 : Int)).map V.int))) ⟨same_upd hus5, upd_same⟩ (fun j H' _ Pv => .of (Pv.1 _ _ eq)) ?_ ?_
    · rintro j y H' hj ⟨sj, ej⟩
      rw [List.getElem?_map] at hj
      obtain ⟨t, ht, rfl⟩ := Option.map_eq_some_iff.mp hj
      have hjl : j < ds.length := by rw [← hm.1]; exact (List.getElem?_eq_some_iff.mp ht).1
      obtain ⟨pd, hp⟩ : ∃ pd, ds[j]? = some pd := ⟨_, List.getElem?_eq_getElem hjl⟩
      have et := sj _ _ (hm.2 j t pd ht hp)
      refine ⟨rfl, yes_ ⟨_, rfl, t, _, 0, .int (pd.1 : Int), rfl, rfl, .of et, rfl, _, ej, ?_, fun x o e => ?_, ?_⟩⟩
      · rw [List.length_map, List.length_map]
        exact lt_line (by have := List.length_take_le j ds; omega)
      · rw [upd_ne (ne_of_none e hus5)]
        exact sj _ _ e
      · rw [upd_same, List.take_add_one, hp, List.map_append, List.map_append]
        rfl
    rintro H2 ⟨s2, e2⟩
    rw [List.length_map, hm.1, List.take_length] at e2
    ((try dsimp only); (first | (refine Rg.sg (σ' := [some (.ref d), some (.ref lq), some (.int hd), some (.bl g), some (.ref q), some (.ref us5), none, none, none, none, none, none, none, none]) ?_ ?_; focus exact rfl) | (refine Rg.sgG (σ' := [some (.ref d), some (.ref lq), some (.int hd), some (.bl g), some (.ref q), some (.ref us5), none, none, none, none, none, none, none, none]) ?_ ?_; focus exact rfl)))
    have S2 := S1.trans s2
    have eq2 := s2 _ _ eq
    have hm2 := hm.same s2
    have X2 := X.same S2
    have U2 := hU.same S2
    have qS := X.fresh nq S2 eq2
    have uS := (X.same S1).fresh hus5 s2 e2
    have isn := X2.isnS
    refine ⟨10, 18, rfl, ⟨by decide, by decide, by decide, by decide⟩, for_range (lo := 10) (n := ((18 : Int) - 10).toNat) (fun i σ H' => ∃ (v7 v8 v9 v10 v11 v12 v13 : Option V) (la' : Int) (lg' ll' : LogL), σ = [some (.ref d), some (.ref lq), some (.int hd), some (.bl g), some (.ref q), some (.ref us5), none, v7, v8, v9, v10, v11, v12, v13] ∧ Kp (DkS p d lq A T.Ps) H2 H' ∧ Dt K T.C_Disk T.C_Plan T.Ps H' p d lq A 24 5 30 hd la' M (us.map V.ref) lg' ll' [] ∧ recs lg' = recs ll' ∧ LgOk lg' ∧ Due lg' (hd + 1) ds ∧ ds.map (mkOf lg') = ds.map (mkOf lg)) ⟨none, none, none, none, none, none, none, la, lg, lg, rfl, Kp.refl, X2.dt, rfl, hO, hD, rfl⟩ ?_ ?_⟩
    · rintro i σ H3 hi ⟨v7, v8, v9, v10, v11, v12, v13, la3, lg3, ll3, rfl, k3, X3, R3, O3, D3, m3⟩
      have hi : i < 8 := hi
      obtain ⟨x, ex⟩ : ∃ x : Int, x = 10 + (i : Int) := ⟨_, rfl⟩
      rw [← ex]
      have x0 : 0 ≤ x ∧ x < 24 := by omega
      have eq3 := k3 _ _ eq2 qS
      have hm3 : MksAt H3 tq ds := ⟨hm2.1, fun i t pd a b => k3 _ _ (hm2.2 i t pd a b) fun z => by
        obtain ⟨o, e1, e2, _⟩ := isn _ z
        rw [hm2.2 i t pd a b] at e1
        exact e2 _ (Option.some.inj e1).symm⟩
      have hM3 := due_marks X3.L D3 hm3 eq3
      rw [m3] at hM3
      have e53 := k3 _ _ e2 uS
      have U3 := U2.kp k3 isn
      ((try dsimp only); (first | (refine Rg.sg (σ' := [some (.ref d), some (.ref lq), some (.int hd), some (.bl g), some (.ref q), some (.ref us5), none, some (.int x), v8, v9, v10, v11, v12, v13]) ?_ ?_; focus exact rfl) | (refine Rg.sgG (σ' := [some (.ref d), some (.ref lq), some (.int hd), some (.bl g), some (.ref q), some (.ref us5), none, some (.int x), v8, v9, v10, v11, v12, v13]) ?_ ?_; focus exact rfl)))
      refine ⟨_, rfl, _, rfl, _, rfl, q, x, g, _, rfl, hM3, by rw [List.length_map]; omega, fun H4 v S4 hv => ?_⟩
      rw [← eF] at hv
      ((try dsimp only); (first | (refine Rg.sg (σ' := [some (.ref d), some (.ref lq), some (.int hd), some (.bl g), some (.ref q), some (.ref us5), none, some (.int x), some v, v9, v10, v11, v12, v13]) ?_ ?_; focus exact rfl) | (refine Rg.sgG (σ' := [some (.ref d), some (.ref lq), some (.int hd), some (.bl g), some (.ref q), some (.ref us5), none, some (.int x), some v, v9, v10, v11, v12, v13]) ?_ ?_; focus exact rfl)))
      have X4 := X3.same S4
      have k4 := k3.same S4
      cases hx : F x with
      | none =>
        rw [hx] at hv
        obtain rfl : v = .non := hv
        exact ⟨_, rfl, rfl, _, rfl, iteF ⟨_, _, _, _, _, _, _, la3, lg3, ll3, rfl, k4, X4, R3, O3, D3, m3⟩⟩
      | some r =>
        rw [hx] at hv
        obtain ⟨t, rfl, et⟩ := hv
        have sok := slotOk x r hx
        have lok := lotOk x r hx
        refine ⟨_, rfl, rfl, _, rfl, iteT ⟨_, rfl, t, _, 1, .int r.2, rfl, rfl, .of et, rfl, _, _, rfl, rfl, _, rfl, wD (fun h0 => ?_) fun h0 => ⟨_, _, _, _, _, _, _, la3, lg3, ll3, rfl, k4, X4, R3, O3, D3, m3⟩⟩⟩
        have e54 := S4 _ _ e53
        refine ⟨_, rfl, t, _, 1, .int r.2, rfl, rfl, .of et, rfl, _, rfl, us5, _, rfl, .inl (.of e54), rfl, flatI _, _, rfl, ?_⟩
        rw [inV_int]
        refine wND (fun hn => ?_) fun hn => ⟨_, _, _, _, _, _, _, la3, lg3, ll3, rfl, k4, X4, R3, O3, D3, m3⟩
        have nds : ∀ pd ∈ ds, pd.1 ≠ r.2.toNat := fun pd hp z => hn (List.mem_map.mpr ⟨pd, hp, by omega⟩)
        refine ⟨_, rfl, t, _, rfl, .of et, rfl, _, _, rfl, _, _, rfl, rfl, ?_⟩
        ((try dsimp only); (first | (refine Rg.sg (σ' := [some (.ref d), some (.ref lq), some (.int hd), some (.bl g), some (.ref q), some (.ref us5), none, some (.int x), some (.ref t), some (.int r.1), some (.int r.2), v11, v12, v13]) ?_ ?_; focus exact rfl) | (refine Rg.sgG (σ' := [some (.ref d), some (.ref lq), some (.int hd), some (.bl g), some (.ref q), some (.ref us5), none, some (.int x), some (.ref t), some (.int r.1), some (.int r.2), v11, v12, v13]) ?_ ?_; focus exact rfl)))
        have l5 : ∀ m ∈ ds.map (mkOf lg3), m.2.1.length ≤ 5 := fun m hm' => by
          obtain ⟨pd, _, e, _⟩ := due_fit X3.L D3 hm'
          exact O3 _ _ _ _ _ e
        -- the cells before
        refine ⟨_, rfl, _, rfl, d, A, 24, 5, 30, hd, la3, M, _, lg3, _, ds, rfl, X4.D, X4.L, D3, by omega, by decide, hd0, by omega, fun H5 q5 t5 S5 _ e5 m5 => ?_⟩
        have X5 := X4.same S5
        have hM5 := due_marks X5.L D3 m5 e5
        refine ⟨_, rfl, _, rfl, rfl, rfl, d, q5, x, g, A, 24, 5, 30, hd, la3, M, us, hc, lg3, _, ds.map (mkOf lg3), rfl, X5.D, X5.L, (U3.same S4).same S5, hM5, by rw [List.length_map]; omega, l5, x0.1, x0.2, fun H6 tb S6 etb => ?_⟩
        rw [m3, ← eF, hx] at etb
        ((try dsimp only); (first | (refine Rg.sg (σ' := [some (.ref d), some (.ref lq), some (.int hd), some (.bl g), some (.ref q), some (.ref us5), none, some (.int x), some (.ref t), some (.int r.1), some (.int r.2), some (.ref tb), v12, v13]) ?_ ?_; focus exact rfl) | (refine Rg.sgG (σ' := [some (.ref d), some (.ref lq), some (.int hd), some (.bl g), some (.ref q), some (.ref us5), none, some (.int x), some (.ref t), some (.int r.1), some (.int r.2), some (.ref tb), v12, v13]) ?_ ?_; focus exact rfl)))
        refine ⟨_, rfl, _, rfl, by show 8 ≤ sizeLine; decide, ?_⟩
        (intro c n_c; generalize he_c : upd _ c _ = H7; obtain ⟨e_c, s_c, f_c⟩ := new_f he_c n_c; clear he_c)
        ((try dsimp only); (first | (refine Rg.sg (σ' := [some (.ref d), some (.ref lq), some (.int hd), some (.bl g), some (.ref q), some (.ref us5), none, some (.int x), some (.ref t), some (.int r.1), some (.int r.2), some (.ref tb), some (.ref c), v13]) ?_ ?_; focus exact rfl) | (refine Rg.sgG (σ' := [some (.ref d), some (.ref lq), some (.int hd), some (.bl g), some (.ref q), some (.ref us5), none, some (.int x), some (.ref t), some (.int r.1), some (.int r.2), some (.ref tb), some (.ref c), v13]) ?_ ?_; focus exact rfl)))
        have X7 := (X5.same S6).same s_c
        obtain ⟨dx7, ho7⟩ := X7.D.ob
        refine ⟨_, rfl, d, _, _, rfl, ho7, rfl, _, rfl, by show 2 ≤ sizeLine; decide, ?_⟩
        (intro w n_w; generalize he_w : upd _ w _ = H8; obtain ⟨e_w, s_w, f_w⟩ := new_f he_w n_w; clear he_w)
        refine ⟨_, rfl, _, rfl, _, rfl, by show 4 ≤ sizeLine; decide, ?_⟩
        (intro u n_u; generalize he_u : upd _ u _ = H9; obtain ⟨e_u, s_u, f_u⟩ := new_f he_u n_u; clear he_u)
        have X9 := (X7.same s_w).same s_u
        have ec9 := s_u _ _ (s_w _ _ e_c)
        have cel : Cells [x, 777, 0, 0, 0, 0, r.2, 9] := ⟨rfl, fun y hy => by
          simp only [List.mem_cons, List.not_mem_nil, or_false] at hy
          rcases hy with rfl | rfl | rfl | rfl | rfl | rfl | rfl | rfl <;> omega⟩
        have hru : RecAt K H9 u (.copy r.1 x [x, 777, 0, 0, 0, 0, r.2, 9]) := ⟨c, .of e_u, .of ec9⟩
        have fit : Fit 24 30 (.copy r.1 x [x, 777, 0, 0, 0, 0, r.2, 9]) := ⟨lok.1, by omega, x0.1, by omega, x0.2, cel⟩
        have hq9 : PlcAt K H9 w (.log r.2) := .of (s_u _ _ e_w)
        have S39 : Same H3 H9 := ((((S4.trans S5).trans S6).trans s_c).trans s_w).trans s_u
        refine ⟨d, w, u, A, 24, 5, 30, hd, la3, _, _, .log r.2, rfl, X9.D, hq9, ⟨h0, by omega, _, hru, fit⟩, X9.t, fun H10 wt t10 k10 D10 e10 => ?_⟩
        have X10 := X9.issued t10 k10 D10
        have isn9 := X9.isn
        have hq10 : PlcAt K H10 w (.log r.2) := hq9.by fun _ _ => seqT_kp k10 isn9
        have hru10 := hru.by fun _ _ => seqT_kp k10 isn9
        have kS10 : Kp (DkS p d lq A T.Ps) H9 H10 := k10.mono fun y h => by
          rcases List.mem_cons.mp h with z | z
          · simp [DkS, z]
          rcases List.mem_cons.mp z with z | z
          · simp [DkS, z]
          · simp [DkS, z]
        have K10 := (k3.same S39).trans kS10
        have etb10 := seqT_kp k10 isn9 (sameT ((s_c.trans s_w).trans s_u) etb)
        have ec10 := seqT_kp k10 isn9 (SqT.of (K := K) ec9)
        have U10 := U2.kp K10 isn
        ((try dsimp only); (first | (refine Rg.sg (σ' := [some (.ref d), some (.ref lq), some (.int hd), some (.bl g), some (.ref q), some (.ref us5), none, some (.int x), some (.ref t), some (.int r.1), some (.int r.2), some (.ref tb), some (.ref c), some (.int (la3 + 1))]) ?_ ?_; focus exact rfl) | (refine Rg.sgG (σ' := [some (.ref d), some (.ref lq), some (.int hd), some (.bl g), some (.ref q), some (.ref us5), none, some (.int x), some (.ref t), some (.int r.1), some (.int r.2), some (.ref tb), some (.ref c), some (.int (la3 + 1))]) ?_ ?_; focus exact rfl)))
        -- the cells while it is pending
        refine ⟨_, rfl, _, rfl, d, A, 24, 5, 30, hd, la3 + 1, M, _, lg3, _, ds, rfl, X10.D, X10.L, D3, by omega, by decide, hd0, by omega, fun H11 q11 t11 S11 _ e11 m11 => ?_⟩
        have X11 := X10.same S11
        have hM11 := due_marks X11.L D3 m11 e11
        refine ⟨_, rfl, _, rfl, rfl, rfl, d, q11, x, g, A, 24, 5, 30, hd, la3 + 1, M, us, hc, lg3, _, ds.map (mkOf lg3), rfl, X11.D, X11.L, U10.same S11, hM11, by rw [List.length_map]; omega, l5, x0.1, x0.2, fun H12 tc S12 etc => ⟨_, rfl, ?_⟩⟩
        rw [m3, ← eF, hx] at etc
        have S1012 := S11.trans S12
        refine ⟨_, _, rfl, Sm.tups etc (sameT S1012 etb10) (found_len hcs X10.L), fun H13 S13 => ⟨_, rfl, iteF ?_⟩⟩
        have S1013 := S1012.trans S13
        have X13 := X10.same S1013
        have hq13 : PlcAt K H13 w (.log r.2) := hq10.by fun _ _ => sameT S1013
        have hru13 := hru10.same S1013
        have ec13 := sameT S1013 ec10
        have ewt := S1013 _ _ e10
        obtain ⟨dx13, ho13⟩ := X13.D.ob
        refine ⟨_, rfl, d, _, _, rfl, ho13, rfl, _, rfl, d, w, u, wt, la3 + 1, A, 24, 5, 30, hd, la3 + 1, _, _, .log r.2, rfl, X13.D, ewt, hq13, ⟨h0, by omega⟩, X13.t, fun H14 t14 k14 D14 => ?_⟩
        have isn13 := X13.isn3
        have ec14 := seqT_kp k14 isn13 ec13
        -- a record of the law's own
        refine ⟨_, rfl, _, rfl, _, rfl, by show 4 ≤ sizeLine; decide, ?_⟩
        have X14 := X13.sured (i := r.2.toNat) (u := u) t14 k14 D14 hru13 fit (by show r.1 ≤ M; exact lok.2.1)
        have kS14 : Kp (DkS p d lq A T.Ps) H13 H14 := k14.mono fun y h => by
          simp only [List.mem_cons, List.not_mem_nil, or_false] at h
          rcases h with z | z | z <;> simp [DkS, z]
        (intro u2 n_u2; generalize he_u2 : upd _ u2 _ = H15; obtain ⟨e_u2, s_u2, f_u2⟩ := new_f he_u2 n_u2; clear he_u2)
        have X15 := X14.same s_u2
        have el15 := X15.l
        have hsl : r.2.toNat < (ll3.map gV).length := by
          have h1 : (recs lg3).length = (recs ll3).length := by rw [R3]
          unfold recs at h1
          rw [List.length_map, List.length_map] at h1
          have h2 := X3.D.gl
          rw [List.length_map] at h2
          rw [List.length_map]
          omega
        refine ⟨_, rfl, _, rfl, lq, _, r.2, r.2.toNat, rfl, rfl, el15, ixN_at (by omega) hsl, ?_⟩
        have hru15 : RecAt K H15 u2 (.copy r.1 x [x, 777, 0, 0, 0, 0, r.2, 9]) := ⟨c, .of e_u2, sameT s_u2 ec14⟩
        have X16 := X15.lset (i := r.2.toNat) hru15 fit (by show r.1 ≤ M; exact lok.2.1)
        have kl : Kp (DkS p d lq A T.Ps) H15 (upd H15 lq (.lst ((ll3.map gV).set r.2.toNat (.ref u2)))) := Kp.refl.own (by simp [DkS])
        have kq : Kp [lq] H15 (upd H15 lq (.lst ((ll3.map gV).set r.2.toNat (.ref u2)))) := Kp.refl.own1
        have ec16 := seqT_kp kq (by simp only [List.mem_singleton]; rintro c rfl; exact isnt_lst el15) (sameT s_u2 ec14)
        have K16 := ((((K10.same S1013).trans kS14).same s_u2).trans kl)
        generalize upd H15 lq (.lst ((ll3.map gV).set r.2.toNat (.ref u2))) = H16 at X16 kl K16 ec16 ⊢
        have D16 := due_set (y := some (u, Rec.copy r.1 x [x, 777, 0, 0, 0, 0, r.2, 9])) (j := r.2.toNat) (fun L => rfl) D3 nds
        have m16 : ds.map (mkOf (lg3.set r.2.toNat (some (u, .copy r.1 x [x, 777, 0, 0, 0, 0, r.2, 9])))) = ds.map (mkOf lg) := by rw [mk_set nds]; exact m3
        have O16 : LgOk (lg3.set r.2.toNat (some (u, .copy r.1 x [x, 777, 0, 0, 0, 0, r.2, 9]))) := O3.set (fun _ _ _ z => by cases z) u _
        have R16 : recs (lg3.set r.2.toNat (some (u, .copy r.1 x [x, 777, 0, 0, 0, 0, r.2, 9]))) = recs (ll3.set r.2.toNat (some (u2, .copy r.1 x [x, 777, 0, 0, 0, 0, r.2, 9]))) := by rw [recs_set, recs_set, R3]
        have f16 : foundC hc (lg3.set r.2.toNat (some (u, .copy r.1 x [x, 777, 0, 0, 0, 0, r.2, 9]))) x (some r) = [x, 777, 0, 0, 0, 0, r.2, 9] := by
          rw [List.length_map] at hsl
          have hsl2 : r.2.toNat < lg3.length := by
            have h1 : (recs lg3).length = (recs ll3).length := by rw [R3]
            unfold recs at h1
            rw [List.length_map, List.length_map] at h1
            omega
          show (if 0 ≤ r.2 ∧ r.2 < (lg3.set r.2.toNat (some (u, .copy r.1 x [x, 777, 0, 0, 0, 0, r.2, 9]))).length then foundR r.1 x ((lg3.set r.2.toNat (some (u, .copy r.1 x [x, 777, 0, 0, 0, 0, r.2, 9]))).getD r.2.toNat none) else zer) = _
          rw [List.length_set, if_pos (by omega), List.getD_eq_getElem?_getD, List.getElem?_set_self hsl2]
          exact if_pos ⟨rfl, rfl⟩
        generalize lg3.set r.2.toNat (some (u, .copy r.1 x [x, 777, 0, 0, 0, 0, r.2, 9])) = lg16 at X16 D16 m16 O16 R16 f16
        generalize ll3.set r.2.toNat (some (u2, .copy r.1 x [x, 777, 0, 0, 0, 0, r.2, 9])) = ll16 at X16 R16
        have l16 : ∀ m ∈ ds.map (mkOf lg16), m.2.1.length ≤ 5 := by rw [m16, ← m3]; exact l5
        have U16 := U2.kp K16 isn
        -- the cells when it is sure
        refine ⟨_, rfl, _, rfl, d, A, 24, 5, 30, hd, la3 + 1, M, _, lg16, _, ds, rfl, X16.D, X16.L, D16, by omega, by decide, hd0, by omega, fun H17 q17 t17 S17 _ e17 m17 => ?_⟩
        have X17 := X16.same S17
        have hM17 := due_marks X17.L D16 m17 e17
        refine ⟨_, rfl, _, rfl, rfl, rfl, d, q17, x, g, A, 24, 5, 30, hd, la3 + 1, M, us, hc, lg16, _, ds.map (mkOf lg16), rfl, X17.D, X17.L, U16.same S17, hM17, by rw [List.length_map]; omega, l16, x0.1, x0.2, fun H18 td S18 etd => ⟨_, rfl, ?_⟩⟩
        rw [m16, ← eF, hx, f16] at etd
        have S1618 := S17.trans S18
        refine ⟨_, _, rfl, Sm.tups etd (sameT S1618 ec16) (by show 8 < 1000; decide), fun H19 S19 => ⟨_, rfl, iteF ?_⟩⟩
        have S1619 := S1618.trans S19
        exact ⟨_, _, _, _, _, _, _, la3 + 1, lg16, ll16, rfl, K16.same S1619, X16.same S1619, R16, O16, D16, m16⟩
    · rintro σ H3 ⟨v7, v8, v9, v10, v11, v12, v13, la3, lg3, ll3, rfl, k3, X3, R3, O3, D3, m3⟩
      exact k H3 la3 lg3 ll3 ((Kp.of S2).trans k3) X3 R3 O3 (U2.kp k3 isn)
end
end K47
namespace K47
open PySem PySem.Spec PyProof.Rows L2 Rg
theorem Sm.rows {K : PySem.W.Frag} {H : Hp} {a b : Addr} {ts us : List Addr} {Cs : List (List Int)} (ha : H a = some (.lst (ts.map V.ref))) (hb : H b = some (.lst (us.map V.ref))) (h1 : HomAt K H ts Cs) (h2 : HomAt K H us Cs) (hl : Cs.length < 1000) (hc : ∀ c ∈ Cs, c.length < 1000) : Sm K H 2 (.ref a) (.ref b) := by
  refine .inr ⟨a, b, _, _, rfl, rfl, .inl ⟨ha, hb⟩, by rw [List.length_map, List.length_map, h1.1, h2.1], by rw [List.length_map, h2.1]; exact hl, fun i x y e1 e2 => ?_⟩
  rw [List.getElem?_map] at e1 e2
  obtain ⟨t, et, rfl⟩ := Option.map_eq_some_iff.mp e1
  obtain ⟨u, eu, rfl⟩ := Option.map_eq_some_iff.mp e2
  have hi : i < Cs.length := by rw [← h1.1]; exact (List.getElem?_eq_some_iff.mp et).1
  have ec := List.getElem?_eq_getElem hi
  exact Sm.tups (h1.2 i t _ et ec) (h2.2 i u _ eu ec) (hc _ (List.mem_of_getElem? ec))
theorem heads {r : Int} (h0 : 0 ≤ r) (h1 : r < 4) : ∃ e : Int, atI [V.int 3, .int 0, .int 999980, .int 40] r = some (.int e) ∧ 0 ≤ e ∧ e ≤ 999980 := by
  have : r = 0 ∨ r = 1 ∨ r = 2 ∨ r = 3 := by omega
  rcases this with rfl | rfl | rfl | rfl
  · exact ⟨3, at_of (j := 0) rfl rfl, by decide, by decide⟩
  · exact ⟨0, at_of (j := 1) rfl rfl, by decide, by decide⟩
  · exact ⟨999980, at_of (j := 2) rfl rfl, by decide, by decide⟩
  · exact ⟨40, at_of (j := 3) rfl rfl, by decide, by decide⟩
def homC : List (List Int) := (List.range 24).map fun x : Nat => [(x : Int) + 1, 0, 99, 0, 0, 0, 0, (x : Int)]
theorem homC_at {x : Nat} (hx : x < 24) : homC[x]? = some [(x : Int) + 1, 0, 99, 0, 0, 0, 0, (x : Int)] := by
  unfold homC
  rw [List.getElem?_map, List.getElem?_range hx]
  rfl
theorem homC_ok : ∀ c ∈ homC, Cells c := fun c hc => by
  obtain ⟨x, hx, rfl⟩ := List.mem_map.mp hc
  have := List.mem_range.mp hx
  refine ⟨rfl, fun i hi => ?_⟩
  simp only [List.mem_cons, List.not_mem_nil, or_false] at hi
  rcases hi with rfl | rfl | rfl | rfl | rfl | rfl | rfl | rfl <;> omega
theorem tab_kpL {Ps : List Addr} {H H' : Hp} {p : Addr} {xs : List V} (t : Tab Ps H) (k : Kp [p] H H') (e : H p = some (.lst xs)) : Tab Ps H' := fun P hP => by
  obtain ⟨ps, e1, x⟩ := t P hP
  exact ⟨ps, k.at1 e1 (ne_of e1 e (by intro z; cases z)), x⟩
def sp_law (K : PySem.W.Frag) (Ps : List Addr) : Sp := fun vs H Q _ => ∃ (a : Addr) (ns : List Int), vs = [.ref a] ∧ Tab Ps H ∧ SqL K H a (ns.map V.int) ∧ ns.length ≤ 63 ∧ ∀ H', Q (.bl true) H'
section
variable {P : Program} {w : World} {K : PySem.W.Frag} {mg : Str → Option Value} {base : Heap}
theorem ok_law (T : Tx K mg) (B : TBs T base) : FnOk P w K mg base CX0 14 T.f_law T.fd_law ["_law_script"] (sp_law K T.Ps) := by
  refine T.F_law.ok sc_law (fun vs H Q E h => ?_) (fun cdv A0 outer s H vs Q E hr h => ?_)
  · obtain ⟨_, _, rfl, _⟩ := h; rfl
  · obtain ⟨a, ns, rfl, ht, hS, hlen, k⟩ := h
    have hr1 := hr.mono (show 1 ≤ 13 by decide)
    have hr2 := hr.mono (show 2 ≤ 13 by decide)
    have hr3 := hr.mono (show 3 ≤ 13 by decide)
    have hr4 := hr.mono (show 4 ≤ 13 by decide)
    have hr12 := hr.mono (show 12 ≤ 13 by decide)
    refine ⟨_, (pss_cons (ps_set (i := 1) sc_law.nd rfl (.inl rfl) (pe_call (ok_Lfeed T) hr1 rfl T.mg_Lfeed T.F_Lfeed.kp (b_Lfeed T) .nil pass0 (pa_cons (pv 0) pa_nil)))
      (pss_cons (ps_set (i := 2) sc_law.nd rfl (.inl rfl) (pe_op op_add (pe_ix ix_list (pe_lst (pa_cons pe_int (pa_cons pe_int (pa_cons pe_int (pa_cons pe_int pa_nil))))) (pe_call (ok_Lpick T) hr1 rfl T.mg_Lpick T.F_Lpick.kp (b_Lpick T) .nil pass0 (pa_cons (pv 1) (pa_cons pe_int pa_nil))) (fun _ _ => rfl)) (pe_call (ok_Lpick T) hr1 rfl T.mg_Lpick T.F_Lpick.kp (b_Lpick T) .nil pass0 (pa_cons (pv 1) (pa_cons pe_int pa_nil)))))
      (pss_cons (ps_set (i := 3) sc_law.nd rfl (.inl rfl) (pe_cmpR op_eq (pe_call (ok_Lpick T) hr1 rfl T.mg_Lpick T.F_Lpick.kp (b_Lpick T) .nil pass0 (pa_cons (pv 1) (pa_cons pe_int pa_nil))) pe_int (nomark _)))
      (pss_cons (ps_set (i := 4) sc_law.nd rfl (.inr rfl) (pe_lc rfl (own := [("_law_x", 5)]) (g := gName 5) (tt := tYes) sc_law.nd (pi_range1 rfl T.b_range (pa_cons pe_int pa_nil)) (blkOk_by (N := ["_law_script", "_law_feed_here", "_law_head", "_law_lapse", "_law_home", "_law_x", "_law_log", "_law_slot_here", "_law_disk_here", "_law_marks_here", "_law_way", "_law_handed", "_law_due"]) (sc := defScope s_law) (by decide +kernel)) (fun _ _ _ _ _ => pg_name (i := 5) sc_law.nd rfl (Or.inl rfl)) (fun _ _ _ _ _ => pts_nil) (fun _ _ _ _ _ => (pe_tup (pa_cons (pe_op op_add (pv 5) pe_int) (pa_cons pe_int (pa_cons pe_int (pa_cons pe_int (pa_cons pe_int (pa_cons pe_int (pa_cons pe_int (pa_cons (pv 5) pa_nil))))))))))))
      (pss_cons (ps_set (i := 6) sc_law.nd rfl (.inr rfl) (pe_lc rfl (own := [("_law_slot_here", 7)]) (g := gName 7) (tt := tYes) sc_law.nd (pi_range1 rfl T.b_range (pa_cons pe_int pa_nil)) (blkOk_by (N := ["_law_script", "_law_feed_here", "_law_head", "_law_lapse", "_law_home", "_law_x", "_law_log", "_law_slot_here", "_law_disk_here", "_law_marks_here", "_law_way", "_law_handed", "_law_due"]) (sc := defScope s_law) (by decide +kernel)) (fun _ _ _ _ _ => pg_name (i := 7) sc_law.nd rfl (Or.inl rfl)) (fun _ _ _ _ _ => pts_nil) (fun _ _ _ _ _ => pe_non)))
      (pss_cons (ps_set (i := 8) sc_law.nd rfl (.inl rfl) (pe_call (ok_Ldisk T B) hr rfl T.mg_Ldisk T.F_Ldisk.kp (b_Ldisk T) .nil pass0 (pa_cons (pv 1) (pa_cons (pv 2) (pa_cons (pv 6) (pa_cons (pv 4) pa_nil))))))
      (pss_cons (ps_set (i := 9) sc_law.nd rfl (.inr rfl) (pe_call (ok_Lmarks T) hr1 rfl T.mg_Lmarks T.F_Lmarks.kp (b_Lmarks T) .nil pass0 (pa_cons (pv 6) (pa_cons (pv 2) pa_nil))))
      (pss_cons (ps_for PassesOwn.never rfl (pi_list (pe_lst (pa_cons pe_bl (pa_cons pe_bl pa_nil)))) (pg_name (i := 10) sc_law.nd rfl (.inr rfl))
        (pss_cons (ps_set (i := 11) sc_law.nd rfl (.inl rfl) (pe_callN (ok_slots_read T) hr2 rfl T.mg_slots_read T.F_slots_read.kp (kb_slots_read T) pass0 (pa_cons (pv 8) pa_nil) (pk_cons (pv 10) pk_nil)))
        (pss_cons (ps_if (pt_not (pt_val (pe_call (ok_Lsame T 1) hr3 rfl T.mg_Lsame T.F_Lsame.kp (b_Lsame T) .nil pass0 (pa_cons (pv 11) (pa_cons (pe_call (ok_Lslots T) hr2 rfl T.mg_Lslots T.F_Lslots.kp (b_Lslots T) .nil pass0 (pa_cons (pv 9) (pa_cons (pv 10) pa_nil))) pa_nil)))))
          (pss_one (ps_ret pe_bl))
          pss_nil)
        (pss_cons (ps_expr (pe_bm PySem.F.plainAttrs_list PySem.F.slot_list_append PySem.F.type_list_append mt_append (pv 11) (pa_cons (pe_un un_neg pe_int) pa_nil)))
        (pss_cons (ps_setLc (i := 12) (own := [("_law_x", 5)]) (g := gName 5) (tt := tYes) rfl sc_law.nd rfl rfl (sw_true rfl rfl rfl (by decide +kernel)) (pi_range1 rfl T.b_range (pa_cons pe_int pa_nil)) (blkOk_by (N := ["_law_script", "_law_feed_here", "_law_head", "_law_lapse", "_law_home", "_law_x", "_law_log", "_law_slot_here", "_law_disk_here", "_law_marks_here", "_law_way", "_law_handed", "_law_due"]) (sc := defScope s_law) (by decide +kernel)) (fun _ _ _ _ _ => pg_name (i := 5) sc_law.nd rfl (Or.inl rfl)) (fun _ _ _ _ _ => pts_nil) (fun _ _ _ _ _ => (pe_call (ok_Lcells T) hr2 rfl T.mg_Lcells T.F_Lcells.kp (b_Lcells T) .nil pass0 (pa_cons (pv 6) (pa_cons (pv 9) (pa_cons (pv 4) (pa_cons (pv 5) (pa_cons (pv 10) pa_nil))))))))
        (pss_one (ps_if (pt_not (pt_val (pe_call (ok_Lsame T 2) hr4 rfl T.mg_Lsame T.F_Lsame.kp (b_Lsame T) .nil pass0 (pa_cons (pe_call (ok_Lall_cells T) hr3 rfl T.mg_Lall_cells T.F_Lall_cells.kp (b_Lall_cells T) .nil pass0 (pa_cons (pv 8) (pa_cons (pv 10) pa_nil))) (pa_cons (pv 12) pa_nil)))))
          (pss_one (ps_ret pe_bl))
          pss_nil)))))))
      (pss_cons (ps_if (pt_not (pt_val (pe_call (ok_Lother T B) hr12 rfl T.mg_Lother_slots T.F_Lother_slots.kp (b_Lother_slots T) .nil pass0 (pa_cons (pv 8) (pa_cons (pv 6) (pa_cons (pv 2) (pa_cons (pv 4) (pa_cons (pv 3) pa_nil))))))))
        (pss_one (ps_ret pe_bl))
        pss_nil)
      (pss_cons (ps_if (pt_not (pt_val (pe_call (ok_Ltold T B) hr12 rfl T.mg_Ltold_slots T.F_Ltold_slots.kp (b_Ltold_slots T) .nil pass0 (pa_cons (pv 8) (pa_cons (pv 6) (pa_cons (pv 2) (pa_cons (pv 3) pa_nil)))))))
        (pss_one (ps_ret pe_bl))
        pss_nil)
      (pss_cons (ps_set (i := 9) sc_law.nd rfl (.inr rfl) (pe_call (ok_Lmarks T) hr1 rfl T.mg_Lmarks T.F_Lmarks.kp (b_Lmarks T) .nil pass0 (pa_cons (pv 6) (pa_cons (pv 2) pa_nil))))
      (pss_one (ps_ret (pe_call (ok_Lsame T 1) hr3 rfl T.mg_Lsame T.F_Lsame.kp (b_Lsame T) .nil pass0 (pa_cons (pe_callN (ok_slots_read T) hr2 rfl T.mg_slots_read T.F_slots_read.kp (kb_slots_read T) pass0 (pa_cons (pv 8) pa_nil) (pk_cons (pv 3) pk_nil)) (pa_cons (pe_call (ok_Lslots T) hr2 rfl T.mg_Lslots T.F_Lslots.kp (b_Lslots T) .nil pass0 (pa_cons (pv 9) (pa_cons (pv 3) pa_nil))) pa_nil)))))))))))))))), ?_⟩
    refine ⟨_, rfl, a, ns, rfl, hS, hlen, fun H1 p f1 S1 np e1 hf => ?_⟩
    have t1 := ht.same S1
    refine ⟨by show 4 ≤ sizeLine; decide, ?_⟩
    (intro l0 n_l0; generalize he_l0 : upd _ l0 _ = H2; obtain ⟨e_l0, s_l0, f_l0⟩ := new_f he_l0 n_l0; clear he_l0)
    have t2 := t1.same s_l0
    have ep2 := s_l0 _ _ e1
    have nl0p : l0 ≠ p := (ne_of_none e1 n_l0).symm
    refine ⟨_, rfl, p, f1, 4, rfl, ep2, by decide, fun r f3 r0 r4 _ => ?_⟩
    (generalize he_x3 : upd _ p _ = H3; obtain ⟨e_x3, k_x3, f_x3⟩ := own_f he_x3; clear he_x3)
    have t3 := tab_kpL t2 k_x3 ep2
    have el3 := k_x3.at1 e_l0 nl0p
    obtain ⟨e, he, e0, e9⟩ := heads r0 r4
    refine ⟨l0, _, _, _, rfl, rfl, .of el3, he, ?_⟩
    refine ⟨_, rfl, p, f3, 5, rfl, e_x3, by decide, fun r' f4 r'0 r'5 _ => ?_⟩
    (generalize he_x4 : upd _ p _ = H4; obtain ⟨e_x4, k_x4, f_x4⟩ := own_f he_x4; clear he_x4)
    have t4 := tab_kpL t3 k_x4 e_x3
    refine ⟨_, _, rfl, rfl, ?_⟩
    obtain ⟨hd, ehd⟩ : ∃ hd : Int, hd = e + r' := ⟨_, rfl⟩
    have hd0 : 0 ≤ hd := by omega
    have hd1 : hd ≤ 999984 := by omega
    ((try dsimp only); (first | (refine Rg.sg (σ' := [some (.ref a), some (.ref p), some (.int (e + r')), none, none, none, none, none, none, none, none, none, none]) ?_ ?_; focus exact rfl) | (refine Rg.sgG (σ' := [some (.ref a), some (.ref p), some (.int (e + r')), none, none, none, none, none, none, none, none, none, none]) ?_ ?_; focus exact rfl)))
    rw [← ehd]
    clear ehd e0 e9 he el3 nl0p
    refine ⟨_, rfl, p, f4, 2, rfl, e_x4, by decide, fun r2 f5 _ _ _ => ?_⟩
    (generalize he_x5 : upd _ p _ = H5; obtain ⟨e_x5, k_x5, f_x5⟩ := own_f he_x5; clear he_x5)
    have t5 := tab_kpL t4 k_x5 e_x4
    refine ⟨rfl, ?_⟩
    obtain ⟨gl, egl⟩ : ∃ gl : Bool, gl = decide (V.int r2 = V.int 0) := ⟨_, rfl⟩
    ((try dsimp only); (first | (refine Rg.sg (σ' := [some (.ref a), some (.ref p), some (.int hd), some (.bl (decide (V.int r2 = V.int 0))), none, none, none, none, none, none, none, none, none]) ?_ ?_; focus exact rfl) | (refine Rg.sgG (σ' := [some (.ref a), some (.ref p), some (.int hd), some (.bl (decide (V.int r2 = V.int 0))), none, none, none, none, none, none, none, none, none]) ?_ ?_; focus exact rfl)))
    rw [← egl]
    clear egl
    -- the homes of one's own
    refine ⟨24, rfl, by decide, by decide, fun ho nho => ?_⟩
    refine lc_range (lo := 0) (n := (24 : Int).toNat) (RowAt K H5 ho homC) (RowAt.start nho) ?_ ?_
    · rintro j H6 hj R
      have hj : j < 24 := hj
      refine ⟨rfl, yes_ ⟨_, rfl, _, _, rfl, rfl, _, rfl, by show 8 ≤ sizeLine; decide, ?_⟩⟩
      (intro t n_t; generalize he_t : upd _ t _ = H7; obtain ⟨e_t, s_t, f_t⟩ := new_f he_t n_t; clear he_t)
      rw [show (0 : Int) + (j : Int) = (j : Int) by omega] at e_t
      exact R.snoc nho s_t (homC_at hj) (.of e_t) (by omega)
    intro H6 R
    obtain ⟨ts, S6, eho, hT⟩ := R.all rfl
    have t6 := t5.same S6
    have ep6 := S6 _ _ e_x5
    have nhp : ho ≠ p := (ne_of_none e_x5 nho).symm
    ((try dsimp only); (first | (refine Rg.sg (σ' := [some (.ref a), some (.ref p), some (.int hd), some (.bl gl), some (.ref ho), none, none, none, none, none, none, none, none]) ?_ ?_; focus exact rfl) | (refine Rg.sgG (σ' := [some (.ref a), some (.ref p), some (.int hd), some (.bl gl), some (.ref ho), none, none, none, none, none, none, none, none]) ?_ ?_; focus exact rfl)))
    -- the log of one's own
    refine ⟨30, rfl, by decide, by decide, fun lq nlq => ?_⟩
    refine lc_range (lo := 0) (n := 30) (fun i H' => H' = upd H6 lq (.lst (List.replicate i .non))) rfl ?_ ?_
    · rintro i H' hi rfl
      refine ⟨rfl, yes_ ⟨_, upd_same, ?_, ?_⟩⟩
      · rw [List.length_replicate]
        exact lt_line (by omega)
      · rw [upd_upd, List.replicate_succ']
    rintro H7 e7
    have S7 : Same H6 H7 := by rw [e7]; exact same_upd nlq
    have elq : H7 lq = some (.lst (List.replicate 30 .non)) := by rw [e7]; exact upd_same
    clear e7
    have t7 := t6.same S7
    have ep7 := S7 _ _ ep6
    have eho7 := S7 _ _ eho
    have hT7 := hT.same S7
    have npq : p ≠ lq := ne_of_none ep6 nlq
    have nhq : ho ≠ lq := ne_of_none eho nlq
    ((try dsimp only); (first | (refine Rg.sg (σ' := [some (.ref a), some (.ref p), some (.int hd), some (.bl gl), some (.ref ho), none, some (.ref lq), none, none, none, none, none, none]) ?_ ?_; focus exact rfl) | (refine Rg.sgG (σ' := [some (.ref a), some (.ref p), some (.int hd), some (.bl gl), some (.ref ho), none, some (.ref lq), none, none, none, none, none, none]) ?_ ?_; focus exact rfl)))
    refine ⟨_, rfl, _, rfl, _, rfl, _, rfl, p, lq, ho, f5, hd, ts, homC, rfl, ep7, hd0, hd1, elq, eho7, hT7, homC_ok, rfl, npq, nhp, nhq, t7, fun H8 d A la us lg k8 n1 n2 n3 n4 X8 U8 O8 => ?_⟩
    have hoPs : ho ∉ T.Ps := t7.nin eho7 (by intro _ z; cases z)
    have eho8 := k8 _ _ eho7 (by simp [nhp, nhq, hoPs])
    have hT8 : HomAt K H8 ts homC := hT7.kp k8 fun x hx => by
      simp only [List.mem_cons] at hx
      rcases hx with rfl | rfl | z
      · exact isnt_lst ep7
      · exact isnt_lst elq
      · exact isnt_tab t7 z
    have hoS : ho ∉ DkS p d lq A T.Ps := X8.nin eho8 nhp nhq (ne_of_none eho7 n1) (ne_of_none eho7 n2)
    clear k8 n1 n2 n3 n4 ep7 elq eho7 hT7 t7
    obtain ⟨ds, hD, l7⟩ := due_ex X8.L 7 (hd + 1) (by omega)
    have lgl : lg.length = 30 := by have := X8.D.gl; rw [List.length_map] at this; omega
    ((try dsimp only); (first | (refine Rg.sg (σ' := [some (.ref a), some (.ref p), some (.int hd), some (.bl gl), some (.ref ho), none, some (.ref lq), none, some (.ref d), none, none, none, none]) ?_ ?_; focus exact rfl) | (refine Rg.sgG (σ' := [some (.ref a), some (.ref p), some (.int hd), some (.bl gl), some (.ref ho), none, some (.ref lq), none, some (.ref d), none, none, none, none]) ?_ ?_; focus exact rfl)))
    refine ⟨_, rfl, _, rfl, lq, hd, 24, 30, hd + 7, lg, ds, rfl, X8.l, lgl, X8.L, hD, by omega, fun H9 q tq S9 nq eq hm => ?_⟩
    ((try dsimp only); (first | (refine Rg.sg (σ' := [some (.ref a), some (.ref p), some (.int hd), some (.bl gl), some (.ref ho), none, some (.ref lq), none, some (.ref d), some (.ref q), none, none, none]) ?_ ?_; focus exact rfl) | (refine Rg.sgG (σ' := [some (.ref a), some (.ref p), some (.int hd), some (.bl gl), some (.ref ho), none, some (.ref lq), none, some (.ref d), some (.ref q), none, none, none]) ?_ ?_; focus exact rfl)))
    have slotOk : ∀ (g : Bool) x q, liveF g (ds.map (mkOf lg)) (fun _ => none) x = some q → -1 ≤ q.2 ∧ q.2 < 30 := fun g x q e =>
      liveF_slot (P := fun k => -1 ≤ k ∧ k < 30) g x _ (fun m hm r hr => by
        obtain ⟨_, _, _, ft⟩ := due_fit X8.L hD hm
        have := ft.2.2.2.2.1 r hr
        omega) _ (fun q z => by cases z) q e
    have l5 : ∀ m ∈ ds.map (mkOf lg), m.2.1.length ≤ 5 := fun m hm' => by
      obtain ⟨pd, _, e, _⟩ := due_fit X8.L hD hm'
      exact O8 _ _ _ _ _ e
    have inS30 : ∀ (lg' : LogL) (ds' : List (Nat × Addr)) (L : Int) (F : LiveF), lg'.length = 30 → Due lg' L ds' → (∀ x q, F x = some q → q.2 < 30) → ∀ k, InS ds' F k → 0 ≤ k ∧ k < 30 := fun lg' ds' L F hl hD' hF k hk => by
      rcases hk with ⟨pd, hp, rfl⟩ | ⟨h0, x, lot, hx⟩
      · obtain ⟨l, ps, rs, e, _⟩ := due_rec hD' pd hp
        have := (List.getElem?_eq_some_iff.mp e).1
        omega
      · exact ⟨h0, hF x _ hx⟩
    refine ⟨by show 2 ≤ sizeLine; decide, ?_⟩
    (intro w2 n_w2; generalize he_w2 : upd _ w2 _ = H10; obtain ⟨e_w2, s_w2, f_w2⟩ := new_f he_w2 n_w2; clear he_w2)
    have S10 := S9.trans s_w2
    refine ⟨w2, rfl, ⟨_, .of e_w2⟩, for_list (K := K) (a := w2) (xs := [.bl true, .bl false]) (fun j σ H' => ∃ (v10 v11 v12 : Option V), σ = [some (.ref a), some (.ref p), some (.int hd), some (.bl gl), some (.ref ho), none, some (.ref lq), none, some (.ref d), some (.ref q), v10, v11, v12] ∧ Same H10 H')
        ⟨none, none, none, rfl, Same.refl _⟩ (fun j σ H' _ ⟨_, _, _, _, S⟩ => .of (S _ _ e_w2)) ?_ ?_⟩
    · rintro j y σ H11 hj ⟨v10, v11, v12, rfl, S11⟩
      obtain ⟨g, rfl⟩ : ∃ g, y = V.bl g := by
        rcases j with _ | _ | j
        · exact ⟨true, (Option.some.inj hj).symm⟩
        · exact ⟨false, (Option.some.inj hj).symm⟩
        · simp at hj
      have S := S10.trans S11
      have X11 := X8.same S
      have eq11 := S11 _ _ (s_w2 _ _ eq)
      have hm11 := (hm.same s_w2).same S11
      ((try dsimp only); (first | (refine Rg.sg (σ' := [some (.ref a), some (.ref p), some (.int hd), some (.bl gl), some (.ref ho), none, some (.ref lq), none, some (.ref d), some (.ref q), some (.bl g), v11, v12]) ?_ ?_; focus exact rfl) | (refine Rg.sgG (σ' := [some (.ref a), some (.ref p), some (.int hd), some (.bl gl), some (.ref ho), none, some (.ref lq), none, some (.ref d), some (.ref q), some (.bl g), v11, v12]) ?_ ?_; focus exact rfl)))
      refine ⟨_, rfl, _, rfl, rfl, rfl, d, g, A, 24, 5, 30, hd, la, hd + 7, _, lg, _, ds, rfl, X11.D, X11.L, hD, l7, l5, by decide, hd0, by omega, fun H12 hh nh S12 nhh hn1 hn2 eh => ?_⟩
      ((try dsimp only); (first | (refine Rg.sg (σ' := [some (.ref a), some (.ref p), some (.int hd), some (.bl gl), some (.ref ho), none, some (.ref lq), none, some (.ref d), some (.ref q), some (.bl g), some (.ref hh), v12]) ?_ ?_; focus exact rfl) | (refine Rg.sgG (σ' := [some (.ref a), some (.ref p), some (.int hd), some (.bl gl), some (.ref ho), none, some (.ref lq), none, some (.ref d), some (.ref q), some (.bl g), some (.ref hh), v12]) ?_ ?_; focus exact rfl)))
      refine ⟨_, rfl, _, rfl, _, rfl, q, g, 24, 30, hd + 7, hd + 1, lg, ds, tq, rfl, S12 _ _ eq11, hm11.same S12, (X11.same S12).L, hD, l7, by decide, fun H13 sr nr S13 nsr hr1' hr2' er => ?_⟩
      have enr : nr = nh := asc_ext hr1' hn1 fun y => by rw [hr2' y, hn2 y]
      rw [enr] at er
      have lnh : nh.length < 1000 := Nat.lt_of_le_of_lt (asc_len (n := 30) hn1 fun x hx => inS30 lg ds _ _ lgl hD (fun x q e => (slotOk g x q e).2) x ((hn2 x).mp hx)) (by decide)
      have eh13 := S13 _ _ eh
      refine ⟨_, _, rfl, Sm.ints eh13 er lnh, fun H14 S14 => ⟨_, rfl, iteF ?_⟩⟩
      have eh14 := S14 _ _ eh13
      refine ⟨_, rfl, .inl ⟨rfl, _, .inl (.inl eh14)⟩, _, rfl, hh, _, _, rfl, rfl, eh14, by rw [List.length_map]; exact lt_line (by omega), ?_⟩
      have S15 : Same H11 (upd H14 hh (.lst (nh.map V.int ++ [V.int (-5)]))) := fun x o ex => by
        rw [upd_ne (ne_of_none ex nhh)]
        exact S14 _ _ (S13 _ _ (S12 _ _ ex))
      generalize upd H14 hh (.lst (nh.map V.int ++ [V.int (-5)])) = H15 at S15 ⊢
      have SS := S.trans S15
      have X15 := X8.same SS
      have hM15 := due_marks X15.L hD (hm11.same S15) (S15 _ _ eq11)
      refine ⟨24, rfl, by decide, by decide, fun Z hZ => ?_⟩
      refine lc_range (lo := 0) (n := (24 : Int).toNat) (RowAt K H15 Z (allC homC lg (liveF g (ds.map (mkOf lg)) fun _ => none))) (RowAt.start hZ) ?_ ?_
      · rintro j H16 hj R
        have hj : j < 24 := hj
        have S16 := R.1
        have ST := SS.trans S16
        refine ⟨rfl, yes_ ⟨_, rfl, _, rfl, _, rfl, _, rfl, _, rfl, lq, q, ho, 0 + (j : Int), g, 24, 30, hd + 7, ts, homC, lg, ds.map (mkOf lg), rfl, ST _ _ X8.l, by rw [lgl]; rfl, X8.L.same ST, ST _ _ eho8, hT8.same ST, hM15.same S16, by rw [List.length_map]; omega, by omega, by show (0 : Int) + (j : Int) < 24; omega, slotOk g _, fun H17 t S17 et => ?_⟩⟩
        rw [show (0 : Int) + (j : Int) = (j : Int) by omega] at et
        exact R.snoc hZ S17 (allC_at hj) et (by omega)
      intro H16 R
      obtain ⟨uz, S16, eZ, hZu⟩ := R.all (by unfold allC; rw [List.length_map, List.length_range]; rfl)
      have ST := SS.trans S16
      have X16 := X8.same ST
      have U16 := U8.same ST
      ((try dsimp only); (first | (refine Rg.sg (σ' := [some (.ref a), some (.ref p), some (.int hd), some (.bl gl), some (.ref ho), none, some (.ref lq), none, some (.ref d), some (.ref q), some (.bl g), some (.ref hh), some (.ref Z)]) ?_ ?_; focus exact rfl) | (refine Rg.sgG (σ' := [some (.ref a), some (.ref p), some (.int hd), some (.bl gl), some (.ref ho), none, some (.ref lq), none, some (.ref d), some (.ref q), some (.bl g), some (.ref hh), some (.ref Z)]) ?_ ?_; focus exact rfl)))
      refine ⟨_, rfl, _, rfl, d, g, A, hd, la, hd + 7, us, homC, lg, [], ds, rfl, X16.D, X16.L, O8, U16, hD, l7, hd0, by omega, fun H17 q17 t17 S17 _ e17 h17 => ⟨_, rfl, ?_⟩⟩
      refine ⟨_, _, rfl, Sm.rows e17 (S17 _ _ eZ) h17 (hZu.same S17) (by unfold allC; rw [List.length_map, List.length_range]; decide) (fun c hc => ?_), fun H18 S18 => ⟨_, rfl, iteF ⟨_, _, _, rfl, ((S15.trans S16).trans S17).trans S18 |> S11.trans⟩⟩⟩
      unfold allC at hc
      obtain ⟨x, _, rfl⟩ := List.mem_map.mp hc
      exact found_len homC_ok X16.L
    rintro σ H11 ⟨v10, v11, v12, rfl, S11⟩
    have S := S10.trans S11
    have X11 := X8.same S
    have U11 := U8.same S
    refine ⟨_, rfl, _, rfl, _, rfl, _, rfl, _, rfl, p, d, lq, ho, A, hd, la, hd + 7, us, ts, homC, lg, gl, rfl, X11, O8, U11, S _ _ eho8, hT8.same S, rfl, hoS, by omega, by omega, hd0, hd1, fun H12 la12 lg12 k12 X12 O12 U12 => ⟨_, rfl, iteF ?_⟩⟩
    refine ⟨_, rfl, _, rfl, _, rfl, _, rfl, p, d, lq, A, hd, la12, hd + 7, us, homC, lg12, gl, rfl, X12, O12, U12, homC_ok, by omega, hd0, hd1, fun H13 la13 lg13 ll13 k13 X13 R13 O13 U13 => ⟨_, rfl, iteF ?_⟩⟩
    -- at the end
    obtain ⟨ds', hD', l7'⟩ := due_ex X13.L 7 (hd + 1) (by omega)
    obtain ⟨du, hDu, du1, du2⟩ := due_recs R13 hD'
    have ldu : du.length = ds'.length := by rw [← List.length_map (f := (·.1)), du1, List.length_map]
    have lll : ll13.length = 30 := by
      have h1 : (recs lg13).length = (recs ll13).length := by rw [R13]
      unfold recs at h1
      rw [List.length_map, List.length_map] at h1
      have := X13.D.gl
      rw [List.length_map] at this
      omega
    have l5' : ∀ m ∈ ds'.map (mkOf lg13), m.2.1.length ≤ 5 := fun m hm' => by
      obtain ⟨pd, _, e, _⟩ := due_fit X13.L hD' hm'
      exact O13 _ _ _ _ _ e
    have slotOk' : ∀ x q, liveF gl (ds'.map (mkOf lg13)) (fun _ => none) x = some q → -1 ≤ q.2 ∧ q.2 < 30 := fun x q e =>
      liveF_slot (P := fun k => -1 ≤ k ∧ k < 30) gl x _ (fun m hm r hr => by
        obtain ⟨_, _, _, ft⟩ := due_fit X13.L hD' hm
        have := ft.2.2.2.2.1 r hr
        omega) _ (fun q z => by cases z) q e
    refine ⟨_, rfl, _, rfl, lq, hd, 24, 30, hd + 7, ll13, du, rfl, X13.l, lll, X13.LL, hDu, by omega, fun H14 q14 tq14 S14 _ e14 m14 => ?_⟩
    ((try dsimp only); (first | (refine Rg.sg (σ' := [some (.ref a), some (.ref p), some (.int hd), some (.bl gl), some (.ref ho), none, some (.ref lq), none, some (.ref d), some (.ref q14), v10, v11, v12]) ?_ ?_; focus exact rfl) | (refine Rg.sgG (σ' := [some (.ref a), some (.ref p), some (.int hd), some (.bl gl), some (.ref ho), none, some (.ref lq), none, some (.ref d), some (.ref q14), v10, v11, v12]) ?_ ?_; focus exact rfl)))
    have X14 := X13.same S14
    refine ⟨_, rfl, _, rfl, rfl, rfl, d, gl, A, 24, 5, 30, hd, la13, hd + 7, _, lg13, _, ds', rfl, X14.D, X14.L, hD', l7', l5', by decide, hd0, by omega, fun H15 hh nh S15 _ hn1 hn2 eh => ?_⟩
    refine ⟨_, rfl, _, rfl, q14, gl, 24, 30, hd + 7, hd + 1, ll13, du, tq14, rfl, S15 _ _ e14, m14.same S15, (X14.same S15).LL, hDu, by omega, by decide, fun H16 sr nr S16 _ hr1' hr2' er => ?_⟩
    have enr : nr = nh := asc_ext hr1' hn1 fun y => by rw [hr2' y, hn2 y, du2, InS.slots du1]
    rw [enr] at er
    have lnh : nh.length < 1000 := Nat.lt_of_le_of_lt (asc_len (n := 30) hn1 fun x hx => inS30 lg13 ds' _ _ (by have := X13.D.gl; rw [List.length_map] at this; omega) hD' (fun x q e => (slotOk' x q e).2) x ((hn2 x).mp hx)) (by decide)
    exact ⟨_, _, rfl, Sm.ints (S16 _ _ eh) er lnh, fun H17 _ => k H17⟩
end
end K47
open_top K47pre for PySem.Challenge.rw_lotsandties_k47_slots_that_are_read
namespace K47
open PySem PySem.Spec PyProof.Rows L2 Rg
theorem law_binds {K : PySem.W.Frag} {mg : Str → Option Value} (T : Tx K mg) (s : Shared) (v : Value) : BindsTo s T.fd_law ⟨[v], []⟩ [("_law_script", v)] := by
  obtain ⟨oc, od, kV, doc, pm, an, cdv, ct, osl, e, lk, hcd⟩ := T.F_law.ex
  rw [e]
  exact .of_eq rfl
/-- the tables of the code objects that stand written -/
def tabsK (K : PySem.W.Frag) : List Addr := K.filterMap fun p => match p.2 with
  | ⟨.type "code", _, .fields vs, _⟩ => (match (vs[11]? : Option Value) with
    | some (.ref P) => some P
    | _ => none)
  | _ => none
theorem look_mem {c : Addr} {o : Obj} : ∀ K : PySem.W.Frag, K.lookup c = some o → (c, o) ∈ K
  | [], h => by cases h
  | (a, u) :: K, h => by
    by_cases e : (c == a) = true
    · rw [List.lookup_cons, e] at h
      cases h
      rw [show c = a from beq_iff_eq.mp e]
      exact List.mem_cons_self
    · rw [List.lookup_cons, show (c == a) = false by simpa using e] at h
      exact List.mem_cons_of_mem _ (look_mem K h)
theorem tabs_all {K : PySem.W.Frag} {ts : List Addr} (h : (tabsK K).all (fun P => ts.contains P) = true) {c P : Addr} (e : PySem.W.codeHdIn K c P = true) : P ∈ ts := by
  have hp : P ∈ tabsK K := by
    unfold PySem.W.codeHdIn at e
    split at e
    · rename_i vs _ hk
      refine List.mem_filterMap.mpr ⟨_, look_mem K hk, ?_⟩
      simp only [Bool.and_eq_true] at e
      obtain ⟨⟨⟨⟨⟨e1, _⟩, _⟩, _⟩, _⟩, _⟩ := e
      split at e1
      · rename_i P' h11
        rw [show P' = P from beq_iff_eq.mp e1] at h11
        show (match (vs[11]? : Option Value) with | some (.ref P) => some P | _ => none) = some P
        rw [h11]
      · cases e1
    · cases e
  simpa using List.all_eq_true.mp h P hp
theorem fin_G {l : PySem.W.OpenLaw} {w : World} {K : PySem.W.Frag} {mg : Str → Option Value} {fa : Addr} {h : Heap} {ts : List Addr} (z : Nonempty (Tx K mg)) (hmg : mg "law" = some (.ref fa)) (KX : K.In h) (TT : ∀ P ∈ ts, h.get? P = some { cls := .none, data := .fields #[] }) (TK : ∀ {c P : Addr}, PySem.W.codeHdIn K c P = true → P ∈ ts) :
    LamX.LawAtS l w K L2.CX0 14 63 "_law_script" mg fa h := by
  obtain ⟨T⟩ := z
  have e : T.f_law = fa := Value.ref.inj (Option.some.inj (T.mg_law.symm.trans hmg))
  subst e
  refine ⟨T.fd_law, [(T.cc_is_cell_row, T.P_is_cell_row), (T.cc_is_ascending, T.P_is_ascending), (T.cc_are_pairs, T.P_are_pairs), (T.cc_are_revokes, T.P_are_revokes), (T.cc_fits_plan, T.P_fits_plan), (T.cc_Disk_busy, T.P_Disk_busy)], sp_law K T.Ps, List.forall_mem_cons.mpr ⟨TT _ (TK T.ch_is_cell_row), List.forall_mem_cons.mpr ⟨TT _ (TK T.ch_is_ascending), List.forall_mem_cons.mpr ⟨TT _ (TK T.ch_are_pairs), List.forall_mem_cons.mpr ⟨TT _ (TK T.ch_are_revokes), List.forall_mem_cons.mpr ⟨TT _ (TK T.ch_fits_plan), List.forall_mem_cons.mpr ⟨TT _ (TK T.ch_Disk_busy), fun _ z => nomatch z⟩⟩⟩⟩⟩⟩, List.forall_mem_cons.mpr ⟨T.cn_is_cell_row, List.forall_mem_cons.mpr ⟨T.cn_is_ascending, List.forall_mem_cons.mpr ⟨T.cn_are_pairs, List.forall_mem_cons.mpr ⟨T.cn_are_revokes, List.forall_mem_cons.mpr ⟨T.cn_fits_plan, List.forall_mem_cons.mpr ⟨T.cn_Disk_busy, fun _ z => nomatch z⟩⟩⟩⟩⟩⟩, List.forall_mem_cons.mpr ⟨PySem.W.codeHd_of_K KX T.ch_is_cell_row, List.forall_mem_cons.mpr ⟨PySem.W.codeHd_of_K KX T.ch_is_ascending, List.forall_mem_cons.mpr ⟨PySem.W.codeHd_of_K KX T.ch_are_pairs, List.forall_mem_cons.mpr ⟨PySem.W.codeHd_of_K KX T.ch_are_revokes, List.forall_mem_cons.mpr ⟨PySem.W.codeHd_of_K KX T.ch_fits_plan, List.forall_mem_cons.mpr ⟨PySem.W.codeHd_of_K KX T.ch_Disk_busy, fun _ z => nomatch z⟩⟩⟩⟩⟩⟩, fun s v => law_binds T s v, fun H a ns hl _ hT hS => ⟨a, ns, rfl, ?_, hS, hl, fun _ => rfl⟩, fun base _ _ TB => ok_law T ⟨TB (T.cc_is_cell_row, T.P_is_cell_row) (by simp), TB (T.cc_is_ascending, T.P_is_ascending) (by simp), TB (T.cc_are_pairs, T.P_are_pairs) (by simp), TB (T.cc_are_revokes, T.P_are_revokes) (by simp), TB (T.cc_fits_plan, T.P_fits_plan) (by simp), TB (T.cc_Disk_busy, T.P_Disk_busy) (by simp)⟩⟩
  exact List.forall_mem_cons.mpr ⟨⟨#[], hT (T.cc_is_cell_row, T.P_is_cell_row) (by simp), True.intro⟩, List.forall_mem_cons.mpr ⟨⟨#[], hT (T.cc_is_ascending, T.P_is_ascending) (by simp), True.intro⟩, List.forall_mem_cons.mpr ⟨⟨#[], hT (T.cc_are_pairs, T.P_are_pairs) (by simp), True.intro⟩, List.forall_mem_cons.mpr ⟨⟨#[], hT (T.cc_are_revokes, T.P_are_revokes) (by simp), True.intro⟩, List.forall_mem_cons.mpr ⟨⟨#[], hT (T.cc_fits_plan, T.P_fits_plan) (by simp), True.intro⟩, List.forall_mem_cons.mpr ⟨⟨#[], hT (T.cc_Disk_busy, T.P_Disk_busy) (by simp), True.intro⟩, fun _ z => nomatch z⟩⟩⟩⟩⟩⟩
theorem all_mk {w : World} {K : PySem.W.Frag} {h : Heap} {mg : Str → Option Value} (X : K.In h) (G : h.Ns mainGlobals mg)
    {a_is_number : Addr}
    {od_is_number an_is_number : Option Addr} {sl_is_number : Array (Option Value)} {oc_is_number kV_is_number dc_is_number pm_is_number cd_is_number ct_is_number : Value}
    (l_is_number : K.lookup a_is_number = some ⟨oc_is_number, od_is_number, .func (PySem.W.fnOf "is_number" "is_number" (defArgs s_is_number) (defBody s_is_number) (defScope s_is_number) .none kV_is_number dc_is_number pm_is_number an_is_number cd_is_number ct_is_number), sl_is_number⟩)
    (c_is_number : PySem.W.codeIn K cd_is_number "is_number" = true)
    (k_is_number : PySem.W.keepIn K (.ref a_is_number) = true)
    (g_is_number : PySem.W.nsIn K mainGlobals "is_number" = some (some (.ref a_is_number)))
    {a_is_cell : Addr}
    {od_is_cell an_is_cell : Option Addr} {sl_is_cell : Array (Option Value)} {oc_is_cell kV_is_cell dc_is_cell pm_is_cell cd_is_cell ct_is_cell : Value}
    (l_is_cell : K.lookup a_is_cell = some ⟨oc_is_cell, od_is_cell, .func (PySem.W.fnOf "is_cell" "is_cell" (defArgs s_is_cell) (defBody s_is_cell) (defScope s_is_cell) .none kV_is_cell dc_is_cell pm_is_cell an_is_cell cd_is_cell ct_is_cell), sl_is_cell⟩)
    (c_is_cell : PySem.W.codeIn K cd_is_cell "is_cell" = true)
    (k_is_cell : PySem.W.keepIn K (.ref a_is_cell) = true)
    (g_is_cell : PySem.W.nsIn K mainGlobals "is_cell" = some (some (.ref a_is_cell)))
    {a_is_block : Addr}
    {od_is_block an_is_block : Option Addr} {sl_is_block : Array (Option Value)} {oc_is_block kV_is_block dc_is_block pm_is_block cd_is_block ct_is_block : Value}
    (l_is_block : K.lookup a_is_block = some ⟨oc_is_block, od_is_block, .func (PySem.W.fnOf "is_block" "is_block" (defArgs s_is_block) (defBody s_is_block) (defScope s_is_block) .none kV_is_block dc_is_block pm_is_block an_is_block cd_is_block ct_is_block), sl_is_block⟩)
    (c_is_block : PySem.W.codeIn K cd_is_block "is_block" = true)
    (k_is_block : PySem.W.keepIn K (.ref a_is_block) = true)
    (g_is_block : PySem.W.nsIn K mainGlobals "is_block" = some (some (.ref a_is_block)))
    {a_is_cell_row : Addr}
    {od_is_cell_row an_is_cell_row : Option Addr} {sl_is_cell_row : Array (Option Value)} {oc_is_cell_row kV_is_cell_row dc_is_cell_row pm_is_cell_row cd_is_cell_row ct_is_cell_row : Value}
    (l_is_cell_row : K.lookup a_is_cell_row = some ⟨oc_is_cell_row, od_is_cell_row, .func (PySem.W.fnOf "is_cell_row" "is_cell_row" (defArgs s_is_cell_row) (defBody s_is_cell_row) (defScope s_is_cell_row) .none kV_is_cell_row dc_is_cell_row pm_is_cell_row an_is_cell_row cd_is_cell_row ct_is_cell_row), sl_is_cell_row⟩)
    (c_is_cell_row : PySem.W.codeIn K cd_is_cell_row "is_cell_row" = true)
    (k_is_cell_row : PySem.W.keepIn K (.ref a_is_cell_row) = true)
    (g_is_cell_row : PySem.W.nsIn K mainGlobals "is_cell_row" = some (some (.ref a_is_cell_row)))
    {ac_is_cell_row : Addr}
    (cc1_is_cell_row : cd_is_cell_row = .ref ac_is_cell_row)
    (ch1_is_cell_row : PySem.W.codeHdIn K ac_is_cell_row (He.tabOf K ac_is_cell_row) = true)
    (cn1_is_cell_row : K.lookup (He.tabOf K ac_is_cell_row) = none)
    {a_is_ascending : Addr}
    {od_is_ascending an_is_ascending : Option Addr} {sl_is_ascending : Array (Option Value)} {oc_is_ascending kV_is_ascending dc_is_ascending pm_is_ascending cd_is_ascending ct_is_ascending : Value}
    (l_is_ascending : K.lookup a_is_ascending = some ⟨oc_is_ascending, od_is_ascending, .func (PySem.W.fnOf "is_ascending" "is_ascending" (defArgs s_is_ascending) (defBody s_is_ascending) (defScope s_is_ascending) .none kV_is_ascending dc_is_ascending pm_is_ascending an_is_ascending cd_is_ascending ct_is_ascending), sl_is_ascending⟩)
    (c_is_ascending : PySem.W.codeIn K cd_is_ascending "is_ascending" = true)
    (k_is_ascending : PySem.W.keepIn K (.ref a_is_ascending) = true)
    (g_is_ascending : PySem.W.nsIn K mainGlobals "is_ascending" = some (some (.ref a_is_ascending)))
    {ac_is_ascending : Addr}
    (cc1_is_ascending : cd_is_ascending = .ref ac_is_ascending)
    (ch1_is_ascending : PySem.W.codeHdIn K ac_is_ascending (He.tabOf K ac_is_ascending) = true)
    (cn1_is_ascending : K.lookup (He.tabOf K ac_is_ascending) = none)
    {a_is_pair : Addr}
    {od_is_pair an_is_pair : Option Addr} {sl_is_pair : Array (Option Value)} {oc_is_pair kV_is_pair dc_is_pair pm_is_pair cd_is_pair ct_is_pair : Value}
    (l_is_pair : K.lookup a_is_pair = some ⟨oc_is_pair, od_is_pair, .func (PySem.W.fnOf "_is_pair" "_is_pair" (defArgs s_is_pair) (defBody s_is_pair) (defScope s_is_pair) .none kV_is_pair dc_is_pair pm_is_pair an_is_pair cd_is_pair ct_is_pair), sl_is_pair⟩)
    (c_is_pair : PySem.W.codeIn K cd_is_pair "_is_pair" = true)
    (k_is_pair : PySem.W.keepIn K (.ref a_is_pair) = true)
    (g_is_pair : PySem.W.nsIn K mainGlobals "_is_pair" = some (some (.ref a_is_pair)))
    {a_are_pairs : Addr}
    {od_are_pairs an_are_pairs : Option Addr} {sl_are_pairs : Array (Option Value)} {oc_are_pairs kV_are_pairs dc_are_pairs pm_are_pairs cd_are_pairs ct_are_pairs : Value}
    (l_are_pairs : K.lookup a_are_pairs = some ⟨oc_are_pairs, od_are_pairs, .func (PySem.W.fnOf "_are_pairs" "_are_pairs" (defArgs s_are_pairs) (defBody s_are_pairs) (defScope s_are_pairs) .none kV_are_pairs dc_are_pairs pm_are_pairs an_are_pairs cd_are_pairs ct_are_pairs), sl_are_pairs⟩)
    (c_are_pairs : PySem.W.codeIn K cd_are_pairs "_are_pairs" = true)
    (k_are_pairs : PySem.W.keepIn K (.ref a_are_pairs) = true)
    (g_are_pairs : PySem.W.nsIn K mainGlobals "_are_pairs" = some (some (.ref a_are_pairs)))
    {ac_are_pairs : Addr}
    (cc1_are_pairs : cd_are_pairs = .ref ac_are_pairs)
    (ch1_are_pairs : PySem.W.codeHdIn K ac_are_pairs (He.tabOf K ac_are_pairs) = true)
    (cn1_are_pairs : K.lookup (He.tabOf K ac_are_pairs) = none)
    {a_are_revokes : Addr}
    {od_are_revokes an_are_revokes : Option Addr} {sl_are_revokes : Array (Option Value)} {oc_are_revokes kV_are_revokes dc_are_revokes pm_are_revokes cd_are_revokes ct_are_revokes : Value}
    (l_are_revokes : K.lookup a_are_revokes = some ⟨oc_are_revokes, od_are_revokes, .func (PySem.W.fnOf "_are_revokes" "_are_revokes" (defArgs s_are_revokes) (defBody s_are_revokes) (defScope s_are_revokes) .none kV_are_revokes dc_are_revokes pm_are_revokes an_are_revokes cd_are_revokes ct_are_revokes), sl_are_revokes⟩)
    (c_are_revokes : PySem.W.codeIn K cd_are_revokes "_are_revokes" = true)
    (k_are_revokes : PySem.W.keepIn K (.ref a_are_revokes) = true)
    (g_are_revokes : PySem.W.nsIn K mainGlobals "_are_revokes" = some (some (.ref a_are_revokes)))
    {ac_are_revokes : Addr}
    (cc1_are_revokes : cd_are_revokes = .ref ac_are_revokes)
    (ch1_are_revokes : PySem.W.codeHdIn K ac_are_revokes (He.tabOf K ac_are_revokes) = true)
    (cn1_are_revokes : K.lookup (He.tabOf K ac_are_revokes) = none)
    {a_is_record : Addr}
    {od_is_record an_is_record : Option Addr} {sl_is_record : Array (Option Value)} {oc_is_record kV_is_record dc_is_record pm_is_record cd_is_record ct_is_record : Value}
    (l_is_record : K.lookup a_is_record = some ⟨oc_is_record, od_is_record, .func (PySem.W.fnOf "is_record" "is_record" (defArgs s_is_record) (defBody s_is_record) (defScope s_is_record) .none kV_is_record dc_is_record pm_is_record an_is_record cd_is_record ct_is_record), sl_is_record⟩)
    (c_is_record : PySem.W.codeIn K cd_is_record "is_record" = true)
    (k_is_record : PySem.W.keepIn K (.ref a_is_record) = true)
    (g_is_record : PySem.W.nsIn K mainGlobals "is_record" = some (some (.ref a_is_record)))
    {a_fits_plan : Addr}
    {od_fits_plan an_fits_plan : Option Addr} {sl_fits_plan : Array (Option Value)} {oc_fits_plan kV_fits_plan dc_fits_plan pm_fits_plan cd_fits_plan ct_fits_plan : Value}
    (l_fits_plan : K.lookup a_fits_plan = some ⟨oc_fits_plan, od_fits_plan, .func (PySem.W.fnOf "fits_plan" "fits_plan" (defArgs s_fits_plan) (defBody s_fits_plan) (defScope s_fits_plan) .none kV_fits_plan dc_fits_plan pm_fits_plan an_fits_plan cd_fits_plan ct_fits_plan), sl_fits_plan⟩)
    (c_fits_plan : PySem.W.codeIn K cd_fits_plan "fits_plan" = true)
    (k_fits_plan : PySem.W.keepIn K (.ref a_fits_plan) = true)
    (g_fits_plan : PySem.W.nsIn K mainGlobals "fits_plan" = some (some (.ref a_fits_plan)))
    {ac_fits_plan : Addr}
    (cc1_fits_plan : cd_fits_plan = .ref ac_fits_plan)
    (ch1_fits_plan : PySem.W.codeHdIn K ac_fits_plan (He.tabOf K ac_fits_plan) = true)
    (cn1_fits_plan : K.lookup (He.tabOf K ac_fits_plan) = none)
    {a_found_marks : Addr}
    {od_found_marks an_found_marks : Option Addr} {sl_found_marks : Array (Option Value)} {oc_found_marks kV_found_marks dc_found_marks pm_found_marks cd_found_marks ct_found_marks : Value}
    (l_found_marks : K.lookup a_found_marks = some ⟨oc_found_marks, od_found_marks, .func (PySem.W.fnOf "found_marks" "found_marks" (defArgs s_found_marks) (defBody s_found_marks) (defScope s_found_marks) .none kV_found_marks dc_found_marks pm_found_marks an_found_marks cd_found_marks ct_found_marks), sl_found_marks⟩)
    (c_found_marks : PySem.W.codeIn K cd_found_marks "found_marks" = true)
    (k_found_marks : PySem.W.keepIn K (.ref a_found_marks) = true)
    (g_found_marks : PySem.W.nsIn K mainGlobals "found_marks" = some (some (.ref a_found_marks)))
    {a_live_copies : Addr}
    {od_live_copies an_live_copies : Option Addr} {sl_live_copies : Array (Option Value)} {oc_live_copies kV_live_copies dc_live_copies pm_live_copies cd_live_copies ct_live_copies : Value}
    (l_live_copies : K.lookup a_live_copies = some ⟨oc_live_copies, od_live_copies, .func (PySem.W.fnOf "live_copies" "live_copies" (defArgs s_live_copies) (defBody s_live_copies) (defScope s_live_copies) .none kV_live_copies dc_live_copies pm_live_copies an_live_copies cd_live_copies ct_live_copies), sl_live_copies⟩)
    (c_live_copies : PySem.W.codeIn K cd_live_copies "live_copies" = true)
    (k_live_copies : PySem.W.keepIn K (.ref a_live_copies) = true)
    (g_live_copies : PySem.W.nsIn K mainGlobals "live_copies" = some (some (.ref a_live_copies)))
    {a_cells_found : Addr}
    {od_cells_found an_cells_found : Option Addr} {sl_cells_found : Array (Option Value)} {oc_cells_found kV_cells_found dc_cells_found pm_cells_found cd_cells_found ct_cells_found : Value}
    (l_cells_found : K.lookup a_cells_found = some ⟨oc_cells_found, od_cells_found, .func (PySem.W.fnOf "cells_found" "cells_found" (defArgs s_cells_found) (defBody s_cells_found) (defScope s_cells_found) .none kV_cells_found dc_cells_found pm_cells_found an_cells_found cd_cells_found ct_cells_found), sl_cells_found⟩)
    (c_cells_found : PySem.W.codeIn K cd_cells_found "cells_found" = true)
    (k_cells_found : PySem.W.keepIn K (.ref a_cells_found) = true)
    (g_cells_found : PySem.W.nsIn K mainGlobals "cells_found" = some (some (.ref a_cells_found)))
    {a_cells_after : Addr}
    {od_cells_after an_cells_after : Option Addr} {sl_cells_after : Array (Option Value)} {oc_cells_after kV_cells_after dc_cells_after pm_cells_after cd_cells_after ct_cells_after : Value}
    (l_cells_after : K.lookup a_cells_after = some ⟨oc_cells_after, od_cells_after, .func (PySem.W.fnOf "cells_after" "cells_after" (defArgs s_cells_after) (defBody s_cells_after) (defScope s_cells_after) .none kV_cells_after dc_cells_after pm_cells_after an_cells_after cd_cells_after ct_cells_after), sl_cells_after⟩)
    (c_cells_after : PySem.W.codeIn K cd_cells_after "cells_after" = true)
    (k_cells_after : PySem.W.keepIn K (.ref a_cells_after) = true)
    (g_cells_after : PySem.W.nsIn K mainGlobals "cells_after" = some (some (.ref a_cells_after)))
    {a_slots_read : Addr}
    {od_slots_read an_slots_read : Option Addr} {sl_slots_read : Array (Option Value)} {oc_slots_read kV_slots_read dc_slots_read pm_slots_read cd_slots_read ct_slots_read : Value}
    (l_slots_read : K.lookup a_slots_read = some ⟨oc_slots_read, od_slots_read, .func (PySem.W.fnOf "slots_read" "slots_read" (defArgs s_slots_read) (defBody s_slots_read) (defScope s_slots_read) .none kV_slots_read dc_slots_read pm_slots_read an_slots_read cd_slots_read ct_slots_read), sl_slots_read⟩)
    (c_slots_read : PySem.W.codeIn K cd_slots_read "slots_read" = true)
    (k_slots_read : PySem.W.keepIn K (.ref a_slots_read) = true)
    (g_slots_read : PySem.W.nsIn K mainGlobals "slots_read" = some (some (.ref a_slots_read)))
    {a_is_place : Addr}
    {od_is_place an_is_place : Option Addr} {sl_is_place : Array (Option Value)} {oc_is_place kV_is_place dc_is_place pm_is_place cd_is_place ct_is_place : Value}
    (l_is_place : K.lookup a_is_place = some ⟨oc_is_place, od_is_place, .func (PySem.W.fnOf "_is_place" "_is_place" (defArgs s_is_place) (defBody s_is_place) (defScope s_is_place) .none kV_is_place dc_is_place pm_is_place an_is_place cd_is_place ct_is_place), sl_is_place⟩)
    (c_is_place : PySem.W.codeIn K cd_is_place "_is_place" = true)
    (k_is_place : PySem.W.keepIn K (.ref a_is_place) = true)
    (g_is_place : PySem.W.nsIn K mainGlobals "_is_place" = some (some (.ref a_is_place)))
    {a_is_content : Addr}
    {od_is_content an_is_content : Option Addr} {sl_is_content : Array (Option Value)} {oc_is_content kV_is_content dc_is_content pm_is_content cd_is_content ct_is_content : Value}
    (l_is_content : K.lookup a_is_content = some ⟨oc_is_content, od_is_content, .func (PySem.W.fnOf "_is_content" "_is_content" (defArgs s_is_content) (defBody s_is_content) (defScope s_is_content) .none kV_is_content dc_is_content pm_is_content an_is_content cd_is_content ct_is_content), sl_is_content⟩)
    (c_is_content : PySem.W.codeIn K cd_is_content "_is_content" = true)
    (k_is_content : PySem.W.keepIn K (.ref a_is_content) = true)
    (g_is_content : PySem.W.nsIn K mainGlobals "_is_content" = some (some (.ref a_is_content)))
    {a_Lfeed : Addr}
    {od_Lfeed an_Lfeed : Option Addr} {sl_Lfeed : Array (Option Value)} {oc_Lfeed kV_Lfeed dc_Lfeed pm_Lfeed cd_Lfeed ct_Lfeed : Value}
    (l_Lfeed : K.lookup a_Lfeed = some ⟨oc_Lfeed, od_Lfeed, .func (PySem.W.fnOf "_law_feed" "_law_feed" (defArgs s_Lfeed) (defBody s_Lfeed) (defScope s_Lfeed) .none kV_Lfeed dc_Lfeed pm_Lfeed an_Lfeed cd_Lfeed ct_Lfeed), sl_Lfeed⟩)
    (c_Lfeed : PySem.W.codeIn K cd_Lfeed "_law_feed" = true)
    (k_Lfeed : PySem.W.keepIn K (.ref a_Lfeed) = true)
    (g_Lfeed : PySem.W.nsIn K mainGlobals "_law_feed" = some (some (.ref a_Lfeed)))
    {a_Lpick : Addr}
    {od_Lpick an_Lpick : Option Addr} {sl_Lpick : Array (Option Value)} {oc_Lpick kV_Lpick dc_Lpick pm_Lpick cd_Lpick ct_Lpick : Value}
    (l_Lpick : K.lookup a_Lpick = some ⟨oc_Lpick, od_Lpick, .func (PySem.W.fnOf "_law_pick" "_law_pick" (defArgs s_Lpick) (defBody s_Lpick) (defScope s_Lpick) .none kV_Lpick dc_Lpick pm_Lpick an_Lpick cd_Lpick ct_Lpick), sl_Lpick⟩)
    (c_Lpick : PySem.W.codeIn K cd_Lpick "_law_pick" = true)
    (k_Lpick : PySem.W.keepIn K (.ref a_Lpick) = true)
    (g_Lpick : PySem.W.nsIn K mainGlobals "_law_pick" = some (some (.ref a_Lpick)))
    {a_Lsame : Addr}
    {od_Lsame an_Lsame : Option Addr} {sl_Lsame : Array (Option Value)} {oc_Lsame kV_Lsame dc_Lsame pm_Lsame cd_Lsame ct_Lsame : Value}
    (l_Lsame : K.lookup a_Lsame = some ⟨oc_Lsame, od_Lsame, .func (PySem.W.fnOf "_law_same" "_law_same" (defArgs s_Lsame) (defBody s_Lsame) (defScope s_Lsame) .none kV_Lsame dc_Lsame pm_Lsame an_Lsame cd_Lsame ct_Lsame), sl_Lsame⟩)
    (c_Lsame : PySem.W.codeIn K cd_Lsame "_law_same" = true)
    (k_Lsame : PySem.W.keepIn K (.ref a_Lsame) = true)
    (g_Lsame : PySem.W.nsIn K mainGlobals "_law_same" = some (some (.ref a_Lsame)))
    {a_Lslot : Addr}
    {od_Lslot an_Lslot : Option Addr} {sl_Lslot : Array (Option Value)} {oc_Lslot kV_Lslot dc_Lslot pm_Lslot cd_Lslot ct_Lslot : Value}
    (l_Lslot : K.lookup a_Lslot = some ⟨oc_Lslot, od_Lslot, .func (PySem.W.fnOf "_law_slot" "_law_slot" (defArgs s_Lslot) (defBody s_Lslot) (defScope s_Lslot) .none kV_Lslot dc_Lslot pm_Lslot an_Lslot cd_Lslot ct_Lslot), sl_Lslot⟩)
    (c_Lslot : PySem.W.codeIn K cd_Lslot "_law_slot" = true)
    (k_Lslot : PySem.W.keepIn K (.ref a_Lslot) = true)
    (g_Lslot : PySem.W.nsIn K mainGlobals "_law_slot" = some (some (.ref a_Lslot)))
    {a_Lmark : Addr}
    {od_Lmark an_Lmark : Option Addr} {sl_Lmark : Array (Option Value)} {oc_Lmark kV_Lmark dc_Lmark pm_Lmark cd_Lmark ct_Lmark : Value}
    (l_Lmark : K.lookup a_Lmark = some ⟨oc_Lmark, od_Lmark, .func (PySem.W.fnOf "_law_mark" "_law_mark" (defArgs s_Lmark) (defBody s_Lmark) (defScope s_Lmark) .none kV_Lmark dc_Lmark pm_Lmark an_Lmark cd_Lmark ct_Lmark), sl_Lmark⟩)
    (c_Lmark : PySem.W.codeIn K cd_Lmark "_law_mark" = true)
    (k_Lmark : PySem.W.keepIn K (.ref a_Lmark) = true)
    (g_Lmark : PySem.W.nsIn K mainGlobals "_law_mark" = some (some (.ref a_Lmark)))
    {a_Lput : Addr}
    {od_Lput an_Lput : Option Addr} {sl_Lput : Array (Option Value)} {oc_Lput kV_Lput dc_Lput pm_Lput cd_Lput ct_Lput : Value}
    (l_Lput : K.lookup a_Lput = some ⟨oc_Lput, od_Lput, .func (PySem.W.fnOf "_law_put" "_law_put" (defArgs s_Lput) (defBody s_Lput) (defScope s_Lput) .none kV_Lput dc_Lput pm_Lput an_Lput cd_Lput ct_Lput), sl_Lput⟩)
    (c_Lput : PySem.W.codeIn K cd_Lput "_law_put" = true)
    (k_Lput : PySem.W.keepIn K (.ref a_Lput) = true)
    (g_Lput : PySem.W.nsIn K mainGlobals "_law_put" = some (some (.ref a_Lput)))
    {a_Lcopies : Addr}
    {od_Lcopies an_Lcopies : Option Addr} {sl_Lcopies : Array (Option Value)} {oc_Lcopies kV_Lcopies dc_Lcopies pm_Lcopies cd_Lcopies ct_Lcopies : Value}
    (l_Lcopies : K.lookup a_Lcopies = some ⟨oc_Lcopies, od_Lcopies, .func (PySem.W.fnOf "_law_copies" "_law_copies" (defArgs s_Lcopies) (defBody s_Lcopies) (defScope s_Lcopies) .none kV_Lcopies dc_Lcopies pm_Lcopies an_Lcopies cd_Lcopies ct_Lcopies), sl_Lcopies⟩)
    (c_Lcopies : PySem.W.codeIn K cd_Lcopies "_law_copies" = true)
    (k_Lcopies : PySem.W.keepIn K (.ref a_Lcopies) = true)
    (g_Lcopies : PySem.W.nsIn K mainGlobals "_law_copies" = some (some (.ref a_Lcopies)))
    {a_Ldisk : Addr}
    {od_Ldisk an_Ldisk : Option Addr} {sl_Ldisk : Array (Option Value)} {oc_Ldisk kV_Ldisk dc_Ldisk pm_Ldisk cd_Ldisk ct_Ldisk : Value}
    (l_Ldisk : K.lookup a_Ldisk = some ⟨oc_Ldisk, od_Ldisk, .func (PySem.W.fnOf "_law_disk" "_law_disk" (defArgs s_Ldisk) (defBody s_Ldisk) (defScope s_Ldisk) .none kV_Ldisk dc_Ldisk pm_Ldisk an_Ldisk cd_Ldisk ct_Ldisk), sl_Ldisk⟩)
    (c_Ldisk : PySem.W.codeIn K cd_Ldisk "_law_disk" = true)
    (k_Ldisk : PySem.W.keepIn K (.ref a_Ldisk) = true)
    (g_Ldisk : PySem.W.nsIn K mainGlobals "_law_disk" = some (some (.ref a_Ldisk)))
    {a_Lmarks : Addr}
    {od_Lmarks an_Lmarks : Option Addr} {sl_Lmarks : Array (Option Value)} {oc_Lmarks kV_Lmarks dc_Lmarks pm_Lmarks cd_Lmarks ct_Lmarks : Value}
    (l_Lmarks : K.lookup a_Lmarks = some ⟨oc_Lmarks, od_Lmarks, .func (PySem.W.fnOf "_law_marks" "_law_marks" (defArgs s_Lmarks) (defBody s_Lmarks) (defScope s_Lmarks) .none kV_Lmarks dc_Lmarks pm_Lmarks an_Lmarks cd_Lmarks ct_Lmarks), sl_Lmarks⟩)
    (c_Lmarks : PySem.W.codeIn K cd_Lmarks "_law_marks" = true)
    (k_Lmarks : PySem.W.keepIn K (.ref a_Lmarks) = true)
    (g_Lmarks : PySem.W.nsIn K mainGlobals "_law_marks" = some (some (.ref a_Lmarks)))
    {a_Llive : Addr}
    {od_Llive an_Llive : Option Addr} {sl_Llive : Array (Option Value)} {oc_Llive kV_Llive dc_Llive pm_Llive cd_Llive ct_Llive : Value}
    (l_Llive : K.lookup a_Llive = some ⟨oc_Llive, od_Llive, .func (PySem.W.fnOf "_law_live" "_law_live" (defArgs s_Llive) (defBody s_Llive) (defScope s_Llive) .none kV_Llive dc_Llive pm_Llive an_Llive cd_Llive ct_Llive), sl_Llive⟩)
    (c_Llive : PySem.W.codeIn K cd_Llive "_law_live" = true)
    (k_Llive : PySem.W.keepIn K (.ref a_Llive) = true)
    (g_Llive : PySem.W.nsIn K mainGlobals "_law_live" = some (some (.ref a_Llive)))
    {a_Lslots : Addr}
    {od_Lslots an_Lslots : Option Addr} {sl_Lslots : Array (Option Value)} {oc_Lslots kV_Lslots dc_Lslots pm_Lslots cd_Lslots ct_Lslots : Value}
    (l_Lslots : K.lookup a_Lslots = some ⟨oc_Lslots, od_Lslots, .func (PySem.W.fnOf "_law_slots" "_law_slots" (defArgs s_Lslots) (defBody s_Lslots) (defScope s_Lslots) .none kV_Lslots dc_Lslots pm_Lslots an_Lslots cd_Lslots ct_Lslots), sl_Lslots⟩)
    (c_Lslots : PySem.W.codeIn K cd_Lslots "_law_slots" = true)
    (k_Lslots : PySem.W.keepIn K (.ref a_Lslots) = true)
    (g_Lslots : PySem.W.nsIn K mainGlobals "_law_slots" = some (some (.ref a_Lslots)))
    {a_Lcells : Addr}
    {od_Lcells an_Lcells : Option Addr} {sl_Lcells : Array (Option Value)} {oc_Lcells kV_Lcells dc_Lcells pm_Lcells cd_Lcells ct_Lcells : Value}
    (l_Lcells : K.lookup a_Lcells = some ⟨oc_Lcells, od_Lcells, .func (PySem.W.fnOf "_law_cells" "_law_cells" (defArgs s_Lcells) (defBody s_Lcells) (defScope s_Lcells) .none kV_Lcells dc_Lcells pm_Lcells an_Lcells cd_Lcells ct_Lcells), sl_Lcells⟩)
    (c_Lcells : PySem.W.codeIn K cd_Lcells "_law_cells" = true)
    (k_Lcells : PySem.W.keepIn K (.ref a_Lcells) = true)
    (g_Lcells : PySem.W.nsIn K mainGlobals "_law_cells" = some (some (.ref a_Lcells)))
    {a_Lall_cells : Addr}
    {od_Lall_cells an_Lall_cells : Option Addr} {sl_Lall_cells : Array (Option Value)} {oc_Lall_cells kV_Lall_cells dc_Lall_cells pm_Lall_cells cd_Lall_cells ct_Lall_cells : Value}
    (l_Lall_cells : K.lookup a_Lall_cells = some ⟨oc_Lall_cells, od_Lall_cells, .func (PySem.W.fnOf "_law_all_cells" "_law_all_cells" (defArgs s_Lall_cells) (defBody s_Lall_cells) (defScope s_Lall_cells) .none kV_Lall_cells dc_Lall_cells pm_Lall_cells an_Lall_cells cd_Lall_cells ct_Lall_cells), sl_Lall_cells⟩)
    (c_Lall_cells : PySem.W.codeIn K cd_Lall_cells "_law_all_cells" = true)
    (k_Lall_cells : PySem.W.keepIn K (.ref a_Lall_cells) = true)
    (g_Lall_cells : PySem.W.nsIn K mainGlobals "_law_all_cells" = some (some (.ref a_Lall_cells)))
    {a_Lother_slots : Addr}
    {od_Lother_slots an_Lother_slots : Option Addr} {sl_Lother_slots : Array (Option Value)} {oc_Lother_slots kV_Lother_slots dc_Lother_slots pm_Lother_slots cd_Lother_slots ct_Lother_slots : Value}
    (l_Lother_slots : K.lookup a_Lother_slots = some ⟨oc_Lother_slots, od_Lother_slots, .func (PySem.W.fnOf "_law_other_slots" "_law_other_slots" (defArgs s_Lother_slots) (defBody s_Lother_slots) (defScope s_Lother_slots) .none kV_Lother_slots dc_Lother_slots pm_Lother_slots an_Lother_slots cd_Lother_slots ct_Lother_slots), sl_Lother_slots⟩)
    (c_Lother_slots : PySem.W.codeIn K cd_Lother_slots "_law_other_slots" = true)
    (k_Lother_slots : PySem.W.keepIn K (.ref a_Lother_slots) = true)
    (g_Lother_slots : PySem.W.nsIn K mainGlobals "_law_other_slots" = some (some (.ref a_Lother_slots)))
    {a_Ltold_slots : Addr}
    {od_Ltold_slots an_Ltold_slots : Option Addr} {sl_Ltold_slots : Array (Option Value)} {oc_Ltold_slots kV_Ltold_slots dc_Ltold_slots pm_Ltold_slots cd_Ltold_slots ct_Ltold_slots : Value}
    (l_Ltold_slots : K.lookup a_Ltold_slots = some ⟨oc_Ltold_slots, od_Ltold_slots, .func (PySem.W.fnOf "_law_told_slots" "_law_told_slots" (defArgs s_Ltold_slots) (defBody s_Ltold_slots) (defScope s_Ltold_slots) .none kV_Ltold_slots dc_Ltold_slots pm_Ltold_slots an_Ltold_slots cd_Ltold_slots ct_Ltold_slots), sl_Ltold_slots⟩)
    (c_Ltold_slots : PySem.W.codeIn K cd_Ltold_slots "_law_told_slots" = true)
    (k_Ltold_slots : PySem.W.keepIn K (.ref a_Ltold_slots) = true)
    (g_Ltold_slots : PySem.W.nsIn K mainGlobals "_law_told_slots" = some (some (.ref a_Ltold_slots)))
    {a_law : Addr}
    {od_law an_law : Option Addr} {sl_law : Array (Option Value)} {oc_law kV_law dc_law pm_law cd_law ct_law : Value}
    (l_law : K.lookup a_law = some ⟨oc_law, od_law, .func (PySem.W.fnOf "law" "law" (defArgs s_law) (defBody s_law) (defScope s_law) .none kV_law dc_law pm_law an_law cd_law ct_law), sl_law⟩)
    (c_law : PySem.W.codeIn K cd_law "law" = true)
    (k_law : PySem.W.keepIn K (.ref a_law) = true)
    (g_law : PySem.W.nsIn K mainGlobals "law" = some (some (.ref a_law)))
    {a_Plan___init__ : Addr}
    {od_Plan___init__ an_Plan___init__ : Option Addr} {sl_Plan___init__ : Array (Option Value)} {oc_Plan___init__ kV_Plan___init__ dc_Plan___init__ pm_Plan___init__ cd_Plan___init__ ct_Plan___init__ : Value}
    (l_Plan___init__ : K.lookup a_Plan___init__ = some ⟨oc_Plan___init__, od_Plan___init__, .func (PySem.W.fnOf "__init__" "Plan.__init__" (defArgs s_Plan___init__) (defBody s_Plan___init__) (defScope s_Plan___init__) .none kV_Plan___init__ dc_Plan___init__ pm_Plan___init__ an_Plan___init__ cd_Plan___init__ ct_Plan___init__), sl_Plan___init__⟩)
    (c_Plan___init__ : PySem.W.codeIn K cd_Plan___init__ "Plan.__init__" = true)
    (k_Plan___init__ : PySem.W.keepIn K (.ref a_Plan___init__) = true)
    {a_Disk___init__ : Addr}
    {od_Disk___init__ an_Disk___init__ : Option Addr} {sl_Disk___init__ : Array (Option Value)} {oc_Disk___init__ kV_Disk___init__ dc_Disk___init__ pm_Disk___init__ cd_Disk___init__ ct_Disk___init__ : Value}
    (l_Disk___init__ : K.lookup a_Disk___init__ = some ⟨oc_Disk___init__, od_Disk___init__, .func (PySem.W.fnOf "__init__" "Disk.__init__" (defArgs s_Disk___init__) (defBody s_Disk___init__) (defScope s_Disk___init__) .none kV_Disk___init__ dc_Disk___init__ pm_Disk___init__ an_Disk___init__ cd_Disk___init__ ct_Disk___init__), sl_Disk___init__⟩)
    (c_Disk___init__ : PySem.W.codeIn K cd_Disk___init__ "Disk.__init__" = true)
    (k_Disk___init__ : PySem.W.keepIn K (.ref a_Disk___init__) = true)
    {a_Disk_issue : Addr}
    {od_Disk_issue an_Disk_issue : Option Addr} {sl_Disk_issue : Array (Option Value)} {oc_Disk_issue kV_Disk_issue dc_Disk_issue pm_Disk_issue cd_Disk_issue ct_Disk_issue : Value}
    (l_Disk_issue : K.lookup a_Disk_issue = some ⟨oc_Disk_issue, od_Disk_issue, .func (PySem.W.fnOf "issue" "Disk.issue" (defArgs s_Disk_issue) (defBody s_Disk_issue) (defScope s_Disk_issue) .none kV_Disk_issue dc_Disk_issue pm_Disk_issue an_Disk_issue cd_Disk_issue ct_Disk_issue), sl_Disk_issue⟩)
    (c_Disk_issue : PySem.W.codeIn K cd_Disk_issue "Disk.issue" = true)
    (k_Disk_issue : PySem.W.keepIn K (.ref a_Disk_issue) = true)
    {a_Disk_busy : Addr}
    {od_Disk_busy an_Disk_busy : Option Addr} {sl_Disk_busy : Array (Option Value)} {oc_Disk_busy kV_Disk_busy dc_Disk_busy pm_Disk_busy cd_Disk_busy ct_Disk_busy : Value}
    (l_Disk_busy : K.lookup a_Disk_busy = some ⟨oc_Disk_busy, od_Disk_busy, .func (PySem.W.fnOf "busy" "Disk.busy" (defArgs s_Disk_busy) (defBody s_Disk_busy) (defScope s_Disk_busy) .none kV_Disk_busy dc_Disk_busy pm_Disk_busy an_Disk_busy cd_Disk_busy ct_Disk_busy), sl_Disk_busy⟩)
    (c_Disk_busy : PySem.W.codeIn K cd_Disk_busy "Disk.busy" = true)
    (k_Disk_busy : PySem.W.keepIn K (.ref a_Disk_busy) = true)
    {ac_Disk_busy : Addr}
    (cc1_Disk_busy : cd_Disk_busy = .ref ac_Disk_busy)
    (ch1_Disk_busy : PySem.W.codeHdIn K ac_Disk_busy (He.tabOf K ac_Disk_busy) = true)
    (cn1_Disk_busy : K.lookup (He.tabOf K ac_Disk_busy) = none)
    {a_Disk_sure : Addr}
    {od_Disk_sure an_Disk_sure : Option Addr} {sl_Disk_sure : Array (Option Value)} {oc_Disk_sure kV_Disk_sure dc_Disk_sure pm_Disk_sure cd_Disk_sure ct_Disk_sure : Value}
    (l_Disk_sure : K.lookup a_Disk_sure = some ⟨oc_Disk_sure, od_Disk_sure, .func (PySem.W.fnOf "sure" "Disk.sure" (defArgs s_Disk_sure) (defBody s_Disk_sure) (defScope s_Disk_sure) .none kV_Disk_sure dc_Disk_sure pm_Disk_sure an_Disk_sure cd_Disk_sure ct_Disk_sure), sl_Disk_sure⟩)
    (c_Disk_sure : PySem.W.codeIn K cd_Disk_sure "Disk.sure" = true)
    (k_Disk_sure : PySem.W.keepIn K (.ref a_Disk_sure) = true)
    {a_Disk_barrier : Addr}
    {od_Disk_barrier an_Disk_barrier : Option Addr} {sl_Disk_barrier : Array (Option Value)} {oc_Disk_barrier kV_Disk_barrier dc_Disk_barrier pm_Disk_barrier cd_Disk_barrier ct_Disk_barrier : Value}
    (l_Disk_barrier : K.lookup a_Disk_barrier = some ⟨oc_Disk_barrier, od_Disk_barrier, .func (PySem.W.fnOf "barrier" "Disk.barrier" (defArgs s_Disk_barrier) (defBody s_Disk_barrier) (defScope s_Disk_barrier) .none kV_Disk_barrier dc_Disk_barrier pm_Disk_barrier an_Disk_barrier cd_Disk_barrier ct_Disk_barrier), sl_Disk_barrier⟩)
    (c_Disk_barrier : PySem.W.codeIn K cd_Disk_barrier "Disk.barrier" = true)
    (k_Disk_barrier : PySem.W.keepIn K (.ref a_Disk_barrier) = true)
    {a_Disk_move_head : Addr}
    {od_Disk_move_head an_Disk_move_head : Option Addr} {sl_Disk_move_head : Array (Option Value)} {oc_Disk_move_head kV_Disk_move_head dc_Disk_move_head pm_Disk_move_head cd_Disk_move_head ct_Disk_move_head : Value}
    (l_Disk_move_head : K.lookup a_Disk_move_head = some ⟨oc_Disk_move_head, od_Disk_move_head, .func (PySem.W.fnOf "move_head" "Disk.move_head" (defArgs s_Disk_move_head) (defBody s_Disk_move_head) (defScope s_Disk_move_head) .none kV_Disk_move_head dc_Disk_move_head pm_Disk_move_head an_Disk_move_head cd_Disk_move_head ct_Disk_move_head), sl_Disk_move_head⟩)
    (c_Disk_move_head : PySem.W.codeIn K cd_Disk_move_head "Disk.move_head" = true)
    (k_Disk_move_head : PySem.W.keepIn K (.ref a_Disk_move_head) = true)
    {a_Disk__put : Addr}
    {od_Disk__put an_Disk__put : Option Addr} {sl_Disk__put : Array (Option Value)} {oc_Disk__put kV_Disk__put dc_Disk__put pm_Disk__put cd_Disk__put ct_Disk__put : Value}
    (l_Disk__put : K.lookup a_Disk__put = some ⟨oc_Disk__put, od_Disk__put, .func (PySem.W.fnOf "_put" "Disk._put" (defArgs s_Disk__put) (defBody s_Disk__put) (defScope s_Disk__put) .none kV_Disk__put dc_Disk__put pm_Disk__put an_Disk__put cd_Disk__put ct_Disk__put), sl_Disk__put⟩)
    (c_Disk__put : PySem.W.codeIn K cd_Disk__put "Disk._put" = true)
    (k_Disk__put : PySem.W.keepIn K (.ref a_Disk__put) = true)
    {aC_Plan : Addr}
    (g_Plan : PySem.W.nsIn K mainGlobals "Plan" = some (some (.ref aC_Plan)))
    (pg_Plan : PySem.W.plainGet K aC_Plan Str.empty = true)
    (hd_Plan : PySem.W.hasDictIn K aC_Plan = true)
    (po_Plan : PySem.W.plainOver K aC_Plan = true)
    (sa_Plan : PySem.W.findIn K (.ref aC_Plan) "__setattr__" = some (some (.builtin "object.__setattr__")))
    (n_Plan_blocks : PySem.W.findIn K (.ref aC_Plan) "blocks" = some none)
    (n_Plan_nodes : PySem.W.findIn K (.ref aC_Plan) "nodes" = some none)
    (n_Plan_slots : PySem.W.findIn K (.ref aC_Plan) "slots" = some none)
    (n_Plan_maps : PySem.W.findIn K (.ref aC_Plan) "maps" = some none)
    (n_Plan_first_node : PySem.W.findIn K (.ref aC_Plan) "first_node" = some none)
    (n_Plan_first_data : PySem.W.findIn K (.ref aC_Plan) "first_data" = some none)
    (mk1_Plan : PySem.W.makesIn K aC_Plan = true)
    (mk2_Plan : PySem.W.findIn K (.ref aC_Plan) "__init__" = some (some (.ref a_Plan___init__)))
    (mk3_Plan : PySem.W.isFn K (.ref a_Plan___init__) = true)
    (mk4_Plan : PySem.W.keepIn K (.ref aC_Plan) = true)
    {mcv_Plan : Value}
    (tp_Plan : PySem.W.typeIn K (.ref aC_Plan) = some mcv_Plan)
    (rd_Plan : PySem.W.readsIn K aC_Plan mcv_Plan = true)
    (ga_Plan : PySem.W.specialIn K (.ref aC_Plan) "__getattribute__" = some (some (.builtin "type.__getattribute__")))
    {tv_Plan_WIDTH : Tok}
    (v_Plan_WIDTH : PySem.W.findCls K (.ref aC_Plan) mcv_Plan "WIDTH" = some (.val (.int 8 tv_Plan_WIDTH)))
    {tc_Plan_WIDTH : Tok}
    (o_Plan_WIDTH : PySem.W.findIn K (.ref aC_Plan) "WIDTH" = some (some (.int 8 tc_Plan_WIDTH)))
    (og_Plan_WIDTH : PySem.W.specialIn K (.int 8 tc_Plan_WIDTH) "__get__" = some none)
    {aC_Disk : Addr}
    (g_Disk : PySem.W.nsIn K mainGlobals "Disk" = some (some (.ref aC_Disk)))
    (pg_Disk : PySem.W.plainGet K aC_Disk Str.empty = true)
    (hd_Disk : PySem.W.hasDictIn K aC_Disk = true)
    (po_Disk : PySem.W.plainOver K aC_Disk = true)
    (sa_Disk : PySem.W.findIn K (.ref aC_Disk) "__setattr__" = some (some (.builtin "object.__setattr__")))
    (n_Disk_plan : PySem.W.findIn K (.ref aC_Disk) "plan" = some none)
    (n_Disk_home : PySem.W.findIn K (.ref aC_Disk) "home" = some none)
    (n_Disk_log : PySem.W.findIn K (.ref aC_Disk) "log" = some none)
    (n_Disk_head : PySem.W.findIn K (.ref aC_Disk) "head" = some none)
    (n_Disk_last : PySem.W.findIn K (.ref aC_Disk) "last" = some none)
    (n_Disk__pending : PySem.W.findIn K (.ref aC_Disk) "_pending" = some none)
    (mk1_Disk : PySem.W.makesIn K aC_Disk = true)
    (mk2_Disk : PySem.W.findIn K (.ref aC_Disk) "__init__" = some (some (.ref a_Disk___init__)))
    (mk3_Disk : PySem.W.isFn K (.ref a_Disk___init__) = true)
    (mk4_Disk : PySem.W.keepIn K (.ref aC_Disk) = true)
    (m1_Disk_issue : PySem.W.findIn K (.ref aC_Disk) "issue" = some (some (.ref a_Disk_issue)))
    (m2_Disk_issue : PySem.W.isFn K (.ref a_Disk_issue) = true)
    (m1_Disk_busy : PySem.W.findIn K (.ref aC_Disk) "busy" = some (some (.ref a_Disk_busy)))
    (m2_Disk_busy : PySem.W.isFn K (.ref a_Disk_busy) = true)
    (m1_Disk_sure : PySem.W.findIn K (.ref aC_Disk) "sure" = some (some (.ref a_Disk_sure)))
    (m2_Disk_sure : PySem.W.isFn K (.ref a_Disk_sure) = true)
    (m1_Disk_barrier : PySem.W.findIn K (.ref aC_Disk) "barrier" = some (some (.ref a_Disk_barrier)))
    (m2_Disk_barrier : PySem.W.isFn K (.ref a_Disk_barrier) = true)
    (m1_Disk_move_head : PySem.W.findIn K (.ref aC_Disk) "move_head" = some (some (.ref a_Disk_move_head)))
    (m2_Disk_move_head : PySem.W.isFn K (.ref a_Disk_move_head) = true)
    (m1_Disk__put : PySem.W.findIn K (.ref aC_Disk) "_put" = some (some (.ref a_Disk__put)))
    (m2_Disk__put : PySem.W.isFn K (.ref a_Disk__put) = true)
    {t_LEAST_BLOCKS : Tok}
    (gc_LEAST_BLOCKS : PySem.W.nsIn K mainGlobals "LEAST_BLOCKS" = some (some (.int 8 t_LEAST_BLOCKS)))
    {t_MOST_BLOCKS : Tok}
    (gc_MOST_BLOCKS : PySem.W.nsIn K mainGlobals "MOST_BLOCKS" = some (some (.int 64 t_MOST_BLOCKS)))
    {t_LEAST_NODES : Tok}
    (gc_LEAST_NODES : PySem.W.nsIn K mainGlobals "LEAST_NODES" = some (some (.int 2 t_LEAST_NODES)))
    {t_MOST_NODES : Tok}
    (gc_MOST_NODES : PySem.W.nsIn K mainGlobals "MOST_NODES" = some (some (.int 16 t_MOST_NODES)))
    {t_MOST_SLOTS : Tok}
    (gc_MOST_SLOTS : PySem.W.nsIn K mainGlobals "MOST_SLOTS" = some (some (.int 200 t_MOST_SLOTS)))
    {t_LEAST_DATA : Tok}
    (gc_LEAST_DATA : PySem.W.nsIn K mainGlobals "LEAST_DATA" = some (some (.int 2 t_LEAST_DATA)))
    {t_FIRST_MAP : Tok}
    (gc_FIRST_MAP : PySem.W.nsIn K mainGlobals "FIRST_MAP" = some (some (.int 2 t_FIRST_MAP)))
    {t_CELL_MOST : Tok}
    (gc_CELL_MOST : PySem.W.nsIn K mainGlobals "CELL_MOST" = some (some (.int 999999999 t_CELL_MOST)))
    {t_BLOCK_MOST : Tok}
    (gc_BLOCK_MOST : PySem.W.nsIn K mainGlobals "BLOCK_MOST" = some (some (.int 63 t_BLOCK_MOST)))
    {t_MOST_LOT : Tok}
    (gc_MOST_LOT : PySem.W.nsIn K mainGlobals "MOST_LOT" = some (some (.int 999999 t_MOST_LOT)))
    {t_MOST_SLOT : Tok}
    (gc_MOST_SLOT : PySem.W.nsIn K mainGlobals "MOST_SLOT" = some (some (.int 199 t_MOST_SLOT)))
    {t_MOST_HEAD : Tok}
    (gc_MOST_HEAD : PySem.W.nsIn K mainGlobals "MOST_HEAD" = some (some (.int 999999 t_MOST_HEAD)))
    {t_NO_SLOT : Tok}
    (gc_NO_SLOT : PySem.W.nsIn K mainGlobals "NO_SLOT" = some (some (.int (-1) t_NO_SLOT)))
    (nb_abs : PySem.W.nsIn K mainGlobals "abs" = some none)
    (nb_all : PySem.W.nsIn K mainGlobals "all" = some none)
    (nb_any : PySem.W.nsIn K mainGlobals "any" = some none)
    (nb_bool : PySem.W.nsIn K mainGlobals "bool" = some none)
    (nb_enumerate : PySem.W.nsIn K mainGlobals "enumerate" = some none)
    (nb_int : PySem.W.nsIn K mainGlobals "int" = some none)
    (nb_isinstance : PySem.W.nsIn K mainGlobals "isinstance" = some none)
    (nb_len : PySem.W.nsIn K mainGlobals "len" = some none)
    (nb_list : PySem.W.nsIn K mainGlobals "list" = some none)
    (nb_max : PySem.W.nsIn K mainGlobals "max" = some none)
    (nb_range : PySem.W.nsIn K mainGlobals "range" = some none)
    (nb_sorted : PySem.W.nsIn K mainGlobals "sorted" = some none)
    (nb_str : PySem.W.nsIn K mainGlobals "str" = some none)
    (nb_tuple : PySem.W.nsIn K mainGlobals "tuple" = some none)
    (nb_zip : PySem.W.nsIn K mainGlobals "zip" = some none)
    : Nonempty (Tx K mg) := ⟨{
      f_is_number := a_is_number,
      fd_is_number := PySem.W.fnOf "is_number" "is_number" (defArgs s_is_number) (defBody s_is_number) (defScope s_is_number) .none kV_is_number dc_is_number pm_is_number an_is_number cd_is_number ct_is_number,
      F_is_number := fun_mk (st := s_is_number) l_is_number c_is_number k_is_number,
      mg_is_number := PySem.W.mg_of X G g_is_number,
      f_is_cell := a_is_cell,
      fd_is_cell := PySem.W.fnOf "is_cell" "is_cell" (defArgs s_is_cell) (defBody s_is_cell) (defScope s_is_cell) .none kV_is_cell dc_is_cell pm_is_cell an_is_cell cd_is_cell ct_is_cell,
      F_is_cell := fun_mk (st := s_is_cell) l_is_cell c_is_cell k_is_cell,
      mg_is_cell := PySem.W.mg_of X G g_is_cell,
      f_is_block := a_is_block,
      fd_is_block := PySem.W.fnOf "is_block" "is_block" (defArgs s_is_block) (defBody s_is_block) (defScope s_is_block) .none kV_is_block dc_is_block pm_is_block an_is_block cd_is_block ct_is_block,
      F_is_block := fun_mk (st := s_is_block) l_is_block c_is_block k_is_block,
      mg_is_block := PySem.W.mg_of X G g_is_block,
      f_is_cell_row := a_is_cell_row,
      fd_is_cell_row := PySem.W.fnOf "is_cell_row" "is_cell_row" (defArgs s_is_cell_row) (defBody s_is_cell_row) (defScope s_is_cell_row) .none kV_is_cell_row dc_is_cell_row pm_is_cell_row an_is_cell_row cd_is_cell_row ct_is_cell_row,
      F_is_cell_row := fun_mk (st := s_is_cell_row) l_is_cell_row c_is_cell_row k_is_cell_row,
      mg_is_cell_row := PySem.W.mg_of X G g_is_cell_row,
      cc_is_cell_row := ac_is_cell_row,
      P_is_cell_row := He.tabOf K ac_is_cell_row,
      code_is_cell_row := cc1_is_cell_row,
      ch_is_cell_row := ch1_is_cell_row,
      cn_is_cell_row := cn1_is_cell_row,
      f_is_ascending := a_is_ascending,
      fd_is_ascending := PySem.W.fnOf "is_ascending" "is_ascending" (defArgs s_is_ascending) (defBody s_is_ascending) (defScope s_is_ascending) .none kV_is_ascending dc_is_ascending pm_is_ascending an_is_ascending cd_is_ascending ct_is_ascending,
      F_is_ascending := fun_mk (st := s_is_ascending) l_is_ascending c_is_ascending k_is_ascending,
      mg_is_ascending := PySem.W.mg_of X G g_is_ascending,
      cc_is_ascending := ac_is_ascending,
      P_is_ascending := He.tabOf K ac_is_ascending,
      code_is_ascending := cc1_is_ascending,
      ch_is_ascending := ch1_is_ascending,
      cn_is_ascending := cn1_is_ascending,
      f_is_pair := a_is_pair,
      fd_is_pair := PySem.W.fnOf "_is_pair" "_is_pair" (defArgs s_is_pair) (defBody s_is_pair) (defScope s_is_pair) .none kV_is_pair dc_is_pair pm_is_pair an_is_pair cd_is_pair ct_is_pair,
      F_is_pair := fun_mk (st := s_is_pair) l_is_pair c_is_pair k_is_pair,
      mg_is_pair := PySem.W.mg_of X G g_is_pair,
      f_are_pairs := a_are_pairs,
      fd_are_pairs := PySem.W.fnOf "_are_pairs" "_are_pairs" (defArgs s_are_pairs) (defBody s_are_pairs) (defScope s_are_pairs) .none kV_are_pairs dc_are_pairs pm_are_pairs an_are_pairs cd_are_pairs ct_are_pairs,
      F_are_pairs := fun_mk (st := s_are_pairs) l_are_pairs c_are_pairs k_are_pairs,
      mg_are_pairs := PySem.W.mg_of X G g_are_pairs,
      cc_are_pairs := ac_are_pairs,
      P_are_pairs := He.tabOf K ac_are_pairs,
      code_are_pairs := cc1_are_pairs,
      ch_are_pairs := ch1_are_pairs,
      cn_are_pairs := cn1_are_pairs,
      f_are_revokes := a_are_revokes,
      fd_are_revokes := PySem.W.fnOf "_are_revokes" "_are_revokes" (defArgs s_are_revokes) (defBody s_are_revokes) (defScope s_are_revokes) .none kV_are_revokes dc_are_revokes pm_are_revokes an_are_revokes cd_are_revokes ct_are_revokes,
      F_are_revokes := fun_mk (st := s_are_revokes) l_are_revokes c_are_revokes k_are_revokes,
      mg_are_revokes := PySem.W.mg_of X G g_are_revokes,
      cc_are_revokes := ac_are_revokes,
      P_are_revokes := He.tabOf K ac_are_revokes,
      code_are_revokes := cc1_are_revokes,
      ch_are_revokes := ch1_are_revokes,
      cn_are_revokes := cn1_are_revokes,
      f_is_record := a_is_record,
      fd_is_record := PySem.W.fnOf "is_record" "is_record" (defArgs s_is_record) (defBody s_is_record) (defScope s_is_record) .none kV_is_record dc_is_record pm_is_record an_is_record cd_is_record ct_is_record,
      F_is_record := fun_mk (st := s_is_record) l_is_record c_is_record k_is_record,
      mg_is_record := PySem.W.mg_of X G g_is_record,
      f_fits_plan := a_fits_plan,
      fd_fits_plan := PySem.W.fnOf "fits_plan" "fits_plan" (defArgs s_fits_plan) (defBody s_fits_plan) (defScope s_fits_plan) .none kV_fits_plan dc_fits_plan pm_fits_plan an_fits_plan cd_fits_plan ct_fits_plan,
      F_fits_plan := fun_mk (st := s_fits_plan) l_fits_plan c_fits_plan k_fits_plan,
      mg_fits_plan := PySem.W.mg_of X G g_fits_plan,
      cc_fits_plan := ac_fits_plan,
      P_fits_plan := He.tabOf K ac_fits_plan,
      code_fits_plan := cc1_fits_plan,
      ch_fits_plan := ch1_fits_plan,
      cn_fits_plan := cn1_fits_plan,
      f_found_marks := a_found_marks,
      fd_found_marks := PySem.W.fnOf "found_marks" "found_marks" (defArgs s_found_marks) (defBody s_found_marks) (defScope s_found_marks) .none kV_found_marks dc_found_marks pm_found_marks an_found_marks cd_found_marks ct_found_marks,
      F_found_marks := fun_mk (st := s_found_marks) l_found_marks c_found_marks k_found_marks,
      mg_found_marks := PySem.W.mg_of X G g_found_marks,
      f_live_copies := a_live_copies,
      fd_live_copies := PySem.W.fnOf "live_copies" "live_copies" (defArgs s_live_copies) (defBody s_live_copies) (defScope s_live_copies) .none kV_live_copies dc_live_copies pm_live_copies an_live_copies cd_live_copies ct_live_copies,
      F_live_copies := fun_mk (st := s_live_copies) l_live_copies c_live_copies k_live_copies,
      mg_live_copies := PySem.W.mg_of X G g_live_copies,
      f_cells_found := a_cells_found,
      fd_cells_found := PySem.W.fnOf "cells_found" "cells_found" (defArgs s_cells_found) (defBody s_cells_found) (defScope s_cells_found) .none kV_cells_found dc_cells_found pm_cells_found an_cells_found cd_cells_found ct_cells_found,
      F_cells_found := fun_mk (st := s_cells_found) l_cells_found c_cells_found k_cells_found,
      mg_cells_found := PySem.W.mg_of X G g_cells_found,
      f_cells_after := a_cells_after,
      fd_cells_after := PySem.W.fnOf "cells_after" "cells_after" (defArgs s_cells_after) (defBody s_cells_after) (defScope s_cells_after) .none kV_cells_after dc_cells_after pm_cells_after an_cells_after cd_cells_after ct_cells_after,
      F_cells_after := fun_mk (st := s_cells_after) l_cells_after c_cells_after k_cells_after,
      mg_cells_after := PySem.W.mg_of X G g_cells_after,
      f_slots_read := a_slots_read,
      fd_slots_read := PySem.W.fnOf "slots_read" "slots_read" (defArgs s_slots_read) (defBody s_slots_read) (defScope s_slots_read) .none kV_slots_read dc_slots_read pm_slots_read an_slots_read cd_slots_read ct_slots_read,
      F_slots_read := fun_mk (st := s_slots_read) l_slots_read c_slots_read k_slots_read,
      mg_slots_read := PySem.W.mg_of X G g_slots_read,
      f_is_place := a_is_place,
      fd_is_place := PySem.W.fnOf "_is_place" "_is_place" (defArgs s_is_place) (defBody s_is_place) (defScope s_is_place) .none kV_is_place dc_is_place pm_is_place an_is_place cd_is_place ct_is_place,
      F_is_place := fun_mk (st := s_is_place) l_is_place c_is_place k_is_place,
      mg_is_place := PySem.W.mg_of X G g_is_place,
      f_is_content := a_is_content,
      fd_is_content := PySem.W.fnOf "_is_content" "_is_content" (defArgs s_is_content) (defBody s_is_content) (defScope s_is_content) .none kV_is_content dc_is_content pm_is_content an_is_content cd_is_content ct_is_content,
      F_is_content := fun_mk (st := s_is_content) l_is_content c_is_content k_is_content,
      mg_is_content := PySem.W.mg_of X G g_is_content,
      f_Lfeed := a_Lfeed,
      fd_Lfeed := PySem.W.fnOf "_law_feed" "_law_feed" (defArgs s_Lfeed) (defBody s_Lfeed) (defScope s_Lfeed) .none kV_Lfeed dc_Lfeed pm_Lfeed an_Lfeed cd_Lfeed ct_Lfeed,
      F_Lfeed := fun_mk (st := s_Lfeed) l_Lfeed c_Lfeed k_Lfeed,
      mg_Lfeed := PySem.W.mg_of X G g_Lfeed,
      f_Lpick := a_Lpick,
      fd_Lpick := PySem.W.fnOf "_law_pick" "_law_pick" (defArgs s_Lpick) (defBody s_Lpick) (defScope s_Lpick) .none kV_Lpick dc_Lpick pm_Lpick an_Lpick cd_Lpick ct_Lpick,
      F_Lpick := fun_mk (st := s_Lpick) l_Lpick c_Lpick k_Lpick,
      mg_Lpick := PySem.W.mg_of X G g_Lpick,
      f_Lsame := a_Lsame,
      fd_Lsame := PySem.W.fnOf "_law_same" "_law_same" (defArgs s_Lsame) (defBody s_Lsame) (defScope s_Lsame) .none kV_Lsame dc_Lsame pm_Lsame an_Lsame cd_Lsame ct_Lsame,
      F_Lsame := fun_mk (st := s_Lsame) l_Lsame c_Lsame k_Lsame,
      mg_Lsame := PySem.W.mg_of X G g_Lsame,
      f_Lslot := a_Lslot,
      fd_Lslot := PySem.W.fnOf "_law_slot" "_law_slot" (defArgs s_Lslot) (defBody s_Lslot) (defScope s_Lslot) .none kV_Lslot dc_Lslot pm_Lslot an_Lslot cd_Lslot ct_Lslot,
      F_Lslot := fun_mk (st := s_Lslot) l_Lslot c_Lslot k_Lslot,
      mg_Lslot := PySem.W.mg_of X G g_Lslot,
      f_Lmark := a_Lmark,
      fd_Lmark := PySem.W.fnOf "_law_mark" "_law_mark" (defArgs s_Lmark) (defBody s_Lmark) (defScope s_Lmark) .none kV_Lmark dc_Lmark pm_Lmark an_Lmark cd_Lmark ct_Lmark,
      F_Lmark := fun_mk (st := s_Lmark) l_Lmark c_Lmark k_Lmark,
      mg_Lmark := PySem.W.mg_of X G g_Lmark,
      f_Lput := a_Lput,
      fd_Lput := PySem.W.fnOf "_law_put" "_law_put" (defArgs s_Lput) (defBody s_Lput) (defScope s_Lput) .none kV_Lput dc_Lput pm_Lput an_Lput cd_Lput ct_Lput,
      F_Lput := fun_mk (st := s_Lput) l_Lput c_Lput k_Lput,
      mg_Lput := PySem.W.mg_of X G g_Lput,
      f_Lcopies := a_Lcopies,
      fd_Lcopies := PySem.W.fnOf "_law_copies" "_law_copies" (defArgs s_Lcopies) (defBody s_Lcopies) (defScope s_Lcopies) .none kV_Lcopies dc_Lcopies pm_Lcopies an_Lcopies cd_Lcopies ct_Lcopies,
      F_Lcopies := fun_mk (st := s_Lcopies) l_Lcopies c_Lcopies k_Lcopies,
      mg_Lcopies := PySem.W.mg_of X G g_Lcopies,
      f_Ldisk := a_Ldisk,
      fd_Ldisk := PySem.W.fnOf "_law_disk" "_law_disk" (defArgs s_Ldisk) (defBody s_Ldisk) (defScope s_Ldisk) .none kV_Ldisk dc_Ldisk pm_Ldisk an_Ldisk cd_Ldisk ct_Ldisk,
      F_Ldisk := fun_mk (st := s_Ldisk) l_Ldisk c_Ldisk k_Ldisk,
      mg_Ldisk := PySem.W.mg_of X G g_Ldisk,
      f_Lmarks := a_Lmarks,
      fd_Lmarks := PySem.W.fnOf "_law_marks" "_law_marks" (defArgs s_Lmarks) (defBody s_Lmarks) (defScope s_Lmarks) .none kV_Lmarks dc_Lmarks pm_Lmarks an_Lmarks cd_Lmarks ct_Lmarks,
      F_Lmarks := fun_mk (st := s_Lmarks) l_Lmarks c_Lmarks k_Lmarks,
      mg_Lmarks := PySem.W.mg_of X G g_Lmarks,
      f_Llive := a_Llive,
      fd_Llive := PySem.W.fnOf "_law_live" "_law_live" (defArgs s_Llive) (defBody s_Llive) (defScope s_Llive) .none kV_Llive dc_Llive pm_Llive an_Llive cd_Llive ct_Llive,
      F_Llive := fun_mk (st := s_Llive) l_Llive c_Llive k_Llive,
      mg_Llive := PySem.W.mg_of X G g_Llive,
      f_Lslots := a_Lslots,
      fd_Lslots := PySem.W.fnOf "_law_slots" "_law_slots" (defArgs s_Lslots) (defBody s_Lslots) (defScope s_Lslots) .none kV_Lslots dc_Lslots pm_Lslots an_Lslots cd_Lslots ct_Lslots,
      F_Lslots := fun_mk (st := s_Lslots) l_Lslots c_Lslots k_Lslots,
      mg_Lslots := PySem.W.mg_of X G g_Lslots,
      f_Lcells := a_Lcells,
      fd_Lcells := PySem.W.fnOf "_law_cells" "_law_cells" (defArgs s_Lcells) (defBody s_Lcells) (defScope s_Lcells) .none kV_Lcells dc_Lcells pm_Lcells an_Lcells cd_Lcells ct_Lcells,
      F_Lcells := fun_mk (st := s_Lcells) l_Lcells c_Lcells k_Lcells,
      mg_Lcells := PySem.W.mg_of X G g_Lcells,
      f_Lall_cells := a_Lall_cells,
      fd_Lall_cells := PySem.W.fnOf "_law_all_cells" "_law_all_cells" (defArgs s_Lall_cells) (defBody s_Lall_cells) (defScope s_Lall_cells) .none kV_Lall_cells dc_Lall_cells pm_Lall_cells an_Lall_cells cd_Lall_cells ct_Lall_cells,
      F_Lall_cells := fun_mk (st := s_Lall_cells) l_Lall_cells c_Lall_cells k_Lall_cells,
      mg_Lall_cells := PySem.W.mg_of X G g_Lall_cells,
      f_Lother_slots := a_Lother_slots,
      fd_Lother_slots := PySem.W.fnOf "_law_other_slots" "_law_other_slots" (defArgs s_Lother_slots) (defBody s_Lother_slots) (defScope s_Lother_slots) .none kV_Lother_slots dc_Lother_slots pm_Lother_slots an_Lother_slots cd_Lother_slots ct_Lother_slots,
      F_Lother_slots := fun_mk (st := s_Lother_slots) l_Lother_slots c_Lother_slots k_Lother_slots,
      mg_Lother_slots := PySem.W.mg_of X G g_Lother_slots,
      f_Ltold_slots := a_Ltold_slots,
      fd_Ltold_slots := PySem.W.fnOf "_law_told_slots" "_law_told_slots" (defArgs s_Ltold_slots) (defBody s_Ltold_slots) (defScope s_Ltold_slots) .none kV_Ltold_slots dc_Ltold_slots pm_Ltold_slots an_Ltold_slots cd_Ltold_slots ct_Ltold_slots,
      F_Ltold_slots := fun_mk (st := s_Ltold_slots) l_Ltold_slots c_Ltold_slots k_Ltold_slots,
      mg_Ltold_slots := PySem.W.mg_of X G g_Ltold_slots,
      f_law := a_law,
      fd_law := PySem.W.fnOf "law" "law" (defArgs s_law) (defBody s_law) (defScope s_law) .none kV_law dc_law pm_law an_law cd_law ct_law,
      F_law := fun_mk (st := s_law) l_law c_law k_law,
      mg_law := PySem.W.mg_of X G g_law,
      f_Plan___init__ := a_Plan___init__,
      fd_Plan___init__ := PySem.W.fnOf "__init__" "Plan.__init__" (defArgs s_Plan___init__) (defBody s_Plan___init__) (defScope s_Plan___init__) .none kV_Plan___init__ dc_Plan___init__ pm_Plan___init__ an_Plan___init__ cd_Plan___init__ ct_Plan___init__,
      F_Plan___init__ := fun_mk (st := s_Plan___init__) l_Plan___init__ c_Plan___init__ k_Plan___init__,
      f_Disk___init__ := a_Disk___init__,
      fd_Disk___init__ := PySem.W.fnOf "__init__" "Disk.__init__" (defArgs s_Disk___init__) (defBody s_Disk___init__) (defScope s_Disk___init__) .none kV_Disk___init__ dc_Disk___init__ pm_Disk___init__ an_Disk___init__ cd_Disk___init__ ct_Disk___init__,
      F_Disk___init__ := fun_mk (st := s_Disk___init__) l_Disk___init__ c_Disk___init__ k_Disk___init__,
      f_Disk_issue := a_Disk_issue,
      fd_Disk_issue := PySem.W.fnOf "issue" "Disk.issue" (defArgs s_Disk_issue) (defBody s_Disk_issue) (defScope s_Disk_issue) .none kV_Disk_issue dc_Disk_issue pm_Disk_issue an_Disk_issue cd_Disk_issue ct_Disk_issue,
      F_Disk_issue := fun_mk (st := s_Disk_issue) l_Disk_issue c_Disk_issue k_Disk_issue,
      f_Disk_busy := a_Disk_busy,
      fd_Disk_busy := PySem.W.fnOf "busy" "Disk.busy" (defArgs s_Disk_busy) (defBody s_Disk_busy) (defScope s_Disk_busy) .none kV_Disk_busy dc_Disk_busy pm_Disk_busy an_Disk_busy cd_Disk_busy ct_Disk_busy,
      F_Disk_busy := fun_mk (st := s_Disk_busy) l_Disk_busy c_Disk_busy k_Disk_busy,
      cc_Disk_busy := ac_Disk_busy,
      P_Disk_busy := He.tabOf K ac_Disk_busy,
      code_Disk_busy := cc1_Disk_busy,
      ch_Disk_busy := ch1_Disk_busy,
      cn_Disk_busy := cn1_Disk_busy,
      f_Disk_sure := a_Disk_sure,
      fd_Disk_sure := PySem.W.fnOf "sure" "Disk.sure" (defArgs s_Disk_sure) (defBody s_Disk_sure) (defScope s_Disk_sure) .none kV_Disk_sure dc_Disk_sure pm_Disk_sure an_Disk_sure cd_Disk_sure ct_Disk_sure,
      F_Disk_sure := fun_mk (st := s_Disk_sure) l_Disk_sure c_Disk_sure k_Disk_sure,
      f_Disk_barrier := a_Disk_barrier,
      fd_Disk_barrier := PySem.W.fnOf "barrier" "Disk.barrier" (defArgs s_Disk_barrier) (defBody s_Disk_barrier) (defScope s_Disk_barrier) .none kV_Disk_barrier dc_Disk_barrier pm_Disk_barrier an_Disk_barrier cd_Disk_barrier ct_Disk_barrier,
      F_Disk_barrier := fun_mk (st := s_Disk_barrier) l_Disk_barrier c_Disk_barrier k_Disk_barrier,
      f_Disk_move_head := a_Disk_move_head,
      fd_Disk_move_head := PySem.W.fnOf "move_head" "Disk.move_head" (defArgs s_Disk_move_head) (defBody s_Disk_move_head) (defScope s_Disk_move_head) .none kV_Disk_move_head dc_Disk_move_head pm_Disk_move_head an_Disk_move_head cd_Disk_move_head ct_Disk_move_head,
      F_Disk_move_head := fun_mk (st := s_Disk_move_head) l_Disk_move_head c_Disk_move_head k_Disk_move_head,
      f_Disk__put := a_Disk__put,
      fd_Disk__put := PySem.W.fnOf "_put" "Disk._put" (defArgs s_Disk__put) (defBody s_Disk__put) (defScope s_Disk__put) .none kV_Disk__put dc_Disk__put pm_Disk__put an_Disk__put cd_Disk__put ct_Disk__put,
      F_Disk__put := fun_mk (st := s_Disk__put) l_Disk__put c_Disk__put k_Disk__put,
      C_Plan := aC_Plan,
      mg_Plan := PySem.W.mg_of X G g_Plan,
      cl_Plan := ⟨pg_Plan, hd_Plan, po_Plan, sa_Plan⟩,
      na_Plan_blocks := n_Plan_blocks,
      na_Plan_nodes := n_Plan_nodes,
      na_Plan_slots := n_Plan_slots,
      na_Plan_maps := n_Plan_maps,
      na_Plan_first_node := n_Plan_first_node,
      na_Plan_first_data := n_Plan_first_data,
      mk_Plan := ⟨mk1_Plan, mk2_Plan, mk3_Plan, mk4_Plan⟩,
      mc_Plan := mcv_Plan,
      cr_Plan := ⟨rd_Plan, ga_Plan⟩,
      cv_Plan_WIDTH := ⟨_, v_Plan_WIDTH, ⟨_, rfl⟩⟩,
      con_Plan_WIDTH := ⟨_, o_Plan_WIDTH, ⟨_, rfl⟩, og_Plan_WIDTH, by decide +kernel⟩,
      C_Disk := aC_Disk,
      mg_Disk := PySem.W.mg_of X G g_Disk,
      cl_Disk := ⟨pg_Disk, hd_Disk, po_Disk, sa_Disk⟩,
      na_Disk_plan := n_Disk_plan,
      na_Disk_home := n_Disk_home,
      na_Disk_log := n_Disk_log,
      na_Disk_head := n_Disk_head,
      na_Disk_last := n_Disk_last,
      na_Disk__pending := n_Disk__pending,
      mk_Disk := ⟨mk1_Disk, mk2_Disk, mk3_Disk, mk4_Disk⟩,
      m_Disk_issue := ⟨m1_Disk_issue, m2_Disk_issue, k_Disk_issue⟩,
      m_Disk_busy := ⟨m1_Disk_busy, m2_Disk_busy, k_Disk_busy⟩,
      m_Disk_sure := ⟨m1_Disk_sure, m2_Disk_sure, k_Disk_sure⟩,
      m_Disk_barrier := ⟨m1_Disk_barrier, m2_Disk_barrier, k_Disk_barrier⟩,
      m_Disk_move_head := ⟨m1_Disk_move_head, m2_Disk_move_head, k_Disk_move_head⟩,
      m_Disk__put := ⟨m1_Disk__put, m2_Disk__put, k_Disk__put⟩,
      c_LEAST_BLOCKS := ⟨_, PySem.W.mg_of X G gc_LEAST_BLOCKS⟩,
      c_MOST_BLOCKS := ⟨_, PySem.W.mg_of X G gc_MOST_BLOCKS⟩,
      c_LEAST_NODES := ⟨_, PySem.W.mg_of X G gc_LEAST_NODES⟩,
      c_MOST_NODES := ⟨_, PySem.W.mg_of X G gc_MOST_NODES⟩,
      c_MOST_SLOTS := ⟨_, PySem.W.mg_of X G gc_MOST_SLOTS⟩,
      c_LEAST_DATA := ⟨_, PySem.W.mg_of X G gc_LEAST_DATA⟩,
      c_FIRST_MAP := ⟨_, PySem.W.mg_of X G gc_FIRST_MAP⟩,
      c_CELL_MOST := ⟨_, PySem.W.mg_of X G gc_CELL_MOST⟩,
      c_BLOCK_MOST := ⟨_, PySem.W.mg_of X G gc_BLOCK_MOST⟩,
      c_MOST_LOT := ⟨_, PySem.W.mg_of X G gc_MOST_LOT⟩,
      c_MOST_SLOT := ⟨_, PySem.W.mg_of X G gc_MOST_SLOT⟩,
      c_MOST_HEAD := ⟨_, PySem.W.mg_of X G gc_MOST_HEAD⟩,
      c_NO_SLOT := ⟨_, PySem.W.mg_of X G gc_NO_SLOT⟩,
      b_abs := PySem.W.mg_none_of X G nb_abs,
      b_all := PySem.W.mg_none_of X G nb_all,
      b_any := PySem.W.mg_none_of X G nb_any,
      b_bool := PySem.W.mg_none_of X G nb_bool,
      b_enumerate := PySem.W.mg_none_of X G nb_enumerate,
      b_int := PySem.W.mg_none_of X G nb_int,
      b_isinstance := PySem.W.mg_none_of X G nb_isinstance,
      b_len := PySem.W.mg_none_of X G nb_len,
      b_list := PySem.W.mg_none_of X G nb_list,
      b_max := PySem.W.mg_none_of X G nb_max,
      b_range := PySem.W.mg_none_of X G nb_range,
      b_sorted := PySem.W.mg_none_of X G nb_sorted,
      b_str := PySem.W.mg_none_of X G nb_str,
      b_tuple := PySem.W.mg_none_of X G nb_tuple,
      b_zip := PySem.W.mg_none_of X G nb_zip
    }⟩
end K47
open PySem PySem.W PyProof.Rows
set_option maxRecDepth 100000 in
set_option maxHeartbeats 0 in
theorem PySem.Challenge.cw_lotsandties_k47_slots_that_are_read_holds : PySem.Challenge.rw_lotsandties_k47_slots_that_are_read.Holds := by
  w_on; o_law; o_head (PySem.W.kmHook K47pre.heap_39 [2, 3, 15, 17, 18, 20, 21, 22, 29, 30, 31, 32, 35, 42, 43, 44, 47, 54, 55, 56, 59, 66, 67, 68, 71, 78, 79, 80, 83, 90, 91, 92, 95, 97, 98, 100, 101, 102, 104, 105, 107, 108, 109, 111, 112, 114, 115, 123, 125, 126, 128, 129, 130, 133, 134, 135, 136, 137, 138, 140, 141, 143, 144, 145, 147, 148, 150, 151, 152, 154, 155, 157, 158, 159, 161, 162, 164, 165, 166, 167, 168, 169, 170, 173, 175, 176, 178, 179, 180, 182, 183, 185, 186, 187, 189, 190, 192, 193, 194, 196, 197, 199, 200, 201, 203, 204, 206, 207, 208, 210, 211, 213, 214, 215, 218, 219, 220, 222, 223, 225, 226, 227, 229, 230, 232, 233, 234, 236, 237, 239, 240, 241, 243, 244, 246, 247, 248, 250, 251, 253, 254, 255, 257, 258, 260, 261, 262, 264, 265, 267, 268, 269, 272, 273, 274, 276, 277, 279, 280, 281, 283, 284, 286, 287, 295, 298, 299, 300, 302, 303, 305, 306, 307, 308, 309, 310, 312, 313, 315, 316, 317, 318, 320, 321, 323, 324, 325, 327, 328, 330, 331, 332, 335, 336, 337, 339, 340, 342, 343, 344, 346, 347, 349, 350, 351, 353, 354, 356, 357, 358, 359, 360, 362, 363, 365, 366, 367, 369, 370, 372, 373, 374, 376, 377, 379, 380, 381, 383, 384, 386, 387, 388, 389, 390, 391, 392, 395, 397, 398, 400, 401, 402, 404, 405, 407, 408, 409, 411, 412, 414, 415, 416, 418, 419, 421, 422, 423, 426, 427, 428, 430, 431, 433, 434, 435, 437, 438, 440, 441, 442, 445, 446, 447, 449, 450, 452, 453, 454, 456, 457, 459, 460, 461, 464, 465, 466, 468, 469, 471, 472, 473, 476, 477, 478, 481, 482, 483, 486, 487, 488, 491, 492] (fun _ => by kernel_rfl) [16, 96, 103, 110, 124, 131, 139, 146, 153, 160, 174, 181, 188, 195, 202, 209, 216, 221, 228, 235, 242, 249, 256, 263, 270, 275, 282, 296, 301, 311, 319, 326, 333, 338, 345, 352, 361, 368, 375, 382, 396, 403, 410, 417, 424, 429, 436, 443, 448, 455, 462, 467, 474, 479, 484, 489]); (case hw => w_witness2)
  k_fill
  refine LamX.walk_ofTs (l := PySem.Challenge.rw_lotsandties_k47_slots_that_are_read) (n := 63) (k := 14) (x := "_law_script") (CX := fun _ => L2.CX0) rfl (by decide) rfl ⟨rfl, by decide, by decide⟩ (fun w h Y => PySem.W.km_in_of Y) ?F (fun _ _ _ _ _ h => h)
  case F =>
    intro w mg fa h Y KX G hmg
    refine K47.fin_G (ts := [16, 96, 103, 110, 124, 131, 139, 146, 153, 160, 174, 181, 188, 195, 202, 209, 216, 221, 228, 235, 242, 249, 256, 263, 270, 275, 282, 296, 301, 311, 319, 326, 333, 338, 345, 352, 361, 368, 375, 382, 396, 403, 410, 417, 424, 429, 436, 443, 448, 455, 462, 467, 474, 479, 484, 489]) ?_ hmg KX (PySem.W.km_tabs_of Y) (K47.tabs_all (by kernel_rfl))
    refine' K47.all_mk (w := w) KX G ?l_is_number ?c_is_number ?k_is_number ?g_is_number ?l_is_cell ?c_is_cell ?k_is_cell ?g_is_cell ?l_is_block ?c_is_block ?k_is_block ?g_is_block ?l_is_cell_row ?c_is_cell_row ?k_is_cell_row ?g_is_cell_row ?cc1_is_cell_row ?ch1_is_cell_row ?cn1_is_cell_row ?l_is_ascending ?c_is_ascending ?k_is_ascending ?g_is_ascending ?cc1_is_ascending ?ch1_is_ascending ?cn1_is_ascending ?l_is_pair ?c_is_pair ?k_is_pair ?g_is_pair ?l_are_pairs ?c_are_pairs ?k_are_pairs ?g_are_pairs ?cc1_are_pairs ?ch1_are_pairs ?cn1_are_pairs ?l_are_revokes ?c_are_revokes ?k_are_revokes ?g_are_revokes ?cc1_are_revokes ?ch1_are_revokes ?cn1_are_revokes ?l_is_record ?c_is_record ?k_is_record ?g_is_record ?l_fits_plan ?c_fits_plan ?k_fits_plan ?g_fits_plan ?cc1_fits_plan ?ch1_fits_plan ?cn1_fits_plan ?l_found_marks ?c_found_marks ?k_found_marks ?g_found_marks ?l_live_copies ?c_live_copies ?k_live_copies ?g_live_copies ?l_cells_found ?c_cells_found ?k_cells_found ?g_cells_found ?l_cells_after ?c_cells_after ?k_cells_after ?g_cells_after ?l_slots_read ?c_slots_read ?k_slots_read ?g_slots_read ?l_is_place ?c_is_place ?k_is_place ?g_is_place ?l_is_content ?c_is_content ?k_is_content ?g_is_content ?l_Lfeed ?c_Lfeed ?k_Lfeed ?g_Lfeed ?l_Lpick ?c_Lpick ?k_Lpick ?g_Lpick ?l_Lsame ?c_Lsame ?k_Lsame ?g_Lsame ?l_Lslot ?c_Lslot ?k_Lslot ?g_Lslot ?l_Lmark ?c_Lmark ?k_Lmark ?g_Lmark ?l_Lput ?c_Lput ?k_Lput ?g_Lput ?l_Lcopies ?c_Lcopies ?k_Lcopies ?g_Lcopies ?l_Ldisk ?c_Ldisk ?k_Ldisk ?g_Ldisk ?l_Lmarks ?c_Lmarks ?k_Lmarks ?g_Lmarks ?l_Llive ?c_Llive ?k_Llive ?g_Llive ?l_Lslots ?c_Lslots ?k_Lslots ?g_Lslots ?l_Lcells ?c_Lcells ?k_Lcells ?g_Lcells ?l_Lall_cells ?c_Lall_cells ?k_Lall_cells ?g_Lall_cells ?l_Lother_slots ?c_Lother_slots ?k_Lother_slots ?g_Lother_slots ?l_Ltold_slots ?c_Ltold_slots ?k_Ltold_slots ?g_Ltold_slots ?l_law ?c_law ?k_law ?g_law ?l_Plan___init__ ?c_Plan___init__ ?k_Plan___init__ ?l_Disk___init__ ?c_Disk___init__ ?k_Disk___init__ ?l_Disk_issue ?c_Disk_issue ?k_Disk_issue ?l_Disk_busy ?c_Disk_busy ?k_Disk_busy ?cc1_Disk_busy ?ch1_Disk_busy ?cn1_Disk_busy ?l_Disk_sure ?c_Disk_sure ?k_Disk_sure ?l_Disk_barrier ?c_Disk_barrier ?k_Disk_barrier ?l_Disk_move_head ?c_Disk_move_head ?k_Disk_move_head ?l_Disk__put ?c_Disk__put ?k_Disk__put ?g_Plan ?pg_Plan ?hd_Plan ?po_Plan ?sa_Plan ?n_Plan_blocks ?n_Plan_nodes ?n_Plan_slots ?n_Plan_maps ?n_Plan_first_node ?n_Plan_first_data ?mk1_Plan ?mk2_Plan ?mk3_Plan ?mk4_Plan ?tp_Plan ?rd_Plan ?ga_Plan ?v_Plan_WIDTH ?o_Plan_WIDTH ?og_Plan_WIDTH ?g_Disk ?pg_Disk ?hd_Disk ?po_Disk ?sa_Disk ?n_Disk_plan ?n_Disk_home ?n_Disk_log ?n_Disk_head ?n_Disk_last ?n_Disk__pending ?mk1_Disk ?mk2_Disk ?mk3_Disk ?mk4_Disk ?m1_Disk_issue ?m2_Disk_issue ?m1_Disk_busy ?m2_Disk_busy ?m1_Disk_sure ?m2_Disk_sure ?m1_Disk_barrier ?m2_Disk_barrier ?m1_Disk_move_head ?m2_Disk_move_head ?m1_Disk__put ?m2_Disk__put ?gc_LEAST_BLOCKS ?gc_MOST_BLOCKS ?gc_LEAST_NODES ?gc_MOST_NODES ?gc_MOST_SLOTS ?gc_LEAST_DATA ?gc_FIRST_MAP ?gc_CELL_MOST ?gc_BLOCK_MOST ?gc_MOST_LOT ?gc_MOST_SLOT ?gc_MOST_HEAD ?gc_NO_SLOT ?nb_abs ?nb_all ?nb_any ?nb_bool ?nb_enumerate ?nb_int ?nb_isinstance ?nb_len ?nb_list ?nb_max ?nb_range ?nb_sorted ?nb_str ?nb_tuple ?nb_zip
    (case g_is_number => k_is)
    (case g_is_cell => k_is)
    (case g_is_block => k_is)
    (case g_is_cell_row => k_is)
    (case g_is_ascending => k_is)
    (case g_is_pair => k_is)
    (case g_are_pairs => k_is)
    (case g_are_revokes => k_is)
    (case g_is_record => k_is)
    (case g_fits_plan => k_is)
    (case g_found_marks => k_is)
    (case g_live_copies => k_is)
    (case g_cells_found => k_is)
    (case g_cells_after => k_is)
    (case g_slots_read => k_is)
    (case g_is_place => k_is)
    (case g_is_content => k_is)
    (case g_Lfeed => k_is)
    (case g_Lpick => k_is)
    (case g_Lsame => k_is)
    (case g_Lslot => k_is)
    (case g_Lmark => k_is)
    (case g_Lput => k_is)
    (case g_Lcopies => k_is)
    (case g_Ldisk => k_is)
    (case g_Lmarks => k_is)
    (case g_Llive => k_is)
    (case g_Lslots => k_is)
    (case g_Lcells => k_is)
    (case g_Lall_cells => k_is)
    (case g_Lother_slots => k_is)
    (case g_Ltold_slots => k_is)
    (case g_law => k_is)
    (case g_Plan => k_is)
    (case g_Disk => k_is)
    (case tp_Plan => k_is)
    (case mk2_Plan => k_is)
    (case mk2_Disk => k_is)
    (case m1_Disk_issue => k_is)
    (case m1_Disk_busy => k_is)
    (case m1_Disk_sure => k_is)
    (case m1_Disk_barrier => k_is)
    (case m1_Disk_move_head => k_is)
    (case m1_Disk__put => k_is)
    (case l_is_number => k_is)
    (case c_is_number => k_is)
    (case k_is_number => k_is)
    (case l_is_cell => k_is)
    (case c_is_cell => k_is)
    (case k_is_cell => k_is)
    (case l_is_block => k_is)
    (case c_is_block => k_is)
    (case k_is_block => k_is)
    (case l_is_cell_row => k_is)
    (case c_is_cell_row => k_is)
    (case k_is_cell_row => k_is)
    (case l_is_ascending => k_is)
    (case c_is_ascending => k_is)
    (case k_is_ascending => k_is)
    (case l_is_pair => k_is)
    (case c_is_pair => k_is)
    (case k_is_pair => k_is)
    (case l_are_pairs => k_is)
    (case c_are_pairs => k_is)
    (case k_are_pairs => k_is)
    (case l_are_revokes => k_is)
    (case c_are_revokes => k_is)
    (case k_are_revokes => k_is)
    (case l_is_record => k_is)
    (case c_is_record => k_is)
    (case k_is_record => k_is)
    (case l_fits_plan => k_is)
    (case c_fits_plan => k_is)
    (case k_fits_plan => k_is)
    (case l_found_marks => k_is)
    (case c_found_marks => k_is)
    (case k_found_marks => k_is)
    (case l_live_copies => k_is)
    (case c_live_copies => k_is)
    (case k_live_copies => k_is)
    (case l_cells_found => k_is)
    (case c_cells_found => k_is)
    (case k_cells_found => k_is)
    (case l_cells_after => k_is)
    (case c_cells_after => k_is)
    (case k_cells_after => k_is)
    (case l_slots_read => k_is)
    (case c_slots_read => k_is)
    (case k_slots_read => k_is)
    (case l_is_place => k_is)
    (case c_is_place => k_is)
    (case k_is_place => k_is)
    (case l_is_content => k_is)
    (case c_is_content => k_is)
    (case k_is_content => k_is)
    (case l_Lfeed => k_is)
    (case c_Lfeed => k_is)
    (case k_Lfeed => k_is)
    (case l_Lpick => k_is)
    (case c_Lpick => k_is)
    (case k_Lpick => k_is)
    (case l_Lsame => k_is)
    (case c_Lsame => k_is)
    (case k_Lsame => k_is)
    (case l_Lslot => k_is)
    (case c_Lslot => k_is)
    (case k_Lslot => k_is)
    (case l_Lmark => k_is)
    (case c_Lmark => k_is)
    (case k_Lmark => k_is)
    (case l_Lput => k_is)
    (case c_Lput => k_is)
    (case k_Lput => k_is)
    (case l_Lcopies => k_is)
    (case c_Lcopies => k_is)
    (case k_Lcopies => k_is)
    (case l_Ldisk => k_is)
    (case c_Ldisk => k_is)
    (case k_Ldisk => k_is)
    (case l_Lmarks => k_is)
    (case c_Lmarks => k_is)
    (case k_Lmarks => k_is)
    (case l_Llive => k_is)
    (case c_Llive => k_is)
    (case k_Llive => k_is)
    (case l_Lslots => k_is)
    (case c_Lslots => k_is)
    (case k_Lslots => k_is)
    (case l_Lcells => k_is)
    (case c_Lcells => k_is)
    (case k_Lcells => k_is)
    (case l_Lall_cells => k_is)
    (case c_Lall_cells => k_is)
    (case k_Lall_cells => k_is)
    (case l_Lother_slots => k_is)
    (case c_Lother_slots => k_is)
    (case k_Lother_slots => k_is)
    (case l_Ltold_slots => k_is)
    (case c_Ltold_slots => k_is)
    (case k_Ltold_slots => k_is)
    (case l_law => k_is)
    (case c_law => k_is)
    (case k_law => k_is)
    (case l_Plan___init__ => k_is)
    (case c_Plan___init__ => k_is)
    (case k_Plan___init__ => k_is)
    (case l_Disk___init__ => k_is)
    (case c_Disk___init__ => k_is)
    (case k_Disk___init__ => k_is)
    (case l_Disk_issue => k_is)
    (case c_Disk_issue => k_is)
    (case k_Disk_issue => k_is)
    (case l_Disk_busy => k_is)
    (case c_Disk_busy => k_is)
    (case k_Disk_busy => k_is)
    (case l_Disk_sure => k_is)
    (case c_Disk_sure => k_is)
    (case k_Disk_sure => k_is)
    (case l_Disk_barrier => k_is)
    (case c_Disk_barrier => k_is)
    (case k_Disk_barrier => k_is)
    (case l_Disk_move_head => k_is)
    (case c_Disk_move_head => k_is)
    (case k_Disk_move_head => k_is)
    (case l_Disk__put => k_is)
    (case c_Disk__put => k_is)
    (case k_Disk__put => k_is)
    (case pg_Plan => k_is)
    (case hd_Plan => k_is)
    (case po_Plan => k_is)
    (case sa_Plan => k_is)
    (case n_Plan_blocks => k_is)
    (case n_Plan_nodes => k_is)
    (case n_Plan_slots => k_is)
    (case n_Plan_maps => k_is)
    (case n_Plan_first_node => k_is)
    (case n_Plan_first_data => k_is)
    (case mk1_Plan => k_is)
    (case mk3_Plan => k_is)
    (case mk4_Plan => k_is)
    (case rd_Plan => k_is)
    (case ga_Plan => k_is)
    (case v_Plan_WIDTH => k_is)
    (case o_Plan_WIDTH => k_is)
    (case og_Plan_WIDTH => k_is)
    (case pg_Disk => k_is)
    (case hd_Disk => k_is)
    (case po_Disk => k_is)
    (case sa_Disk => k_is)
    (case n_Disk_plan => k_is)
    (case n_Disk_home => k_is)
    (case n_Disk_log => k_is)
    (case n_Disk_head => k_is)
    (case n_Disk_last => k_is)
    (case n_Disk__pending => k_is)
    (case mk1_Disk => k_is)
    (case mk3_Disk => k_is)
    (case mk4_Disk => k_is)
    (case m2_Disk_issue => k_is)
    (case m2_Disk_busy => k_is)
    (case m2_Disk_sure => k_is)
    (case m2_Disk_barrier => k_is)
    (case m2_Disk_move_head => k_is)
    (case m2_Disk__put => k_is)
    (case gc_LEAST_BLOCKS => k_is)
    (case gc_MOST_BLOCKS => k_is)
    (case gc_LEAST_NODES => k_is)
    (case gc_MOST_NODES => k_is)
    (case gc_MOST_SLOTS => k_is)
    (case gc_LEAST_DATA => k_is)
    (case gc_FIRST_MAP => k_is)
    (case gc_CELL_MOST => k_is)
    (case gc_BLOCK_MOST => k_is)
    (case gc_MOST_LOT => k_is)
    (case gc_MOST_SLOT => k_is)
    (case gc_MOST_HEAD => k_is)
    (case gc_NO_SLOT => k_is)
    (case nb_abs => k_is)
    (case nb_all => k_is)
    (case nb_any => k_is)
    (case nb_bool => k_is)
    (case nb_enumerate => k_is)
    (case nb_int => k_is)
    (case nb_isinstance => k_is)
    (case nb_len => k_is)
    (case nb_list => k_is)
    (case nb_max => k_is)
    (case nb_range => k_is)
    (case nb_sorted => k_is)
    (case nb_str => k_is)
    (case nb_tuple => k_is)
    (case nb_zip => k_is)
    (case cc1_is_cell_row => first | rfl | k_is | kernel_rfl)
    (case cc1_is_ascending => first | rfl | k_is | kernel_rfl)
    (case cc1_are_pairs => first | rfl | k_is | kernel_rfl)
    (case cc1_are_revokes => first | rfl | k_is | kernel_rfl)
    (case cc1_fits_plan => first | rfl | k_is | kernel_rfl)
    (case cc1_Disk_busy => first | rfl | k_is | kernel_rfl)
    (case ch1_is_cell_row => first | rfl | k_is | kernel_rfl)
    (case ch1_is_ascending => first | rfl | k_is | kernel_rfl)
    (case ch1_are_pairs => first | rfl | k_is | kernel_rfl)
    (case ch1_are_revokes => first | rfl | k_is | kernel_rfl)
    (case ch1_fits_plan => first | rfl | k_is | kernel_rfl)
    (case ch1_Disk_busy => first | rfl | k_is | kernel_rfl)
    (case cn1_is_cell_row => first | rfl | k_is | kernel_rfl)
    (case cn1_is_ascending => first | rfl | k_is | kernel_rfl)
    (case cn1_are_pairs => first | rfl | k_is | kernel_rfl)
    (case cn1_are_revokes => first | rfl | k_is | kernel_rfl)
    (case cn1_fits_plan => first | rfl | k_is | kernel_rfl)
    (case cn1_Disk_busy => first | rfl | k_is | kernel_rfl)
